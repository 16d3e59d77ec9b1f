import PyProof.Rows.All
import Wide.All
import OpenK.AllK
import Wide.FinOn
import Lean
import PyProof.EqAt
import PyProof.EqKinds
import PyProof.TupleCall
import KE.KIntText
import PyProof.StrBlockH
import PyProof.StrLawsTight
import PyProof.StrLawsReplace
import PyProof.StrLawsJoin
import PyProof.StrLawsNeg
import KE.LcSums
import KE.KSortAsk
import PyProof.DictCompW
import KE.KItemsList
import KE.KRevIter
import PySem.Challenge.RW_swapstars_k20_all_least_rows
set_option Elab.async false
set_option linter.all false
set_option maxRecDepth 100000
set_option maxHeartbeats 8000000
namespace L2
open PySem PySem.Spec PyProof.Rows
abbrev Key := Sum Int Str
def keyIs : Key → Value → Bool
  | .inl k, v => Value.isInt k v
  | .inr x, v => Value.isStrOf x v
def keyH (w : World) : Key → Int
  | .inl k => hashInt k
  | .inr x => hashStr w x
theorem keyIs_shape : ∀ {k : Key} {v : Value}, keyIs k v = true → (∃ i t, k = Sum.inl i ∧ v = Value.int i t) ∨ (∃ x t, k = Sum.inr x ∧ v = Value.str x t)
  | .inl i, v, h => by
    obtain ⟨t, e⟩ := Value.isInt_shape (k := i) (v := v) h
    exact .inl ⟨i, t, rfl, e⟩
  | .inr x, v, h => by
    obtain ⟨t, e⟩ := Value.isStrOf_shape (x := x) (v := v) h
    exact .inr ⟨x, t, rfl, e⟩
theorem keyIs_int (i : Int) (t : Tok) : keyIs (.inl i) (.int i t) = true := by simp [keyIs, Value.isInt]
theorem keyIs_str (x : Str) (t : Tok) : keyIs (.inr x) (.str x t) = true := by simp [keyIs, Value.isStrOf]
theorem key_ll (a b : Int) : decide ((Sum.inl a : Key) = Sum.inl b) = (a == b) := by
  by_cases e : a = b
  · subst e; simp
  · have h : ¬ (Sum.inl a : Key) = Sum.inl b := fun q => e (Sum.inl.inj q)
    rw [decide_eq_false h]
    exact (beq_eq_false_iff_ne.mpr e).symm
theorem key_rr (a b : Str) : decide ((Sum.inr a : Key) = Sum.inr b) = decide (a = b) := by
  by_cases e : a = b
  · subst e; simp
  · have h : ¬ (Sum.inr a : Key) = Sum.inr b := fun q => e (Sum.inr.inj q)
    rw [decide_eq_false h, decide_eq_false e]
theorem key_lr (a : Int) (b : Str) : decide ((Sum.inl a : Key) = Sum.inr b) = false := decide_eq_false (fun q => nomatch q)
theorem key_rl (a : Str) (b : Int) : decide ((Sum.inr a : Key) = Sum.inl b) = false := decide_eq_false (fun q => nomatch q)
def mixKind (prog : Program) (w : World) : PySem.KeyKind prog w Key where
  is := keyIs
  hash := keyH w
  inj := fun v a b ha hb => by
    rcases keyIs_shape ha with ⟨i, t, rfl, rfl⟩ | ⟨x, t, rfl, rfl⟩
    · rcases keyIs_shape hb with ⟨j, u, rfl, e⟩ | ⟨y, u, rfl, e⟩
      · injection e with e1 _; rw [e1]
      · exact nomatch e
    · rcases keyIs_shape hb with ⟨j, u, rfl, e⟩ | ⟨y, u, rfl, e⟩
      · exact nomatch e
      · injection e with e1 _; rw [e1]
  byValue := fun k v h => by
    rcases keyIs_shape h with ⟨i, t, rfl, rfl⟩ | ⟨x, t, rfl, rfl⟩ <;> rfl
  pyHash := fun hv h => by
    rcases keyIs_shape hv with ⟨i, t, rfl, rfl⟩ | ⟨x, t, rfl, rfl⟩
    · exact wpAny_pyHash_int h
    · exact wpAny_pyHash_str h
  eqBool := fun hu hv h => by
    rcases keyIs_shape hu with ⟨i, t, rfl, rfl⟩ | ⟨x, t, rfl, rfl⟩
    · rcases keyIs_shape hv with ⟨j, u, rfl, rfl⟩ | ⟨y, u, rfl, rfl⟩
      · rw [key_ll] at h; exact wpAny_eqBool_int h
      · rw [key_lr] at h; exact SeqAt.EqAt.int_str i t y u _ _ _ _ h
    · rcases keyIs_shape hv with ⟨j, u, rfl, rfl⟩ | ⟨y, u, rfl, rfl⟩
      · rw [key_rl] at h; exact SeqAt.EqAt.str_int x t j u _ _ _ _ h
      · rw [key_rr] at h; exact wpAny_eqBool_str h
  «strs» := fun k x t v h => by
    rcases keyIs_shape h with ⟨i, u, rfl, e⟩ | ⟨y, u, rfl, e⟩
    · exact nomatch e
    · injection e with e1 _
      subst e1
      cases v <;> rfl
theorem mixKind_int (prog : Program) (w : World) (i : Int) (t : Tok) : (mixKind prog w).is (.inl i) (.int i t) = true := keyIs_int i t
theorem mixKind_str (prog : Program) (w : World) (x : Str) (t : Tok) : (mixKind prog w).is (.inr x) (.str x t) = true := keyIs_str x t
end L2
namespace L2
open PySem PySem.Spec PyProof.Rows
inductive V where
  | non | bl (b : Bool) | int (i : Int) | str (x : Str) | byt (b : Array UInt8) | flt (b : UInt64) | ref (a : Addr) | ty (n : String)
  deriving DecidableEq
def RelV : V → Value → Prop
  | .non, u => u = Value.none
  | .bl b, u => u = Value.bool b
  | .int i, u => ∃ t, u = Value.int i t
  | .str x, u => ∃ t, u = Value.str x t
  | .byt b, u => ∃ t, u = Value.bytes b t
  | .flt b, u => ∃ t, u = Value.float b t
  | .ref a, u => u = Value.ref a
  | .ty n, u => u = Value.type n
abbrev Vals : List V → List Value → Prop := Paired RelV
theorem Vals.length {xs : List V} {us : List Value} (r : Vals xs us) : xs.length = us.length := Paired.length r
theorem Vals.get : ∀ {xs : List V} {us : List Value} {i : Nat} {x : V}, Vals xs us → xs[i]? = some x → ∃ u, us[i]? = some u ∧ RelV x u
  | _, _, _, _, .nil, e => by simp at e
  | _, _, 0, _, .cons r _, e => by simp at e; subst e; exact ⟨_, rfl, r⟩
  | _, _, i + 1, x, .cons _ t, e => by
    obtain ⟨u, h1, h2⟩ := Vals.get (i := i) (x := x) t (by simpa using e)
    exact ⟨u, by simpa using h1, h2⟩
theorem Vals.set {x : V} {u : Value} (r : RelV x u) : ∀ {xs : List V} {us : List Value} (i : Nat), Vals xs us → Vals (xs.set i x) (us.set i u)
  | _, _, _, .nil => .nil
  | _, _, 0, .cons _ t => .cons r t
  | _, _, i + 1, .cons q t => .cons q (Vals.set r i t)
theorem Vals.append : ∀ {xs ys : List V} {us ws : List Value}, Vals xs us → Vals ys ws → Vals (xs ++ ys) (us ++ ws)
  | _, _, _, _, .nil, s => s
  | _, _, _, _, .cons r t, s => .cons r (Vals.append t s)
theorem Vals.take : ∀ {xs : List V} {us : List Value} (n : Nat), Vals xs us → Vals (xs.take n) (us.take n)
  | _, _, 0, _ => .nil
  | _, _, _ + 1, .nil => .nil
  | _, _, n + 1, .cons r t => .cons r (Vals.take n t)
theorem Vals.drop : ∀ {xs : List V} {us : List Value} (n : Nat), Vals xs us → Vals (xs.drop n) (us.drop n)
  | _, _, 0, r => r
  | _, _, _ + 1, .nil => .nil
  | _, _, n + 1, .cons _ t => Vals.drop n t
def RelO : Option V → Option Value → Prop
  | some v, some u => RelV v u
  | none, none => True
  | _, _ => False
def KV {κ : Type} : List (κ × V) → List (κ × Value) → Prop := Paired fun (p : κ × V) (q : κ × Value) => p.1 = q.1 ∧ RelV p.2 q.2
def kV : Key → V
  | .inl i => .int i
  | .inr x => .str x
inductive HO where
  | lst (xs : List V)
  | tup (xs : List V)
  | dK (kvs : List (Key × V)) | dT (kvs : List (List Key × V))
  | set (S : Int → Bool) (n : Nat)
  | ins (C dx : Addr) (fs : List (Str × V))
  | own (x : Addr)
  | xd (fs : List (Str × V))
  | met (f x : Addr)
  | rng (lo hi : Int)
  | frz (o : Obj) (u : HO)
  | tbl (ps : Array Value)
  | ext (φ : Heap → Prop)
abbrev Hp := Addr → Option HO
def upd (H : Hp) (a : Addr) (o : HO) : Hp := fun b => if b = a then some o else H b
theorem upd_same {H : Hp} {a : Addr} {o : HO} : upd H a o a = some o := by unfold upd; rw [if_pos rfl]
theorem upd_ne {H : Hp} {a b : Addr} {o : HO} (h : b ≠ a) : upd H a o b = H b := by unfold upd; rw [if_neg h]
theorem upd_upd {H : Hp} {a : Addr} {o u : HO} : upd (upd H a o) a u = upd H a u := by
  funext b; unfold upd; split <;> rfl
theorem ne_of {H : Hp} {a b : Addr} {o u : HO} (h : H a = some o) (h' : H b = some u) (d : o ≠ u) : a ≠ b := by
  intro e; subst e; rw [h] at h'; exact d (Option.some.inj h')
theorem ne_of_none {H : Hp} {a b : Addr} {o : HO} (h : H a = some o) (h' : H b = none) : a ≠ b := by
  intro e; subst e; rw [h] at h'; cases h'
section
variable (P : Program) (w : World)
def ObjOk (H : Hp) (h : Heap) (a : Addr) : HO → Prop
  | .lst xs => xs.length ≤ sizeLine ∧ ∃ (its : List Value) (n : Nat), Vals xs its ∧ h.get? a = some { cls := .type "list", data := .seq its.toArray n }
  | .tup xs => xs.length ≤ sizeLine ∧ ∃ its : List Value, Vals xs its ∧ IsTup h a its.toArray
  | .dK kvs => kvs.length ≤ sizeLine ∧ (a == sysModules) = false ∧ ∃ vs, KV kvs vs ∧ h.DictOf (mixKind P w) a vs
  | .dT kvs => kvs.length ≤ sizeLine ∧ (a == sysModules) = false ∧ ∃ xs : List (List Key × Addr × Value),
      Paired (fun (p : List Key × V) (q : List Key × Addr × Value) => p.1 = q.1 ∧ H q.2.1 = some (.tup (p.1.map kV)) ∧ RelV p.2 q.2.2) kvs xs ∧
      ∃ o es ep, h.get? a = some o ∧ o.ExactDict ∧ o.data = .dict es ep ∧ es.toList = xs.map (entryOfKey (tupleKind (mixKind P w))) ∧ (xs.map (·.1)).Nodup
  | .set S n => h.SetOf (intKind P w) a S n
  | .ins C dx fs => H dx = some (.own a) ∧ fs.length ≤ 1000 ∧ dx ≠ a ∧ h.get? a = some (PySem.W.instObj C dx) ∧
      ∃ mA, h.Ns1 dx mA ∧ (∀ f, RelO (fs.lookup f) (mA f)) ∧ PySem.Within mA (fs.map (·.1))
  | .own _ => ∃ o, h.get? a = some o
  | .xd fs => ∃ mA, h.Ns1 a mA ∧ ∀ f, RelO (fs.lookup f) (mA f)
  | .rng lo hi => ∃ t u v, h.get? a = some { cls := .type "range", data := .fields #[.int lo t, .int hi u, .int 1 v] }
  | .frz o u => h.get? a = some o ∧ ObjOk H h a u
  | .tbl ps => h.get? a = some { cls := .none, data := .fields ps }
  | .met f x => h.get? a = some (PySem.W.methodObj (.ref f) (.ref x))
  | .ext φ => φ h ∧ (∃ o, h.get? a = some o) ∧ ∀ h1 h2 : Heap, φ h1 → (∀ o, h1.get? a = some o → h2.get? a = some o) → φ h2
def HOk (H : Hp) (h : Heap) : Prop := ∀ a o, H a = some o → ObjOk P w H h a o
end
section
variable {P : Program} {w : World} {H H' : Hp} {h h' : Heap} {a : Addr} {o : HO}
theorem ObjOk.lt (x : ObjOk P w H h a o) : a < h.objs.size := by
  cases o with
  | lst xs => obtain ⟨_, _, _, _, e⟩ := x; exact Heap.lt_size e
  | tup xs => obtain ⟨_, _, _, p⟩ := x; exact p.lt
  | dK kvs => obtain ⟨_, _, _, _, o, _, _, e, _⟩ := x; exact Heap.lt_size e
  | dT kvs => obtain ⟨_, _, _, _, o, _, _, e, _⟩ := x; exact Heap.lt_size e
  | set S n => obtain ⟨o, _, _, _, e, _⟩ := x; exact Heap.lt_size e
  | ins C dx fs => obtain ⟨_, _, _, e, _⟩ := x; exact Heap.lt_size e
  | own y => obtain ⟨_, e⟩ := x; exact Heap.lt_size e
  | xd fs => obtain ⟨_, ⟨_, _, _, e, _⟩, _⟩ := x; exact Heap.lt_size e
  | rng lo hi => obtain ⟨_, _, _, e⟩ := x; exact Heap.lt_size e
  | frz ob u => obtain ⟨e, _⟩ := x; exact Heap.lt_size e
  | tbl ps => exact Heap.lt_size (show h.get? a = some _ from x)
  | met f y => exact Heap.lt_size (show h.get? a = some _ from x)
  | ext φ => obtain ⟨_, ⟨_, e⟩, _⟩ := x; exact Heap.lt_size e
theorem Paired.mapP {α β : Type} {F G : α → β → Prop} : ∀ {l₁ : List α} {l₂ : List β}, Paired F l₁ l₂ → (∀ a b, F a b → G a b) → Paired G l₁ l₂
  | _, _, .nil, _ => .nil
  | _, _, .cons r t, f => .cons (f _ _ r) (Paired.mapP t f)
theorem ObjOk.stay (x : ObjOk P w H h a o) (k : ∀ b u, (b = a ∨ H b = some (.own a)) → h.get? b = some u → h'.get? b = some u)
    (ho : ∀ b, H b = some (.own a) → H' b = some (.own a)) (ht : ∀ b xs, H b = some (.tup xs) → H' b = some (.tup xs)) : ObjOk P w H' h' a o := by
  induction o with
  | lst xs => obtain ⟨z, its, n, r, e⟩ := x; exact ⟨z, its, n, r, k _ _ (.inl rfl) e⟩
  | tup xs => obtain ⟨z, its, r, ob, e, c⟩ := x; exact ⟨z, its, r, ob, k _ _ (.inl rfl) e, c⟩
  | dK kvs => obtain ⟨z, y, vs, r, ob, es, ep, e, c⟩ := x; exact ⟨z, y, vs, r, ob, es, ep, k _ _ (.inl rfl) e, c⟩
  | dT kvs =>
    obtain ⟨z, y, xs, r, ob, es, ep, e, c⟩ := x
    exact ⟨z, y, xs, Paired.mapP r fun p q z => ⟨z.1, ht _ _ z.2.1, z.2.2⟩, ob, es, ep, k _ _ (.inl rfl) e, c⟩
  | set S n => obtain ⟨ob, es, ep, t, e, c⟩ := x; exact ⟨ob, es, ep, t, k _ _ (.inl rfl) e, c⟩
  | ins C dx fs =>
    obtain ⟨d, z, ne, e, mA, ⟨od, es, ep, e2, c⟩, r⟩ := x
    exact ⟨ho _ d, z, ne, k _ _ (.inl rfl) e, mA, ⟨od, es, ep, k _ _ (.inr d) e2, c⟩, r⟩
  | own y => obtain ⟨ob, e⟩ := x; exact ⟨ob, k _ _ (.inl rfl) e⟩
  | xd fs => obtain ⟨mA, ⟨od, es, ep, e, c⟩, r⟩ := x; exact ⟨mA, ⟨od, es, ep, k _ _ (.inl rfl) e, c⟩, r⟩
  | rng lo hi => obtain ⟨t, u, v, e⟩ := x; exact ⟨t, u, v, k _ _ (.inl rfl) e⟩
  | frz ob u ih => obtain ⟨e, q⟩ := x; exact ⟨k _ _ (.inl rfl) e, ih q⟩
  | tbl ps =>
    have e : h.get? a = some { cls := .none, data := .fields ps } := x
    show h'.get? a = some { cls := .none, data := .fields ps }
    exact k a _ (.inl rfl) e
  | met f y =>
    have e : h.get? a = some (PySem.W.methodObj (.ref f) (.ref y)) := x
    show h'.get? a = some (PySem.W.methodObj (.ref f) (.ref y))
    exact k a _ (.inl rfl) e
  | ext φ => obtain ⟨p, ⟨o, e⟩, st⟩ := x; exact ⟨st _ _ p fun o q => k _ _ (.inl rfl) q, ⟨o, k _ _ (.inl rfl) e⟩, st⟩
theorem HOk.lt (x : HOk P w H h) (e : H a = some o) : a < h.objs.size := (x a o e).lt
theorem HOk.fresh (x : HOk P w H h) (e : h.objs.size ≤ a) : H a = none := by
  cases q : H a with
  | none => rfl
  | some u => exact absurd (Nat.lt_of_lt_of_le (x.lt q) e) (Nat.lt_irrefl _)
theorem HOk.kept (x : HOk P w H h) (k : ∀ b u, h.get? b = some u → h'.get? b = some u) : HOk P w H h' := fun a o e =>
  (x a o e).stay (fun b u _ q => k b u q) (fun _ q => q) fun _ _ q => q
theorem HOk.laid (x : HOk P w H h) (k : ∀ b u, h.get? b = some u → h'.get? b = some u) (hp : h.objs.size ≤ a) (new : ObjOk P w (upd H a o) h' a o) : HOk P w (upd H a o) h' := fun b u e => by
  have hn := x.fresh hp
  by_cases hb : b = a
  · subst hb; rw [upd_same] at e; cases e; exact new
  · rw [upd_ne hb] at e
    exact (x b u e).stay (fun c v _ q => k c v q) (fun c q => by rw [upd_ne (ne_of_none q hn)]; exact q) fun c xs q => by rw [upd_ne (ne_of_none q hn)]; exact q
end
def Rd (H : Hp) (a : Addr) (u : HO) : Prop := H a = some u ∨ ∃ o, H a = some (.frz o u)
theorem Rd.ok {P : Program} {w : World} {H : Hp} {h : Heap} {a : Addr} {u : HO} (r : Rd H a u) (x : HOk P w H h) : ObjOk P w H h a u := by
  rcases r with r | ⟨o, r⟩
  · exact x a u r
  · obtain ⟨_, q⟩ := x a _ r
    exact q
def Mut : Option HO → Prop
  | some (.lst _) => True
  | some (.dK _) => True
  | some (.dT _) => True
  | some (.set _ _) => True
  | some (.ins _ _ _) => True
  | some (.ext _) => True
  | _ => False
section
variable {P : Program} {w : World} {H : Hp} {h h' : Heap} {x e : Addr} {o' : HO}
theorem HOk.write (ok : HOk P w H h) (mu : Mut (H x)) (he : e = x ∨ H e = some (.own x)) (k : ∀ b u, b ≠ e → h.get? b = some u → h'.get? b = some u) (heo : ∃ u, h'.get? e = some u)
    (new : ObjOk P w (upd H x o') h' x o') : HOk P w (upd H x o') h' := fun b u q => by
  have nown : ∀ c y, H c = some (.own y) → c ≠ x := fun c y r z => by subst z; rw [r] at mu; exact mu
  have ntup : ∀ c xs, H c = some (.tup xs) → c ≠ x := fun c xs r z => by subst z; rw [r] at mu; exact mu
  by_cases hb : b = x
  · subst hb; rw [upd_same] at q; cases q; exact new
  · rw [upd_ne hb] at q
    by_cases hbe : b = e
    · have q' : H b = some (.own x) := by
        rcases he with z | z
        · exact absurd (hbe.trans z) hb
        · rw [hbe]; exact z
      rw [q] at q'; cases q'
      obtain ⟨v, hv⟩ := heo
      exact ⟨v, by rw [hbe]; exact hv⟩
    · refine (ok b u q).stay (fun c v hc r => k c v ?_ r) (fun c r => by rw [upd_ne (nown c b r)]; exact r) fun c xs r => by rw [upd_ne (ntup c xs r)]; exact r
      rcases hc with rfl | hc
      · exact hbe
      · rintro rfl
        rcases he with z | z
        · exact nown c b hc z
        · rw [hc] at z; cases z; exact hb rfl
end
structure Un (fs ex : List Addr) (H H' : Hp) (h h' : Heap) : Prop where
  keep : ∀ b o, h.get? b = some o → H b = none → b ∉ fs → b ∉ ex → h'.get? b = some o
  slot : ∀ b o, h.get? b = some o → H b = none → b ∈ fs → b ∉ ex → ∃ sl, h'.get? b = some { o with slots := sl }
  free : ∀ b o, h.get? b = some o → H b = none → b ∉ ex → H' b = none
  there : ∀ b o, h.get? b = some o → b ∉ ex → ∃ o', h'.get? b = some o'
  tups : ∀ b xs, H b = some (.tup xs) → H' b = some (.tup xs)
  frzs : ∀ b o u, H b = some (.frz o u) → H' b = some (.frz o u)
  tbls : ∀ b ps, H b = some (.tbl ps) → ∃ more, H' b = some (.tbl (ps ++ more))
section
variable {fs fs' ex ex' : List Addr} {H H1 H2 : Hp} {h h1 h2 h' : Heap} {a x e : Addr} {o : HO}
theorem Un.any (u : Un fs ex H H1 h h1) {b : Addr} {ob : Obj} (q : h.get? b = some ob) (n : H b = none) (hx : b ∉ ex) : ∃ sl, h1.get? b = some { ob with slots := sl } := by
  by_cases hb : b ∈ fs
  · exact u.slot b ob q n hb hx
  · exact ⟨ob.slots, u.keep b ob q n hb hx⟩
theorem Un.trans (a : Un fs ex H H1 h h1) (b : Un fs ex H1 H2 h1 h2) : Un fs ex H H2 h h2 where
  keep := fun c ob q n hc hx => b.keep c ob (a.keep c ob q n hc hx) (a.free c ob q n hx) hc hx
  slot := fun c ob q n hc hx => by
    obtain ⟨sl, e1⟩ := a.slot c ob q n hc hx
    obtain ⟨sl', e2⟩ := b.slot c _ e1 (a.free c ob q n hx) hc hx
    exact ⟨sl', e2⟩
  free := fun c ob q n hx => by
    obtain ⟨o', e1⟩ := a.there c ob q hx
    exact b.free c o' e1 (a.free c ob q n hx) hx
  there := fun c ob q hx => by
    obtain ⟨o', e1⟩ := a.there c ob q hx
    exact b.there c o' e1 hx
  tups := fun c xs q => b.tups c xs (a.tups c xs q)
  frzs := fun c ob xs q => b.frzs c ob xs (a.frzs c ob xs q)
  tbls := fun c ps q => by
    obtain ⟨m1, e1⟩ := a.tbls c ps q
    obtain ⟨m2, e2⟩ := b.tbls c _ e1
    exact ⟨m1 ++ m2, by rw [e2, Array.append_assoc]⟩
theorem Un.kept (k : ∀ b u, h.get? b = some u → h'.get? b = some u) : Un fs ex H H h h' :=
  ⟨fun b ob q _ _ _ => k b ob q, fun b ob q _ _ _ => ⟨ob.slots, k b ob q⟩, fun _ _ _ n _ => n, fun b ob q _ => ⟨ob, k b ob q⟩, fun _ _ q => q, fun _ _ _ q => q, fun _ ps q => ⟨#[], by rw [q]; simp⟩⟩
theorem Un.refl : Un fs ex H H h h := Un.kept fun _ _ q => q
theorem Un.laid (k : ∀ b u, h.get? b = some u → h'.get? b = some u) (hp : h.objs.size ≤ a) (hn : H a = none) : Un fs ex H (upd H a o) h h' where
  keep := fun b u q _ _ _ => k b u q
  slot := fun b u q _ _ _ => ⟨u.slots, k b u q⟩
  free := fun b u q n _ => by rw [upd_ne (Nat.ne_of_lt (Nat.lt_of_lt_of_le (Heap.lt_size q) hp))]; exact n
  there := fun b u q _ => ⟨u, k b u q⟩
  tups := fun b xs q => by rw [upd_ne (ne_of_none q hn)]; exact q
  frzs := fun b u xs q => by rw [upd_ne (ne_of_none q hn)]; exact q
  tbls := fun b ps q => ⟨#[], by rw [upd_ne (ne_of_none q hn), q]; simp⟩
theorem Un.write (mu : Mut (H x)) (he : e = x ∨ H e = some (.own x)) (k : ∀ b u, b ≠ e → h.get? b = some u → h'.get? b = some u) (heo : ∃ u, h'.get? e = some u) : Un fs ex H (upd H x o) h h' := by
  have hx : ∀ b, H b = none → b ≠ x := fun b n z => by subst z; rw [n] at mu; exact mu
  have hb : ∀ b, H b = none → b ≠ e := fun b n z => by
    subst z
    rcases he with r | r
    · exact hx b n r
    · rw [n] at r; cases r
  have hm : ∀ b u, H b = some u → ¬ Mut (some u) → b ≠ x := fun b u q nm z => by subst z; rw [q] at mu; exact nm mu
  refine ⟨fun b u q n _ _ => k b u (hb b n) q, fun b u q n _ _ => ⟨u.slots, k b u (hb b n) q⟩, fun b u q n _ => by rw [upd_ne (hx b n)]; exact n, fun b u q _ => ?_,
    fun b xs q => by rw [upd_ne (hm b _ q fun z => z)]; exact q, fun b u xs q => by rw [upd_ne (hm b _ q fun z => z)]; exact q, fun b ps q => ⟨#[], by rw [upd_ne (hm b _ q fun z => z), q]; simp⟩⟩
  by_cases hbe : b = e
  · subst hbe; exact heo
  · exact ⟨u, k b u hbe q⟩
end
def trk (h : Heap) (H : Hp) : List Addr := (List.range h.objs.size).filter fun a => (H a).isSome
def hidT (h : Heap) (H : Hp) : Heap := PySem.W.hideAll h (trk h H)
theorem hidT_size (h : Heap) (H : Hp) : (hidT h H).objs.size = h.objs.size := PySem.W.hideAll_size _ _
theorem hidT_get {h : Heap} {H : Hp} {b : Addr} {o : Obj} (e : h.get? b = some o) (n : H b = none) : (hidT h H).get? b = some o :=
  PySem.W.hideAll_get _ e fun hm => by
    have q : (H b).isSome = true := (List.mem_filter.mp hm).2
    rw [n] at q; simp at q
theorem of_hidT {h : Heap} {H : Hp} {b : Addr} {o : Obj} (e : (hidT h H).get? b = some o) : h.get? b = some o ∧ H b = none := by
  have e' : h.get? b = some o := PySem.W.of_hideAll (trk h H) e
  refine ⟨e', ?_⟩
  cases q : H b with
  | none => rfl
  | some x =>
    have hm : b ∈ trk h H := List.mem_filter.mpr ⟨List.mem_range.mpr (Heap.lt_size e'), by simp [q]⟩
    have z : (hidT h H).get? b = none := PySem.W.hideAll_none (trk h H) hm
    rw [z] at e; cases e
def allNews (g h : Heap) (L : Addr) : List (Addr × Obj) := (List.range h.objs.size).filterMap fun a => if a = L ∨ (g.get? a).isSome = true then none else (h.get? a).map fun o => (a, o)
def rest (g h : Heap) (L d : Addr) : List (Addr × Obj) := (allNews g h L).filter fun p => decide (p.1 ≠ d)
end L2
namespace L2
open PySem PySem.Spec PyProof.Rows
structure Mod (K : PySem.W.Frag) (mg : Str → Option Value) (base : Heap) : Prop where
  kin : K.In base
  glob : base.Ns mainGlobals mg
  blt : ∃ mb, base.Ns builtinsNs mb ∧ ∀ x : Str, x ≠ "__name__" → mb x = bootBuiltins x
  nolimit : base.NoLimit
structure Cx where
  prog : Program
  w : World
  K : PySem.W.Frag
  mg : Str → Option Value
  base : Heap
  A : Around
  N : List Str
  s₀ : Shared
  H₀ : Hp
  env : Env
  outer : List Env
  stack : List Env
  ex : List Addr
  fn : Str → Bool
  calm : Bool
  pn : List (Addr × Obj)
  xe : Value → Shared → Prop
def frs (l : List Env) : List Addr := l.filterMap (·.frame)
abbrev Cx.fs (X : Cx) : List Addr := frs X.outer
def Vis (sc : Scope) (x : Str) : Prop := sc.names.lookup x = some .local ∨ sc.names.lookup x = some .cell ∨ sc.names.lookup x = some .free
def Loc (sc : Scope) (x : Str) : Prop := sc.names.lookup x = some .local ∨ sc.names.lookup x = some .cell
def Look (env : Env) (h : Heap) (m : Str → Option Value) (x : Str) (u : Value) : Prop :=
  (env.kindOf x = some .local ∧ m x = some u) ∨ ((env.kindOf x = some .cell ∨ env.kindOf x = some .free) ∧ ∃ c, env.cells.lookup x = some c ∧ h.IsCell c (some u))
structure Cx.Ok (X : Cx) : Prop where
  mod : Mod X.K X.mg X.base
  kind : X.env.scope.kind = .function
  glob : X.env.globals = mainGlobals
  blt : X.env.builtins = builtinsNs
  above : X.s₀.heap.objs.size ≤ X.env.locals
  inj : ∀ x y c, X.env.cells.lookup x = some c → X.env.cells.lookup y = some c → x = y
  has : ∀ x, (X.env.kindOf x = some .cell ∨ X.env.kindOf x = some .free) → ∃ c, X.env.cells.lookup x = some c
  cab : ∀ x c, X.fn x = true → X.env.cells.lookup x = some c → X.s₀.heap.objs.size ≤ c
  hd : X.calm = true → X.A.handled = none
  frames : X.A.frames = some X.stack
  stk : X.stack = X.outer ∨ (X.stack = X.env :: X.outer ∧ X.env.frame = some X.env.locals)
  exf : ∀ b ∈ X.ex, b ≠ X.env.locals ∧ ∀ x c, X.env.cells.lookup x = some c → c ≠ b
  bs : ∀ b o, X.base.get? b = some o → X.s₀.heap.get? b = some o ∧ X.H₀ b = none
  bsz : X.base.objs.size ≤ X.s₀.heap.objs.size
  noex : ∀ b o, X.base.get? b = some o → b ∉ X.ex
  exfs : ∀ b ∈ X.ex, b ∉ X.fs
  funs : X.s₀.heap.FunFrames X.base X.outer
  frf : ∀ b ∈ X.fs, X.H₀ b = none
structure Inv (X : Cx) (pins : List (Addr × Obj)) (σ : List (Option V)) (H : Hp) (s : Shared) : Prop where
  ok : X.Ok
  os : s.os = X.s₀.os
  bare : AllBare s.gens
  base : Un X.fs X.ex X.H₀ H X.s₀.heap s.heap
  loc : ∃ m, s.heap.Ns X.env.locals m ∧ ∀ (i : Nat) (x : Str) (v : V), X.N[i]? = some x → σ[i]? = some (some v) → Vis X.env.scope x → ∃ u, RelV v u ∧ Look X.env s.heap m x u
  cell : ∀ x c, X.env.cells.lookup x = some c → ∃ v, s.heap.IsCell c v
  free : H X.env.locals = none
  freeC : ∀ x c, X.env.cells.lookup x = some c → H c = none
  pin : ∀ p ∈ X.pn ++ pins, s.heap.get? p.1 = some p.2 ∧ H p.1 = none ∧ p.1 ≠ X.env.locals ∧ p.1 ∉ X.fs ∧ ∀ v, p.2.data ≠ .cell v
  hok : HOk X.prog X.w H s.heap
  len : σ.length = X.N.length
section
variable {X : Cx} {pins : List (Addr × Obj)} {σ : List (Option V)} {H H' : Hp} {s : Shared} {h' : Heap}
theorem Cx.Ok.nofr (ok : X.Ok) {b : Addr} {o : Obj} (e : X.base.get? b = some o) : b ∉ X.fs := fun hb => by
  have := (ok.funs.mem hb).1
  rw [e] at this; cases this
theorem Inv.bs (I : Inv X pins σ H s) : ∀ b o, X.base.get? b = some o → s.heap.get? b = some o ∧ H b = none := fun b o e =>
  ⟨I.base.keep b o (I.ok.bs b o e).1 (I.ok.bs b o e).2 (I.ok.nofr e) (I.ok.noex b o e), I.base.free b o (I.ok.bs b o e).1 (I.ok.bs b o e).2 (I.ok.noex b o e)⟩
theorem Inv.bk (I : Inv X pins σ H s) : ∀ b o, X.base.get? b = some o → s.heap.get? b = some o := fun b o e => (I.bs b o e).1
theorem Inv.mod (I : Inv X pins σ H s) : Mod X.K X.mg X.base := I.ok.mod
theorem Inv.kIn (I : Inv X pins σ H s) : X.K.In s.heap := I.ok.mod.kin.keeps I.bk
theorem Inv.lt (I : Inv X pins σ H s) : X.env.locals < s.heap.objs.size := let ⟨_, hn, _⟩ := I.loc; hn.lt
theorem Inv.sz (I : Inv X pins σ H s) : X.s₀.heap.objs.size ≤ s.heap.objs.size := Nat.le_trans I.ok.above (Nat.le_of_lt I.lt)
theorem Inv.nofs (I : Inv X pins σ H s) {a : Addr} (h : s.heap.objs.size ≤ a) : a ∉ X.fs := fun hb => by
  obtain ⟨_, o, ho, _⟩ := I.ok.funs.mem hb
  exact absurd (Nat.lt_of_lt_of_le (Heap.lt_size ho) (Nat.le_trans I.sz h)) (Nat.lt_irrefl _)
theorem Inv.cne (I : Inv X pins σ H s) : ∀ x c, X.env.cells.lookup x = some c → c ≠ X.env.locals := fun x c e z => by
  obtain ⟨v, o, ho, hd⟩ := I.cell x c e
  obtain ⟨m, ⟨o', es, ep, ho', hd', _⟩, _⟩ := I.loc
  rw [z, ho'] at ho; cases ho; rw [hd'] at hd; cases hd
theorem Inv.funs (I : Inv X pins σ H s) : s.heap.FunFrames X.base X.outer := by
  have all : ∀ (l : List Env), (∀ b ∈ frs l, b ∈ X.fs) → X.s₀.heap.FunFrames X.base l → s.heap.FunFrames X.base l := by
    intro l
    induction l with
    | nil => intro _ _; trivial
    | cons env r ih =>
      intro hs hl
      obtain ⟨hk, ⟨L, o, hf, hn, ho, hd⟩, hr⟩ := hl
      have hL : L ∈ X.fs := hs L (by unfold frs; rw [List.filterMap_cons, hf]; exact List.mem_cons_self)
      obtain ⟨sl, e⟩ := I.base.slot L o ho (I.ok.frf L hL) hL fun z => I.ok.exfs L z hL
      exact ⟨hk, ⟨L, _, hf, hn, e, hd⟩, ih (fun b hb => hs b (by unfold frs; rw [List.filterMap_cons, hf]; exact List.mem_cons_of_mem _ hb)) hr⟩
  exact all X.outer (fun _ hb => hb) I.ok.funs
theorem Inv.stack (I : Inv X pins σ H s) : s.heap.FunFrames X.base X.stack := by
  rcases I.ok.stk with e | ⟨e, hf⟩
  · rw [e]; exact I.funs
  · rw [e]
    obtain ⟨m, hn, _⟩ := I.loc
    refine .cons (by rw [I.ok.kind]; decide) hf hn ?_ I.funs
    exact Heap.get?_none_of_le (Nat.le_trans I.ok.bsz I.ok.above)
theorem Inv.stkSub (I : Inv X pins σ H s) : ∀ b ∈ frs X.stack, b ∈ X.env.locals :: X.fs := fun b hb => by
  rcases I.ok.stk with e | ⟨e, hf⟩
  · rw [e] at hb; exact List.mem_cons_of_mem _ hb
  · rw [e] at hb
    unfold frs at hb
    rw [List.filterMap_cons, hf] at hb
    exact hb
theorem Inv.stkFree (I : Inv X pins σ H s) : ∀ b ∈ frs X.stack, H b = none := fun b hb => by
  rcases List.mem_cons.mp (I.stkSub b hb) with e | hb
  · rw [e]; exact I.free
  · obtain ⟨_, o, ho, _⟩ := I.ok.funs.mem hb
    exact I.base.free b o ho (I.ok.frf b hb) fun z => I.ok.exfs b z hb
theorem Inv.step {g' : Array GenState} {t' : Nat} {d' : Drawn} {ch : List Addr} (I : Inv X pins σ H s)
    (hch : ∀ b ∈ ch, (b ∈ X.ex ∨ X.s₀.heap.objs.size ≤ b) ∧ b ≠ X.env.locals ∧ (∀ x c, X.env.cells.lookup x = some c → c ≠ b) ∧ ∀ p ∈ X.pn ++ pins, p.1 ≠ b)
    (keep : ∀ b o, b ≠ X.env.locals → b ∉ X.fs → b ∉ ch → s.heap.get? b = some o → H b = none → h'.get? b = some o)
    (slot : ∀ b o, b ≠ X.env.locals → b ∈ X.fs → b ∉ ch → s.heap.get? b = some o → H b = none → ∃ sl, h'.get? b = some { o with slots := sl }) (free : ∀ b o, b ∉ ch → s.heap.get? b = some o → H b = none → H' b = none)
    (there : ∀ b o, b ∉ ch → s.heap.get? b = some o → ∃ o', h'.get? b = some o')
    (tups : ∀ b xs, H b = some (.tup xs) → H' b = some (.tup xs)) (frzs : ∀ b o u, H b = some (.frz o u) → H' b = some (.frz o u)) (tbls : ∀ b ps, H b = some (.tbl ps) → ∃ more, H' b = some (.tbl (ps ++ more)))
    (ns : ∀ m, s.heap.Ns X.env.locals m → h'.Ns X.env.locals m) (hok : HOk X.prog X.w H' h') (hg : AllBare g') :
    Inv X pins σ H' { s with heap := h', gens := g', drawn := d', toks := t' } := by
  have neL : ∀ b o, X.s₀.heap.get? b = some o → b ≠ X.env.locals := fun b o e => Nat.ne_of_lt (Nat.lt_of_lt_of_le (Heap.lt_size e) I.ok.above)
  have neC : ∀ b o, X.s₀.heap.get? b = some o → b ∉ X.ex → b ∉ ch := fun b o e hx hb => by
    rcases (hch b hb).1 with z | z
    · exact hx z
    · exact absurd (Nat.lt_of_lt_of_le (Heap.lt_size e) z) (Nat.lt_irrefl _)
  have cellK : ∀ x c, X.env.cells.lookup x = some c → ∀ v, s.heap.IsCell c v → h'.IsCell c v := fun x c e v ⟨o, ho, hd⟩ => by
    have nch : c ∉ ch := fun z => (hch c z).2.2.1 x c e rfl
    by_cases hc : c ∈ X.fs
    · obtain ⟨sl, q⟩ := slot c o (I.cne x c e) hc nch ho (I.freeC x c e)
      exact ⟨_, q, hd⟩
    · exact ⟨o, keep c o (I.cne x c e) hc nch ho (I.freeC x c e), hd⟩
  refine ⟨I.ok, I.os, hg, ⟨fun b o e n hb hx => ?_, fun b o e n hb hx => ?_, fun b o e n hx => ?_, fun b o e hx => ?_, fun b xs e => tups b xs (I.base.tups b xs e), fun b o xs e => frzs b o xs (I.base.frzs b o xs e), fun b ps e => ?_⟩, ?_, fun x c e => ?_, ?_, fun x c e => ?_, fun p hp => ?_, hok, I.len⟩
  · exact keep b o (neL b o e) hb (neC b o e hx) (I.base.keep b o e n hb hx) (I.base.free b o e n hx)
  · obtain ⟨sl, e1⟩ := I.base.slot b o e n hb hx
    obtain ⟨sl', e2⟩ := slot b _ (neL b o e) hb (neC b o e hx) e1 (I.base.free b o e n hx)
    exact ⟨sl', e2⟩
  · obtain ⟨o', e1⟩ := I.base.there b o e hx
    exact free b o' (neC b o e hx) e1 (I.base.free b o e n hx)
  · obtain ⟨o', e1⟩ := I.base.there b o e hx
    exact there b o' (neC b o e hx) e1
  · obtain ⟨m1, e1⟩ := I.base.tbls b ps e
    obtain ⟨m2, e2⟩ := tbls b _ e1
    exact ⟨m1 ++ m2, by rw [e2, Array.append_assoc]⟩
  · obtain ⟨m, hn, hl⟩ := I.loc
    refine ⟨m, ns m hn, fun i x v e1 e2 e3 => ?_⟩
    obtain ⟨u, r, l⟩ := hl i x v e1 e2 e3
    refine ⟨u, r, ?_⟩
    rcases l with l | ⟨k, c, e, z⟩
    · exact .inl l
    · exact .inr ⟨k, c, e, cellK x c e _ z⟩
  · obtain ⟨v, z⟩ := I.cell x c e
    exact ⟨v, cellK x c e v z⟩
  · obtain ⟨m, ⟨o, _, _, ho, _⟩, _⟩ := I.loc
    exact free _ o (fun z => (hch _ z).2.1 rfl) ho I.free
  · obtain ⟨v, o, ho, hd⟩ := I.cell x c e
    exact free c o (fun z => (hch c z).2.2.1 x c e rfl) ho (I.freeC x c e)
  · obtain ⟨e, n, ne, nf, d⟩ := I.pin p hp
    have nch : p.1 ∉ ch := fun z => (hch p.1 z).2.2.2 p hp rfl
    exact ⟨keep p.1 p.2 ne nf nch e n, free p.1 p.2 nch e n, ne, nf, d⟩
theorem Inv.un {t' : Nat} (I : Inv X pins σ H s) (u : Un X.fs [] H H' s.heap h') (hok : HOk X.prog X.w H' h') : Inv X pins σ H' { s with heap := h', toks := t' } := by
  obtain ⟨m, ⟨o, es, ep, ho, r⟩, _⟩ := id I.loc
  obtain ⟨sl, hL⟩ := u.any ho I.free (by simp)
  exact I.step (g' := s.gens) (d' := s.drawn) (ch := []) (fun _ z => nomatch z) (fun b o _ hb _ e n => u.keep b o e n hb (by simp)) (fun b o _ hb _ e n => u.slot b o e n hb (by simp)) (fun b o _ e n => u.free b o e n (by simp)) (fun b o _ e => u.there b o e (by simp)) u.tups u.frzs u.tbls (fun m' hm => by
    obtain ⟨o', es', ep', ho', r'⟩ := hm
    rw [ho] at ho'; cases ho'
    exact ⟨_, es', ep', hL, r'⟩) hok I.bare
theorem Inv.call {g' : Array GenState} {t' : Nat} {d' : Drawn} {ch : List Addr} (I : Inv X pins σ H s) (u : Un (frs X.stack) ch H H' s.heap h') (hok : HOk X.prog X.w H' h') (hg : AllBare g')
    (hch : ∀ b ∈ ch, (b ∈ X.ex ∨ X.s₀.heap.objs.size ≤ b) ∧ b ≠ X.env.locals ∧ (∀ x c, X.env.cells.lookup x = some c → c ≠ b) ∧ ∀ p ∈ X.pn ++ pins, p.1 ≠ b) :
    Inv X pins σ H' { s with heap := h', gens := g', drawn := d', toks := t' } := by
  obtain ⟨m, ⟨o, es, ep, ho, r⟩, _⟩ := id I.loc
  obtain ⟨sl, hL⟩ := u.any ho I.free fun z => (hch _ z).2.1 rfl
  exact I.step (ch := ch) hch (fun b o hL hb hc e n => u.keep b o e n (fun z => (List.mem_cons.mp (I.stkSub b z)).elim hL hb) hc) (fun b o _ _ hc e n => u.any e n hc) (fun b o hc e n => u.free b o e n hc) (fun b o hc e => u.there b o e hc) u.tups u.frzs u.tbls (fun m' hm => by
    obtain ⟨o', es', ep', ho', r'⟩ := hm
    rw [ho] at ho'; cases ho'
    exact ⟨_, es', ep', hL, r'⟩) hok hg
theorem Inv.turned {t' : Nat} {it : Addr} (I : Inv X pins σ H s) (k : ∀ b o, b ≠ it → s.heap.get? b = some o → h'.get? b = some o) (hn : H it = none) (hL : it ≠ X.env.locals)
    (h1 : it ∈ X.ex ∨ X.s₀.heap.objs.size ≤ it) (h2 : ∀ x c, X.env.cells.lookup x = some c → c ≠ it) (h3 : ∀ p ∈ X.pn ++ pins, p.1 ≠ it) : Inv X pins σ H { s with heap := h', toks := t' } := by
  have nit : ∀ b u, H b = some u → b ≠ it := fun b u e z => by rw [z, hn] at e; cases e
  refine I.step (g' := s.gens) (d' := s.drawn) (ch := [it]) (fun b hb => ?_) (fun b o _ _ hc e _ => k b o (fun z => hc (by simp [z])) e) (fun b o _ _ hc e _ => ⟨o.slots, k b o (fun z => hc (by simp [z])) e⟩) (fun _ _ _ _ n => n)
    (fun b o hc e => ⟨o, k b o (fun z => hc (by simp [z])) e⟩) (fun _ _ e => e) (fun _ _ _ e => e) (fun b ps e => ⟨#[], by rw [e]; simp⟩) (fun m hm => ?_) (fun b u e => ?_) I.bare
  · have e : b = it := by simpa using hb
    subst e
    exact ⟨h1, hL, h2, h3⟩
  · obtain ⟨o, es, ep, ho, r⟩ := hm
    exact ⟨o, es, ep, k _ o (Ne.symm hL) ho, r⟩
  · refine (I.hok b u e).stay (fun c v hc q => k c v ?_ q) (fun _ q => q) fun _ _ q => q
    rcases hc with z | z
    · rw [z]; exact nit b u e
    · exact nit c _ z
theorem Inv.tok (I : Inv X pins σ H s) (t : Nat) : Inv X pins σ H { s with toks := t } := I.un (h' := s.heap) (t' := t) Un.refl I.hok
theorem Inv.kept {t' : Nat} (I : Inv X pins σ H s) (k : ∀ b u, s.heap.get? b = some u → h'.get? b = some u) : Inv X pins σ H { s with heap := h', toks := t' } := I.un (Un.kept k) (I.hok.kept k)
theorem Inv.laid {a : Addr} {o : HO} {t' : Nat} (I : Inv X pins σ H s) (k : ∀ b u, s.heap.get? b = some u → h'.get? b = some u) (hp : s.heap.objs.size ≤ a) (new : ObjOk X.prog X.w (upd H a o) h' a o) :
    Inv X pins σ (upd H a o) { s with heap := h', toks := t' } := I.un (Un.laid k hp (I.hok.fresh hp)) (I.hok.laid k hp new)
theorem Inv.write {x e : Addr} {o : HO} {t' : Nat} (I : Inv X pins σ H s) (mu : Mut (H x)) (he : e = x ∨ H e = some (.own x)) (k : ∀ b u, b ≠ e → s.heap.get? b = some u → h'.get? b = some u) (heo : ∃ u, h'.get? e = some u)
    (new : ObjOk X.prog X.w (upd H x o) h' x o) : Inv X pins σ (upd H x o) { s with heap := h', toks := t' } := I.un (Un.write mu he k heo) (I.hok.write mu he k heo new)
theorem Inv.pins_of {pins' : List (Addr × Obj)} (I : Inv X pins σ H s) (h : ∀ p ∈ pins', s.heap.get? p.1 = some p.2 ∧ H p.1 = none ∧ p.1 ≠ X.env.locals ∧ p.1 ∉ X.fs ∧ ∀ v, p.2.data ≠ .cell v) : Inv X pins' σ H s :=
  ⟨I.ok, I.os, I.bare, I.base, I.loc, I.cell, I.free, I.freeC, fun p hp => (List.mem_append.mp hp).elim (fun z => I.pin p (List.mem_append_left _ z)) (h p), I.hok, I.len⟩
theorem nodup_ix {N : List Str} (hN : N.Nodup) {i j : Nat} {x : Str} (a : N[i]? = some x) (b : N[j]? = some x) : i = j := by
  obtain ⟨h1, e1⟩ := List.getElem?_eq_some_iff.mp a
  obtain ⟨h2, e2⟩ := List.getElem?_eq_some_iff.mp b
  exact (List.getElem_inj hN).mp (e1.trans e2.symm)
theorem store_ok2 {M : Model} {A : Around} {E : Value → Shared → Prop} {i : Nat} {x : Str} {v : V} {u : Value} {Q : Unit → Shared → Prop} (I : Inv X pins σ H s) (hN : X.N.Nodup) (hi : X.N[i]? = some x) (hx : Loc X.env.scope x) (r : RelV v u)
    (h : ∀ s', Inv X pins (σ.set i (some v)) H s' → (∃ a, Heap.SameBut a s.heap s'.heap ∧ (a = X.env.locals ∨ X.env.cells.lookup x = some a)) → Q () s') (hf : X.fn x = true ∨ X.env.scope.names.lookup x = some .local := by first | exact .inl rfl | exact .inr rfl | assumption) : wpAny M A (storeName X.env x u) Q E s := by
  obtain ⟨m, hn, hl⟩ := id I.loc
  have hcls : (X.env.scope.kind == .class || (X.env.scope.kind == .module && X.env.locals != X.env.globals)) = false := by rw [I.ok.kind]; rfl
  have hiσ : i < σ.length := by rw [I.len]; exact (List.getElem?_eq_some_iff.mp hi).1
  have cne := I.cne
  have tracked : ∀ {a : Addr} {h' : Heap}, (∃ o, s.heap.get? a = some o ∧ H a = none) → Heap.SameBut a s.heap h' → HOk X.prog X.w H h' := fun {a h'} ha hs b ob e => by
    obtain ⟨_, _, hfree⟩ := ha
    refine (I.hok b ob e).stay (fun c w' hc q => (hs.2 c ?_).trans q) (fun _ q => q) fun _ _ q => q
    rintro rfl
    rcases hc with rfl | hc
    · rw [hfree] at e; cases e
    · rw [hfree] at hc; cases hc
  rcases hx with hk | hk
  · refine wpAny_storeName_local hk hn (fun h' hn' hs => ?_) hcls
    obtain ⟨oL, _, _, hoL, _⟩ := id hn
    refine h _ ⟨I.ok, I.os, I.bare, ⟨fun b o e n hb hx => ?_, fun b o e n hb hx => ?_, I.base.free, fun b o e hx => ?_, I.base.tups, I.base.frzs, I.base.tbls⟩, ⟨_, hn', fun j y v' e1 e2 e3 => ?_⟩, fun y c e => ?_, I.free, I.freeC, fun p hp => ?_, tracked ⟨oL, hoL, I.free⟩ hs, by simpa using I.len⟩ ⟨_, hs, .inl rfl⟩
    · exact (hs.2 b (Nat.ne_of_lt (Nat.lt_of_lt_of_le (Heap.lt_size e) I.ok.above))).trans (I.base.keep b o e n hb hx)
    · obtain ⟨sl, e1⟩ := I.base.slot b o e n hb hx
      exact ⟨sl, (hs.2 b (Nat.ne_of_lt (Nat.lt_of_lt_of_le (Heap.lt_size e) I.ok.above))).trans e1⟩
    · obtain ⟨o', e1⟩ := I.base.there b o e hx
      exact ⟨o', (hs.2 b (Nat.ne_of_lt (Nat.lt_of_lt_of_le (Heap.lt_size e) I.ok.above))).trans e1⟩
    · by_cases hj : j = i
      · subst hj
        rw [hi] at e1; cases e1
        rw [List.getElem?_set_self hiσ] at e2
        cases e2
        exact ⟨u, r, .inl ⟨hk, by simp⟩⟩
      · rw [List.getElem?_set_ne (Ne.symm hj)] at e2
        obtain ⟨u', r', q⟩ := hl j y v' e1 e2 e3
        refine ⟨u', r', ?_⟩
        rcases q with ⟨k, e⟩ | ⟨k, c, e, z⟩
        · refine .inl ⟨k, ?_⟩
          have : y ≠ x := fun e => hj (nodup_ix hN e1 (e ▸ hi))
          simp [this, e]
        · exact .inr ⟨k, c, e, z.sameBut hs (cne y c e)⟩
    · obtain ⟨w', z⟩ := I.cell y c e
      exact ⟨w', z.sameBut hs (cne y c e)⟩
    · obtain ⟨e, n, ne, nf, d⟩ := I.pin p hp
      exact ⟨(hs.2 p.1 ne).trans e, n, ne, nf, d⟩
  · have hfn : X.fn x = true := by
      rcases hf with z | z
      · exact z
      · rw [z] at hk; cases hk
    obtain ⟨c, hc⟩ := I.ok.has x (.inl hk)
    obtain ⟨w', z⟩ := I.cell x c hc
    refine wpAny_storeName_cell I.ok.kind hk hc z (fun h' hc' hs => ?_)
    obtain ⟨oc, hoc, hocd⟩ := id z
    refine h { s with heap := h' } ⟨I.ok, I.os, I.bare, ⟨fun b o e n hb hx => ?_, fun b o e n hb hx => ?_, I.base.free, fun b o e hx => ?_, I.base.tups, I.base.frzs, I.base.tbls⟩, ⟨m, hn.sameBut hs (Ne.symm (cne x c hc)), fun j y v' e1 e2 e3 => ?_⟩, fun y c' e => ?_, I.free, I.freeC, fun p hp => ?_, tracked ⟨oc, hoc, I.freeC x c hc⟩ hs, by simpa using I.len⟩ ⟨c, hs, .inr hc⟩
    · exact (hs.2 b (Nat.ne_of_lt (Nat.lt_of_lt_of_le (Heap.lt_size e) (I.ok.cab x c hfn hc)))).trans (I.base.keep b o e n hb hx)
    · obtain ⟨sl, e1⟩ := I.base.slot b o e n hb hx
      exact ⟨sl, (hs.2 b (Nat.ne_of_lt (Nat.lt_of_lt_of_le (Heap.lt_size e) (I.ok.cab x c hfn hc)))).trans e1⟩
    · obtain ⟨o', e1⟩ := I.base.there b o e hx
      exact ⟨o', (hs.2 b (Nat.ne_of_lt (Nat.lt_of_lt_of_le (Heap.lt_size e) (I.ok.cab x c hfn hc)))).trans e1⟩
    · by_cases hj : j = i
      · subst hj
        rw [hi] at e1; cases e1
        rw [List.getElem?_set_self hiσ] at e2
        cases e2
        exact ⟨u, r, .inr ⟨.inl hk, c, hc, hc'⟩⟩
      · rw [List.getElem?_set_ne (Ne.symm hj)] at e2
        obtain ⟨u', r', q⟩ := hl j y v' e1 e2 e3
        refine ⟨u', r', ?_⟩
        rcases q with q | ⟨k, c', e, z'⟩
        · exact .inl q
        · refine .inr ⟨k, c', e, z'.sameBut hs ?_⟩
          rintro rfl
          exact hj (nodup_ix hN e1 (I.ok.inj _ _ _ e hc ▸ hi))
    · by_cases hcc : c' = c
      · subst hcc; exact ⟨_, hc'⟩
      · obtain ⟨w2, z2⟩ := I.cell y c' e
        exact ⟨w2, z2.sameBut hs hcc⟩
    · obtain ⟨e, n, ne, nf, d⟩ := I.pin p hp
      refine ⟨(hs.2 p.1 ?_).trans e, n, ne, nf, d⟩
      intro q
      rw [q, hoc] at e
      have q' : oc = p.2 := Option.some.inj e
      exact d w' (by rw [← q']; exact hocd)
theorem store_ok {M : Model} {A : Around} {E : Value → Shared → Prop} {i : Nat} {x : Str} {v : V} {u : Value} {Q : Unit → Shared → Prop} (I : Inv X pins σ H s) (hN : X.N.Nodup) (hi : X.N[i]? = some x) (hx : Loc X.env.scope x) (r : RelV v u)
    (h : ∀ s', Inv X pins (σ.set i (some v)) H s' → Q () s') (hf : X.fn x = true ∨ X.env.scope.names.lookup x = some .local := by first | exact .inl rfl | exact .inr rfl | assumption) : wpAny M A (storeName X.env x u) Q E s :=
  store_ok2 I hN hi hx r (fun s' I' _ => h s' I') hf
theorem Inv.call' {s' : Shared} {ch : List Addr} (I : Inv X pins σ H s) (ho : s'.os = s.os) (u : Un (frs X.stack) ch H H' s.heap s'.heap) (hok : HOk X.prog X.w H' s'.heap) (hg : AllBare s'.gens)
    (hch : ∀ b ∈ ch, (b ∈ X.ex ∨ X.s₀.heap.objs.size ≤ b) ∧ b ≠ X.env.locals ∧ (∀ x c, X.env.cells.lookup x = some c → c ≠ b) ∧ ∀ p ∈ X.pn ++ pins, p.1 ≠ b) : Inv X pins σ H' s' := by
  obtain ⟨h', g', d', t', o'⟩ := s'
  have e : o' = s.os := ho
  subst e
  exact I.call (g' := g') (t' := t') (d' := d') u hok hg hch
end
abbrev XK := Value → Option Addr → Hp → Prop
abbrev St := List (Option V)
abbrev VK := V → Hp → Prop
abbrev TE := St → Hp → VK → Prop
abbrev TT := St → Hp → (Bool → Hp → Prop) → Prop
abbrev TA := St → Hp → (List V → Hp → Prop) → Prop
structure Ends where
  nx : St → Hp → Prop
  rt : VK
  bk : St → Hp → Prop := fun _ _ => False
  ct : St → Hp → Prop := fun _ _ => False
abbrev TS := Ends → St → Hp → Prop
def EP (X : Cx) (pins : List (Addr × Obj)) (σ : St) (Q : VK) (u : Value) (s' : Shared) : Prop := ∃ v H', Inv X pins σ H' s' ∧ RelV v u ∧ Q v H'
def TP (X : Cx) (pins : List (Addr × Obj)) (σ : St) (Q : Bool → Hp → Prop) (b : Bool) (s' : Shared) : Prop := ∃ H', Inv X pins σ H' s' ∧ Q b H'
def AP (X : Cx) (pins : List (Addr × Obj)) (σ : St) (Q : List V → Hp → Prop) (us : List Value) (s' : Shared) : Prop := ∃ vs H', Inv X pins σ H' s' ∧ Vals vs us ∧ Q vs H'
def SP (X : Cx) (pins : List (Addr × Obj)) (D : Ends) (f : Flow) (s' : Shared) : Prop :=
  match f with
  | .next => ∃ σ' H', Inv X pins σ' H' s' ∧ D.nx σ' H'
  | .brk => ∃ σ' H', Inv X pins σ' H' s' ∧ D.bk σ' H'
  | .cont => ∃ σ' H', Inv X pins σ' H' s' ∧ D.ct σ' H'
  | .ret u => ∃ v σ' H', Inv X pins σ' H' s' ∧ RelV v u ∧ D.rt v H'
def PE (X : Cx) (e : Expr) (t : TE) : Prop :=
  ∀ (pins : List (Addr × Obj)) (s : Shared) (σ : St) (H : Hp) (Q : VK), Inv X pins σ H s → t σ H Q → wpAny (model X.prog X.w) X.A (eval e X.env) (EP X pins σ Q) X.xe s
def PT (X : Cx) (e : Expr) (t : TT) : Prop :=
  ∀ (pins : List (Addr × Obj)) (s : Shared) (σ : St) (H : Hp) (Q : Bool → Hp → Prop), Inv X pins σ H s → t σ H Q → wpAny (model X.prog X.w) X.A (isTrue e X.env (eval e X.env)) (TP X pins σ Q) X.xe s
def PW (X : Cx) (e : Expr) (t : TT) : Prop :=
  ∀ (whole : Sem Value) (pins : List (Addr × Obj)) (s : Shared) (σ : St) (H : Hp) (Q : Bool → Hp → Prop), Inv X pins σ H s → t σ H Q → wpAny (model X.prog X.w) X.A (isTrue e X.env whole) (TP X pins σ Q) X.xe s
theorem PW.pt {X : Cx} {e : Expr} {t : TT} (h : PW X e t) : PT X e t := h _
def PA (X : Cx) (es : List Expr) (t : TA) : Prop :=
  ∀ (pos : Pos) (pins : List (Addr × Obj)) (s : Shared) (σ : St) (H : Hp) (Q : List V → Hp → Prop), Inv X pins σ H s → t σ H Q → wpAny (model X.prog X.w) X.A (spliced (backTo pos (starEach es X.env))) (AP X pins σ Q) X.xe s
def PS (X : Cx) (st : Stmt) (t : TS) : Prop :=
  ∀ (pins : List (Addr × Obj)) (s : Shared) (σ : St) (H : Hp) (D : Ends), Inv X pins σ H s → t D σ H → wpAny (model X.prog X.w) X.A (exec st X.env) (SP X pins D) X.xe s
def PSs (X : Cx) (st : List Stmt) (t : TS) : Prop :=
  ∀ (pins : List (Addr × Obj)) (s : Shared) (σ : St) (H : Hp) (D : Ends), Inv X pins σ H s → t D σ H → wpAny (model X.prog X.w) X.A (execs st X.env) (SP X pins D) X.xe s
theorem thn {α : Type} {t : Sem α} {Q Q' : α → Shared → Prop} {M : Model} {A : Around} {E : Value → Shared → Prop} {s : Shared} (h : wpAny M A t Q E s) (hQ : ∀ a s, Q a s → Q' a s) : wpAny M A t Q' E s := wpAny_mono h hQ fun _ _ x => x
end L2
namespace L2
open PySem PySem.Spec PyProof.Rows
section
variable {X : Cx}
theorem bin {a b : Expr} {ta tb : TE} (ha : PE X a ta) (hb : PE X b tb) {pins : List (Addr × Obj)} {s : Shared} {σ : St} {H : Hp} {R : V → V → Hp → Prop} (I : Inv X pins σ H s) (h : ta σ H fun x H1 => tb σ H1 fun y H2 => R x y H2)
    {α : Type} {Q : α → Shared → Prop} {f : Value → Value → Sem α}
    (hf : ∀ v u s2 x y H2, Inv X pins σ H2 s2 → RelV x v → RelV y u → R x y H2 → wpAny (model X.prog X.w) X.A (f v u) Q X.xe s2) :
    wpAny (model X.prog X.w) X.A (eval a X.env) (fun v s₁ => wpAny (model X.prog X.w) X.A (eval b X.env) (fun u s₂ => wpAny (model X.prog X.w) X.A (f v u) Q X.xe s₂) X.xe s₁) X.xe s := by
  refine thn (ha pins s σ H _ I h) fun v s1 ⟨x, H1, I1, r1, q1⟩ => ?_
  refine thn (hb pins s1 σ H1 _ I1 q1) fun u s2 ⟨y, H2, I2, r2, q2⟩ => ?_
  exact hf v u s2 x y H2 I2 r1 r2 q2
def tVar (i : Nat) : TE := fun σ H Q => ∃ v, σ[i]? = some (some v) ∧ Q v H
def tC (v : V) : TE := fun _ H Q => Q v H
theorem pe_var {i : Nat} {x : Str} {pos : Pos} (hN : X.N[i]? = some x) (hv : Vis X.env.scope x) (hd : (x == ("__debug__" : Str)) = false := by decide) (hcd : (x == ("__classdict__" : Str)) = false := by decide) : PE X (.Name x pos) (tVar i) := by
  intro pins s σ H Q I h
  obtain ⟨v, e, h⟩ := h
  obtain ⟨m, hn, hl⟩ := I.loc
  obtain ⟨u, r, l⟩ := hl i x v hN e hv
  have fin : EP X pins σ Q u s := ⟨v, H, I, r, h⟩
  rcases l with ⟨hk, hm⟩ | ⟨hk, c, hc, hcell⟩
  · exact wpAny_Name (wpAny_loadName_local I.ok.kind hk hn hm fin) hd
  · rcases hk with hk | hk
    · exact wpAny_Name (wpAny_loadName_cell I.ok.kind hk hc hcell fin) hd
    · exact wpAny_Name (wpAny_loadName_free I.ok.kind hk hc hcell fin hcd) hd
theorem pe_int {i j pos} : PE X (.Constant (.int i) j pos) (tC (.int i)) := fun _ _ _ H _ I h => wpAny_Constant_int ⟨.int i, H, I.tok _, ⟨_, rfl⟩, h⟩
theorem pe_bl {b j pos} : PE X (.Constant (.bool b) j pos) (tC (.bl b)) := fun _ _ _ H _ I h => Constant_bool ⟨.bl b, H, I, rfl, h⟩
def Gl (X : Cx) (x : Str) : Prop := X.env.kindOf x = some .globalImplicit
theorem ld_glob {E : Value → Shared → Prop} {pins : List (Addr × Obj)} {s : Shared} {σ : St} {H : Hp} {x : Str} {u : Value} {pos : Pos} {Q : Value → Shared → Prop} (I : Inv X pins σ H s) (hg : Gl X x) (hm : X.mg x = some u) (h : Q u s)
    (hd : (x == ("__debug__" : Str)) = false := by decide) : wpAny (model X.prog X.w) X.A (eval (.Name x pos) X.env) Q E s :=
  Calls.Name_function_global I.ok.kind hg (Calls.loadGlobal_global (by rw [I.ok.glob]; exact I.mod.glob.keeps I.bk) hm h) hd
theorem ld_blt {E : Value → Shared → Prop} {pins : List (Addr × Obj)} {s : Shared} {σ : St} {H : Hp} {x : Str} {u : Value} {pos : Pos} {Q : Value → Shared → Prop} (I : Inv X pins σ H s) (hg : Gl X x) (hm : X.mg x = none) (hv : bootBuiltins x = some u) (h : Q u s)
    (hn : x ≠ "__name__" := by decide) (hd : (x == ("__debug__" : Str)) = false := by decide) : wpAny (model X.prog X.w) X.A (eval (.Name x pos) X.env) Q E s := by
  obtain ⟨mb, h1, h2⟩ := I.mod.blt
  exact Calls.Name_function_global I.ok.kind hg (Calls.loadGlobal_builtin (by rw [I.ok.glob]; exact I.mod.glob.keeps I.bk) hm (by rw [I.ok.blt]; exact h1.keeps I.bk) ((h2 x hn).trans hv) h) hd
theorem pe_bltn {x : Str} {v : V} {u : Value} {pos : Pos} (hg : Gl X x) (hm : X.mg x = none) (hv : bootBuiltins x = some u) (r : RelV v u) (hn : x ≠ "__name__" := by decide) (hd : (x == ("__debug__" : Str)) = false := by decide) : PE X (.Name x pos) (tC v) :=
  fun _ _ _ H _ I h => ld_blt I hg hm hv ⟨v, H, I, r, h⟩ hn hd
variable {a b : Expr} {ta tb : TE} {pos : Pos}
def PC (X : Cx) (op : CmpOp) (a b : Expr) (t : TE) : Prop :=
  ∀ (pins : List (Addr × Obj)) (s : Shared) (σ : St) (H : Hp) (Q : VK), Inv X pins σ H s → t σ H Q →
    wpAny (model X.prog X.w) X.A (eval a X.env) (fun v s₁ => wpAny (model X.prog X.w) X.A (eval b X.env) (fun u s₂ => wpAny (model X.prog X.w) X.A (compareOp op v u) (EP X pins σ Q) X.xe s₂) X.xe s₁) X.xe s
def tB (t : TE) : TT := fun σ H Q => t σ H fun x H1 => ∃ c, x = .bl c ∧ Q c H1
theorem pt_cmp {op : CmpOp} {t : TE} (h : PC X op a b t) (h1 : behindInMarks op b = false := by first | exact nobehind _ (by decide) (by decide) | rfl) : PT X (.Compare a [op] [b] pos) (tB t) := by
  intro pins s σ H Q I hw
  refine wpAny_isTrue_Compare1 (thn (h pins s σ H _ I hw) fun v s1 h1 => thn h1 fun u s2 h2 => thn h2 fun c s3 ⟨x, H1, I1, r1, q1⟩ => ?_) h1
  obtain ⟨d, rfl, q⟩ := q1
  cases r1
  exact wpAny_truthy_bool ⟨H1, I1, q⟩
theorem pt_val {e : Expr} {t : TE} (h : PE X e t) (he : ∀ whole, isTrue e X.env whole = (do let v ← whole; standAt e.pos; holding [v] (truthy v)) := by intro _; rfl) : PT X e (tB t) := by
  intro pins s σ H Q I hw
  refine isTrue_plain (thn (h pins s σ H _ I hw) fun v s1 ⟨x, H1, I1, r1, q1⟩ => ?_) (he _)
  obtain ⟨d, rfl, q⟩ := q1
  cases r1
  exact wpAny_truthy_bool ⟨H1, I1, q⟩
variable {tA tB' : TT} {rest : List Expr}
def tAnd (t u : TT) : TT := fun σ H Q => t σ H fun c H1 => if c = true then u σ H1 Q else Q false H1
def tOr (t u : TT) : TT := fun σ H Q => t σ H fun c H1 => if c = true then Q true H1 else u σ H1 Q
def tNot (t : TT) : TT := fun σ H Q => t σ H fun c H1 => Q (!c) H1
theorem pw_and1 (ha : PT X a tA) : PW X (.BoolOp .And [a] pos) tA := by
  intro wh pins s σ H Q I h
  refine isTrue_and (thn (ha pins s σ H Q I h) fun c s1 e => ?_)
  cases c with
  | true => exact isTrue_and_nil e
  | false => exact e
theorem pw_or1 (ha : PT X a tA) : PW X (.BoolOp .Or [a] pos) tA := by
  intro wh pins s σ H Q I h
  refine isTrue_or (thn (ha pins s σ H Q I h) fun c s1 e => ?_)
  cases c with
  | false => exact isTrue_or_nil e
  | true => exact e
theorem pw_and (ha : PT X a tA) (hb : PW X (.BoolOp .And (b :: rest) pos) tB') : PW X (.BoolOp .And (a :: b :: rest) pos) (tAnd tA tB') := by
  intro wh pins s σ H Q I h
  refine isTrue_and (thn (ha pins s σ H _ I h) fun c s1 ⟨H1, I1, q1⟩ => ?_)
  cases c with
  | true => exact hb wh pins s1 σ H1 Q I1 q1
  | false => exact ⟨H1, I1, q1⟩
theorem pw_or (ha : PT X a tA) (hb : PW X (.BoolOp .Or (b :: rest) pos) tB') : PW X (.BoolOp .Or (a :: b :: rest) pos) (tOr tA tB') := by
  intro wh pins s σ H Q I h
  refine isTrue_or (thn (ha pins s σ H _ I h) fun c s1 ⟨H1, I1, q1⟩ => ?_)
  cases c with
  | true => exact ⟨H1, I1, q1⟩
  | false => exact hb wh pins s1 σ H1 Q I1 q1
theorem pt_not (ha : PT X a tA) : PT X (.UnaryOp .Not a pos) (tNot tA) := by
  intro pins s σ H Q I h
  exact isTrue_not (ha pins s σ H (fun c H1 => Q (!c) H1) I h)
def tAndV (ta tb : TE) : TE := fun σ H Q => ta σ H fun x H1 => ∃ c, x = .bl c ∧ if c = true then tb σ H1 Q else Q (.bl false) H1
def tNotV (ta : TE) : TE := fun σ H Q => ta σ H fun x H1 => ∃ c, x = .bl c ∧ Q (.bl (!c)) H1
theorem pe_one {op} {t : TE} (h : PE X a t) : PE X (.BoolOp op [a] pos) t := fun pins s σ H Q I hw => BoolOp_one (h pins s σ H Q I hw)
theorem pe_and (ha : PE X a ta) (hb : PE X (.BoolOp .And (b :: rest) pos) tb) : PE X (.BoolOp .And (a :: b :: rest) pos) (tAndV ta tb) := by
  intro pins s σ H Q I h
  refine BoolOp_and (thn (ha pins s σ H _ I h) fun v s1 ⟨x, H1, I1, r1, q1⟩ => ?_)
  obtain ⟨c, rfl, q1⟩ := q1
  cases r1
  refine wpAny_truthy_bool ?_
  cases c with
  | true => exact hb pins s1 σ H1 Q I1 q1
  | false => exact ⟨.bl false, H1, I1, rfl, q1⟩
theorem pe_not (ha : PE X a ta) : PE X (.UnaryOp .Not a pos) (tNotV ta) := by
  intro pins s σ H Q I h
  refine UnaryOp_ (thn (ha pins s σ H _ I h) fun v s1 ⟨x, H1, I1, r1, q1⟩ => ?_)
  obtain ⟨c, rfl, q1⟩ := q1
  cases r1
  exact not_of (wpAny_truthy_bool ⟨.bl (!c), H1, I1, rfl, q1⟩)
end
end L2
namespace L2
open PySem PySem.Spec PyProof.Rows
def SqL (K : PySem.W.Frag) (H : Hp) (a : Addr) (xs : List V) : Prop :=
  Rd H a (.lst xs) ∨
    ∃ (o : Obj) (its : Array Value) (n : Nat), K.lookup a = some o ∧ o.cls = .type "list" ∧ o.dict = none ∧ o.data = .seq its n ∧ its.size ≤ sizeLine ∧ Vals xs its.toList
def SqT (K : PySem.W.Frag) (H : Hp) (a : Addr) (xs : List V) : Prop :=
  Rd H a (.tup xs) ∨
    ∃ (o : Obj) (its : Array Value) (n : Nat), K.lookup a = some o ∧ o.cls = .type "tuple" ∧ o.data = .seq its n ∧ its.size ≤ sizeLine ∧ Vals xs its.toList
def absV : Value → Option V
  | .none => some .non
  | .bool b => some (.bl b)
  | .int i _ => some (.int i)
  | .str x _ => some (.str x)
  | .bytes b _ => some (.byt b)
  | .float b _ => some (.flt b)
  | .ref a => some (.ref a)
  | .type n => some (.ty n)
  | _ => none
theorem RelV.abs {x : V} {u : Value} (r : RelV x u) : absV u = some x := by
  cases x with
  | non => cases r; rfl
  | bl _ => cases r; rfl
  | int _ => obtain ⟨t, rfl⟩ := r; rfl
  | str _ => obtain ⟨t, rfl⟩ := r; rfl
  | byt _ => obtain ⟨t, rfl⟩ := r; rfl
  | flt _ => obtain ⟨t, rfl⟩ := r; rfl
  | ref _ => cases r; rfl
  | ty _ => cases r; rfl
theorem RelV.inj {x y : V} {u : Value} (r : RelV x u) (q : RelV y u) : x = y := Option.some.inj (r.abs.symm.trans q.abs)
theorem Vals.inj : ∀ {xs ys : List V} {us : List Value}, Vals xs us → Vals ys us → xs = ys
  | _, _, _, .nil, .nil => rfl
  | _, _, _, .cons r t, .cons r' t' => by rw [r.inj r', Vals.inj t t']
section
variable {X : Cx} {pins : List (Addr × Obj)} {σ : St} {H : Hp} {s : Shared} {a : Addr} {xs ys : List V}
theorem SqL.of {K : PySem.W.Frag} (h : H a = some (.lst xs)) : SqL K H a xs := .inl (.inl h)
theorem SqT.of {K : PySem.W.Frag} (h : H a = some (.tup xs)) : SqT K H a xs := .inl (.inl h)
theorem Inv.list (I : Inv X pins σ H s) (h : SqL X.K H a xs) : ∃ its : List Value, Vals xs its ∧ PlainL s.heap a its.toArray ∧ xs.length ≤ sizeLine := by
  rcases h with h | ⟨o, its, n, hk, hc, hd, hs, hz, r⟩
  · obtain ⟨z, its, n, r, e⟩ := h.ok I.hok
    exact ⟨its, r, ⟨_, n, e, rfl, rfl, rfl⟩, z⟩
  · refine ⟨its.toList, r, ⟨o, n, I.kIn a o hk, hc, hd, by simpa using hs⟩, ?_⟩
    have e := r.length
    simp only [Array.length_toList] at e
    omega
theorem Inv.tuple (I : Inv X pins σ H s) (h : SqT X.K H a xs) : ∃ its : List Value, Vals xs its ∧ IsTup s.heap a its.toArray ∧ xs.length ≤ sizeLine := by
  rcases h with h | ⟨o, its, n, hk, hc, hs, hz, r⟩
  · obtain ⟨z, its, r, p⟩ := h.ok I.hok
    exact ⟨its, r, p, z⟩
  · refine ⟨its.toList, r, ⟨o, I.kIn a o hk, hc, n, by simpa using hs⟩, ?_⟩
    have e := r.length
    simp only [Array.length_toList] at e
    omega
theorem Inv.list_inj (I : Inv X pins σ H s) (h : SqL X.K H a xs) (h' : SqL X.K H a ys) : xs = ys := by
  obtain ⟨its, r, ⟨o, n, e, _, _, d⟩, _⟩ := I.list h
  obtain ⟨its', r', ⟨o', n', e', _, _, d'⟩, _⟩ := I.list h'
  rw [e] at e'; cases e'
  rw [d] at d'
  injection d' with d1 _
  have : its = its' := by simpa using congrArg Array.toList d1
  subst this
  exact r.inj r'
theorem Inv.tuple_inj (I : Inv X pins σ H s) (h : SqT X.K H a xs) (h' : SqT X.K H a ys) : xs = ys := by
  obtain ⟨its, r, ⟨o, e, _, n, d⟩, _⟩ := I.tuple h
  obtain ⟨its', r', ⟨o', e', _, n', d'⟩, _⟩ := I.tuple h'
  rw [e] at e'; cases e'
  rw [d] at d'
  injection d' with d1 _
  have : its = its' := by simpa using congrArg Array.toList d1
  subst this
  exact r.inj r'
end
abbrev Cx.wish (X : Cx) (E : Value → Shared → Prop) : Cx := { X with xe := E }
abbrev Cx.nox (X : Cx) : Cx := X.wish fun _ _ => False
theorem Cx.Ok.wish {X : Cx} (ok : X.Ok) (E : Value → Shared → Prop) : (X.wish E).Ok :=
  ⟨ok.mod, ok.kind, ok.glob, ok.blt, ok.above, ok.inj, ok.has, ok.cab, ok.hd, ok.frames, ok.stk, ok.exf, ok.bs, ok.bsz, ok.noex, ok.exfs, ok.funs, ok.frf⟩
theorem Cx.Ok.unwish {X : Cx} {E : Value → Shared → Prop} (ok : (X.wish E).Ok) : X.Ok :=
  ⟨ok.mod, ok.kind, ok.glob, ok.blt, ok.above, ok.inj, ok.has, ok.cab, ok.hd, ok.frames, ok.stk, ok.exf, ok.bs, ok.bsz, ok.noex, ok.exfs, ok.funs, ok.frf⟩
section
variable {X : Cx} {pins : List (Addr × Obj)} {σ : St} {H : Hp} {s : Shared} {E : Value → Shared → Prop}
theorem Inv.wish (I : Inv X pins σ H s) (E : Value → Shared → Prop) : Inv (X.wish E) pins σ H s := ⟨I.ok.wish E, I.os, I.bare, I.base, I.loc, I.cell, I.free, I.freeC, I.pin, I.hok, I.len⟩
theorem Inv.unwish (I : Inv (X.wish E) pins σ H s) : Inv X pins σ H s := ⟨I.ok.unwish, I.os, I.bare, I.base, I.loc, I.cell, I.free, I.freeC, I.pin, I.hok, I.len⟩
theorem SP.unwish {D : Ends} {f : Flow} {s' : Shared} (h : SP (X.wish E) pins D f s') : SP X pins D f s' := by
  cases f with
  | next => obtain ⟨σ', H', I, q⟩ := h; exact ⟨σ', H', I.unwish, q⟩
  | brk => obtain ⟨σ', H', I, q⟩ := h; exact ⟨σ', H', I.unwish, q⟩
  | cont => obtain ⟨σ', H', I, q⟩ := h; exact ⟨σ', H', I.unwish, q⟩
  | ret u => obtain ⟨v, σ', H', I, r, q⟩ := h; exact ⟨v, σ', H', I.unwish, r, q⟩
theorem PSs.nox {st : List Stmt} {t : TS} (h : PSs X.nox st t) : PSs X st t := fun pins s σ H D I hw =>
  wpAny_mono (h pins s σ H D (I.wish _) hw) (fun _ _ q => q.unwish) fun _ _ z => False.elim z
end
section
variable {X : Cx} {st : Stmt} {rest : List Stmt} {t u : TS} {e : Expr} {te : TE} {pos : Pos}
def tNext : TS := fun D σ H => D.nx σ H
def tSeq (t u : TS) : TS := fun D σ H => t { D with nx := u D } σ H
theorem pss_nil : PSs X [] tNext := fun _ _ σ H _ I h => wpAny_execs_nil ⟨σ, H, I, h⟩
theorem pss_cons (h1 : PS X st t) (h2 : PSs X rest u) : PSs X (st :: rest) (tSeq t u) := by
  intro pins s σ H D I h
  refine wpAny_execs_cons (thn (h1 pins s σ H { D with nx := u D } I h) fun f s1 q => ?_)
  cases f with
  | next =>
    obtain ⟨σ', H', I', q⟩ := q
    exact h2 pins s1 σ' H' D I' q
  | ret v => exact q
  | brk => exact q
  | cont => exact q
theorem pss_one (h1 : PS X st t) : PSs X [st] t := by
  intro pins s σ H D I h
  refine wpAny_execs_cons (thn (h1 pins s σ H D I h) fun f s1 q => ?_)
  cases f with
  | next => exact wpAny_execs_nil q
  | ret v => exact q
  | brk => exact q
  | cont => exact q
theorem Inv.quiet {pins : List (Addr × Obj)} {σ : St} {H : Hp} {s : Shared} (I : Inv X pins σ H s) : interactive X.env = false := by simp [interactive, I.ok.kind]
def tDrop (te : TE) : TS := fun D σ H => te σ H fun _ H1 => D.nx σ H1
theorem ps_expr (he : PE X e te) (hs : swapsWith e none pos.line X.env = pure false := by rfl) : PS X (.Expr e pos) (tDrop te) := by
  intro pins s σ H D I h
  exact wpAny_Expr_any (thn (he pins s σ H _ I h) fun v s1 ⟨x, H1, I1, r1, q1⟩ => ⟨σ, H1, I1, q1⟩) I.quiet hs
def tRet (te : TE) : TS := fun D σ H => te σ H D.rt
theorem ps_ret (he : PE X e te) : PS X (.Return (some e) pos) (tRet te) := by
  intro pins s σ H D I h
  exact wpAny_Return_some (thn (he pins s σ H _ I h) fun v s1 ⟨x, H1, I1, r1, q1⟩ => ⟨x, σ, H1, I1, r1, q1⟩)
def tIfS (c : TT) (t u : TS) : TS := fun D σ H => c σ H fun b H1 => if b = true then t D σ H1 else u D σ H1
theorem ps_if {c : Expr} {a b : List Stmt} {tc : TT} (hc : PT X c tc) (ha : PSs X a t) (hb : PSs X b u) : PS X (.If c a b pos) (tIfS tc t u) := by
  intro pins s σ H D I h
  refine wpAny_If (thn (hc pins s σ H _ I h) fun d s1 ⟨H1, I1, q1⟩ => ?_)
  cases d with
  | true => exact ha pins s1 σ H1 D I1 q1
  | false => exact hb pins s1 σ H1 D I1 q1
def tNever : TS := fun _ _ _ => False
theorem ps_never : PS X st tNever := fun _ _ _ _ _ _ h => h.elim
end
abbrev TG := V → St → Hp → (St → Hp → Prop) → Prop
abbrev TGs := List V → St → Hp → (St → Hp → Prop) → Prop
def PG (X : Cx) (target : Expr) (t : TG) : Prop :=
  ∀ (pins : List (Addr × Obj)) (s : Shared) (σ : St) (H : Hp) (v : V) (u : Value) (Q : St → Hp → Prop), Inv X pins σ H s → RelV v u → t v σ H Q →
    wpAny (model X.prog X.w) X.A (assign target X.env u) (fun _ s' => ∃ σ' H', Inv X pins σ' H' s' ∧ Q σ' H') X.xe s
def PGs (X : Cx) (ts : List Expr) (t : TGs) : Prop :=
  ∀ (pins : List (Addr × Obj)) (s : Shared) (σ : St) (H : Hp) (vs : List V) (us : List Value) (Q : St → Hp → Prop), Inv X pins σ H s → Vals vs us → t vs σ H Q →
    wpAny (model X.prog X.w) X.A (assignInOrder ((assignEach ts X.env).map (·.2)) us) (fun _ s' => ∃ σ' H', Inv X pins σ' H' s' ∧ Q σ' H') X.xe s
abbrev TSet := V → V → V → Hp → (Hp → Prop) → Prop
def PSet (X : Cx) (t : TSet) : Prop :=
  ∀ (pins : List (Addr × Obj)) (s : Shared) (σ : St) (H : Hp) (o i v : V) (ov iv u : Value) (Q : Hp → Prop), Inv X pins σ H s → RelV o ov → RelV i iv → RelV v u → t o i v H Q →
    wpAny (model X.prog X.w) X.A (setItem ov iv u) (fun _ s' => ∃ H', Inv X pins σ H' s' ∧ Q H') X.xe s
section
variable {X : Cx} {pos : Pos}
def gName (i : Nat) : TG := fun v σ H Q => Q (σ.set i (some v)) H
theorem pg_name {i : Nat} {x : Str} (hN : X.N.Nodup) (hi : X.N[i]? = some x) (hx : Loc X.env.scope x) (hf : X.fn x = true ∨ X.env.scope.names.lookup x = some .local := by first | exact .inl rfl | exact .inr rfl | assumption) : PG X (.Name x pos) (gName i) := by
  intro pins s σ H v u Q I r h
  exact wpAny_assign_Name (store_ok I hN hi hx r (fun s' I' => ⟨_, H, I', h⟩) hf)
def gNil : TGs := fun vs σ H Q => vs = [] ∧ Q σ H
def gCons (t : TG) (u : TGs) : TGs := fun vs σ H Q => ∃ v r, vs = v :: r ∧ t v σ H fun σ' H' => u r σ' H' Q
theorem pgs_nil : PGs X [] gNil := by
  intro pins s σ H vs us Q I r h
  obtain ⟨e, h⟩ := h
  subst e
  cases r
  exact assignInOrder_nil ⟨σ, H, I, h⟩
theorem pgs_cons {e : Expr} {es : List Expr} {t : TG} {u : TGs} (h1 : PG X e t) (h2 : PGs X es u)
    (hs : (assignEach (e :: es) X.env).map (·.2) = assign e X.env :: (assignEach es X.env).map (·.2) := by rfl) : PGs X (e :: es) (gCons t u) := by
  intro pins s σ H vs us Q I r h
  obtain ⟨v, vr, e1, h⟩ := h
  subst e1
  cases r with
  | cons r rr =>
    rw [hs]
    refine assignInOrder_cons (thn (h1 pins s σ H _ _ _ I r h) fun _ s1 ⟨σ1, H1, I1, q1⟩ => ?_)
    exact h2 pins s1 σ1 H1 _ _ Q I1 rr q1
def gTup (K : PySem.W.Frag) (n : Nat) (t : TGs) : TG := fun v σ H Q => ∃ a xs, v = .ref a ∧ SqT K H a xs ∧ xs.length = n ∧ t xs σ H Q
theorem pg_tup {es : List Expr} {k : Nat} {t : TGs} {n : Nat} (hc : X.calm = true) (h : PGs X es t)
    (hn : (assignEach es X.env).length = n := by rfl) (hst : (assignEach es X.env).findIdx? (·.1) = none := by rfl) : PG X (.Tuple es k pos) (gTup X.K n t) := by
  intro pins s σ H v u Q I r hw
  obtain ⟨a, xs, e1, hq, hl, hw⟩ := hw
  subst e1
  cases r
  obtain ⟨its, rv, ht, hz⟩ := I.tuple hq
  refine assign_Tuple_tuple (I.ok.hd hc) ht (by simp [hn, ← hl, rv.length]) hst fun h' hx => ?_
  have I1 : Inv X pins σ H { s with heap := h' } := I.kept (t' := s.toks) fun b o e => hx b o (Nat.ne_of_lt (Heap.lt_size e)) e
  exact h pins _ σ H xs _ Q I1 (by simpa using rv) hw
def gSub (to ti : TE) (t : TSet) : TG := fun v σ H Q => to σ H fun o H1 => ti σ H1 fun i H2 => t o i v H2 fun H3 => Q σ H3
theorem pg_sub {o i : Expr} {to ti : TE} {t : TSet} (ho : PE X o to) (hi : PE X i ti) (hs : PSet X t)
    (ha : ∀ v, assign (.Subscript o i pos) X.env v = (do
      let ov ← holding [v] (eval o X.env)
      let iv ← holding [v, ov] (eval i X.env)
      standAt pos
      holding [v, ov, iv] (setItem ov iv v)
      release [v, ov, iv] []) := by intro _; rfl) : PG X (.Subscript o i pos) (gSub to ti t) := by
  intro pins s σ H v u Q I r h
  rw [ha]
  refine wpAny_bind (wpAny_holding (thn (ho pins s σ H _ I h) fun ov s1 ⟨x, H1, I1, r1, q1⟩ => ?_))
  refine wpAny_bind (wpAny_holding (thn (hi pins s1 σ H1 _ I1 q1) fun iv s2 ⟨y, H2, I2, r2, q2⟩ => ?_))
  refine wpAny_bind (wpAny_standAt (wpAny_bind (wpAny_holding (thn (hs pins s2 σ H2 x y v ov iv u _ I2 r1 r2 r q2) fun _ s3 ⟨H3, I3, q3⟩ => ?_))))
  exact wpAny_release ⟨σ, H3, I3, q3⟩
def tAsg (te : TE) (g : TG) : TS := fun D σ H => te σ H fun x H1 => g x σ H1 D.nx
theorem ps_asg {tg e : Expr} {te : TE} {g : TG} (he : PE X e te) (hg : PG X tg g) (hs : swapsWithSole [tg] e pos.line X.env = pure false := by rfl) (hw : swappedStores [tg] e X.env = pure none := by rfl)
    (h1 : (assignEach [tg] X.env).map (·.2) = [assign tg X.env] := by rfl) : PS X (.Assign [tg] e pos) (tAsg te g) := by
  intro pins s σ H D I h
  refine wpAny_Assign_stores (thn (he pins s σ H _ I h) fun v s1 ⟨x, H1, I1, r1, q1⟩ => ?_) hs hw
  rw [h1]
  exact thn (hg pins s1 σ H1 x v _ I1 r1 q1) fun _ s2 q => q
theorem ps_set {i : Nat} {x : Str} {e : Expr} {te : TE} {pos' : Pos} (hN : X.N.Nodup) (hi : X.N[i]? = some x) (hx : Loc X.env.scope x) (he : PE X e te) (hs : swapsWith e (some (.Name x pos')) pos.line X.env = pure false := by rfl) (hf : X.fn x = true ∨ X.env.scope.names.lookup x = some .local := by first | exact .inl rfl | exact .inr rfl | assumption) :
    PS X (.Assign [.Name x pos'] e pos) (tAsg te (gName i)) := by
  intro pins s σ H D I h
  refine wpAny_Assign_Name (thn (he pins s σ H _ I h) fun v s1 ⟨y, H1, I1, r1, q1⟩ => ?_) hs
  exact store_ok I1 hN hi hx r1 (fun s2 I2 => ⟨_, H1, I2, q1⟩) hf
end
section
variable {X : Cx} {pos : Pos}
def tWhile (c : TT) (tb : TS) : TS := fun D σ H => ∃ W : Nat → St → Hp → Prop, (∃ m, W m σ H) ∧ ∀ m σ H, W m σ H →
  c σ H fun b H1 => if b = true then ∃ N : St → Hp → Prop, (∀ σ' H', N σ' H' → ∃ m', m' < m ∧ W m' σ' H') ∧ tb { D with nx := N, ct := N, bk := D.nx } σ H1 else D.nx σ H1
theorem ps_while {c : Expr} {body : List Stmt} {tc : TT} {tb : TS} (hp : PassesOwn (model X.prog X.w) X.A X.env X.xe) (hc : PT X c tc) (hb : PSs X body tb) : PS X (.While c body [] pos) (tWhile tc tb) := by
  intro pins s σ H D I h
  obtain ⟨W, ⟨m0, w0⟩, turn⟩ := h
  refine wpAny_While (codeAny_whileLoop (fun n s' => ∃ σ' H', Inv X pins σ' H' s' ∧ W n σ' H') ?_ m0 ⟨σ, H, I, w0⟩)
  rintro n s1 ⟨σ1, H1, I1, w1⟩
  refine wpAny_passesOwn hp (thn (hc pins s1 σ1 H1 _ I1 (turn n σ1 H1 w1)) fun b s2 ⟨H2, I2, q2⟩ => ?_)
  cases b with
  | true =>
    obtain ⟨N, hN, q2⟩ := q2
    rw [if_pos rfl]
    refine wpAny_passesOwn hp (thn (hb pins s2 σ1 H2 _ I2 q2) fun f s3 q3 => ?_)
    cases f with
    | next =>
      obtain ⟨σ3, H3, I3, n3⟩ := q3
      obtain ⟨m', hm, w3⟩ := hN σ3 H3 n3
      exact ⟨m', hm, σ3, H3, I3, w3⟩
    | cont =>
      obtain ⟨σ3, H3, I3, n3⟩ := q3
      obtain ⟨m', hm, w3⟩ := hN σ3 H3 n3
      exact ⟨m', hm, σ3, H3, I3, w3⟩
    | brk => exact q3
    | ret v => exact q3
  | false =>
    rw [if_neg Bool.false_ne_true]
    exact wpAny_execs_nil ⟨σ1, H2, I2, q2⟩
end
structure It where
  go : Nat → Hp → Prop
  yld : Nat → Hp → V → Hp → Prop
  stop : Nat → Hp → Prop
def FpOk (X : Cx) (pins : List (Addr × Obj)) (H : Hp) (b : Addr) : Prop :=
  H b = none ∧ b ≠ X.env.locals ∧ b ∉ X.fs ∧ (b ∈ X.ex ∨ X.s₀.heap.objs.size ≤ b) ∧ (∀ x c, X.env.cells.lookup x = some c → c ≠ b) ∧ ∀ p ∈ X.pn ++ pins, p.1 ≠ b
theorem Inv.fpOk {X : Cx} {pins : List (Addr × Obj)} {σ : St} {H H' : Hp} {s : Shared} {b : Addr} (I : Inv X pins σ H s) (hb : s.heap.objs.size ≤ b) (hn : H' b = none) : FpOk X pins H' b := by
  refine ⟨hn, Nat.ne_of_gt (Nat.lt_of_lt_of_le I.lt hb), I.nofs hb, .inr (Nat.le_trans I.sz hb), fun x c e z => ?_, fun p hp z => ?_⟩
  · obtain ⟨v, q⟩ := I.cell x c e
    exact absurd (Nat.lt_of_lt_of_le q.lt (by rw [z]; exact hb)) (Nat.lt_irrefl _)
  · exact absurd (Nat.lt_of_lt_of_le (Heap.lt_size (I.pin p hp).1) (by rw [z]; exact hb)) (Nat.lt_irrefl _)
structure Turn (P : Program) (w : World) (K : PySem.W.Frag) (tg : Expr) (J : It) (fp : List Addr) (it : Addr) (tn : Nat → Heap → Prop) : Prop where
  mem : it ∈ fp
  obj : ∀ i h, tn i h → ∀ b ∈ fp, ∃ o, h.get? b = some o ∧ ∀ v, o.data ≠ .cell v
  keep : ∀ i h h', tn i h → (∀ b ∈ fp, ∀ o, h.get? b = some o → h'.get? b = some o) → tn i h'
  item : ∀ (X : Cx), X.prog = P → X.w = w → X.K = K → X.calm = true → ∀ (i : Nat) (pins : List (Addr × Obj)) (s : Shared) (σ : St) (H : Hp) (E : Value → Shared → Prop), Inv X pins σ H s → (∀ b ∈ fp, FpOk X pins H b) → tn i s.heap → J.go i H →
    wpAny (model P w) X.A (pyNext (.ref it)) (fun r s1 => ∃ u, r = some u ∧
      wpAny (model P w) X.A (letOwnedTupleGo tg (.ref it) u) (fun _ s2 => ∃ x H', Inv X pins σ H' s2 ∧ RelV x u ∧ J.yld i H x H' ∧ tn (i + 1) s2.heap ∧ ∀ b ∈ fp, H' b = none) E s1) E s
  done : ∀ (X : Cx), X.prog = P → X.w = w → X.K = K → X.calm = true → ∀ (i : Nat) (pins : List (Addr × Obj)) (s : Shared) (σ : St) (H : Hp) (E : Value → Shared → Prop), Inv X pins σ H s → (∀ b ∈ fp, FpOk X pins H b) → tn i s.heap → J.stop i H →
    wpAny (model P w) X.A (pyNext (.ref it)) (fun r s1 => r = none ∧ Inv X pins σ H s1) E s
  self : ∀ (A : Around) (i : Nat) (s : Shared) (Q : Value → Shared → Prop) (E : Value → Shared → Prop), tn i s.heap → Q (.ref it) s → wpAny (model P w) A (pyIter (.ref it)) Q E s
abbrev TI := St → Hp → (It → Hp → Prop) → Prop
def PIE (X : Cx) (pins : List (Addr × Obj)) (σ : St) (tg : Expr) (R : It → Hp → Prop) (itv : Value) (s2 : Shared) : Prop :=
  ∃ (it : Addr) (fp : List Addr) (tn : Nat → Heap → Prop) (J : It) (H' : Hp), itv = .ref it ∧ Inv X pins σ H' s2 ∧ Turn X.prog X.w X.K tg J fp it tn ∧ tn 0 s2.heap ∧ (∀ b ∈ fp, FpOk X pins H' b) ∧ R J H'
def PI (X : Cx) (tg iter : Expr) (wi : TI) : Prop :=
  ∀ (pins : List (Addr × Obj)) (s : Shared) (σ : St) (H : Hp) (R : It → Hp → Prop), Inv X pins σ H s → wi σ H R →
    wpAny (model X.prog X.w) X.A (eval iter X.env) (fun v s1 => wpAny (model X.prog X.w) X.A (pyIter v) (PIE X pins σ tg R) X.xe s1) X.xe s
theorem go_of {M : Model} {A : Around} {E : Value → Shared → Prop} {s : Shared} {tg : Expr} {it : Addr} {u : Value} {o : Obj} {n : String} {vs : Array Value} {Q : Unit → Shared → Prop} (ho : s.heap.get? it = some o) (hc : o.cls = .type n) (hd : o.data = .fields vs)
    (hn : ["enumerate", "zip", "dict_itemiterator", "dict_reverseitemiterator", "odict_iterator", "itertools.zip_longest", "itertools.pairwise"].contains n = false) (hQ : Q () s) : wpAny M A (letOwnedTupleGo tg (.ref it) u) Q E s := by
  unfold letOwnedTupleGo
  cases tg <;> first
    | exact wpAny_pure hQ
    | (cases u <;> first
        | exact wpAny_pure hQ
        | (refine wpAny_bind (wpAny_load ho ?_)
           rw [hc, hd]
           show wpAny M A (if (["enumerate", "zip", "dict_itemiterator", "dict_reverseitemiterator", "odict_iterator", "itertools.zip_longest", "itertools.pairwise"].contains n && vs[0]? == some (rawInt _)) = true then _ else _) Q E s
           rw [if_neg (by intro h; rw [hn, Bool.false_and] at h; cases h)]
           exact wpAny_pure hQ))
def Itl (K : PySem.W.Frag) (a : Addr) : It :=
  ⟨fun i H => ∃ xs x, SqL K H a xs ∧ xs[i]? = some x, fun i H x H' => H' = H ∧ ∀ xs, SqL K H a xs → xs[i]? = some x, fun i H => ∃ xs, SqL K H a xs ∧ xs.length ≤ i⟩
def Itt (K : PySem.W.Frag) (a : Addr) : It :=
  ⟨fun i H => ∃ xs x, SqT K H a xs ∧ xs[i]? = some x, fun i H x H' => H' = H ∧ ∀ xs, SqT K H a xs → xs[i]? = some x, fun i H => ∃ xs, SqT K H a xs ∧ xs.length ≤ i⟩
def Itr (lo : Int) (n : Nat) : It := ⟨fun i _ => i < n, fun i H x H' => H' = H ∧ x = .int (lo + i), fun i _ => n ≤ i⟩
theorem turn_list {P : Program} {w : World} {K : PySem.W.Frag} {tg : Expr} (a it : Addr) : Turn P w K tg (Itl K a) [it] it (fun i h => h.IsListIter it a i) where
  mem := by simp
  obj := fun i h st b hb => by
    have e : b = it := by simpa using hb
    subst e
    obtain ⟨o, e, c, d⟩ := st
    exact ⟨o, e, fun v z => by rw [d] at z; cases z⟩
  keep := fun i h h' st k => st.at fun o e => k it (by simp) o e
  item := by
    intro X hP hw hK hc i pins s σ H E I hf st hg
    subst hP hw hK
    obtain ⟨xs, x, hq, hx⟩ := hg
    obtain ⟨its, rv, p, hz⟩ := I.list hq
    obtain ⟨u, hu, ru⟩ := rv.get hx
    obtain ⟨f0, f1, f2, f3, f4, f5⟩ := hf it (by simp)
    refine wpAny_pyNext_list_item st p.isList (x := u) (by simpa using hu) fun h' st' sb => ?_
    have I1 : Inv X pins σ H { s with heap := h' } := I.turned (t' := s.toks) (fun b o hb e => (sb.2 b hb).trans e) f0 f1 f3 f4 f5
    obtain ⟨o, e, c, d⟩ := id st'
    exact ⟨u, rfl, go_of (s := { s with heap := h' }) e c d (by decide) ⟨x, H, I1, ru, ⟨rfl, fun ys hy => by rw [I.list_inj hy hq]; exact hx⟩, st', fun b hb => (hf b hb).1⟩⟩
  done := by
    intro X hP hw hK hc i pins s σ H E I hf st hg
    subst hP hw hK
    obtain ⟨xs, hq, hx⟩ := hg
    obtain ⟨its, rv, p, hz⟩ := I.list hq
    obtain ⟨f0, f1, f2, f3, f4, f5⟩ := hf it (by simp)
    have hl := rv.length
    exact wpAny_pyNext_list_end (I.ok.hd hc) st p.isList (by simp; omega) fun h' eb => ⟨rfl, I.turned (t' := s.toks) (fun b o hb e => eb b o hb e) f0 f1 f3 f4 f5⟩
  self := fun _ _ _ _ _ st h => wpAny_pyIter_listiter st h
theorem turn_tuple {P : Program} {w : World} {K : PySem.W.Frag} {tg : Expr} (a it : Addr) : Turn P w K tg (Itt K a) [it] it (fun i h => h.IsTupleIter it a i) where
  mem := by simp
  obj := fun i h st b hb => by
    have e : b = it := by simpa using hb
    subst e
    obtain ⟨o, e, c, d⟩ := st
    exact ⟨o, e, fun v z => by rw [d] at z; cases z⟩
  keep := fun i h h' st k => st.at fun o e => k it (by simp) o e
  item := by
    intro X hP hw hK hc i pins s σ H E I hf st hg
    subst hP hw hK
    obtain ⟨xs, x, hq, hx⟩ := hg
    obtain ⟨its, rv, p, hz⟩ := I.tuple hq
    obtain ⟨u, hu, ru⟩ := rv.get hx
    obtain ⟨f0, f1, f2, f3, f4, f5⟩ := hf it (by simp)
    refine wpAny_pyNext_tuple_item st (show s.heap.IsTuple a its.toArray from p) (x := u) (by simpa using hu) fun h' st' sb => ?_
    have I1 : Inv X pins σ H { s with heap := h' } := I.turned (t' := s.toks) (fun b o hb e => (sb.2 b hb).trans e) f0 f1 f3 f4 f5
    obtain ⟨o, e, c, d⟩ := id st'
    exact ⟨u, rfl, go_of (s := { s with heap := h' }) e c d (by decide) ⟨x, H, I1, ru, ⟨rfl, fun ys hy => by rw [I.tuple_inj hy hq]; exact hx⟩, st', fun b hb => (hf b hb).1⟩⟩
  done := by
    intro X hP hw hK hc i pins s σ H E I hf st hg
    subst hP hw hK
    obtain ⟨xs, hq, hx⟩ := hg
    obtain ⟨its, rv, p, hz⟩ := I.tuple hq
    obtain ⟨f0, f1, f2, f3, f4, f5⟩ := hf it (by simp)
    have hl := rv.length
    exact wpAny_pyNext_tuple_end (I.ok.hd hc) st (show s.heap.IsTuple a its.toArray from p) (by simp; omega) fun h' eb => ⟨rfl, I.turned (t' := s.toks) (fun b o hb e => eb b o hb e) f0 f1 f3 f4 f5⟩
  self := fun _ _ _ _ _ st h => wpAny_pyIter_tupleiter st h
theorem turn_range {P : Program} {w : World} {K : PySem.W.Frag} {tg : Expr} (it : Addr) (lo : Int) (n : Nat) : Turn P w K tg (Itr lo n) [it] it (fun i h => IsRangeIter h it (lo + (i : Nat) * 1) ((n : Int) - (i : Nat)) 1) where
  mem := by simp
  obj := fun i h st b hb => by
    have e : b = it := by simpa using hb
    subst e
    exact ⟨_, st, fun v z => by
      have z' : Data.fields _ = Data.cell v := z
      cases z'⟩
  keep := fun i h h' st k => k it (by simp) _ st
  item := by
    intro X hP hw hK hc i pins s σ H E I hf st hg
    subst hP hw hK
    obtain ⟨f0, f1, f2, f3, f4, f5⟩ := hf it (by simp)
    have W := Walks.range (prog := X.prog) (w := X.w) (I.ok.hd hc) it lo 1 n
    refine W.item i s _ _ hg st fun v h' tk hv st' kk => ?_
    obtain ⟨t, rfl⟩ := hv
    have I1 : Inv X pins σ H { s with heap := h', toks := tk } := I.turned (fun b o hb e => kk b o (by simpa using hb) e) f0 f1 f3 f4 f5
    refine ⟨_, rfl, go_of (s := { s with heap := h', toks := tk }) (n := "range_iterator") st' rfl rfl (by decide) ⟨.int (lo + i), H, I1, ⟨t, ?_⟩, ⟨rfl, rfl⟩, st', fun b hb => (hf b hb).1⟩⟩
    rw [Int.mul_one]
  done := by
    intro X hP hw hK hc i pins s σ H E I hf st hg
    subst hP hw hK
    obtain ⟨f0, f1, f2, f3, f4, f5⟩ := hf it (by simp)
    exact wpAny_pyNext_range_end (I.ok.hd hc) st (by have : n ≤ i := hg; omega) fun h' eb => ⟨rfl, I.turned (t' := s.toks) (fun b o hb e => eb b o hb e) f0 f1 f3 f4 f5⟩
  self := fun _ _ _ _ _ st h => wpAny_pyIter_rangeiter st h
end L2
namespace L2
open PySem PySem.Spec PyProof.Rows
section
variable {X : Cx} {tg : Expr}
def iList (K : PySem.W.Frag) (tl : TE) : TI := fun σ H R => tl σ H fun x H1 => ∃ a, x = .ref a ∧ (∃ xs, SqL K H1 a xs) ∧ R (Itl K a) H1
def iTup (K : PySem.W.Frag) (tl : TE) : TI := fun σ H R => tl σ H fun x H1 => ∃ a, x = .ref a ∧ (∃ xs, SqT K H1 a xs) ∧ R (Itt K a) H1
theorem pi_list {l : Expr} {tl : TE} (hl : PE X l tl) : PI X tg l (iList X.K tl) := by
  intro pins s σ H R I h
  refine thn (hl pins s σ H _ I h) fun v s1 ⟨x, H1, I1, r1, q1⟩ => ?_
  obtain ⟨a, e, ⟨xs, hq⟩, q⟩ := q1
  subst e
  cases r1
  obtain ⟨its, rv, p, hz⟩ := I1.list hq
  refine wpAny_pyIter_list p.isList ?_
  refine ⟨s1.heap.objs.size, [s1.heap.objs.size], _, _, H1, rfl, I1.kept (t' := s1.toks) fun b o e => Heap.get?_push_of_some _ e, turn_list a _, ⟨_, Heap.get?_push_size _ rfl, rfl, rfl⟩, fun b hb => ?_, q⟩
  have e : b = s1.heap.objs.size := by simpa using hb
  subst e
  exact I1.fpOk (Nat.le_refl _) (I1.hok.fresh (Nat.le_refl _))
theorem pi_tup {l : Expr} {tl : TE} (hl : PE X l tl) : PI X tg l (iTup X.K tl) := by
  intro pins s σ H R I h
  refine thn (hl pins s σ H _ I h) fun v s1 ⟨x, H1, I1, r1, q1⟩ => ?_
  obtain ⟨a, e, ⟨xs, hq⟩, q⟩ := q1
  subst e
  cases r1
  obtain ⟨its, rv, p, hz⟩ := I1.tuple hq
  refine wpAny_pyIter_tuple (show s1.heap.IsTuple a its.toArray from p) ?_
  refine ⟨s1.heap.objs.size, [s1.heap.objs.size], _, _, H1, rfl, I1.kept (t' := s1.toks) fun b o e => Heap.get?_push_of_some _ e, turn_tuple a _, ⟨_, Heap.get?_push_size _ rfl, rfl, rfl⟩, fun b hb => ?_, q⟩
  have e : b = s1.heap.objs.size := by simpa using hb
  subst e
  exact I1.fpOk (Nat.le_refl _) (I1.hok.fresh (Nat.le_refl _))
theorem range_it {pins : List (Addr × Obj)} {σ : St} {H : Hp} {s : Shared} {R : It → Hp → Prop} {E : Value → Shared → Prop} {lo hi : Int} {t u v : Tok} {tk : Nat} (I : Inv X pins σ H s) (h1 : -(2 ^ 62) ≤ lo) (h2 : lo < 2 ^ 62) (h3 : -(2 ^ 62) ≤ hi) (h4 : hi < 2 ^ 62)
    (q : R (Itr lo (hi - lo).toNat) H) : wpAny (model X.prog X.w) X.A (pyIter (.ref s.heap.objs.size)) (PIE X pins σ tg R) E { s with heap := s.heap.push { cls := .type "range", data := .fields #[.int lo t, .int hi u, .int 1 v] }, toks := tk } := by
  refine wpAny_pyIter_range (IsRange.new ..) (small_one h1 h2 h3 h4) ?_
  have I1 : Inv X pins σ H { s with heap := s.heap.push { cls := .type "range", data := .fields #[.int lo t, .int hi u, .int 1 v] }, toks := tk } := I.kept fun b o e => Heap.get?_push_of_some _ e
  refine ⟨(s.heap.push { cls := .type "range", data := .fields #[.int lo t, .int hi u, .int 1 v] }).objs.size, [(s.heap.push { cls := .type "range", data := .fields #[.int lo t, .int hi u, .int 1 v] }).objs.size], _, _, H, rfl,
    I1.kept (t' := tk) fun b o e => Heap.get?_push_of_some _ e, turn_range _ lo (hi - lo).toNat, ?_, fun b hb => ?_, q⟩
  · have e1 : lo + ((0 : Nat) : Int) * 1 = lo := by simp
    have e2 : (((hi - lo).toNat : Nat) : Int) - ((0 : Nat) : Int) = Builtin.Range.rangeSize lo hi 1 := by rw [rangeSize_one]; split <;> omega
    show IsRangeIter _ _ (lo + ((0 : Nat) : Int) * 1) ((((hi - lo).toNat : Nat) : Int) - ((0 : Nat) : Int)) 1
    rw [e1, e2]
    exact Heap.get?_push_size _ rfl
  · have e : b = (s.heap.push { cls := .type "range", data := .fields #[.int lo t, .int hi u, .int 1 v] }).objs.size := by simpa using hb
    subst e
    exact I1.fpOk (Nat.le_refl _) (I1.hok.fresh (Nat.le_refl _))
def iRng1 (ta : TA) : TI := fun σ H R => ta σ H fun vs H1 => ∃ j : Int, vs = [.int j] ∧ -(2 ^ 62) ≤ j ∧ j < 2 ^ 62 ∧ R (Itr 0 j.toNat) H1
def iRng2 (ta : TA) : TI := fun σ H R => ta σ H fun vs H1 => ∃ i j : Int, vs = [.int i, .int j] ∧ (-(2 ^ 62) ≤ i ∧ i < 2 ^ 62 ∧ -(2 ^ 62) ≤ j ∧ j < 2 ^ 62) ∧ R (Itr i (j - i).toNat) H1
theorem pi_range1 {a : Expr} {ta : TA} {p pos : Pos} (hg : Gl X "range") (hm : X.mg "range" = none) (ha : PA X [a] ta) (hs : starEach [a] X.env = [(false, eval a X.env)] := by rfl) : PI X tg (.Call (.Name "range" p) [a] [] pos) (iRng1 ta) := by
  intro pins s σ H R I h
  refine Call_ (ld_blt I hg hm boot_range (PyProof.Rows.callWith_type1 (thn (ha pos pins s σ H _ I h) fun us s1 ⟨vs, H1, I1, r1, q1⟩ => ?_) hs rfl))
  obtain ⟨j, e, q1, q2, q⟩ := q1
  subst e
  cases r1 with
  | cons r rr =>
    cases rr
    obtain ⟨t, rfl⟩ := r
    exact call_range_1 (range_it I1 (by omega) (by omega) q1 q2 (by simpa using q))
theorem pi_range2 {a b : Expr} {ta : TA} {p pos : Pos} (hg : Gl X "range") (hm : X.mg "range" = none) (ha : PA X [a, b] ta) (hs : starEach [a, b] X.env = [(false, eval a X.env), (false, eval b X.env)] := by rfl) (hs2 : starEach [b] X.env = [(false, eval b X.env)] := by rfl) :
    PI X tg (.Call (.Name "range" p) [a, b] [] pos) (iRng2 ta) := by
  intro pins s σ H R I h
  refine Call_ (ld_blt I hg hm boot_range (PyProof.Rows.callWith_type1 (thn (ha pos pins s σ H _ I h) fun us s1 ⟨vs, H1, I1, r1, q1⟩ => ?_) (by rw [hs, hs2]) (by rw [hs2]; rfl)))
  obtain ⟨i, j, e, ⟨q1, q2, q3, q4⟩, q⟩ := q1
  subst e
  cases r1 with
  | cons r rr =>
    cases rr with
    | cons r' rr =>
      cases rr
      obtain ⟨t, rfl⟩ := r
      obtain ⟨t', rfl⟩ := r'
      exact call_range_2 (range_it I1 q1 q2 q3 q4 q)
def tFor (wi : TI) (g : TG) (tb : TS) : TS := fun D σ H => wi σ H fun J H1 => ∃ W : Nat → Nat → St → Hp → Prop, (∃ m, W 0 m σ H1) ∧ ∀ i m σ H, W i m σ H →
  (J.stop i H ∧ D.nx σ H) ∨ (J.go i H ∧ ∃ N : St → Hp → Prop, (∀ σ' H', N σ' H' → ∃ m', m' < m ∧ W (i + 1) m' σ' H') ∧ ∀ x H', J.yld i H x H' → g x σ H' fun σ2 H2 => tb { D with nx := N, ct := N, bk := D.nx } σ2 H2)
def pinsAt (fp : List Addr) (h : Heap) : List (Addr × Obj) := fp.filterMap fun b => (h.get? b).map fun o => (b, o)
theorem mem_pinsAt {fp : List Addr} {h : Heap} {b : Addr} {o : Obj} (hb : b ∈ fp) (e : h.get? b = some o) : (b, o) ∈ pinsAt fp h := List.mem_filterMap.mpr ⟨b, hb, by rw [e]; rfl⟩
theorem of_pinsAt {fp : List Addr} {h : Heap} {p : Addr × Obj} (hp : p ∈ pinsAt fp h) : p.1 ∈ fp ∧ h.get? p.1 = some p.2 := by
  obtain ⟨b, hb, e⟩ := List.mem_filterMap.mp hp
  cases q : h.get? b with
  | none => rw [q] at e; cases e
  | some o =>
    rw [q] at e
    have e' : (b, o) = p := Option.some.inj e
    subst e'
    exact ⟨hb, q⟩
theorem Inv.pinned {pins : List (Addr × Obj)} {σ : St} {H : Hp} {s : Shared} {fp : List Addr} (I : Inv X pins σ H s) (hf : ∀ b ∈ fp, FpOk X pins H b) (ho : ∀ b ∈ fp, ∃ o, s.heap.get? b = some o ∧ ∀ v, o.data ≠ .cell v) : Inv X (pins ++ pinsAt fp s.heap) σ H s :=
  I.pins_of fun p hp => (List.mem_append.mp hp).elim (fun z => I.pin p (List.mem_append_right _ z)) fun z => by
    obtain ⟨hb, e⟩ := of_pinsAt z
    obtain ⟨f0, f1, f2, _⟩ := hf p.1 hb
    obtain ⟨o, e', d⟩ := ho p.1 hb
    rw [e] at e'; cases e'
    exact ⟨e, f0, f1, f2, d⟩
theorem Inv.unpinned {pins pl : List (Addr × Obj)} {σ : St} {H : Hp} {s : Shared} (I : Inv X (pins ++ pl) σ H s) : Inv X pins σ H s := I.pins_of fun p hp => I.pin p (List.mem_append_right _ (List.mem_append_left _ hp))
theorem ps_for {iter : Expr} {body : List Stmt} {wi : TI} {g : TG} {tb : TS} {pos : Pos} (hp : PassesOwn (model X.prog X.w) X.A X.env X.xe) (hc : X.calm = true) (hi : PI X tg iter wi) (hg : PG X tg g) (hb : PSs X body tb)
    (hs : ∀ x, foldedSetIterable iter X.env x = pure x := by intro _; rfl) : PS X (.For tg iter body [] pos) (tFor wi g tb) := by
  intro pins s σ H D I h
  refine wpAny_For (thn (hi pins s σ H _ I h) fun v s1 h1 => thn h1 fun itv s2 h2 => ?_) hs
  obtain ⟨it, fp, tn, J, H2, e, I2, T, st2, f2, W, ⟨m0, w0⟩, turn⟩ := h2
  subst e
  -- what stays true of the iterator's objects through the loop
  have stat : ∀ {H' : Hp}, (∀ b ∈ fp, H' b = none) → ∀ b ∈ fp, FpOk X pins H' b := fun hn b hb => ⟨hn b hb, (f2 b hb).2⟩
  refine codeAny_forLoop_any (fun n s' => ∃ i σ' H', Inv X pins σ' H' s' ∧ tn i s'.heap ∧ (∀ b ∈ fp, H' b = none) ∧ W i n σ' H') ?_ m0 ⟨0, σ, H2, I2, st2, fun b hb => (f2 b hb).1, w0⟩
  rintro n s3 ⟨i, σ3, H3, I3, st3, fr3, w3⟩
  rcases turn i n σ3 H3 w3 with ⟨stop, qn⟩ | ⟨go, N, hN, step⟩
  · refine wpAny_passesOwn hp (thn (T.done X rfl rfl rfl hc i pins s3 σ3 H3 X.xe I3 (stat fr3) st3 stop) fun r s4 ⟨hr, I4⟩ => ?_)
    subst hr
    exact wpAny_execs_nil ⟨σ3, H3, I4, qn⟩
  · refine wpAny_passesOwn hp (thn (T.item X rfl rfl rfl hc i pins s3 σ3 H3 X.xe I3 (stat fr3) st3 go) fun r s4 ⟨u, hr, h4⟩ => ?_)
    subst hr
    refine wpAny_passesOwn hp (thn h4 fun _ s5 ⟨x, H5, I5, r5, y5, st5, fr5⟩ => ?_)
    have I5' := I5.pinned (stat fr5) (T.obj _ _ st5)
    refine wpAny_passesOwn hp (thn (hg _ s5 σ3 H5 x u _ I5' r5 (step x H5 y5)) fun _ s6 ⟨σ6, H6, I6, q6⟩ => ?_)
    refine wpAny_passesOwn hp (thn (hb _ s6 σ6 H6 _ I6 q6) fun f s7 q7 => ?_)
    have again : ∀ {σ7 : St} {H7 : Hp}, Inv X (pins ++ pinsAt fp s5.heap) σ7 H7 s7 → N σ7 H7 → ∃ m, m < n ∧ ∃ i σ' H', Inv X pins σ' H' s7 ∧ tn i s7.heap ∧ (∀ b ∈ fp, H' b = none) ∧ W i m σ' H' := fun {σ7 H7} I7 n7 => by
      obtain ⟨m', hm, w7⟩ := hN σ7 H7 n7
      refine ⟨m', hm, i + 1, σ7, H7, I7.unpinned, T.keep _ _ _ st5 fun b hb o e => (I7.pin (b, o) (List.mem_append_right _ (List.mem_append_right _ (mem_pinsAt hb e)))).1, fun b hb => ?_, w7⟩
      obtain ⟨o, e, d⟩ := T.obj _ _ st5 b hb
      exact (I7.pin (b, o) (List.mem_append_right _ (List.mem_append_right _ (mem_pinsAt hb e)))).2.1
    cases f with
    | next => obtain ⟨σ7, H7, I7, n7⟩ := q7; exact again I7 n7
    | cont => obtain ⟨σ7, H7, I7, n7⟩ := q7; exact again I7 n7
    | brk => obtain ⟨σ7, H7, I7, q7⟩ := q7; exact ⟨σ7, H7, I7.unpinned, q7⟩
    | ret v => obtain ⟨x7, σ7, H7, I7, r7, q7⟩ := q7; exact ⟨x7, σ7, H7, I7.unpinned, r7, q7⟩
end
theorem for_list {K : PySem.W.Frag} {a : Addr} {xs : List V} {g : TG} {tb : TS} {D : Ends} {σ : St} {H : Hp} (Pv : Nat → St → Hp → Prop) (h0 : Pv 0 σ H) (hl : ∀ i σ H, i ≤ xs.length → Pv i σ H → SqL K H a xs)
    (hs : ∀ i x σ H, xs[i]? = some x → Pv i σ H → g x σ H fun σ2 H2 => tb { D with nx := Pv (i + 1), ct := Pv (i + 1), bk := D.nx } σ2 H2) (hd : ∀ σ H, Pv xs.length σ H → D.nx σ H) :
    ∃ W : Nat → Nat → St → Hp → Prop, (∃ m, W 0 m σ H) ∧ ∀ i m σ H, W i m σ H →
      ((Itl K a).stop i H ∧ D.nx σ H) ∨ ((Itl K a).go i H ∧ ∃ N : St → Hp → Prop, (∀ σ' H', N σ' H' → ∃ m', m' < m ∧ W (i + 1) m' σ' H') ∧ ∀ x H', (Itl K a).yld i H x H' → g x σ H' fun σ2 H2 => tb { D with nx := N, ct := N, bk := D.nx } σ2 H2) := by
  refine ⟨fun i m σ H => m = xs.length - i ∧ i ≤ xs.length ∧ Pv i σ H, ⟨xs.length, by simp, Nat.zero_le _, h0⟩, ?_⟩
  rintro i m σ H ⟨rfl, hi, p⟩
  have q := hl i σ H hi p
  by_cases hlt : i < xs.length
  · refine .inr ⟨⟨xs, xs[i], q, by simp [hlt]⟩, Pv (i + 1), fun σ' H' p' => ⟨xs.length - (i + 1), by omega, rfl, hlt, p'⟩, fun x H' y => ?_⟩
    obtain ⟨e, y⟩ := y
    subst e
    exact hs i x σ _ (y xs q) p
  · have e : i = xs.length := by omega
    subst e
    exact .inl ⟨⟨xs, q, Nat.le_refl _⟩, hd σ H p⟩
theorem for_range {lo : Int} {n : Nat} {g : TG} {tb : TS} {D : Ends} {σ : St} {H : Hp} (Pv : Nat → St → Hp → Prop) (h0 : Pv 0 σ H)
    (hs : ∀ i σ H, i < n → Pv i σ H → g (.int (lo + i)) σ H fun σ2 H2 => tb { D with nx := Pv (i + 1), ct := Pv (i + 1), bk := D.nx } σ2 H2) (hd : ∀ σ H, Pv n σ H → D.nx σ H) :
    ∃ W : Nat → Nat → St → Hp → Prop, (∃ m, W 0 m σ H) ∧ ∀ i m σ H, W i m σ H →
      ((Itr lo n).stop i H ∧ D.nx σ H) ∨ ((Itr lo n).go i H ∧ ∃ N : St → Hp → Prop, (∀ σ' H', N σ' H' → ∃ m', m' < m ∧ W (i + 1) m' σ' H') ∧ ∀ x H', (Itr lo n).yld i H x H' → g x σ H' fun σ2 H2 => tb { D with nx := N, ct := N, bk := D.nx } σ2 H2) := by
  refine ⟨fun i m σ H => m = n - i ∧ i ≤ n ∧ Pv i σ H, ⟨n, by simp, Nat.zero_le _, h0⟩, ?_⟩
  rintro i m σ H ⟨rfl, hi, p⟩
  by_cases hlt : i < n
  · refine .inr ⟨hlt, Pv (i + 1), fun σ' H' p' => ⟨n - (i + 1), by omega, rfl, hlt, p'⟩, fun x H' y => ?_⟩
    obtain ⟨e, y⟩ := y
    subst e y
    exact hs i σ _ hlt p
  · have e : i = n := by omega
    subst e
    exact .inl ⟨Nat.le_refl _, hd σ H p⟩
end L2
namespace L2
open PySem PySem.Spec PyProof.Rows
abbrev R2 := V → V → Hp → VK → Prop
def OpR (X : Cx) (f : Value → Value → Sem Value) (r : R2) : Prop :=
  ∀ (pins : List (Addr × Obj)) (s : Shared) (σ : St) (H : Hp) (x y : V) (v u : Value) (Q : VK), Inv X pins σ H s → RelV x v → RelV y u → r x y H Q →
    wpAny (model X.prog X.w) X.A (f v u) (EP X pins σ Q) X.xe s
def UnR (X : Cx) (f : Value → Sem Value) (r : V → Hp → VK → Prop) : Prop :=
  ∀ (pins : List (Addr × Obj)) (s : Shared) (σ : St) (H : Hp) (x : V) (v : Value) (Q : VK), Inv X pins σ H s → RelV x v → r x H Q →
    wpAny (model X.prog X.w) X.A (f v) (EP X pins σ Q) X.xe s
def CallR (X : Cx) (f : Value) (r : List V → Hp → VK → Prop) : Prop :=
  ∀ (pins : List (Addr × Obj)) (s : Shared) (σ : St) (H : Hp) (xs : List V) (us : List Value) (Q : VK), Inv X pins σ H s → Vals xs us → r xs H Q →
    wpAny (model X.prog X.w) X.A (call f us) (EP X pins σ Q) X.xe s
def tOp (r : R2) (ta tb : TE) : TE := fun σ H Q => ta σ H fun x H1 => tb σ H1 fun y H2 => r x y H2 Q
def tUn (r : V → Hp → VK → Prop) (ta : TE) : TE := fun σ H Q => ta σ H fun x H1 => r x H1 Q
def rI (C : Int → Int → Prop) (g : Int → Int → V) : R2 := fun x y H Q => ∃ i j, x = .int i ∧ y = .int j ∧ C i j ∧ Q (g i j) H
def rI0 (g : Int → Int → V) : R2 := fun x y H Q => ∃ i j, x = .int i ∧ y = .int j ∧ Q (g i j) H
def rU (g : Int → V) : V → Hp → VK → Prop := fun x H Q => ∃ i, x = .int i ∧ Q (g i) H
section
variable {X : Cx} {a b c : Expr} {ta tb tc : TE} {pos : Pos}
theorem binT (ha : PE X a ta) (hb : PE X b tb) {pins : List (Addr × Obj)} {s : Shared} {σ : St} {H : Hp} {R : V → V → Hp → Prop} (I : Inv X pins σ H s)
    (h : ta σ H fun x H1 => tb σ H1 fun y H2 => R x y H2) {Q : Value → Shared → Prop} {f : Value → Value → Sem Value}
    (hf : ∀ v u s2 x y H2, Inv X pins σ H2 s2 → RelV x v → RelV y u → R x y H2 → wpAny (model X.prog X.w) X.A (f v u) Q X.xe s2) :
    wpAny (model X.prog X.w) X.A (eval a X.env) (fun v s₁ => wpAny (model X.prog X.w) X.A (eval b X.env) (fun u s₂ => wpAny (model X.prog X.w) X.A (f v u) Q X.xe s₂) X.xe s₁) X.xe s := by
  refine thn (ha pins s σ H _ I h) fun v s1 ⟨x, H1, I1, r1, q1⟩ => ?_
  refine thn (hb pins s1 σ H1 _ I1 q1) fun u s2 ⟨y, H2, I2, r2, q2⟩ => ?_
  exact hf v u s2 x y H2 I2 r1 r2 q2
theorem pe_op {op : Operator} {r : R2} (ho : OpR X (binaryOp op) r) (ha : PE X a ta) (hb : PE X b tb) : PE X (.BinOp a op b pos) (tOp r ta tb) := by
  intro pins s σ H Q I h
  exact wpAny_BinOp (binT ha hb I h fun v u s2 x y H2 I2 rx ry q => ho pins s2 σ H2 x y v u Q I2 rx ry q)
theorem pe_un {op : UnaryOp} {r : V → Hp → VK → Prop} (ho : UnR X (unaryOp op) r) (ha : PE X a ta) : PE X (.UnaryOp op a pos) (tUn r ta) := by
  intro pins s σ H Q I h
  exact UnaryOp_ (thn (ha pins s σ H _ I h) fun v s1 ⟨x, H1, I1, r1, q1⟩ => ho pins s1 σ H1 x v Q I1 r1 q1)
theorem opI {f : Value → Value → Sem Value} {C : Int → Int → Prop} {g : Int → Int → Int}
    (rule : ∀ (i j : Int) (t u : Tok) (s : Shared) (Q : Value → Shared → Prop) (E : Value → Shared → Prop), C i j → Q (.int (g i j) s.toks) { s with toks := s.toks + 1 } → wpAny (model X.prog X.w) X.A (f (.int i t) (.int j u)) Q E s) :
    OpR X f (rI C fun i j => .int (g i j)) := by
  intro pins s σ H x y v u Q I rx ry h
  obtain ⟨i, j, rfl, rfl, hc, q⟩ := h
  obtain ⟨t, rfl⟩ := rx
  obtain ⟨t', rfl⟩ := ry
  exact rule i j t t' s _ _ hc ⟨.int (g i j), H, I.tok _, ⟨_, rfl⟩, q⟩
theorem opI0 {f : Value → Value → Sem Value} {g : Int → Int → Int}
    (rule : ∀ (i j : Int) (t u : Tok) (s : Shared) (Q : Value → Shared → Prop) (E : Value → Shared → Prop), Q (.int (g i j) s.toks) { s with toks := s.toks + 1 } → wpAny (model X.prog X.w) X.A (f (.int i t) (.int j u)) Q E s) :
    OpR X f (rI0 fun i j => .int (g i j)) := by
  intro pins s σ H x y v u Q I rx ry h
  obtain ⟨i, j, rfl, rfl, q⟩ := h
  obtain ⟨t, rfl⟩ := rx
  obtain ⟨t', rfl⟩ := ry
  exact rule i j t t' s _ _ ⟨.int (g i j), H, I.tok _, ⟨_, rfl⟩, q⟩
theorem opB0 {f : Value → Value → Sem Value} {g : Int → Int → Bool}
    (rule : ∀ (i j : Int) (t u : Tok) (s : Shared) (Q : Value → Shared → Prop) (E : Value → Shared → Prop), Q (.bool (g i j)) s → wpAny (model X.prog X.w) X.A (f (.int i t) (.int j u)) Q E s) :
    OpR X f (rI0 fun i j => .bl (g i j)) := by
  intro pins s σ H x y v u Q I rx ry h
  obtain ⟨i, j, rfl, rfl, q⟩ := h
  obtain ⟨t, rfl⟩ := rx
  obtain ⟨t', rfl⟩ := ry
  exact rule i j t t' s _ _ ⟨.bl (g i j), H, I, rfl, q⟩
def CPow (i j : Int) : Prop := 0 ≤ j ∧ j ≤ 1000000 ∧ i.natAbs < 2 ^ 64
def CMul (i j : Int) : Prop := (-(2 ^ 64) < i ∧ i < 2 ^ 64) ∨ (-(2 ^ 64) < j ∧ j < 2 ^ 64)
theorem CMul.ok {i j : Int} (h : CMul i j) : IntMulOk i j := by
  rcases h with ⟨h1, h2⟩ | ⟨h1, h2⟩
  · exact .of_left (intBits_le_64 h1 h2)
  · exact .of_right (intBits_le_64 h1 h2)
theorem op_add : OpR X (binaryOp .Add) (rI0 fun i j => .int (i + j)) := opI0 fun _ _ _ _ _ _ _ q => add_int q
theorem op_sub : OpR X (binaryOp .Sub) (rI0 fun i j => .int (i - j)) := opI0 fun _ _ _ _ _ _ _ q => sub_int q
theorem op_mul : OpR X (binaryOp .Mult) (rI CMul fun i j => .int (i * j)) := opI fun _ _ _ _ _ _ _ hc q => mul_int q hc.ok
theorem op_mod : OpR X (binaryOp .Mod) (rI (fun _ j => 0 < j) fun i j => .int (i % j)) := opI fun i j _ _ _ _ _ hc q => by
  have h1 : (0 : Int) < j := hc
  exact mod_int' (by omega) (by rw [Int.fmod_eq_emod_of_nonneg i (by omega)]; exact q)
theorem op_pow : OpR X (binaryOp .Pow) (rI CPow fun i j => .int (i ^ j.toNat)) := opI fun _ _ _ _ _ _ _ hc q => pow_int_small hc.1 hc.2.1 hc.2.2 q
theorem unI {f : Value → Sem Value} {g : Int → Int}
    (rule : ∀ (i : Int) (t : Tok) (s : Shared) (Q : Value → Shared → Prop) (E : Value → Shared → Prop), Q (.int (g i) s.toks) { s with toks := s.toks + 1 } → wpAny (model X.prog X.w) X.A (f (.int i t)) Q E s) :
    UnR X f (rU fun i => .int (g i)) := by
  intro pins s σ H x v Q I rx h
  obtain ⟨i, rfl, q⟩ := h
  obtain ⟨t, rfl⟩ := rx
  exact rule i t s _ _ ⟨.int (g i), H, I.tok _, ⟨_, rfl⟩, q⟩
theorem un_neg : UnR X (unaryOp .USub) (rU fun i => .int (-i)) := unI fun _ _ _ _ _ q => neg_int q
end
def scal : V → V → Bool
  | .non, .non => true | .non, .int _ => true | .int _, .non => true | .non, .bl _ => true | .bl _, .non => true | .non, .str _ => true | .str _, .non => true
  | .int _, .int _ => true | .bl _, .bl _ => true | .str _, .str _ => true | .byt _, .byt _ => true
  | .int _, .str _ => true | .str _, .int _ => true | .bl _, .str _ => true | .str _, .bl _ => true
  | _, _ => false
def rEq : R2 := fun x y H Q => scal x y = true ∧ Q (.bl (decide (x = y))) H
def rNe : R2 := fun x y H Q => scal x y = true ∧ Q (.bl (!decide (x = y))) H
theorem dec_int {i j : Int} : decide (V.int i = V.int j) = (i == j) := by
  rw [Bool.eq_iff_iff]
  simp
theorem dec_bl {i j : Bool} : decide (V.bl i = V.bl j) = (i == j) := by
  rw [Bool.eq_iff_iff]
  simp
theorem dec_str {i j : Str} : decide (V.str i = V.str j) = (i == j) := by
  rw [Bool.eq_iff_iff]
  simp
theorem dec_byt {i j : Array UInt8} : decide (V.byt i = V.byt j) = (i.toList == j.toList) := by
  rw [Bool.eq_iff_iff]
  cases i
  cases j
  simp
section
variable {X : Cx} {a b c : Expr} {ta tb tc : TE} {pos : Pos}
theorem fin_bl {pins : List (Addr × Obj)} {σ : St} {H : Hp} {s : Shared} {Q : VK} {k k' : Bool} (I : Inv X pins σ H s) (q : Q (.bl k) H) (e : k = k') : EP X pins σ Q (.bool k') s := by
  subst e
  exact ⟨.bl k, H, I, rfl, q⟩
theorem op_eq : OpR X (compareOp .Eq) rEq := by
  intro pins s σ H x y v u Q I rx ry h
  obtain ⟨hs, q⟩ := h
  cases x with
  | non =>
    cases rx
    cases y with
    | non => cases ry; exact PySem.EqNone.eq_none_none (fin_bl I q (by simp))
    | bl j => cases ry; exact PySem.EqNone.eq_none_bool (fin_bl I q (by simp))
    | int j => obtain ⟨t', rfl⟩ := ry; exact PySem.EqNone.eq_none_int (fin_bl I q (by simp))
    | str j => obtain ⟨t', rfl⟩ := ry; exact PySem.EqNone.eq_none_str (fin_bl I q (by simp))
    | _ => exact absurd (show false = true from hs) Bool.false_ne_true
  | bl i =>
    cases rx
    cases y with
    | non => cases ry; exact PySem.EqNone.eq_bool_none (fin_bl I q (by simp))
    | bl j => cases ry; exact eq_bool (fin_bl I q dec_bl)
    | str j => obtain ⟨t', rfl⟩ := ry; exact PySem.EqMixed.eq_bool_str (fin_bl I q (by simp))
    | _ => exact absurd (show false = true from hs) Bool.false_ne_true
  | int i =>
    obtain ⟨t, rfl⟩ := rx
    cases y with
    | non => cases ry; exact PySem.EqNone.eq_int_none (fin_bl I q (by simp))
    | int j => obtain ⟨t', rfl⟩ := ry; exact eq_int (fin_bl I q dec_int)
    | str j => obtain ⟨t', rfl⟩ := ry; exact PySem.EqMixed.eq_int_str (fin_bl I q (by simp))
    | _ => exact absurd (show false = true from hs) Bool.false_ne_true
  | str i =>
    obtain ⟨t, rfl⟩ := rx
    cases y with
    | non => cases ry; exact PySem.EqNone.eq_str_none (fin_bl I q (by simp))
    | bl j => cases ry; exact PySem.EqMixed.eq_str_bool (fin_bl I q (by simp))
    | int j => obtain ⟨t', rfl⟩ := ry; exact PySem.EqMixed.eq_str_int (fin_bl I q (by simp))
    | str j => obtain ⟨t', rfl⟩ := ry; exact eq_str (fin_bl I q dec_str)
    | _ => exact absurd (show false = true from hs) Bool.false_ne_true
  | byt i =>
    obtain ⟨t, rfl⟩ := rx
    cases y with
    | byt j => obtain ⟨t', rfl⟩ := ry; exact PySem.W.eq_bytes (fin_bl I q dec_byt)
    | _ => exact absurd (show false = true from hs) Bool.false_ne_true
  | _ => cases y <;> exact absurd (show false = true from hs) Bool.false_ne_true
theorem op_ne : OpR X (compareOp .NotEq) rNe := by
  intro pins s σ H x y v u Q I rx ry h
  obtain ⟨hs, q⟩ := h
  cases x with
  | non =>
    cases rx
    cases y with
    | non => cases ry; exact PySem.EqNone.ne_none_none (fin_bl I q (by simp))
    | bl j => cases ry; exact PySem.EqNone.ne_none_bool (fin_bl I q (by simp))
    | int j => obtain ⟨t', rfl⟩ := ry; exact PySem.EqNone.ne_none_int (fin_bl I q (by simp))
    | str j => obtain ⟨t', rfl⟩ := ry; exact PySem.EqNone.ne_none_str (fin_bl I q (by simp))
    | _ => exact absurd (show false = true from hs) Bool.false_ne_true
  | bl i =>
    cases rx
    cases y with
    | non => cases ry; exact PySem.EqNone.ne_bool_none (fin_bl I q (by simp))
    | bl j => cases ry; exact ne_bool (fin_bl I q (congrArg not dec_bl))
    | str j => obtain ⟨t', rfl⟩ := ry; exact PySem.EqMixed.ne_bool_str (fin_bl I q (by simp))
    | _ => exact absurd (show false = true from hs) Bool.false_ne_true
  | int i =>
    obtain ⟨t, rfl⟩ := rx
    cases y with
    | non => cases ry; exact PySem.EqNone.ne_int_none (fin_bl I q (by simp))
    | int j => obtain ⟨t', rfl⟩ := ry; exact ne_int (fin_bl I q (congrArg not dec_int))
    | str j => obtain ⟨t', rfl⟩ := ry; exact PySem.EqMixed.ne_int_str (fin_bl I q (by simp))
    | _ => exact absurd (show false = true from hs) Bool.false_ne_true
  | str i =>
    obtain ⟨t, rfl⟩ := rx
    cases y with
    | non => cases ry; exact PySem.EqNone.ne_str_none (fin_bl I q (by simp))
    | bl j => cases ry; exact PySem.EqMixed.ne_str_bool (fin_bl I q (by simp))
    | int j => obtain ⟨t', rfl⟩ := ry; exact PySem.EqMixed.ne_str_int (fin_bl I q (by simp))
    | str j => obtain ⟨t', rfl⟩ := ry; exact ne_str (fin_bl I q (congrArg not dec_str))
    | _ => exact absurd (show false = true from hs) Bool.false_ne_true
  | byt i =>
    obtain ⟨t, rfl⟩ := rx
    cases y with
    | byt j => obtain ⟨t', rfl⟩ := ry; exact PySem.W.ne_bytes (fin_bl I q (congrArg not dec_byt))
    | _ => exact absurd (show false = true from hs) Bool.false_ne_true
  | _ => cases y <;> exact absurd (show false = true from hs) Bool.false_ne_true
theorem op_lt : OpR X (compareOp .Lt) (rI0 fun i j => .bl (decide (i < j))) := opB0 fun _ _ _ _ _ _ _ q => lt_int q
theorem op_le : OpR X (compareOp .LtE) (rI0 fun i j => .bl (decide (i ≤ j))) := opB0 fun _ _ _ _ _ _ _ q => le_int q
theorem op_gt : OpR X (compareOp .Gt) (rI0 fun i j => .bl (decide (j < i))) := opB0 fun _ _ _ _ _ _ _ q => gt_int q
theorem op_ge : OpR X (compareOp .GtE) (rI0 fun i j => .bl (decide (j ≤ i))) := opB0 fun _ _ _ _ _ _ _ q => ge_int q
theorem nomark (b : Expr) {op : CmpOp} (h : op ≠ .In := by decide) (h2 : op ≠ .NotIn := by decide) : behindInMarks op b = false := by
  have e1 : (op == CmpOp.In) = false := by cases op <;> first | rfl | exact absurd rfl h
  have e2 : (op == CmpOp.NotIn) = false := by cases op <;> first | rfl | exact absurd rfl h2
  cases b <;> simp [behindInMarks, e1, e2]
theorem pe_cmpR {op : CmpOp} {r : R2} (ho : OpR X (compareOp op) r) (ha : PE X a ta) (hb : PE X b tb) (hm : behindInMarks op b = false) : PE X (.Compare a [op] [b] pos) (tOp r ta tb) := by
  intro pins s σ H Q I h
  exact wpAny_Compare1 (binT ha hb I h fun v u s2 x y H2 I2 rx ry q => ho pins s2 σ H2 x y v u Q I2 rx ry q) hm
def tTest (t : TE) : TT := fun σ H Q => t σ H fun x H' => ∃ k, x = .bl k ∧ Q k H'
theorem pt_cmpR {op : CmpOp} {r : R2} (ho : OpR X (compareOp op) r) (ha : PE X a ta) (hb : PE X b tb) (hm : behindInMarks op b = false) : PT X (.Compare a [op] [b] pos) (tTest (tOp r ta tb)) := by
  intro pins s σ H Q I h
  refine wpAny_isTrue_Compare1 (thn (ha pins s σ H _ I h) fun v s1 ⟨x, H1, I1, r1, q1⟩ => thn (hb pins s1 σ H1 _ I1 q1) fun u s2 ⟨y, H2, I2, r2, q2⟩ =>
    thn (ho pins s2 σ H2 x y v u _ I2 r1 r2 q2) fun c s3 ⟨z, H3, I3, r3, k, e, q3⟩ => ?_) hm
  subst e
  cases r3
  exact wpAny_truthy_bool ⟨H3, I3, q3⟩
theorem line63 : (sizeLine : Nat) < 2 ^ 63 := by rw [sizeLine_eq]; decide
theorem vals1 {x : V} {us : List Value} (r : Vals [x] us) : ∃ u, us = [u] ∧ RelV x u := by
  cases r with
  | cons r1 r2 => cases r2; exact ⟨_, rfl, r1⟩
theorem vals2 {x y : V} {us : List Value} (r : Vals [x, y] us) : ∃ u w', us = [u, w'] ∧ RelV x u ∧ RelV y w' := by
  cases r with
  | cons r1 r2 =>
    cases r2 with
    | cons r3 r4 => cases r4; exact ⟨_, _, rfl, r1, r3⟩
theorem call_abs : CallR X (.builtin "abs") (fun xs H Q => ∃ i, xs = [.int i] ∧ Q (.int (if i < 0 then -i else i)) H) := by
  intro pins s σ H xs us Q I r h
  obtain ⟨i, rfl, q⟩ := h
  obtain ⟨u, rfl, t, rfl⟩ := vals1 r
  exact call_abs_int fun u tk => ⟨.int (if i < 0 then -i else i), H, I.tok _, ⟨_, rfl⟩, q⟩
theorem call_max2 (hc : X.calm = true) : CallR X (.builtin "max") (fun xs H Q => ∃ i j, xs = [.int i, .int j] ∧ Q (.int (if j > i then j else i)) H) := by
  intro pins s σ H xs us Q I r h
  obtain ⟨i, j, rfl, q⟩ := h
  obtain ⟨u, w', rfl, ⟨t, rfl⟩, ⟨t', rfl⟩⟩ := vals2 r
  refine max_two_ints (I.ok.hd hc) fun h' tk k => ⟨_, H, I.kept k, ?_, q⟩
  by_cases hj : j > i
  · rw [if_pos hj, if_pos hj]; exact ⟨_, rfl⟩
  · rw [if_neg hj, if_neg hj]; exact ⟨_, rfl⟩
theorem call_min2 (hc : X.calm = true) : CallR X (.builtin "min") (fun xs H Q => ∃ i j, xs = [.int i, .int j] ∧ Q (.int (if j < i then j else i)) H) := by
  intro pins s σ H xs us Q I r h
  obtain ⟨i, j, rfl, q⟩ := h
  obtain ⟨u, w', rfl, ⟨t, rfl⟩, ⟨t', rfl⟩⟩ := vals2 r
  refine min_two_ints (I.ok.hd hc) fun h' tk k => ⟨_, H, I.kept k, ?_, q⟩
  by_cases hj : j < i
  · rw [if_pos hj, if_pos hj]; exact ⟨_, rfl⟩
  · rw [if_neg hj, if_neg hj]; exact ⟨_, rfl⟩
theorem call_int1 : CallR X (.type "int") (fun xs H Q => (∃ i, xs = [.int i] ∧ Q (.int i) H) ∨ ∃ k, xs = [.bl k] ∧ Q (.int (if k then 1 else 0)) H) := by
  intro pins s σ H xs us Q I r h
  rcases h with ⟨i, rfl, q⟩ | ⟨k, rfl, q⟩
  · obtain ⟨u, rfl, t, rfl⟩ := vals1 r
    exact call_int_int ⟨.int i, H, I, ⟨_, rfl⟩, q⟩
  · obtain ⟨u, rfl, r1⟩ := vals1 r
    cases r1
    exact call_int_bool ⟨.int (if k then 1 else 0), H, I.tok _, ⟨_, rfl⟩, q⟩
end
end L2
namespace L2
open PySem PySem.Spec PyProof.Rows
structure ObjM (h : Heap) (x dx C : Addr) (mA : Str → Option Value) : Prop where
  obj : h.get? x = some (PySem.W.instObj C dx)
  ns : h.Ns1 dx mA
  ne : dx ≠ x
theorem lookIn_ns {h : Heap} {dx : Addr} {mA : Str → Option Value} (n : h.Ns1 dx mA) : ∃ od, h.get? dx = some od ∧ ∀ name, PySem.W.lookIn name od = some (mA name) := by
  obtain ⟨o, es, ep, ho, hd, hk, _, hm⟩ := n
  refine ⟨o, ho, fun name => ?_⟩
  have e := hm name
  unfold nsFind findBy at e
  rw [← Array.find?_toList] at e
  unfold PySem.W.lookIn
  rw [hd]
  dsimp only
  split
  · rename_i y q
    rw [q] at e
    exact congrArg some e
  · rename_i q
    rw [q] at e
    have a : es.toList.any (·.refKey) = false := by
      rw [List.any_eq_false]
      intro y hy
      obtain ⟨z, t, hkey⟩ := hk y (Array.mem_toList_iff.mp hy)
      simp [DictEntry.refKey, hkey]
    have a' : ¬ es.toList.any (·.refKey) = true := by rw [a]; exact Bool.false_ne_true
    rw [if_neg a']
    exact congrArg some e
theorem ObjM.look {h : Heap} {x dx C : Addr} {mA : Str → Option Value} (I : ObjM h x dx C mA) : ∃ od, PySem.W.InstAt h x (PySem.W.instObj C dx) C (some od) ∧ ∀ name, PySem.W.lookIn name od = some (mA name) :=
  let ⟨od, ho, hl⟩ := lookIn_ns I.ns
  ⟨od, ⟨I.obj, rfl, rfl, ho⟩, hl⟩
theorem RelO.some_of {v : V} {o : Option Value} (r : RelO (some v) o) : ∃ u, o = some u ∧ RelV v u := by
  cases o with
  | none => exact (show False from r).elim
  | some u => exact ⟨u, rfl, r⟩
section
variable {P : Program} {w : World} {H H' : Hp} {h h' : Heap} {a C dx : Addr} {fs fs' : List (Str × V)}
theorem ins_get (hok : HOk P w H h) (e : H a = some (.ins C dx fs)) : ∃ mA, ObjM h a dx C mA ∧ (∀ f, RelO (fs.lookup f) (mA f)) ∧ PySem.Within mA (fs.map (·.1)) ∧ fs.length ≤ 1000 ∧ H dx = some (.own a) := by
  obtain ⟨d, z, ne, ob, mA, n, r, q⟩ := (show ObjOk P w H h a (.ins C dx fs) from hok a _ e)
  exact ⟨mA, ⟨ob, n, ne⟩, r, q, z, d⟩
end
structure Cls (K : PySem.W.Frag) (C : Addr) : Prop where
  pg : PySem.W.plainGet K C Str.empty = true
  hd : PySem.W.hasDictIn K C = true
  po : PySem.W.plainOver K C = true
  sa : PySem.W.findIn K (.ref C) "__setattr__" = some (some (.builtin "object.__setattr__"))
theorem Cls.get {K : PySem.W.Frag} {C : Addr} (c : Cls K C) (f : Str) : PySem.W.plainGet K C f = true := c.pg
structure Con (K : PySem.W.Frag) (C : Addr) (f : Str) (v : V) (u : Value) : Prop where
  at_ : PySem.W.findIn K (.ref C) f = some (some u)
  rel : RelV v u
  get : PySem.W.specialIn K u "__get__" = some none
  cp : PySem.W.copiedNames.contains f = false
structure Meth (K : PySem.W.Frag) (C : Addr) (m : Str) (f : Addr) : Prop where
  at_ : PySem.W.findIn K (.ref C) m = some (some (.ref f))
  fn : PySem.W.isFn K (.ref f) = true
  kp : PySem.W.keepIn K (.ref f) = true
section
variable {X : Cx} {pins : List (Addr × Obj)} {σ : St} {H : Hp} {s : Shared} {A : Around} {E : Value → Shared → Prop} {Q : Value → Shared → Prop} {c : Value} {b : Bool}
inductive TyOf (K : PySem.W.Frag) (H : Hp) : V → Value → Prop where
  | non : TyOf K H .non (.type "NoneType")
  | bl (x : Bool) : TyOf K H (.bl x) (.type "bool")
  | int (i : Int) : TyOf K H (.int i) (.type "int")
  | str (x : Str) : TyOf K H (.str x) (.type "str")
  | flt (x : UInt64) : TyOf K H (.flt x) (.type "float")
  | lst {a : Addr} {xs : List V} (e : H a = some (.lst xs)) : TyOf K H (.ref a) (.type "list")
  | frz {a : Addr} {o : Obj} {xs : List V} (e : H a = some (.frz o (.lst xs))) : TyOf K H (.ref a) (.type "list")
  | tup {a : Addr} {xs : List V} (e : H a = some (.tup xs)) : TyOf K H (.ref a) (.type "tuple")
  | dK {a : Addr} {kvs : List (Key × V)} (e : H a = some (.dK kvs)) : TyOf K H (.ref a) (.type "dict")
  | dT {a : Addr} {kvs : List (List Key × V)} (e : H a = some (.dT kvs)) : TyOf K H (.ref a) (.type "dict")
  | ins {a C dx : Addr} {fs : List (Str × V)} (e : H a = some (.ins C dx fs)) (cl : Cls K C) (ha : PySem.W.findIn K (.ref C) "__class__" = some (some (.builtin "object.__class__")))
      (hn : PySem.W.specialIn K (.builtin "object.__class__") "__get__" = some (some (.builtin "getset_descriptor.__get__"))) (htk : PySem.W.takesIn K (.builtin "object.__class__") = some true)
      (hm : PySem.W.mroIn K C (.type "object") = some true) : TyOf K H (.ref a) (.ref C)
theorem isinst_ok {x : V} {u t : Value} (I : Inv X pins σ H s) (rx : RelV x u) (ty : TyOf X.K H x t) (e : PySem.W.kitOne X.K t c = some b) (h : ∀ tk, Q (.bool b) { s with toks := tk }) :
    wpAny (model X.prog X.w) A (call (.builtin "isinstance") [u, c]) Q E s := by
  cases ty with
  | non => cases (show u = Value.none from rx); exact PySem.W.kia_one PySem.W.kitx_none I.kIn True.intro e (fun z => nomatch z) h
  | bl y => cases (show u = Value.bool y from rx); exact PySem.W.kia_one PySem.W.kitx_bool I.kIn True.intro e (fun z => nomatch z) h
  | int i => obtain ⟨t, q⟩ := (show ∃ t, u = Value.int i t from rx); cases q; exact PySem.W.kia_one PySem.W.kitx_int I.kIn True.intro e (fun z => nomatch z) h
  | str y => obtain ⟨t, q⟩ := (show ∃ t, u = Value.str y t from rx); cases q; exact PySem.W.kia_one PySem.W.kitx_str I.kIn True.intro e (fun z => nomatch z) h
  | flt y => obtain ⟨t, q⟩ := (show ∃ t, u = Value.float y t from rx); cases q; exact PySem.W.kia_one PySem.W.kitx_float I.kIn True.intro e (fun z => nomatch z) h
  | @lst a xs ea =>
    cases (show u = Value.ref a from rx)
    obtain ⟨_, _, n, _, h1⟩ := (show ObjOk X.prog X.w H s.heap a (.lst xs) from I.hok a _ ea)
    exact PySem.W.kia_one PySem.W.kitx_list I.kIn ⟨_, h1, rfl⟩ e (fun z => nomatch z) h
  | @frz a ob xs ea =>
    cases (show u = Value.ref a from rx)
    obtain ⟨_, _, _, n, _, h1⟩ := (show ObjOk X.prog X.w H s.heap a (.frz ob (.lst xs)) from I.hok a _ ea)
    exact PySem.W.kia_one PySem.W.kitx_list I.kIn ⟨_, h1, rfl⟩ e (fun z => nomatch z) h
  | @tup a xs ea =>
    cases (show u = Value.ref a from rx)
    obtain ⟨_, _, _, p⟩ := (show ObjOk X.prog X.w H s.heap a (.tup xs) from I.hok a _ ea)
    obtain ⟨o, h1, h2, _⟩ := p
    exact PySem.W.kia_one PySem.W.kitx_tuple I.kIn ⟨o, h1, h2⟩ e (fun z => nomatch z) h
  | @dK a kvs ea =>
    cases (show u = Value.ref a from rx)
    obtain ⟨_, _, vs, _, p⟩ := (show ObjOk X.prog X.w H s.heap a (.dK kvs) from I.hok a _ ea)
    obtain ⟨o, es, ep, h1, h2, _⟩ := p
    exact PySem.W.kia_one PySem.W.kitx_dict I.kIn ⟨o, h1, h2.1⟩ e (fun z => nomatch z) h
  | @dT a kvs ea =>
    cases (show u = Value.ref a from rx)
    obtain ⟨_, _, xs, _, o, es, ep, h1, h2, _⟩ := (show ObjOk X.prog X.w H s.heap a (.dT kvs) from I.hok a _ ea)
    exact PySem.W.kia_one PySem.W.kitx_dict I.kIn ⟨o, h1, h2.1⟩ e (fun z => nomatch z) h
  | @ins a C dx fs ea cl ha hn htk hm =>
    cases (show u = Value.ref a from rx)
    obtain ⟨mA, O, _⟩ := ins_get I.hok ea
    obtain ⟨od, J, _⟩ := O.look
    exact PySem.W.kia_one (PySem.W.kitx_own (cl.get _) cl.hd ha hn htk hm) I.kIn J e (fun z => nomatch z) h
end
end L2
namespace L2
open PySem PySem.Spec PyProof.Rows
structure Room (k : Nat) (A : Around) : Prop where
  hd : A.handled = none
  gd : A.guards = some []
  dp : A.depth + 3 * k + 5 < recursionLimit
  un : A.units + 16 * k + 200 < cLine
theorem Room.mono {j k : Nat} {A : Around} (r : Room k A) (h : j ≤ k) : Room j A := ⟨r.hd, r.gd, by have := r.dp; omega, by have := r.un; omega⟩
theorem Room.deeper {k : Nat} {A : Around} (r : Room (k + 1) A) (env : Env) : Room k (A.deeper env) :=
  ⟨r.hd, r.gd, by have := r.dp; show A.depth + 1 + 3 * k + 5 < _; omega, by have := r.un; show A.units + 3 + 16 * k + 200 < _; omega⟩
theorem Room.depth {k : Nat} {A : Around} (r : Room k A) : A.depth < recursionLimit := by have := r.dp; omega
theorem Room.units {k : Nat} {A : Around} (r : Room k A) : A.units + 64 < cLine := by have := r.un; omega
def tNil : TA := fun _ H Q => Q [] H
def tCons (ta : TE) (tr : TA) : TA := fun σ H Q => ta σ H fun x H1 => tr σ H1 fun xs H2 => Q (x :: xs) H2
section
variable {X : Cx} {e : Expr} {es : List Expr} {te : TE} {t : TA} {pos : Pos}
theorem pa_nil : PA X [] tNil := fun _ _ _ _ H Q I h => Calls.spliced_nil ⟨[], H, I, .nil, h⟩
theorem pa_cons (ha : PE X e te) (hr : PA X es t) (hs : starEach (e :: es) X.env = (false, eval e X.env) :: starEach es X.env := by rfl) : PA X (e :: es) (tCons te t) := by
  intro pos pins s σ H Q I h
  rw [hs]
  show wpAny _ _ (spliced ((false, eval e X.env) :: backTo pos (starEach es X.env))) _ _ s
  refine Calls.spliced_cons (thn (ha pins s σ H _ I h) fun u s1 ⟨x, H1, I1, r1, q1⟩ => ?_)
  exact thn (hr pos pins s1 σ H1 _ I1 q1) fun us s2 ⟨xs, H2, I2, r2, q2⟩ => ⟨x :: xs, H2, I2, .cons r1 r2, q2⟩
def tTup (t : TA) : TE := fun σ H Q => t σ H fun xs H1 => xs.length ≤ sizeLine ∧ ∀ p, H1 p = none → Q (.ref p) (upd H1 p (.tup xs))
def tLst (t : TA) : TE := fun σ H Q => t σ H fun xs H1 => xs.length ≤ sizeLine ∧ ∀ p, H1 p = none → Q (.ref p) (upd H1 p (.lst xs))
theorem pe_tup {x1} (h : PA X es t) : PE X (.Tuple es x1 pos) (tTup t) := by
  intro pins s σ H Q I hq
  refine wpAny_Tuple_spliced (thn (h pos pins s σ H _ I hq) fun us s1 ⟨xs, H1, I1, r, z, q⟩ => ⟨by rw [← r.length]; exact z, ?_⟩)
  have hf : H1 s1.heap.objs.size = none := I1.hok.fresh (Nat.le_refl _)
  refine ⟨.ref s1.heap.objs.size, upd H1 s1.heap.objs.size (.tup xs), I1.laid (t' := s1.toks) (fun b u e => Heap.get?_push_of_some _ e) (Nat.le_refl _) ?_, rfl, q _ hf⟩
  exact ⟨z, us, r, ⟨_, Heap.get?_push_size _ rfl, rfl, _, rfl⟩⟩
theorem pe_lst (h : PA X es t) : PE X (.List es pos) (tLst t) := by
  intro pins s σ H Q I hq
  refine wpAny_List_spliced (thn (h pos pins s σ H _ I hq) fun us s1 ⟨xs, H1, I1, r, z, q⟩ => ⟨by rw [← r.length]; exact z, ?_⟩)
  have hf : H1 s1.heap.objs.size = none := I1.hok.fresh (Nat.le_refl _)
  refine ⟨.ref s1.heap.objs.size, upd H1 s1.heap.objs.size (.lst xs), I1.laid (t' := s1.toks) (fun b u e => Heap.get?_push_of_some _ e) (Nat.le_refl _) ?_, rfl, q _ hf⟩
  exact ⟨z, us, 0, r, Heap.get?_push_size _ rfl⟩
end
abbrev Sp := List V → Hp → VK → XK → Prop
abbrev CXT := List Env → Hp → Shared → XK → Value → Shared → Prop
structure Env0 (P : Program) (w : World) (K : PySem.W.Frag) (mg : Str → Option Value) (base : Heap) (A : Around) (outer : List Env) (s : Shared) (H : Hp) : Prop where
  frames : A.frames = some outer
  mod : Mod K mg base
  bs : ∀ b o, base.get? b = some o → s.heap.get? b = some o ∧ H b = none
  bsz : base.objs.size ≤ s.heap.objs.size
  funs : s.heap.FunFrames base outer
  frf : ∀ b ∈ frs outer, H b = none
  hok : HOk P w H s.heap
  bare : AllBare s.gens
def CE (outer : List Env) (P : Program) (w : World) (H : Hp) (s : Shared) (Q : VK) (u : Value) (s' : Shared) : Prop :=
  ∃ v H', s'.os = s.os ∧ AllBare s'.gens ∧ Un (frs outer) [] H H' s.heap s'.heap ∧ HOk P w H' s'.heap ∧ RelV v u ∧ Q v H'
def CR (CX : CXT) (outer : List Env) (P : Program) (w : World) (H : Hp) (s : Shared) (Q : VK) (E : XK) (r : Result) (s' : Shared) : Prop :=
  match r with
  | .ok (.ret u) => CE outer P w H s Q u s'
  | .ok _ => False
  | .error e => CX outer H s E e s'
structure FnOk (P : Program) (w : World) (K : PySem.W.Frag) (mg : Str → Option Value) (base : Heap) (CX : CXT) (k : Nat) (f : Addr) (fd : FuncData) (ps : List Str) (sp : Sp) : Prop where
  len : ∀ vs H Q E, sp vs H Q E → vs.length = ps.length
  run : ∀ (A : Around) (outer : List Env) (s : Shared) (H : Hp) (args : Args) (us : List Value) (vs : List V) (Q : VK) (E : XK), Room k A → Env0 P w K mg base A outer s H → BindsTo s fd args (ps.zip us) → Vals vs us → sp vs H Q E →
    codeAny (model P w) A (.call (.ref f) args) (CR CX outer P w H s Q E) s
section
variable {X : Cx} {pins : List (Addr × Obj)} {σ : St} {H : Hp} {s s' : Shared}
theorem Inv.env0 (I : Inv X pins σ H s) : Env0 X.prog X.w X.K X.mg X.base X.A X.stack s H :=
  ⟨I.ok.frames, I.ok.mod, I.bs, Nat.le_trans I.ok.bsz I.sz, I.stack, I.stkFree, I.hok, I.bare⟩
theorem Inv.after {Q : VK} {u : Value} (I : Inv X pins σ H s) (h : CE X.stack X.prog X.w H s Q u s') : EP X pins σ Q u s' := by
  obtain ⟨v, H', os, bare, un, hok, r, q⟩ := h
  obtain ⟨hh, g, d, t, os'⟩ := s'
  obtain rfl : os' = s.os := os
  exact ⟨v, H', I.call (h' := hh) (g' := g) (d' := d) (t' := t) (ch := []) un hok bare (fun b z => absurd z (by simp)), r, q⟩
end
def tCall (sp : Sp) (dvs : List V) (E : XK) (t : TA) : TE := fun σ H Q => t σ H fun vs H1 => sp (vs ++ dvs) H1 Q E
def Binds (K : PySem.W.Frag) (fd : FuncData) (ps : List Str) (ds : List Value) : Prop :=
  ∀ (s : Shared) (us : List Value), K.In s.heap → (us ++ ds).length = ps.length → BindsTo s fd ⟨us, []⟩ (ps.zip (us ++ ds))
theorem Binds.all {K : PySem.W.Frag} {fd : FuncData} {ps : List Str} (h : ∀ us : List Value, us.length = ps.length → bindArgs fd ⟨us, []⟩ = pure (ps.zip us)) : Binds K fd ps [] := fun s us _ hl => by
  rw [List.append_nil] at hl ⊢
  exact .of_eq (h us hl)
def Passes (CX : CXT) (X : Cx) (E : XK) : Prop := ∀ (pins : List (Addr × Obj)) (σ : St) (H : Hp) (s : Shared) (e : Value) (s' : Shared), Inv X pins σ H s → CX X.stack H s E e s' → X.xe e s'
section
variable {X : Cx} {CX : CXT} {k : Nat} {f C : Addr} {fd : FuncData} {ps : List Str} {sp : Sp} {dvs : List V} {ds : List Value} {E : XK} {x m : Str} {p pos apos : Pos} {e o : Expr} {es : List Expr} {ta : TE} {t : TA}
theorem run_fn {pins : List (Addr × Obj)} {σ : St} {H : Hp} {s : Shared} {Q : VK} {us : List Value} {vs : List V} (F : FnOk X.prog X.w X.K X.mg X.base CX k f fd ps sp) (hr : Room k X.A) (hb : Binds X.K fd ps ds) (hd : Vals dvs ds) (hx : Passes CX X E)
    (I : Inv X pins σ H s) (r : Vals vs us) (h : sp (vs ++ dvs) H Q E) : wpAny (model X.prog X.w) X.A (call (.ref f) us) (EP X pins σ Q) X.xe s := by
  have r2 : Vals (vs ++ dvs) (us ++ ds) := r.append hd
  have hl : (us ++ ds).length = ps.length := by rw [← r2.length]; exact F.len _ _ _ _ h
  refine wpAny_call (codeAny_mono (F.run X.A X.stack s H ⟨us, []⟩ (us ++ ds) (vs ++ dvs) Q E hr I.env0 (hb s us I.kIn hl) r2 h) fun r s' hq => ?_)
  cases r with
  | error e => exact hx pins σ H s e s' I hq
  | ok fl =>
    cases fl with
    | ret u => exact I.after hq
    | next => exact False.elim hq
    | brk => exact False.elim hq
    | cont => exact False.elim hq
theorem pe_call (F : FnOk X.prog X.w X.K X.mg X.base CX k f fd ps sp) (hr : Room k X.A) (hg : Gl X x) (hm : X.mg x = some (.ref f)) (hk : PySem.W.keepIn X.K (.ref f) = true) (hb : Binds X.K fd ps ds) (hd : Vals dvs ds) (hx : Passes CX X E)
    (ha : PA X (e :: es) t) (hdb : (x == ("__debug__" : Str)) = false := by decide) (he : starEach (e :: es) X.env = (false, eval e X.env) :: starEach es X.env := by rfl) (hpl : (backTo pos (starEach es X.env)).any (·.1) = false := by rfl) :
    PE X (.Call (.Name x p) (e :: es) [] pos) (tCall sp dvs E t) := by
  intro pins s σ H Q I h
  refine wpAny_Call_Name_kw (ld_glob I hg hm ?_ hdb)
  refine PySem.W.callWith_K (h₀ := X.base) I.ok.mod.kin hk (thn (ha pos pins s σ H _ I h) fun us s1 ⟨vs, H1, I1, r, q⟩ => ⟨I1.kIn, ?_⟩) he hpl
  exact run_fn F hr hb hd hx I1 r q
structure Mk (K : PySem.W.Frag) (C f : Addr) : Prop where
  makes : PySem.W.makesIn K C = true
  init : PySem.W.findIn K (.ref C) "__init__" = some (some (.ref f))
  fn : PySem.W.isFn K (.ref f) = true
  kp : PySem.W.keepIn K (.ref C) = true
end
def PK (X : Cx) (kws : List Keyword) (t : TA) : Prop :=
  ∀ (pos : Pos) (pins : List (Addr × Obj)) (s : Shared) (σ : St) (H : Hp) (Q : List V → Hp → Prop), Inv X pins σ H s → t σ H Q → wpAny (model X.prog X.w) X.A (evalAll ((backToKw pos (keywordEach kws X.env)).map (·.2))) (AP X pins σ Q) X.xe s
section
variable {X : Cx} {CX : CXT} {k : Nat} {f C : Addr} {fd : FuncData} {ps ks : List Str} {sp : Sp} {E : XK} {x m : Str} {p pos apos kpos : Pos} {e o : Expr} {es : List Expr} {kws : List Keyword} {te ta : TE} {t tk : TA} {nm : Option Str}
structure KBinds (K : PySem.W.Frag) (fd : FuncData) (ps ks : List Str) (g : List Value → List Value → List Value) (gV : List V → List V → List V) : Prop where
  to : ∀ (s : Shared) (us ws : List Value), K.In s.heap → (g us ws).length = ps.length → BindsTo s fd ⟨us, ks.zip ws⟩ (ps.zip (g us ws))
  rel : ∀ {vs : List V} {us : List Value} {zs : List V} {ws : List Value}, Vals vs us → Vals zs ws → Vals (gV vs zs) (g us ws)
variable {g : List Value → List Value → List Value} {gV : List V → List V → List V}
end
structure FnScope (N P : List Str) (sc : Scope) : Prop where
  kind : sc.kind = .function
  co : sc.isCoroutine = false
  gen : sc.isGenerator = false
  nd : N.Nodup
  pre : N.take P.length = P
  par : ∀ x ∈ P, sc.names.lookup x = some .local ∨ sc.names.lookup x = some .cell
  nofree : ∀ y ∈ sc.names, y.2 ≠ .free
theorem bindL_out {kindOf : Str → Option NameKind} {x : Str} : ∀ {binds : List (Str × Value)} {m : Str → Option Value}, (∀ v, (x, v) ∉ binds) → bindL kindOf binds m x = m x
  | [], _, _ => rfl
  | (n, v) :: r, m, h => by
    unfold bindL
    rw [bindL_out fun w hw => h w (List.mem_cons_of_mem _ hw)]
    split
    · have : x ≠ n := by rintro rfl; exact h v List.mem_cons_self
      simp [this]
    · rfl
theorem bindC_out {kindOf : Str → Option NameKind} {x : Str} : ∀ {binds : List (Str × Value)} {m : Str → Option Value}, (∀ v, (x, v) ∉ binds) → bindC kindOf binds m x = m x
  | [], _, _ => rfl
  | (n, v) :: r, m, h => by
    unfold bindC
    rw [bindC_out fun w hw => h w (List.mem_cons_of_mem _ hw)]
    split
    · rfl
    · have : x ≠ n := by rintro rfl; exact h v List.mem_cons_self
      simp [this]
theorem bindL_get {kindOf : Str → Option NameKind} {x : Str} {v : Value} : ∀ {P : List Str} {vs : List Value} {i : Nat} {m : Str → Option Value}, P.Nodup → P[i]? = some x → vs[i]? = some v → kindOf x = some .local →
    bindL kindOf (P.zip vs) m x = some v
  | [], _, _, _, _, h, _, _ => by simp at h
  | _ :: _, [], _, _, _, _, h, _ => by simp at h
  | p :: P, w :: vs, 0, m, nd, h1, h2, hk => by
    simp at h1 h2; subst h1; subst h2
    show bindL kindOf ((p, w) :: P.zip vs) m p = _
    unfold bindL
    rw [bindL_out fun v hv => (List.nodup_cons.mp nd).1 (List.of_mem_zip hv).1, if_pos hk]
    simp
  | p :: P, w :: vs, i + 1, m, nd, h1, h2, hk => by
    show bindL kindOf ((p, w) :: P.zip vs) m x = _
    unfold bindL
    exact bindL_get (i := i) (List.nodup_cons.mp nd).2 (by simpa using h1) (by simpa using h2) hk
theorem bindC_get {kindOf : Str → Option NameKind} {x : Str} {v : Value} : ∀ {P : List Str} {vs : List Value} {i : Nat} {m : Str → Option Value}, P.Nodup → P[i]? = some x → vs[i]? = some v → kindOf x ≠ some .local →
    bindC kindOf (P.zip vs) m x = some v
  | [], _, _, _, _, h, _, _ => by simp at h
  | _ :: _, [], _, _, _, _, h, _ => by simp at h
  | p :: P, w :: vs, 0, m, nd, h1, h2, hk => by
    simp at h1 h2; subst h1; subst h2
    show bindC kindOf ((p, w) :: P.zip vs) m p = _
    unfold bindC
    rw [bindC_out fun v hv => (List.nodup_cons.mp nd).1 (List.of_mem_zip hv).1, if_neg hk]
    simp
  | p :: P, w :: vs, i + 1, m, nd, h1, h2, hk => by
    show bindC kindOf ((p, w) :: P.zip vs) m x = _
    unfold bindC
    exact bindC_get (i := i) (List.nodup_cons.mp nd).2 (by simpa using h1) (by simpa using h2) hk
def start (N : List Str) (vs : List V) : St := vs.map some ++ List.replicate (N.length - vs.length) none
def cxOf (CX : CXT) (P : Program) (w : World) (K : PySem.W.Frag) (mg : Str → Option Value) (base : Heap) (N : List Str) (qual : Str) (scope : Scope) (f : Addr) (cd : Value) (A : Around) (outer : List Env) (s : Shared) (H : Hp) (E : XK) : Cx where
  prog := P
  w := w
  K := K
  mg := mg
  base := base
  A := A.deeper (envOfC qual scope s.heap.objs.size f cd)
  N := N
  s₀ := s
  H₀ := H
  env := envOfC qual scope s.heap.objs.size f cd
  outer := outer
  stack := envOfC qual scope s.heap.objs.size f cd :: outer
  ex := []
  calm := true
  fn := fun _ => true
  pn := []
  xe := fun e s' => wpAny (model P w) (A.deeper (envOfC qual scope s.heap.objs.size f cd)) (leaving (envOfC qual scope s.heap.objs.size f cd) e) (fun _ s'' => CX outer H s E e s'') (fun e' s'' => CX outer H s E e' s'') s'
theorem cell_has {sc : Scope} {n : Nat} {x : Str} (h : sc.names.lookup x = some .cell) : ∃ c, (cellsFrom n sc.names []).lookup x = some c := by
  have q := PySem.W.cellsFrom_some sc.names n [] (.inl h)
  exact Option.isSome_iff_exists.mp q
theorem inv_start {CX : CXT} {P : Program} {w : World} {K : PySem.W.Frag} {mg : Str → Option Value} {base : Heap} {N ps : List Str} {qual : Str} {scope : Scope} {f : Addr} {cd : Value} {A : Around} {outer : List Env} {s s1 : Shared} {H : Hp} {E : XK} {us : List Value} {vs : List V}
    (S : FnScope N ps scope) (hd : A.handled = none) (e0 : Env0 P w K mg base A outer s H) (hl : vs.length = ps.length) (r : Vals vs us)
    (x : InCallC s s.heap.objs.size (bindL (envOfC qual scope s.heap.objs.size f cd).kindOf (ps.zip us) fun _ => none) (cellsFrom (s.heap.objs.size + 1) scope.names []) (bindC (envOfC qual scope s.heap.objs.size f cd).kindOf (ps.zip us) fun _ => none) s1) :
    Inv (cxOf CX P w K mg base N qual scope f cd A outer s H E) [] (start N vs) H s1 := by
  have hpl : ps.length ≤ N.length := by have := congrArg List.length S.pre; rw [List.length_take] at this; omega
  obtain ⟨h1, tk, rfl, hk⟩ := x.done
  have noA : ∀ b : Addr, b ∉ (cxOf CX P w K mg base N qual scope f cd A outer s H E).ex := fun b z => absurd (show b ∈ ([] : List Addr) from z) (by simp)
  refine ⟨⟨e0.mod, S.kind, rfl, rfl, Nat.le_refl _, fun y z c h1 h2 => ?_, fun y hy => ?_, fun y c _ h => ?_, fun _ => hd, Around.frames_deeper e0.frames, .inr ⟨rfl, rfl⟩, fun b z => absurd z (noA b), e0.bs, e0.bsz, fun b _ _ => noA b, fun b z => absurd z (noA b), e0.funs, e0.frf⟩,
    rfl, e0.bare, Un.kept hk, ⟨_, x.toInCall.ns, fun i y v h1 h2 h3 => ?_⟩, fun y c h => ⟨_, x.cell y c h⟩, e0.hok.fresh (Nat.le_refl _), fun y c h => ?_, fun p hp => absurd (show p ∈ ([] : List (Addr × Obj)) from hp) (by simp), e0.hok.kept hk, ?_⟩
  · exact name_of_addr x.apart (PySem.mem_of_lookup h1) (PySem.mem_of_lookup h2)
  · have hy : scope.names.lookup y = some .cell ∨ scope.names.lookup y = some .free := hy
    rcases hy with hy | hy
    · exact cell_has hy
    · exact absurd rfl (S.nofree _ (PySem.mem_of_lookup hy))
  · exact Nat.le_of_lt (x.above y c (PySem.mem_of_lookup h))
  · have hi : i < vs.length := by
      unfold start at h2
      by_cases hi : i < vs.length
      · exact hi
      · rw [List.getElem?_append_right (by simpa using hi)] at h2
        rw [List.getElem?_replicate] at h2
        split at h2 <;> cases h2
    have ha : vs[i]? = some v := by
      unfold start at h2
      rw [List.getElem?_append_left (by simpa using hi), List.getElem?_map] at h2
      cases e : vs[i]? with
      | none => rw [e] at h2; cases h2
      | some a => rw [e] at h2; cases h2; rfl
    obtain ⟨u, hu, rv⟩ := r.get ha
    have hp : ps[i]? = some y := by
      rw [← S.pre, List.getElem?_take_of_lt (by omega)]; exact h1
    have ndP : ps.Nodup := by rw [← S.pre]; exact S.nd.sublist (List.take_sublist _ _)
    refine ⟨u, rv, ?_⟩
    rcases S.par y (List.mem_of_getElem? hp) with k | k
    · exact .inl ⟨k, bindL_get ndP hp hu k⟩
    · obtain ⟨c, e⟩ := cell_has (n := s.heap.objs.size + 1) k
      refine .inr ⟨.inl k, c, e, ?_⟩
      have q := x.cell y c e
      rw [bindC_get ndP hp hu (by show scope.names.lookup y ≠ _; rw [k]; decide)] at q
      exact q
  · exact e0.hok.fresh (Nat.le_of_lt (x.above y c (PySem.mem_of_lookup h)))
  · unfold start
    show _ = N.length
    rw [List.length_append, List.length_map, List.length_replicate]
    omega
theorem fn_of {CX : CXT} {P : Program} {w : World} {K : PySem.W.Frag} {mg : Str → Option Value} {base : Heap} {k : Nat} {f : Addr} {name qual : Str} {params : Arguments} {body : List Stmt} {scope : Scope} {dV kV doc pm cdv ct oc : Value} {an od : Option Addr}
    {osl : Array (Option Value)} {N ps : List Str} {sp : Sp} (lk : K.lookup f = some ⟨oc, od, .func (PySem.W.fnOf name qual params body scope dV kV doc pm an cdv ct), osl⟩) (hcd : PySem.W.codeIn K cdv qual = true) (S : FnScope N ps scope)
    (len : ∀ vs H Q E, sp vs H Q E → vs.length = ps.length)
    (hbody : ∀ (A : Around) (outer : List Env) (s : Shared) (H : Hp) (vs : List V) (Q : VK) (E : XK), Room k (A.deeper (envOfC qual scope s.heap.objs.size f cdv)) → sp vs H Q E →
      ∃ t, PSs (cxOf CX P w K mg base N qual scope f cdv A outer s H E) body t ∧ t { nx := fun _ H' => Q .non H', rt := Q } (start N vs) H) :
    FnOk P w K mg base CX (k + 1) f (PySem.W.fnOf name qual params body scope dV kV doc pm an cdv ct) ps sp := by
  refine ⟨len, fun A outer s H args us vs Q E hr e0 hb r hsp => ?_⟩
  have hl := len _ _ _ _ hsp
  have KX : K.In s.heap := e0.mod.kin.keeps fun b o e => (e0.bs b o e).1
  have lim : s.heap.NoLimit := e0.mod.nolimit.keeps fun b o e => (e0.bs b o e).1
  have hkind : ∀ y ∈ ps.zip us, scope.names.lookup y.1 = some .local ∨ (scope.names.lookup y.1 = some .cell ∧ ((cellsFrom (s.heap.objs.size + 1) scope.names []).lookup y.1).isSome = true) := fun ⟨n, v⟩ hy => by
    rcases S.par n (List.of_mem_zip hy).1 with q | q
    · exact .inl q
    · exact .inr ⟨q, PySem.W.cellsFrom_some _ _ _ (.inl q)⟩
  refine codeAny_call_function hr.depth (KX _ _ lk) rfl S.co S.gen rfl (PySem.W.codeRec_of KX hcd) (hb _ _ _ _ ?_)
  refine wpAny_newFunctionEnv_cells S.kind hkind fun env he s1 x => ?_
  subst he
  refine ⟨lim.keeps x.toInCall.keep, codeAny_func ?_⟩
  obtain ⟨t, ht, hq⟩ := hbody A outer s H vs Q E (hr.deeper _) hsp
  have I : Inv (cxOf CX P w K mg base N qual scope f cdv A outer s H E) [] (start N vs) H s1 := inv_start S hr.hd e0 hl r x
  refine wpAny_mono (ht [] s1 (start N vs) H _ I hq) (fun fl s' hs => ?_) fun e s' hs => hs
  have fin : ∀ {σ' : St} {H' : Hp} {v : V} {u : Value}, Inv (cxOf CX P w K mg base N qual scope f cdv A outer s H E) [] σ' H' s' → RelV v u → Q v H' → CE outer P w H s Q u s' :=
    fun {σ' H' v u} J rv q => ⟨v, H', J.os, J.bare, J.base, J.hok, rv, q⟩
  cases fl with
  | ret u =>
    obtain ⟨v, σ', H', J, rv, q⟩ := hs
    exact fin J rv q
  | next =>
    obtain ⟨σ', H', J, q⟩ := hs
    exact fin (v := V.non) (u := Value.none) J rfl q
  | brk =>
    obtain ⟨_, _, _, q⟩ := hs
    exact False.elim q
  | cont =>
    obtain ⟨_, _, _, q⟩ := hs
    exact False.elim q
end L2
namespace L2
open PySem PySem.Spec PyProof.Rows
section
variable {X : Cx} {x : Str} {p pos : Pos} {e : Expr} {es : List Expr} {t : TA} {id T : String} {r : List V → Hp → VK → Prop}
def tCB (r : List V → Hp → VK → Prop) (t : TA) : TE := fun σ H Q => t σ H fun vs H1 => r vs H1 Q
theorem pe_callB (hc : CallR X (.builtin id) r) (hg : Gl X x) (hm : X.mg x = none) (hv : bootBuiltins x = some (.builtin id)) (ha : PA X (e :: es) t) (hn : x ≠ "__name__" := by decide) (hdb : (x == ("__debug__" : Str)) = false := by decide)
    (he : starEach (e :: es) X.env = (false, eval e X.env) :: starEach es X.env := by rfl) (hpl : (backTo pos (starEach es X.env)).any (·.1) = false := by rfl) : PE X (.Call (.Name x p) (e :: es) [] pos) (tCB r t) := by
  intro pins s σ H Q I h
  refine wpAny_Call_Name_kw (ld_blt I hg hm hv ?_ hn hdb)
  exact PyProof.Rows.callWith_builtin1 (thn (ha pos pins s σ H _ I h) fun us s1 ⟨vs, H1, I1, r1, q1⟩ => hc pins s1 σ H1 vs us Q I1 r1 q1) he hpl
theorem pe_callTy (hc : CallR X (.type T) r) (hg : Gl X x) (hm : X.mg x = none) (hv : bootBuiltins x = some (.type T)) (ha : PA X (e :: es) t) (hn : x ≠ "__name__" := by decide) (hdb : (x == ("__debug__" : Str)) = false := by decide)
    (he : starEach (e :: es) X.env = (false, eval e X.env) :: starEach es X.env := by rfl) (hpl : (backTo pos (starEach es X.env)).any (·.1) = false := by rfl) : PE X (.Call (.Name x p) (e :: es) [] pos) (tCB r t) := by
  intro pins s σ H Q I h
  refine wpAny_Call_Name_kw (ld_blt I hg hm hv ?_ hn hdb)
  exact PyProof.Rows.callWith_type1 (thn (ha pos pins s σ H _ I h) fun us s1 ⟨vs, H1, I1, r1, q1⟩ => hc pins s1 σ H1 vs us Q I1 r1 q1) he hpl
end
end L2
namespace HT
open PySem PyProof.Rows
def lexLt : List Int → List Int → Bool
  | [], [] => false
  | [], _ :: _ => true
  | _ :: _, [] => false
  | x :: xs, y :: ys => if x = y then lexLt xs ys else decide (x < y)
theorem lexLt_cons (x y : Int) (xs ys : List Int) : lexLt (x :: xs) (y :: ys) = if x = y then lexLt xs ys else decide (x < y) := rfl
theorem lexLt_nil_nil : lexLt [] [] = false := rfl
theorem lexLt_nil_cons (y : Int) (ys : List Int) : lexLt [] (y :: ys) = true := rfl
theorem lexLt_cons_nil (x : Int) (xs : List Int) : lexLt (x :: xs) [] = false := rfl
theorem eqAt_int (A : Around) (s : Shared) (a : Int) (t : Tok) (c : Int) (u : Tok) : ∃ e, SeqAt.EqAt A s (.int a t) (.int c u) e ∧ (e = true ↔ a = c) :=
  ⟨(a == c), SeqAt.EqAt.int_int a t c u, by simp⟩
theorem rcLt_int (A : Around) (s : Shared) (a : Int) (t : Tok) (c : Int) (u : Tok) (prog : Program) (w : World) (E : Value → Shared → Prop) (Q : Value → Shared → Prop) (h : Q (.bool (decide (a < c))) s) :
    wpAny (model prog w) A (richCompare .Lt (.int a t) (.int c u)) Q E s :=
  (PyProof.Rows.lt_int h : wpAny (model prog w) A (compareOp .Lt (.int a t) (.int c u)) Q E s)
section
open PySem.SeqAt
open PySem.AutoSeq1 (wpAny_loadPart')
open PySem.MeetsSeq PySem.MeetsSeq2 PySem.MeetsSeq3
theorem tuple_lt_ints (l b : Addr) (items items2 : Array Value) (n n2 : Nat) (dd dd2 : Option Addr) (sl sl2 : Array (Option Value)) (ns ms : List Int) (hi : IntsAre items.toList ns) (hj : IntsAre items2.toList ms) :
    Meets (Builtin.«tuple.__lt__» ⟨[.ref l, .ref b], []⟩)
      (fun _ R s => s.heap.get? l = some { cls := .type "tuple", dict := dd, data := .seq items n, slots := sl } ∧ s.heap.get? b = some { cls := .type "tuple", dict := dd2, data := .seq items2 n2, slots := sl2 } ∧
        R (.ok (.ret (.bool (lexLt ns ms)))) s) :=
  .of_wp fun prog w A R s h => by
    obtain ⟨hp, g, d, tk, os⟩ := s; obtain ⟨hl, hb, h⟩ := h
    have f2 := AutoSeq1.sub_tuple_tuple
    have z1 : items.size = ns.length := by rw [← hi.length]; simp
    have z2 : items2.size = ms.length := by rw [← hj.length]; simp
    wp_walk using wpAny_loadPart' hl, wpAny_loadPart' hb, wpAny_forIn_list _ (fun rest b s' => b.1 = none ∧ s' = ⟨hp, g, d, tk, os⟩ ∧ ∃ (vs ws : List Value) (ns' ms' : List Int), rest = vs.zip ws ∧
      IntsAre vs ns' ∧ IntsAre ws ms' ∧ ns'.length + items2.size = ms'.length + items.size ∧ R (.ok (.ret (.bool (lexLt ns' ms')))) ⟨hp, g, d, tk, os⟩) _
    case turn =>
      rintro ⟨y, x⟩ rest b s' ⟨hb', rfl, vs, ws, ns', ms', hz, hvi, hwi, hlen, hR⟩
      cases hvi with
      | nil => rw [List.zip_nil_left] at hz; cases hz
      | cons a t hvi' =>
        cases hwi with
        | nil => rw [List.zip_nil_right] at hz; cases hz
        | cons c u hwi' =>
          rw [List.zip_cons_cons] at hz
          injection hz with hyx hrest
          injection hyx with hy hx
          subst hy hx
          rw [lexLt_cons] at hR
          simp only [List.length_cons] at hlen
          obtain ⟨e, he, hiff⟩ := eqAt_int A.in1 ⟨hp, g, d, tk, os⟩ a t c u
          refine wpAny_bind (he prog w _ _ ?_)
          cases e with
          | true =>
            rw [if_pos (hiff.mp rfl)] at hR
            wp_walk
            exact ⟨rfl, rfl, _, _, _, _, hrest, hvi', hwi', by omega, hR⟩
          | false =>
            rw [if_neg (fun q => absurd (hiff.mpr q) Bool.false_ne_true)] at hR
            have hri := rcLt_int A.in1 ⟨hp, g, d, tk, os⟩ a t c u prog w
            wp_walk using hri
            exact ⟨_, rfl, by simpa using hR⟩
    case fin =>
      rintro ⟨b1, b2⟩ s' ⟨hb', rfl, vs, ws, ns', ms', hz, hvi, hwi, hlen, hR⟩
      simp only at hb'
      subst hb'
      have hv : lexLt ns' ms' = decide (items.size < items2.size) := by
        cases hvi with
        | nil =>
          cases hwi with
          | nil =>
            simp only [List.length_nil] at hlen
            rw [lexLt_nil_nil]
            exact (decide_eq_false (by omega)).symm
          | cons c u hw =>
            simp only [List.length_nil, List.length_cons] at hlen
            rw [lexLt_nil_cons]
            exact (decide_eq_true (by omega)).symm
        | cons a t hv =>
          cases hwi with
          | nil =>
            simp only [List.length_nil, List.length_cons] at hlen
            rw [lexLt_cons_nil]
            exact (decide_eq_false (by omega)).symm
          | cons c u hw =>
            rw [List.zip_cons_cons] at hz
            cases hz
      rw [hv] at hR
      wp_walk
      exact ⟨_, rfl, by simpa [Builtin.Tuple.tupleCompareSizes] using hR⟩
    case h =>
      exact ⟨rfl, rfl, items.toList, items2.toList, ns, ms, rfl, hi, hj, by omega, h⟩
end
section
variable {prog : Program} {w : World} {A : Around} {E : Value → Shared → Prop} {s : Shared}
theorem lt_tupInts {l b : Addr} {items items2 : Array Value} {ns ms : List Int} {Q : Value → Shared → Prop} (hl : IsTup s.heap l items) (hb : IsTup s.heap b items2) (hi : IntsAre items.toList ns) (hj : IntsAre items2.toList ms)
    (hu : A.units < cLine) (h : Q (.bool (lexLt ns ms)) s) : wpAny (model prog w) A (compareOp .Lt (.ref l) (.ref b)) Q E s := by
  obtain ⟨⟨cls, dd, data, sl⟩, ho, hc, n, hd⟩ := id hl
  obtain ⟨⟨cls2, dd2, data2, sl2⟩, ho2, hc2, n2, hd2⟩ := id hb
  simp only at hc hd hc2 hd2
  subst hc hd hc2 hd2
  exact richCompare_meets_room (op := .Lt) ⟨_, ho, rfl⟩ ⟨_, ho2, rfl⟩ PySem.F.slot_tuple_lt PySem.F.entry_tuple_lt (PySem.F.args_tuple_lt_2 _ _) (tuple_lt_ints l b items items2 n n2 dd dd2 sl sl2 ns ms hi hj)
    ⟨ho, ho2, show Value.bool (lexLt ns ms) ≠ Value.notImplemented ∧ Q (.bool (lexLt ns ms)) s from ⟨(fun x => nomatch x), h⟩⟩ hu
def sIx (n d : Nat) : Option Int → Nat
  | none => d
  | some v => if v < 0 then (v + (n : Int)).toNat else min v.toNat n
end
end HT
namespace L2
open PySem PySem.Spec PyProof.Rows
abbrev TO := St → Hp → (Option Int → Hp → Prop) → Prop
section
variable {X : Cx} {e : Expr} {te : TE} {lo hi : Option Expr} {tl th : TO} {pos p2 : Pos}
def SlR (X : Cx) (r : V → Option Int → Option Int → Hp → VK → Prop) : Prop :=
  ∀ (pins : List (Addr × Obj)) (s : Shared) (σ : St) (H : Hp) (x : V) (v vl vu : Value) (lo hi : Option Int) (sl : Addr) (Q : VK), Inv X pins σ H s → RelV x v → s.heap.IsSliceOf sl vl vu .none → IsPart vl lo → IsPart vu hi → r x lo hi H Q →
    ∃ T id, typeLookup (.type T) "__getitem__" = pure (some (.builtin id)) ∧ s.TypeIs v T ∧ wpAny (model X.prog X.w) X.A (getItem v (.ref sl)) (EP X pins σ Q) X.xe s
def cutV (xs : List V) (lo hi : Option Int) : List V := (xs.drop (HT.sIx xs.length 0 lo)).take (HT.sIx xs.length xs.length hi - HT.sIx xs.length 0 lo)
theorem cutV_length (xs : List V) (lo hi : Option Int) : (cutV xs lo hi).length ≤ xs.length := by
  unfold cutV
  rw [List.length_take, List.length_drop]
  omega
end
end L2
namespace L2
open PySem PySem.Spec PyProof.Rows
def ixN (n : Nat) (i : Int) : Option Nat := if 0 ≤ i then (if i < n then some i.toNat else none) else if -(n : Int) ≤ i then some (i + n).toNat else none
def atI {α : Type} (xs : List α) (i : Int) : Option α := (ixN xs.length i).bind fun j => xs[j]?
theorem ixN_seq {n : Nat} {i : Int} {j : Nat} (h : ixN n i = some j) : seqIndex? i n = some j ∧ j < n ∧ -(n : Int) ≤ i ∧ i < n := by
  unfold ixN at h
  by_cases h0 : 0 ≤ i
  · rw [if_pos h0] at h
    by_cases h1 : i < n
    · rw [if_pos h1] at h
      have e : i.toNat = j := Option.some.inj h
      exact ⟨by rw [seqIndex_of h0 h1, e], by omega, by omega, h1⟩
    · rw [if_neg h1] at h; cases h
  · rw [if_neg h0] at h
    by_cases h1 : -(n : Int) ≤ i
    · rw [if_pos h1] at h
      have e : (i + n).toNat = j := Option.some.inj h
      exact ⟨by rw [seqIndex_neg (by omega) h1, e], by omega, h1, by omega⟩
    · rw [if_neg h1] at h; cases h
theorem atI_get {α : Type} {xs : List α} {i : Int} {v : α} (h : atI xs i = some v) : ∃ j, seqIndex? i xs.length = some j ∧ xs[j]? = some v ∧ j < xs.length ∧ -(xs.length : Int) ≤ i ∧ i < xs.length := by
  unfold atI at h
  cases e : ixN xs.length i with
  | none => rw [e] at h; cases h
  | some j =>
    rw [e] at h
    obtain ⟨h1, h2, h3, h4⟩ := ixN_seq e
    exact ⟨j, h1, h, h2, h3, h4⟩
theorem atI_nat {α : Type} {xs : List α} {j : Nat} {v : α} (h : xs[j]? = some v) : atI xs (j : Int) = some v := by
  have hj : j < xs.length := (List.getElem?_eq_some_iff.mp h).1
  have e : ixN xs.length (j : Int) = some j := by
    unfold ixN
    rw [if_pos (by omega), if_pos (by omega)]; simp
  unfold atI; rw [e]; exact h
def PlainIx (b : Expr) : Prop := ∀ o i, subscripted b false o i = operate [o, i] (getItem o i)
def IxR (X : Cx) (r : R2) : Prop :=
  ∀ (value slice : Expr) (pins : List (Addr × Obj)) (s : Shared) (σ : St) (H : Hp) (x y : V) (v u : Value) (Q : VK), Inv X pins σ H s → RelV x v → RelV y u → r x y H Q →
    subscripted slice false v u = operate [v, u] (getItem v u) → wpAny (model X.prog X.w) X.A (subscriptTail value slice v u) (EP X pins σ Q) X.xe s
def MtR (X : Cx) (id : String) (r : V → List V → Hp → VK → Prop) : Prop :=
  ∀ (pins : List (Addr × Obj)) (s : Shared) (σ : St) (H : Hp) (x : V) (xs : List V) (v : Value) (us : List Value) (Q : VK), Inv X pins σ H s → RelV x v → Vals xs us → r x xs H Q →
    wpAny (model X.prog X.w) X.A (call (.builtin id) (v :: us)) (EP X pins σ Q) X.xe s
section
variable {X : Cx} {a b : Expr} {ta tb : TE} {pos : Pos}
theorem pe_ix {r : R2} (hr : IxR X r) (ha : PE X a ta) (hb : PE X b tb) (hs : PlainIx b) : PE X (.Subscript a b pos) (tOp r ta tb) := by
  intro pins s σ H Q I h
  exact Subscript_ (binT ha hb I h fun v u s2 x y H2 I2 rx ry q => hr a b pins s2 σ H2 x y v u Q I2 rx ry q (hs _ _))
def rIxL (K : PySem.W.Frag) : R2 := fun x y H Q => ∃ p xs i v, x = .ref p ∧ y = .int i ∧ SqL K H p xs ∧ atI xs i = some v ∧ Q v H
def rIxT (K : PySem.W.Frag) : R2 := fun x y H Q => ∃ p xs i v, x = .ref p ∧ y = .int i ∧ SqT K H p xs ∧ atI xs i = some v ∧ Q v H
theorem ix_list : IxR X (rIxL X.K) := by
  intro value slice pins s σ H x y v u Q I rx ry h hs
  obtain ⟨p, xs, i, z, rfl, rfl, hq, he, q⟩ := h
  cases rx
  obtain ⟨t, rfl⟩ := ry
  obtain ⟨its, r, pl, hz⟩ := I.list hq
  obtain ⟨j, h1, h2, h3, h4, h5⟩ := atI_get he
  obtain ⟨w, ew, rw'⟩ := r.get h2
  have hl := r.length
  have hn := line63
  have fin : EP X pins σ Q w s := ⟨z, H, I, rw', q⟩
  by_cases h0 : 0 ≤ i
  · have hj : i.toNat = j := by
      rw [seqIndex_of h0 h5] at h1
      exact Option.some.inj h1
    exact item_listR pl.isList h0 (by omega) (by rw [hj]; simpa using ew) fin hs
  · have hj : (i + (its.toArray.size : Int)).toNat = j := by
      rw [seqIndex_neg (by omega) h4] at h1
      rw [List.size_toArray, ← hl]
      exact Option.some.inj h1
    exact subscriptTail_builtinR (x := w) pl.isList.typeIs slot_list_getitem.lookup
      (wpAny_getItem_list_neg (Q := fun r s' => r = w ∧ EP X pins σ Q r s') pl.isList (by omega) (by rw [List.size_toArray] <;> omega) (by omega) (by rw [hj]; simpa using ew) ⟨rfl, fin⟩) hs
theorem ix_tup : IxR X (rIxT X.K) := by
  intro value slice pins s σ H x y v u Q I rx ry h hs
  obtain ⟨p, xs, i, z, rfl, rfl, hq, he, q⟩ := h
  cases rx
  obtain ⟨t, rfl⟩ := ry
  obtain ⟨its, r, pl, hz⟩ := I.tuple hq
  obtain ⟨j, h1, h2, h3, h4, h5⟩ := atI_get he
  obtain ⟨w, ew, rw'⟩ := r.get h2
  have hl := r.length
  have hn := line63
  have fin : EP X pins σ Q w s := ⟨z, H, I, rw', q⟩
  exact subscriptTail_builtinR (x := w) pl.typeIs slot_tuple_getitem.lookup
    (getItem_tuple (j := j) (Q := fun r s' => r = w ∧ EP X pins σ Q r s') pl (by omega) (by omega) (by rw [List.size_toArray, ← hl]; exact h1) (by simpa using ew) ⟨rfl, fin⟩) hs
theorem mapSeq_set (its : List Value) (n j : Nat) (u : Value) : Obj.mapSeq (·.setIfInBounds j u) { cls := .type "list", data := .seq its.toArray n } = { cls := .type "list", data := .seq (its.set j u).toArray n } := by
  simp [Obj.mapSeq]
theorem Inv.lst {pins : List (Addr × Obj)} {σ : St} {H : Hp} {s : Shared} {p : Addr} {xs : List V} (I : Inv X pins σ H s) (h : H p = some (.lst xs)) :
    ∃ (its : List Value) (n : Nat), Vals xs its ∧ s.heap.get? p = some { cls := .type "list", data := .seq its.toArray n } ∧ xs.length ≤ sizeLine := by
  obtain ⟨z, its, n, r, e⟩ := I.hok p _ h
  exact ⟨its, n, r, e, z⟩
theorem Inv.lstUpd {pins : List (Addr × Obj)} {σ : St} {H : Hp} {s : Shared} {p : Addr} {xs ys : List V} {its its' : List Value} {n n' : Nat} {f : Obj → Obj} (I : Inv X pins σ H s) (h : H p = some (.lst xs))
    (ho : s.heap.get? p = some { cls := .type "list", data := .seq its.toArray n }) (hf : f { cls := .type "list", data := .seq its.toArray n } = { cls := .type "list", data := .seq its'.toArray n' }) (r : Vals ys its') (hz : ys.length ≤ sizeLine) (t : Nat) :
    Inv X pins σ (upd H p (.lst ys)) { s with heap := s.heap.update p f, toks := t } := by
  have e : (s.heap.update p f).get? p = some { cls := .type "list", data := .seq its'.toArray n' } := by
    rw [Heap.get?_update_self f ho (by rw [hf] <;> rfl), hf]
  refine I.write (x := p) (e := p) (by rw [h]; trivial) (.inl rfl) (fun b u hb q => (Heap.get?_update_other _ _ (Ne.symm hb)).trans q) ⟨_, e⟩ ?_
  exact ⟨hz, its', n', r, e⟩
def rSetL : V → V → V → Hp → (Hp → Prop) → Prop := fun o i v H Q => ∃ p xs k j, o = .ref p ∧ i = .int k ∧ H p = some (.lst xs) ∧ ixN xs.length k = some j ∧ Q (upd H p (.lst (xs.set j v)))
theorem set_list : PSet X rSetL := by
  intro pins s σ H o i v ov iv u Q I ro ri rv h
  obtain ⟨p, xs, k, j, rfl, rfl, hp, hj, q⟩ := h
  cases ro
  obtain ⟨t, rfl⟩ := ri
  obtain ⟨its, n, r, ho, hz⟩ := I.lst hp
  obtain ⟨h1, h2, h3, h4⟩ := ixN_seq hj
  have hl := r.length
  have hn := line63
  have I' : Inv X pins σ (upd H p (.lst (xs.set j v))) { s with heap := s.heap.update p (Obj.mapSeq (·.setIfInBounds j u)) } :=
    I.lstUpd hp ho (mapSeq_set its n j u) (r.set rv j) (by rw [List.length_set]; exact hz) s.toks
  by_cases h0 : 0 ≤ k
  · have hk : k.toNat = j := by
      rw [seqIndex_of h0 h4] at h1
      exact Option.some.inj h1
    exact PySem.W.ki_setAt ho h0 (by omega) (by rw [List.size_toArray, ← hl]; exact h4) (by rw [hk]; exact ⟨_, I', q⟩)
  · have hk : (k + (its.toArray.size : Int)).toNat = j := by
      rw [seqIndex_neg (by omega) h3] at h1
      rw [List.size_toArray, ← hl]
      exact Option.some.inj h1
    exact PySem.W.ki_setBack ho (by omega) (by rw [List.size_toArray, ← hl]; exact h3) (by omega) (by rw [hk]; exact ⟨_, I', q⟩)
theorem slice_bounds (lo hi : Option Int) (n : Nat) : (sliceBounds lo hi none n).1 = ((HT.sIx n 0 lo : Nat) : Int) ∧ (sliceBounds lo hi none n).2.1 = ((HT.sIx n n hi : Nat) : Int) ∧ (sliceBounds lo hi none n).2.2 = 1 := by
  refine ⟨?_, ?_, rfl⟩
  · cases lo with
    | none => simp [sliceBounds, HT.sIx]
    | some i =>
      simp only [sliceBounds, HT.sIx, Option.getD_none, show (1 : Int) > 0 by decide, if_true]
      by_cases h : i < 0
      · simp only [h, if_true] <;> omega
      · simp only [h, if_false] <;> omega
  · cases hi with
    | none => simp [sliceBounds, HT.sIx]
    | some i =>
      simp only [sliceBounds, HT.sIx, Option.getD_none, show (1 : Int) > 0 by decide, if_true]
      by_cases h : i < 0
      · simp only [h, if_true] <;> omega
      · simp only [h, if_false] <;> omega
theorem slicePick_cut (its : List Value) (lo hi : Option Int) : slicePick its.toArray lo hi none = ((its.drop (HT.sIx its.length 0 lo)).take (HT.sIx its.length its.length hi - HT.sIx its.length 0 lo)).toArray := by
  obtain ⟨h1, h2, h3⟩ := slice_bounds lo hi its.toArray.size
  unfold slicePick
  rw [h1, h2, h3]
  simp only [sliceRange_one, pick_run, List.size_toArray] <;> rfl
def rSlL (K : PySem.W.Frag) : V → Option Int → Option Int → Hp → VK → Prop := fun x lo hi H Q => ∃ a xs, x = .ref a ∧ SqL K H a xs ∧ ∀ p, H p = none → Q (.ref p) (upd H p (.lst (cutV xs lo hi)))
theorem sl_list : SlR X (rSlL X.K) := by
  intro pins s σ H x v vl vu lo hi sl Q I rx hs pl pu h
  obtain ⟨a, xs, rfl, hx, q⟩ := h
  cases rx
  obtain ⟨its, r, ht, hz⟩ := I.list hx
  have hlen := r.length
  refine ⟨"list", _, slot_list_getitem.lookup, ht.isList.typeIs, ?_⟩
  refine wpAny_getItem_list_slice ht.isList hs pl pu .none (by simp) ?_ (by rw [List.size_toArray] <;> omega)
  rw [slicePick_cut, ← hlen]
  refine ⟨.ref s.heap.objs.size, _, I.laid (t' := s.toks) (o := .lst (cutV xs lo hi)) (fun b ob q => Heap.get?_push_of_some _ q) (Nat.le_refl _) ?_, rfl, q _ (I.hok.fresh (Nat.le_refl _))⟩
  exact ⟨Nat.le_trans (cutV_length xs lo hi) hz, _, 0, (r.drop (HT.sIx xs.length 0 lo)).take (HT.sIx xs.length xs.length hi - HT.sIx xs.length 0 lo), Heap.get?_push_size _ rfl⟩
def flatV : V → Bool
  | .non => true
  | .bl _ => true
  | .int _ => true
  | .str _ => true
  | _ => false
def eqV : V → V → Bool
  | .non, .non => true
  | .bl a, .bl b => a == b
  | .bl a, .int b => (if a then 1 else 0) == b
  | .int a, .bl b => a == (if b then 1 else 0)
  | .int a, .int b => a == b
  | .str a, .str b => a == b
  | _, _ => false
theorem eqAt_V {A : Around} {s : Shared} {y x : V} {u v : Value} (ry : RelV y u) (rx : RelV x v) (fy : flatV y = true) (fx : flatV x = true) : SeqAt.EqAt A s u v (eqV y x) := by
  cases y with
  | non =>
    cases ry
    cases x with
    | non => cases rx; exact SeqAt.EqAt.same _
    | bl b => cases rx; exact SeqAt.EqAt.none_bool b
    | int b => obtain ⟨t, rfl⟩ := rx; exact SeqAt.EqAt.none_int b t
    | str b => obtain ⟨t, rfl⟩ := rx; exact SeqAt.EqAt.none_str b t
    | _ => exact absurd (show false = true from fx) Bool.false_ne_true
  | bl a =>
    cases ry
    cases x with
    | non => cases rx; exact SeqAt.EqAt.bool_none a
    | bl b => cases rx; exact SeqAt.EqAt.bool_bool a b
    | int b => obtain ⟨t, rfl⟩ := rx; exact SeqAt.EqAt.bool_int a b t
    | str b => obtain ⟨t, rfl⟩ := rx; exact SeqAt.EqAt.bool_str a b t
    | _ => exact absurd (show false = true from fx) Bool.false_ne_true
  | int a =>
    obtain ⟨t', rfl⟩ := ry
    cases x with
    | non => cases rx; exact SeqAt.EqAt.int_none a t'
    | bl b => cases rx; exact SeqAt.EqAt.int_bool a t' b
    | int b => obtain ⟨t, rfl⟩ := rx; exact SeqAt.EqAt.int_int a t' b t
    | str b => obtain ⟨t, rfl⟩ := rx; exact SeqAt.EqAt.int_str a t' b t
    | _ => exact absurd (show false = true from fx) Bool.false_ne_true
  | str a =>
    obtain ⟨t', rfl⟩ := ry
    cases x with
    | non => cases rx; exact SeqAt.EqAt.str_none a t'
    | bl b => cases rx; exact SeqAt.EqAt.str_bool a t' b
    | int b => obtain ⟨t, rfl⟩ := rx; exact SeqAt.EqAt.str_int a t' b t
    | str b => obtain ⟨t, rfl⟩ := rx; exact SeqAt.EqAt.str_str a t' b t
    | _ => exact absurd (show false = true from fx) Bool.false_ne_true
  | _ => exact absurd (show false = true from fy) Bool.false_ne_true
def eqU (x : V) (u : Value) : Bool := match u with
  | .none => eqV .non x
  | .bool b => eqV (.bl b) x
  | .int i _ => eqV (.int i) x
  | .str z _ => eqV (.str z) x
  | _ => false
theorem eqU_of {x y : V} {u : Value} (r : RelV y u) (f : flatV y = true) : eqU x u = eqV y x := by
  cases y with
  | non => cases r; rfl
  | bl b => cases r; rfl
  | int i => obtain ⟨t, rfl⟩ := r; rfl
  | str z => obtain ⟨t, rfl⟩ := r; rfl
  | _ => exact absurd (show false = true from f) Bool.false_ne_true
theorem any_eqU {x : V} : ∀ {xs : List V} {us : List Value}, Vals xs us → xs.all flatV = true → us.any (eqU x) = xs.any fun y => eqV y x
  | _, _, .nil, _ => rfl
  | y :: xs, u :: us, .cons r t, f => by
    rw [List.all_cons, Bool.and_eq_true] at f
    rw [List.any_cons, List.any_cons, eqU_of r f.1, any_eqU t f.2]
theorem mem_eqAt {A : Around} {s : Shared} {x : V} {v : Value} (rx : RelV x v) (fx : flatV x = true) : ∀ {xs : List V} {us : List Value}, Vals xs us → xs.all flatV = true → ∀ u ∈ us, SeqAt.EqAt A s u v (eqU x u)
  | _, _, .nil, _ => fun u hu => by cases hu
  | y :: xs, u :: us, .cons r t, f => fun u' hu => by
    rw [List.all_cons, Bool.and_eq_true] at f
    rcases List.mem_cons.mp hu with rfl | hu
    · rw [eqU_of r f.1]; exact eqAt_V r rx f.1 fx
    · exact mem_eqAt rx fx t f.2 u' hu
def inV (x : V) (xs : List V) : Bool := xs.any fun y => eqV y x
def rIn (K : PySem.W.Frag) (neg : Bool) : R2 := fun x y H Q => ∃ p xs, y = .ref p ∧ (SqL K H p xs ∨ SqT K H p xs) ∧ flatV x = true ∧ xs.all flatV = true ∧ Q (.bl (if neg then !inV x xs else inV x xs)) H
theorem op_notIn_seq : OpR X (compareOp .NotIn) (rIn X.K true) := by
  intro pins s σ H x y v u Q I rx ry h
  obtain ⟨p, xs, rfl, hq, fx, fs, q⟩ := h
  cases ry
  rcases hq with hq | hq
  · obtain ⟨its, r, pl, hz⟩ := I.list hq
    refine SeqAt.notIn_listAt (eqU x) pl.isList (fun w hw => mem_eqAt rx fx r fs w (by simpa using hw)) ⟨.bl _, H, I, rfl, ?_⟩
    rw [show its.toArray.any (eqU x) = its.any (eqU x) by simp, any_eqU r fs]
    exact q
  · obtain ⟨its, r, pl, hz⟩ := I.tuple hq
    refine SeqAt.notIn_tupleAt (eqU x) pl (fun w hw => mem_eqAt rx fx r fs w (by simpa using hw)) ⟨.bl _, H, I, rfl, ?_⟩
    rw [show its.toArray.any (eqU x) = its.any (eqU x) by simp, any_eqU r fs]
    exact q
theorem call_len_seq : CallR X (.builtin "len") (fun xs H Q => ∃ p ys, xs = [.ref p] ∧ (SqL X.K H p ys ∨ SqT X.K H p ys) ∧ Q (.int ys.length) H) := by
  intro pins s σ H xs us Q I r h
  obtain ⟨p, ys, rfl, hq, q⟩ := h
  obtain ⟨u, rfl, rx⟩ := vals1 r
  cases rx
  have hn := line63
  rcases hq with hq | hq
  · obtain ⟨its, r', pl, hz⟩ := I.list hq
    have hlen := r'.length
    exact Calls.call_len_list pl.isList (by simp only [List.size_toArray] <;> omega) ⟨.int ys.length, H, I.tok _, ⟨s.toks + 1, by rw [List.size_toArray, hlen]⟩, q⟩
  · obtain ⟨its, r', pl, hz⟩ := I.tuple hq
    have hlen := r'.length
    exact len_tuple pl (by simp only [List.size_toArray] <;> omega) ⟨.int ys.length, H, I.tok _, ⟨s.toks + 1, by rw [List.size_toArray, hlen]⟩, q⟩
theorem call_list_of : CallR X (.type "list") (fun xs H Q => ∃ p ys, xs = [.ref p] ∧ (SqL X.K H p ys ∨ SqT X.K H p ys) ∧ ∀ l, H l = none → Q (.ref l) (upd H l (.lst ys))) := by
  intro pins s σ H xs us Q I r h
  obtain ⟨p, ys, rfl, hq, q⟩ := h
  obtain ⟨u, rfl, rx⟩ := vals1 r
  cases rx
  have fin : ∀ (its : List Value), Vals ys its → ys.length ≤ sizeLine → ∀ (h' : Heap) (c' : Nat), (∀ b o', s.heap.get? b = some o' → h'.get? b = some o') →
      h'.get? s.heap.objs.size = some { cls := .type "list", dict := none, data := .seq its.toArray c', slots := #[] } → EP X pins σ Q (.ref s.heap.objs.size) { s with heap := h' } := fun its r' hz h' c' kp e =>
    ⟨.ref s.heap.objs.size, _, I.laid (t' := s.toks) kp (Nat.le_refl _) (show ObjOk X.prog X.w _ h' _ (.lst ys) from ⟨hz, its, c', r', e⟩), rfl, q _ (I.hok.fresh (Nat.le_refl _))⟩
  rcases hq with hq | hq
  · obtain ⟨its, r', pl, hz⟩ := I.list hq
    have hlen := r'.length
    obtain ⟨o, ho, hc, n, hd⟩ := pl.isList
    exact call_list_seq p (.inl rfl) ho hc hd (fun h' c' kp e => fin its r' hz h' c' kp e) (by simp only [List.size_toArray] <;> omega)
  · obtain ⟨its, r', pl, hz⟩ := I.tuple hq
    have hlen := r'.length
    obtain ⟨o, ho, hc, n, hd⟩ := pl
    exact call_list_seq p (.inr rfl) ho hc hd (fun h' c' kp e => fin its r' hz h' c' kp e) (by simp only [List.size_toArray] <;> omega)
theorem call_tuple_of : CallR X (.type "tuple") (fun xs H Q => ∃ p ys, xs = [.ref p] ∧ ((SqL X.K H p ys ∧ ∀ l, H l = none → Q (.ref l) (upd H l (.tup ys))) ∨ (SqT X.K H p ys ∧ Q (.ref p) H))) := by
  intro pins s σ H xs us Q I r h
  obtain ⟨p, ys, rfl, h⟩ := h
  obtain ⟨u, rfl, rx⟩ := vals1 r
  cases rx
  rcases h with ⟨hq, q⟩ | ⟨hq, q⟩
  · obtain ⟨its, r', pl, hz⟩ := I.list hq
    have hlen := r'.length
    refine call_tuple_list pl.isList (fun h' kp => ?_) (by simp only [List.size_toArray] <;> omega)
    have I1 : Inv X pins σ H { s with heap := h' } := I.kept (t' := s.toks) kp
    have I2 : Inv X pins σ (upd H h'.objs.size (.tup ys)) { s with heap := h'.push { cls := .type "tuple", data := .seq its.toArray } } :=
      I1.laid (t' := s.toks) (fun b o e => Heap.get?_push_of_some _ e) (Nat.le_refl _) (show ObjOk X.prog X.w _ _ _ (.tup ys) from ⟨hz, its, r', IsTup.new _ _⟩)
    exact ⟨.ref h'.objs.size, _, I2, rfl, q _ (I1.hok.fresh (Nat.le_refl _))⟩
  · obtain ⟨its, r', pl, hz⟩ := I.tuple hq
    exact call_tuple_same pl ⟨.ref p, H, I, rfl, q⟩
def tyV (K : PySem.W.Frag) (T : String) (x : V) (H : Hp) : Prop := match x with
  | .str _ => T = "str"
  | .int _ => T = "int"
  | .ref p => (T = "list" ∧ ∃ xs, SqL K H p xs) ∨ (T = "tuple" ∧ ((∃ o, K.lookup p = some o ∧ o.cls = .type "tuple" ∧ o.dict = none) ∨ ∃ o xs, H p = some (.frz o (.tup xs)) ∧ o.cls = .type "tuple" ∧ o.dict = none)) ∨
      (T = "dict" ∧ ((∃ kvs, H p = some (.dK kvs)) ∨ ∃ kvs, H p = some (.dT kvs))) ∨ (T = "set" ∧ ∃ S n, H p = some (.set S n))
  | _ => False
theorem tyV_is {pins : List (Addr × Obj)} {σ : St} {H : Hp} {s : Shared} {T : String} {x : V} {v : Value} (I : Inv X pins σ H s) (r : RelV x v) (ty : tyV X.K T x H) :
    s.TypeIs v T ∧ ∀ a, v = .ref a → ∃ ob, s.heap.get? a = some ob ∧ ob.dict = none := by
  cases x with
  | str z =>
    obtain ⟨t, rfl⟩ := r
    cases (show T = "str" from ty)
    exact ⟨typeIs_str s z t, fun _ e => nomatch e⟩
  | int i =>
    obtain ⟨t, rfl⟩ := r
    cases (show T = "int" from ty)
    exact ⟨typeIs_int s i t, fun _ e => nomatch e⟩
  | ref p =>
    cases r
    rcases ty with ⟨rfl, xs, hq⟩ | ⟨rfl, ⟨o, hk, hc, hd⟩ | ⟨o, xs, hk, hc, hd⟩⟩ | ⟨rfl, hk⟩ | ⟨rfl, S, n, hk⟩
    · obtain ⟨its, _, pl, _⟩ := I.list hq
      refine ⟨pl.isList.typeIs, fun a e => ?_⟩
      cases e
      obtain ⟨o, n, e, c, hd, _⟩ := pl
      exact ⟨o, e, hd⟩
    · refine ⟨⟨o, I.kIn p o hk, hc⟩, fun a e => ?_⟩
      cases e
      exact ⟨o, I.kIn _ o hk, hd⟩
    · obtain ⟨e, _⟩ := (show ObjOk X.prog X.w H s.heap p (.frz o (.tup xs)) from I.hok p _ hk)
      exact ⟨⟨o, e, hc⟩, fun a z => by cases z; exact ⟨o, e, hd⟩⟩
    · have z : ∃ o, s.heap.get? p = some o ∧ o.ExactDict := by
        rcases hk with ⟨kvs, hk⟩ | ⟨kvs, hk⟩
        · obtain ⟨_, _, _, _, o, _, _, e, ex, _⟩ := I.hok p _ hk
          exact ⟨o, e, ex⟩
        · obtain ⟨_, _, _, _, o, _, _, e, ex, _⟩ := I.hok p _ hk
          exact ⟨o, e, ex⟩
      obtain ⟨o, e, ex⟩ := z
      refine ⟨⟨o, e, ex.1⟩, fun a e2 => ?_⟩
      cases e2
      exact ⟨o, e, ex.2.1⟩
    · obtain ⟨o, _, _, _, e, ex, _⟩ := I.hok p _ hk
      refine ⟨⟨o, e, ex.1⟩, fun a e2 => ?_⟩
      cases e2
      exact ⟨o, e, ex.2.1⟩
  | _ => exact False.elim ty
def tBM0 (K : PySem.W.Frag) (T : String) (r : V → List V → Hp → VK → Prop) (to : TE) : TE := fun σ H Q => to σ H fun x H1 => tyV K T x H1 ∧ r x [] H1 Q
def tBM (K : PySem.W.Frag) (T : String) (r : V → List V → Hp → VK → Prop) (to : TE) (t : TA) : TE := fun σ H Q => to σ H fun x H1 => tyV K T x H1 ∧ t σ H1 fun xs H2 => r x xs H2 Q
variable {o e : Expr} {es : List Expr} {to : TE} {t : TA} {name : Str} {apos cpos : Pos} {T id : String} {r : V → List V → Hp → VK → Prop}
theorem pe_bm0 (pa : PlainAttrs T) (slot : Slot T name id) (hty : typeOf (.builtin id) = pure (.type "method_descriptor")) (hm : MtR X id r) (ho : PE X o to)
    (hbase : attributeBase o name X.env (eval o X.env) = eval o X.env := by rfl) (hline : (apos.endLine == cpos.line) = true := by rfl) : PE X (.Call (.Attribute o name apos) [] [] cpos) (tBM0 X.K T r to) := by
  intro pins s σ H Q I h
  refine wpAny_Call_method0_late hbase hline (thn (ho pins s σ H _ I h) fun v s1 ⟨x, H1, I1, r1, ty, q1⟩ => ?_)
  obtain ⟨h1, h2⟩ := tyV_is I1 r1 ty
  exact ⟨T, id, pa, slot, hty, h1, h2, Calls.callWith_builtin rfl (PySem.evalArgs_none (hm pins s1 σ H1 x [] v [] Q I1 r1 .nil q1))⟩
theorem pe_bm (pa : PlainAttrs T) (slot : Slot T name id) (hty : typeOf (.builtin id) = pure (.type "method_descriptor")) (hm : MtR X id r) (ho : PE X o to) (ha : PA X (e :: es) t)
    (hbase : attributeBase o name X.env (eval o X.env) = eval o X.env := by rfl)
    (hfew : ((backTo cpos (starEach (e :: es) X.env)).all (fun x => !x.1) && (backToKw cpos (keywordEach [] X.env)).all (fun x => x.1.isSome)
      && decide ((e :: es).length + ([] : List Keyword).length + (if ([] : List Keyword).isEmpty then 0 else 1) < 30)) = true := by rfl)
    (hline : (apos.endLine == cpos.line) = true := by rfl) (hs : starEach (e :: es) X.env = (false, eval e X.env) :: starEach es X.env := by rfl) (hplain : (backTo cpos (starEach es X.env)).any (·.1) = false := by rfl) :
    PE X (.Call (.Attribute o name apos) (e :: es) [] cpos) (tBM X.K T r to t) := by
  intro pins s σ H Q I h
  refine wpAny_Call_method_late hbase hfew hline rfl (thn (ho pins s σ H _ I h) fun v s1 ⟨x, H1, I1, r1, ty, q1⟩ => ?_)
  obtain ⟨h1, h2⟩ := tyV_is I1 r1 ty
  refine ⟨T, id, pa, slot, hty, h1, h2, ?_⟩
  have hA := ha cpos pins s1 σ H1 _ I1 q1
  rw [hs] at hA ⊢
  refine Calls.callWith_builtin (by show (false || (backTo cpos (starEach es X.env)).any (·.1)) = false; rw [hplain] <;> rfl) (Calls.evalArgs_plain ?_)
  exact thn hA fun us s2 ⟨vs, H2, I2, r2, q2⟩ => hm pins s2 σ H2 x vs v us Q I2 r1 r2 q2
/- xs.append(e), list.index on a module's tuple .. are MtR facts of 06m -/
end
end L2
namespace L2
open PySem PySem.Spec PyProof.Rows
def MtM (X : Cx) (id : String) (r : V → List V → Hp → VK → Prop) : Prop :=
  ∀ (pins : List (Addr × Obj)) (s : Shared) (σ : St) (H : Hp) (x : V) (xs : List V) (v : Value) (us : List Value) (Q : VK), Inv X pins σ H s → RelV x v → Vals xs us → r x xs H Q →
    wpAny (model X.prog X.w) X.A (call (.builtin id) (v :: us)) (EP X pins σ Q) X.xe s
theorem Vals.one : ∀ {x : V} {us : List Value}, Vals [x] us → ∃ u, us = [u] ∧ RelV x u
  | _, _, .cons r .nil => ⟨_, rfl, r⟩
theorem Vals.zero : ∀ {us : List Value}, Vals [] us → us = []
  | _, .nil => rfl
theorem Vals.dropLast {xs : List V} {us : List Value} (h : Vals xs us) : Vals xs.dropLast us.dropLast := by
  induction h with
  | nil => exact .nil
  | cons r t ih =>
    cases t with
    | nil => exact .nil
    | cons q t' => exact .cons r ih
theorem Vals.eraseIdx : ∀ {xs : List V} {us : List Value} (i : Nat), Vals xs us → Vals (xs.eraseIdx i) (us.eraseIdx i)
  | _, _, _, .nil => .nil
  | _, _, 0, .cons _ t => t
  | _, _, i + 1, .cons r t => .cons r (Vals.eraseIdx i t)
theorem erase_last {α : Type} (l : List α) : l.eraseIdx (l.length - 1) = l.dropLast := by
  induction l with
  | nil => rfl
  | cons a r ih =>
    cases r with
    | nil => rfl
    | cons b r =>
      have e : (a :: b :: r).length - 1 = ((b :: r).length - 1) + 1 := by
        have h1 : (a :: b :: r).length = r.length + 2 := rfl
        have h2 : (b :: r).length = r.length + 1 := rfl
        omega
      rw [e, List.eraseIdx_cons_succ, ih]
      all_goals rfl
theorem len_erase {α : Type} : ∀ (l : List α) (i : Nat), (l.eraseIdx i).length ≤ l.length
  | [], _ => Nat.le_refl _
  | _ :: _, 0 => Nat.le_succ _
  | _ :: r, i + 1 => Nat.succ_le_succ (len_erase r i)
section
variable {X : Cx} {pins : List (Addr × Obj)} {σ : St} {H : Hp} {s : Shared} {l b : Addr} {xs ys zs : List V}
theorem Inv.lset {its its' : List Value} {n : Nat} {f : Array Value → Array Value} {t' : Nat} (I : Inv X pins σ H s) (hH : H l = some (.lst xs))
    (e : s.heap.get? l = some { cls := .type "list", data := .seq its.toArray n }) (hf : f its.toArray = its'.toArray) (hv : Vals ys its') (hz : ys.length ≤ sizeLine) :
    Inv X pins σ (upd H l (.lst ys)) { s with heap := s.heap.update l (Obj.mapSeq f), toks := t' } := by
  have q := PySem.IsL.update e f
  rw [hf] at q
  refine I.write (x := l) (e := l) (by rw [hH]; exact trivial) (.inl rfl) (fun b' u hb hu => (Heap.get?_update_other s.heap (Obj.mapSeq f) (Ne.symm hb)).trans hu) ⟨_, q⟩ ?_
  exact ⟨hz, its', _, hv, q⟩
theorem Inv.lnew {its : List Value} {t' : Nat} (I : Inv X pins σ H s) (hv : Vals ys its) (hz : ys.length ≤ sizeLine) :
    Inv X pins σ (upd H s.heap.objs.size (.lst ys)) { s with heap := s.heap.push { cls := .type "list", data := .seq its.toArray }, toks := t' } :=
  I.laid (fun _ _ q => Heap.get?_push_of_some _ q) (Nat.le_refl _) ⟨hz, its, 0, hv, Heap.get?_push_size _ rfl⟩
theorem Inv.fresh (I : Inv X pins σ H s) : H s.heap.objs.size = none := I.hok.fresh (Nat.le_refl _)
theorem Inv.lstM (I : Inv X pins σ H s) (hH : H l = some (.lst xs)) : xs.length ≤ sizeLine ∧ ∃ (its : List Value) (n : Nat), Vals xs its ∧ xs.length = its.length ∧ s.heap.get? l = some { cls := .type "list", data := .seq its.toArray n } := by
  obtain ⟨z, its, n, r, e⟩ := I.hok l _ hH
  exact ⟨z, its, n, r, r.length, e⟩
theorem notLongL {n : Nat} (h : n ≤ sizeLine) : Builtin.List.listTooLong n = false := by
  unfold Builtin.List.listTooLong
  exact decide_eq_false (by omega)
end
section
variable {X : Cx}
def rAppend : V → List V → Hp → VK → Prop := fun x vs H Q => ∃ l xs y, x = .ref l ∧ vs = [y] ∧ H l = some (.lst xs) ∧ xs.length < sizeLine ∧ Q .non (upd H l (.lst (xs ++ [y])))
theorem mt_append : MtM X "list.append" rAppend := by
  intro pins s σ H x vs v us Q I rx rv h
  obtain ⟨l, xs, y, rfl, rfl, hH, hz, q⟩ := h
  cases rx
  obtain ⟨u, rfl, ru⟩ := rv.one
  obtain ⟨z, its, n, r, hl, e⟩ := I.lstM hH
  refine call_meets F.slot_list_append ⟨_, e, rfl⟩ F.entry_list_append (F.args_list_append_2 _ _) (PySem.list_append l its.toArray n u (by rw [List.size_toArray]; omega)) ⟨e, ?_⟩
  refine ⟨.non, _, I.lset (its' := its ++ [u]) hH e (by simp) (r.append (.cons ru .nil)) ?_, rfl, q⟩
  rw [List.length_append, List.length_singleton]
  omega
def rExtend : V → List V → Hp → VK → Prop := fun x vs H Q => ∃ l b xs zs, x = .ref l ∧ vs = [.ref b] ∧ H l = some (.lst xs) ∧ H b = some (.lst zs) ∧ xs.length + zs.length ≤ sizeLine ∧ Q .non (upd H l (.lst (xs ++ zs)))
theorem mt_extend : MtM X "list.extend" rExtend := by
  intro pins s σ H x vs v us Q I rx rv h
  obtain ⟨l, b, xs, zs, rfl, rfl, hH, hB, hz, q⟩ := h
  cases rx
  obtain ⟨u, rfl, ru⟩ := rv.one
  cases ru
  obtain ⟨z, its, n, r, hl, e⟩ := I.lstM hH
  obtain ⟨z2, its2, n2, r2, hl2, e2⟩ := I.lstM hB
  have hsz : its.toArray.size + its2.toArray.size ≤ sizeLine := by rw [List.size_toArray, List.size_toArray]; omega
  have hlong : ¬ (!its.toArray.isEmpty && Builtin.List.listTooLong (its.toArray.size + its2.toArray.size)) = true := by
    rw [notLongL hsz, Bool.and_false]
    exact Bool.false_ne_true
  refine call_meets F.slot_list_extend ⟨_, e, rfl⟩ F.entry_list_extend (F.args_list_extend_2 _ _)
    (AutoSeq1.list_extend_list_list_0 l its.toArray n b its2.toArray n2 hlong (by rw [List.size_toArray]; omega) (by omega)) ⟨e, e2, ?_⟩
  refine ⟨.non, _, I.lset (its' := its ++ its2) hH e (by simp) (r.append r2) ?_, rfl, q⟩
  rw [List.length_append]
  omega
def rPop : V → List V → Hp → VK → Prop := fun x vs H Q => ∃ l xs y, x = .ref l ∧ vs = [] ∧ H l = some (.lst xs) ∧ xs[xs.length - 1]? = some y ∧ Q y (upd H l (.lst xs.dropLast))
theorem mt_pop : MtM X "list.pop" rPop := by
  intro pins s σ H x vs v us Q I rx rv h
  obtain ⟨l, xs, y, rfl, rfl, hH, hy, q⟩ := h
  cases rx
  have hus := rv.zero
  subst hus
  obtain ⟨z, its, n, r, hl, e⟩ := I.lstM hH
  obtain ⟨u, hu, ru⟩ := r.get hy
  have hy' : its.toArray[its.toArray.size - 1]? = some u := by
    show its.toArray[its.length - 1]? = some u
    rw [← Array.getElem?_toList, ← hl]
    exact hu
  refine call_meets F.slot_list_pop ⟨_, e, rfl⟩ F.entry_list_pop (F.args_list_pop_1 _) (MeetsSeq.list_pop_last l its.toArray n u hy' (by rw [List.size_toArray]; omega)) ⟨e, ?_⟩
  refine ⟨y, _, I.lset (its' := its.dropLast) hH e ?_ r.dropLast ?_, ru, q⟩
  · show its.toArray.eraseIdxIfInBounds (its.toArray.size - 1) = its.dropLast.toArray
    rw [List.size_toArray, List.eraseIdxIfInBounds_toArray, erase_last]
  · rw [List.length_dropLast]
    omega
def rPopAt : V → List V → Hp → VK → Prop := fun x vs H Q => ∃ l xs i k y, x = .ref l ∧ vs = [.int i] ∧ H l = some (.lst xs) ∧ -(2 ^ 63) ≤ i ∧ i < 2 ^ 63 ∧ seqIndex? i xs.length = some k ∧ xs[k]? = some y ∧ Q y (upd H l (.lst (xs.eraseIdx k)))
theorem mt_popAt : MtM X "list.pop" rPopAt := by
  intro pins s σ H x vs v us Q I rx rv h
  obtain ⟨l, xs, i, k, y, rfl, rfl, hH, h1, h2, hk, hy, q⟩ := h
  cases rx
  obtain ⟨u, rfl, ru⟩ := rv.one
  obtain ⟨t, rfl⟩ := ru
  obtain ⟨z, its, n, r, hl, e⟩ := I.lstM hH
  obtain ⟨w, hw, rw'⟩ := r.get hy
  refine call_meets F.slot_list_pop ⟨_, e, rfl⟩ F.entry_list_pop (F.args_list_pop_2 _ _)
    (MeetsSeq.list_pop_at l its.toArray n i t k w (fitsIndex_both h1 h2) (by rw [List.size_toArray, ← hl]; exact hk) (by rw [← Array.getElem?_toList]; exact hw) (by rw [List.size_toArray]; omega)) ⟨e, ?_⟩
  refine ⟨y, _, I.lset (its' := its.eraseIdx k) hH e ?_ (r.eraseIdx k) ?_, rw', q⟩
  · show its.toArray.eraseIdxIfInBounds k = (its.eraseIdx k).toArray
    rw [List.eraseIdxIfInBounds_toArray]
  · have := len_erase xs k
    omega
def rClear : V → List V → Hp → VK → Prop := fun x vs H Q => ∃ l xs, x = .ref l ∧ vs = [] ∧ H l = some (.lst xs) ∧ Q .non (upd H l (.lst []))
theorem mt_clear : MtM X "list.clear" rClear := by
  intro pins s σ H x vs v us Q I rx rv h
  obtain ⟨l, xs, rfl, rfl, hH, q⟩ := h
  cases rx
  have hus := rv.zero
  subst hus
  obtain ⟨z, its, n, r, hl, e⟩ := I.lstM hH
  refine call_meets F.slot_list_clear ⟨_, e, rfl⟩ F.entry_list_clear (F.args_list_clear_1 _) (AutoSeq1.list_clear_list_0 l its.toArray n (by rw [List.size_toArray]; omega)) ⟨e, ?_⟩
  exact ⟨.non, _, I.lset (its' := []) (ys := []) hH e rfl .nil (Nat.zero_le _), rfl, q⟩
def rCat : R2 := fun x y H Q => ∃ l b xs zs, x = .ref l ∧ y = .ref b ∧ H l = some (.lst xs) ∧ H b = some (.lst zs) ∧ xs.length + zs.length ≤ sizeLine ∧ ∀ p, H p = none → Q (.ref p) (upd H p (.lst (xs ++ zs)))
theorem op_cat : OpR X (binaryOp .Add) rCat := by
  intro pins s σ H x y v u Q I rx ry h
  obtain ⟨l, b, xs, zs, rfl, rfl, hH, hB, hz, q⟩ := h
  cases rx
  cases ry
  obtain ⟨z, its, n, r, hl, e⟩ := I.lstM hH
  obtain ⟨z2, its2, n2, r2, hl2, e2⟩ := I.lstM hB
  refine PySem.P.add_list e e2 ?_ (by rw [List.size_toArray, List.size_toArray]; omega)
  have ea : its.toArray ++ its2.toArray = (its ++ its2).toArray := by simp
  rw [ea]
  exact ⟨.ref _, _, I.lnew (t' := s.toks) (r.append r2) (by rw [List.length_append]; omega), rfl, q _ I.fresh⟩
end
end L2
namespace L2
open PySem PySem.Spec PyProof.Rows
section
variable {κ : Type} [DecidableEq κ]
def valV (kvs : List (κ × V)) (k : κ) : Option V := (kvs.find? fun kv => decide (kv.1 = k)).map (·.2)
def putK (kvs : List (κ × V)) (k : κ) (v : V) : List (κ × V) :=
  if (kvs.any fun kv => decide (kv.1 = k)) = true then kvs.map (fun kv => if kv.1 = k then (kv.1, v) else kv) else kvs ++ [(k, v)]
def dropK (kvs : List (κ × V)) (k : κ) : List (κ × V) := kvs.filter fun kv => decide (kv.1 ≠ k)
theorem valV_nil {k : κ} : valV ([] : List (κ × V)) k = none := rfl
theorem valV_pos {p : κ × V} {r : List (κ × V)} {k : κ} (e : p.1 = k) : valV (p :: r) k = some p.2 := by simp [valV, List.find?_cons, e]
theorem valV_neg {p : κ × V} {r : List (κ × V)} {k : κ} (e : ¬ p.1 = k) : valV (p :: r) k = valV r k := by simp [valV, List.find?_cons, e]
theorem valV_any (k : κ) : ∀ kvs : List (κ × V), (kvs.any fun kv => decide (kv.1 = k)) = (valV kvs k).isSome
  | [] => rfl
  | p :: r => by
    rw [List.any_cons]
    by_cases e : p.1 = k
    · simp only [valV_pos e, decide_eq_true e, Bool.true_or, Option.isSome_some]
    · rw [valV_neg e, decide_eq_false e, Bool.false_or]; exact valV_any k r
theorem valV_map (k j : κ) (y : V) : ∀ kvs : List (κ × V), valV (kvs.map fun kv => if kv.1 = k then (kv.1, y) else kv) j = (valV kvs j).map fun x => if j = k then y else x
  | [] => rfl
  | p :: r => by
    have ih := valV_map k j y r
    rw [List.map_cons]
    by_cases h : p.1 = k
    · rw [if_pos h]
      by_cases e : p.1 = j
      · rw [valV_pos (p := (p.1, y)) e, valV_pos e, Option.map_some, if_pos (e.symm.trans h)]
      · rw [valV_neg (p := (p.1, y)) e, valV_neg e, ih]
    · rw [if_neg h]
      by_cases e : p.1 = j
      · rw [valV_pos (p := p) e, valV_pos e, Option.map_some, if_neg (fun z => h (e.trans z))]
      · rw [valV_neg (p := p) e, valV_neg e, ih]
theorem valV_snoc (k j : κ) (y : V) : ∀ kvs : List (κ × V), valV kvs k = none → valV (kvs ++ [(k, y)]) j = if j = k then some y else valV kvs j
  | [], _ => by
    by_cases e : k = j
    · rw [if_pos e.symm]; exact valV_pos (p := (k, y)) e
    · rw [if_neg (fun z => e z.symm)]; exact valV_neg (p := (k, y)) e
  | p :: r, hn => by
    rw [List.cons_append]
    have hk : ¬ p.1 = k := fun z => by rw [valV_pos z] at hn; cases hn
    rw [valV_neg hk] at hn
    have ih := valV_snoc k j y r hn
    by_cases e : p.1 = j
    · rw [valV_pos e, valV_pos e, if_neg (fun z => hk (e.trans z))]
    · rw [valV_neg e, valV_neg e, ih]
theorem valV_put (kvs : List (κ × V)) (k j : κ) (y : V) : valV (putK kvs k y) j = if j = k then some y else valV kvs j := by
  unfold putK
  by_cases a : (kvs.any fun kv => decide (kv.1 = k)) = true
  · rw [if_pos a, valV_map]
    rw [valV_any] at a
    by_cases e : j = k
    · obtain ⟨x, hx⟩ := Option.isSome_iff_exists.mp a
      rw [if_pos e, e, hx, Option.map_some, if_pos rfl]
    · rw [if_neg e]
      cases valV kvs j with
      | none => rfl
      | some x => rw [Option.map_some, if_neg e]
  · rw [if_neg a]
    refine valV_snoc k j y kvs ?_
    rw [valV_any] at a
    cases q : valV kvs k with
    | none => rfl
    | some x => rw [q] at a; exact (a rfl).elim
theorem length_putK (kvs : List (κ × V)) (k : κ) (v : V) : (putK kvs k v).length ≤ kvs.length + 1 := by
  unfold putK
  split
  · rw [List.length_map]; omega
  · rw [List.length_append, List.length_cons, List.length_nil]; omega
theorem RelO.isSome_eq {o : Option V} {u : Option Value} (r : RelO o u) : o.isSome = u.isSome := by
  cases o with
  | none => cases u with
    | none => rfl
    | some _ => exact (show False from r).elim
  | some _ => cases u with
    | none => exact (show False from r).elim
    | some _ => rfl
theorem RelO.getD {o : Option V} {u : Option Value} {d : V} {d' : Value} (r : RelO o u) (rd : RelV d d') : RelV (o.getD d) (u.getD d') := by
  cases o with
  | none => cases u with
    | none => exact rd
    | some _ => exact (show False from r).elim
  | some _ => cases u with
    | none => exact (show False from r).elim
    | some _ => exact r
theorem KV.val {kvs : List (κ × V)} {vs : List (κ × Value)} (r : KV kvs vs) (k : κ) : RelO (valV kvs k) (valueAt vs k) := by
  unfold KV at r
  induction r with
  | nil => exact True.intro
  | @cons p q ps qs h t ih =>
    obtain ⟨h1, h2⟩ := h
    by_cases e : p.1 = k
    · have e' : q.1 = k := h1.symm.trans e
      have b : valueAt (q :: qs) k = some q.2 := by simp [valueAt, List.find?_cons, e']
      rw [valV_pos e, b]; exact h2
    · have e' : ¬ q.1 = k := fun z => e (h1.trans z)
      have b : valueAt (q :: qs) k = valueAt qs k := by simp [valueAt, List.find?_cons, e']
      rw [valV_neg e, b]; exact ih
theorem KV.any {kvs : List (κ × V)} {vs : List (κ × Value)} (r : KV kvs vs) (k : κ) : (kvs.any fun kv => decide (kv.1 = k)) = vs.any fun kv => decide (kv.1 = k) := by
  unfold KV at r
  induction r with
  | nil => rfl
  | cons h t ih => rw [List.any_cons, List.any_cons, ih, h.1]
theorem KV.repl {kvs : List (κ × V)} {vs : List (κ × Value)} (r : KV kvs vs) (k : κ) {y : V} {u : Value} (ry : RelV y u) :
    KV (kvs.map fun kv => if kv.1 = k then (kv.1, y) else kv) (vs.map fun kv => if kv.1 = k then (kv.1, u) else kv) := by
  unfold KV at r ⊢
  induction r with
  | nil => exact .nil
  | @cons p q ps qs h t ih =>
    rw [List.map_cons, List.map_cons]
    refine .cons ?_ ih
    obtain ⟨h1, h2⟩ := h
    by_cases e : p.1 = k
    · rw [if_pos e, if_pos (h1.symm.trans e)]; exact ⟨h1, ry⟩
    · rw [if_neg e, if_neg (fun z => e (h1.trans z))]; exact ⟨h1, h2⟩
theorem KV.put {kvs : List (κ × V)} {vs : List (κ × Value)} (r : KV kvs vs) (k : κ) {y : V} {u : Value} (ry : RelV y u) : KV (putK kvs k y) (stored vs k u) := by
  unfold putK stored
  rw [r.any k]
  by_cases e : (vs.any fun kv => decide (kv.1 = k)) = true
  · rw [if_pos e, if_pos e]; exact r.repl k ry
  · rw [if_neg e, if_neg e]; exact Paired.snoc r ⟨rfl, ry⟩
theorem KV.drop {kvs : List (κ × V)} {vs : List (κ × Value)} (r : KV kvs vs) (k : κ) : KV (dropK kvs k) (without vs k) := by
  unfold KV at r ⊢
  unfold dropK without
  induction r with
  | nil => exact .nil
  | @cons p q ps qs h t ih =>
    obtain ⟨h1, h2⟩ := h
    rw [List.filter_cons, List.filter_cons]
    by_cases e : p.1 = k
    · have a : ¬ decide (p.1 ≠ k) = true := by simp [e]
      have b : ¬ decide (q.1 ≠ k) = true := by simp [h1.symm.trans e]
      rw [if_neg a, if_neg b]; exact ih
    · have e' : ¬ q.1 = k := fun z => e (h1.trans z)
      have a : decide (p.1 ≠ k) = true := by simp [e]
      have b : decide (q.1 ≠ k) = true := by simp [e']
      rw [if_pos a, if_pos b]; exact .cons ⟨h1, h2⟩ ih
theorem KV.keys {kvs : List (κ × V)} {vs : List (κ × Value)} (r : KV kvs vs) : kvs.map (·.1) = vs.map (·.1) := by
  unfold KV at r
  induction r with
  | nil => rfl
  | cons h t ih => rw [List.map_cons, List.map_cons, ih, h.1]
theorem KV.length {kvs : List (κ × V)} {vs : List (κ × Value)} (r : KV kvs vs) : kvs.length = vs.length := Paired.length r
end
theorem kV_is {P : Program} {w : World} {k : Key} {u : Value} (r : RelV (kV k) u) : (mixKind P w).is k u = true := by
  cases k with
  | inl i => obtain ⟨t, e⟩ := (show ∃ t, u = Value.int i t from r); subst e; exact mixKind_int P w i t
  | inr x => obtain ⟨t, e⟩ := (show ∃ t, u = Value.str x t from r); subst e; exact mixKind_str P w x t
theorem items_are {P : Program} {w : World} : ∀ {ks : List Key} {us : List Value}, Vals (ks.map kV) us → ItemsAre (mixKind P w) ks us
  | [], _, r => by rw [List.map_nil] at r; cases r; exact .nil
  | k :: ks, _, r => by
    rw [List.map_cons] at r
    cases r with
    | cons h t => exact .cons (kV_is h) (items_are t)
abbrev KT (H : Hp) : List (List Key × V) → List (List Key × Addr × Value) → Prop := Paired fun p q => p.1 = q.1 ∧ H q.2.1 = some (.tup (p.1.map kV)) ∧ RelV p.2 q.2.2
theorem KT.val {H : Hp} {kvs : List (List Key × V)} {xs : List (List Key × Addr × Value)} (r : KT H kvs xs) (k : List Key) : RelO (valV kvs k) ((atKey xs k).map (·.2)) := by
  induction r with
  | nil => exact True.intro
  | @cons p q ps qs h t ih =>
    obtain ⟨h1, _, h2⟩ := h
    by_cases e : p.1 = k
    · have e' : q.1 = k := h1.symm.trans e
      have b : atKey (q :: qs) k = some q.2 := by simp [atKey, List.find?_cons, e']
      rw [valV_pos e, b]; exact h2
    · have e' : ¬ q.1 = k := fun z => e (h1.trans z)
      have b : atKey (q :: qs) k = atKey qs k := by simp [atKey, List.find?_cons, e']
      rw [valV_neg e, b]; exact ih
theorem KT.repl {H : Hp} {kvs : List (List Key × V)} {xs : List (List Key × Addr × Value)} (r : KT H kvs xs) (k : List Key) {y : V} {u : Value} (ry : RelV y u) :
    KT H (kvs.map fun kv => if kv.1 = k then (kv.1, y) else kv) (xs.map (putAt k u)) := by
  induction r with
  | nil => exact .nil
  | @cons p q ps qs h t ih =>
    rw [List.map_cons, List.map_cons]
    refine .cons ?_ ih
    obtain ⟨h1, h2, h3⟩ := h
    unfold putAt
    by_cases e : p.1 = k
    · rw [if_pos e, if_pos (h1.symm.trans e)]; exact ⟨h1, h2, ry⟩
    · rw [if_neg e, if_neg (fun z => e (h1.trans z))]; exact ⟨h1, h2, h3⟩
theorem KT.put {H : Hp} {kvs : List (List Key × V)} {xs : List (List Key × Addr × Value)} (r : KT H kvs xs) (k : List Key) {b : Addr} {y : V} {u : Value} (hb : H b = some (.tup (k.map kV))) (ry : RelV y u) :
    KT H (putK kvs k y) (storedH xs k b u) := by
  have e : (kvs.any fun kv => decide (kv.1 = k)) = (atKey xs k).isSome := by
    rw [valV_any, (r.val k).isSome_eq, Option.isSome_map]
  unfold putK storedH
  rw [e]
  by_cases q : (atKey xs k).isSome = true
  · rw [if_pos q, if_pos q]; exact r.repl k ry
  · rw [if_neg q, if_neg q]; exact Paired.snoc r ⟨rfl, hb, ry⟩
theorem KT.keeps {H H' : Hp} {kvs : List (List Key × V)} {xs : List (List Key × Addr × Value)} (r : KT H kvs xs) (ht : ∀ b ys, H b = some (.tup ys) → H' b = some (.tup ys)) : KT H' kvs xs :=
  Paired.mapP r fun _ _ z => ⟨z.1, ht _ _ z.2.1, z.2.2⟩
section
variable {P : Program} {w : World} {H : Hp} {h : Heap} {a : Addr}
theorem rd_of {u : HO} (ok : HOk P w H h) (e : Rd H a u) : ObjOk P w H h a u := e.ok ok
theorem dk_rd {kvs : List (Key × V)} (ok : HOk P w H h) (e : Rd H a (.dK kvs)) : kvs.length ≤ sizeLine ∧ (a == sysModules) = false ∧ ∃ vs, KV kvs vs ∧ h.DictOf (mixKind P w) a vs :=
  show ObjOk P w H h a (.dK kvs) from rd_of ok e
theorem dk_of {kvs : List (Key × V)} (ok : HOk P w H h) (e : H a = some (.dK kvs)) : kvs.length ≤ sizeLine ∧ (a == sysModules) = false ∧ ∃ vs, KV kvs vs ∧ h.DictOf (mixKind P w) a vs := dk_rd ok (.inl e)
theorem key_of {ks : List Key} (ok : HOk P w H h) (e : H a = some (.tup (ks.map kV))) : (tupleKind (mixKind P w)).is h ks a := by
  obtain ⟨_, its, r, o, h1, h2, n, h3⟩ := (show ObjOk P w H h a (.tup (ks.map kV)) from ok a _ e)
  exact ⟨o, its.toArray, n, h1, h2, h3, by simpa using items_are r⟩
theorem dt_rd {kvs : List (List Key × V)} (ok : HOk P w H h) (e : Rd H a (.dT kvs)) : kvs.length ≤ sizeLine ∧ (a == sysModules) = false ∧
    ∃ xs, KT H kvs xs ∧ h.DictOfH (tupleKind (mixKind P w)) a xs := by
  obtain ⟨z, y, xs, r, o, es, ep, h1, h2, h3, h4, h5⟩ := (show ObjOk P w H h a (.dT kvs) from rd_of ok e)
  refine ⟨z, y, xs, r, o, es, ep, h1, h2, h3, h4, fun x hx => ?_, h5⟩
  have all : ∀ {l : List (List Key × V)} {m : List (List Key × Addr × Value)}, KT H l m → ∀ x ∈ m, (tupleKind (mixKind P w)).is h x.1 x.2.1 := by
    intro l m q
    induction q with
    | nil => intro x hx; exact nomatch hx
    | @cons p q ps qs hq t ih =>
      intro x hx
      rcases List.mem_cons.mp hx with e | hx
      · subst e
        exact key_of ok (by rw [← hq.1]; exact hq.2.1)
      · exact ih x hx
  exact all r x hx
theorem dt_of {kvs : List (List Key × V)} (ok : HOk P w H h) (e : H a = some (.dT kvs)) : kvs.length ≤ sizeLine ∧ (a == sysModules) = false ∧
    ∃ xs, KT H kvs xs ∧ h.DictOfH (tupleKind (mixKind P w)) a xs := dt_rd ok (.inl e)
end
def DGet (H : Hp) (a : Addr) (y : V) (r : Option V) : Prop :=
  (∃ kvs k, Rd H a (.dK kvs) ∧ y = kV k ∧ r = valV kvs k) ∨ ∃ kvs k b, Rd H a (.dT kvs) ∧ y = .ref b ∧ H b = some (.tup (k.map kV)) ∧ r = valV kvs k
def DPut (H : Hp) (a : Addr) (y v : V) (H' : Hp) : Prop :=
  (∃ kvs k, H a = some (.dK kvs) ∧ y = kV k ∧ kvs.length < sizeLine ∧ H' = upd H a (.dK (putK kvs k v))) ∨
  ∃ kvs k b, H a = some (.dT kvs) ∧ y = .ref b ∧ H b = some (.tup (k.map kV)) ∧ kvs.length < sizeLine ∧ H' = upd H a (.dT (putK kvs k v))
theorem DGet.k {H : Hp} {a : Addr} {kvs : List (Key × V)} {k : Key} (e : H a = some (.dK kvs)) : DGet H a (kV k) (valV kvs k) := .inl ⟨kvs, k, .inl e, rfl, rfl⟩
theorem DPut.k {H : Hp} {a : Addr} {kvs : List (Key × V)} {k : Key} {v : V} (e : H a = some (.dK kvs)) (hl : kvs.length < sizeLine) : DPut H a (kV k) v (upd H a (.dK (putK kvs k v))) := .inl ⟨kvs, k, e, rfl, hl, rfl⟩
section
variable {X : Cx} {pins : List (Addr × Obj)} {σ : St} {H : Hp} {s : Shared} {a : Addr} {y v : V} {u r : Value} {o : Option V} {A : Around} {E : Value → Shared → Prop}
theorem Inv.big (I : Inv X pins σ H s) : sysModules < s.heap.objs.size := by
  have h : mainGlobals < s.heap.objs.size := (I.mod.glob.keeps I.bk).lt
  exact Nat.lt_trans (by decide) h
theorem d_getItem {Q : Value → Shared → Prop} (hu : A.units + 1 < cLine) (I : Inv X pins σ H s) (g : DGet H a y (some v)) (ry : RelV y u) (h : ∀ w' s', Inv X pins σ H s' → RelV v w' → Q w' s') :
    wpAny (model X.prog X.w) A (getItem (.ref a) u) Q E s := by
  rcases g with ⟨kvs, k, e, ey, l⟩ | ⟨kvs, k, b, e, ey, eb, l⟩
  · subst ey
    obtain ⟨z, hd, vs, rel, dd⟩ := dk_rd I.hok e
    obtain ⟨w', hw, rw'⟩ := RelO.some_of (v := v) (o := valueAt vs k) (by rw [l]; exact rel.val k)
    exact wpAny_getItem_of (kV_is ry) dd.mapOf hw (h w' _ (I.tok _) rw')
  · subst ey
    cases (show u = Value.ref b from ry)
    obtain ⟨z, hd, xs, rel, dd⟩ := dt_rd I.hok e
    obtain ⟨w', hw, rw'⟩ := RelO.some_of (v := v) (o := (atKey xs k).map (·.2)) (by rw [l]; exact rel.val k)
    obtain ⟨p, hp, hp2⟩ := Option.map_eq_some_iff.mp hw
    refine wpAny_getItem_heap (tupleKind_room_in1 hu) (key_of I.hok eb) dd hp ?_
    rw [hp2]
    exact h w' _ (I.tok _) rw'
theorem d_write {h' : Heap} {t' : Nat} {ob : HO} (I : Inv X pins σ H s) (mu : Mut (H a)) (hs : Heap.SameBut a s.heap h') (he : ∃ q, h'.get? a = some q) (new : ObjOk X.prog X.w (upd H a ob) h' a ob) :
    Inv X pins σ (upd H a ob) { s with heap := h', toks := t' } :=
  I.write (x := a) (e := a) mu (.inl rfl) (fun b q hb z => (hs.2 b hb).trans z) he new
theorem dk_new {P : Program} {w : World} {H' : Hp} {h' : Heap} {kvs : List (Key × V)} {vs : List (Key × Value)} (z : kvs.length ≤ sizeLine) (hd : (a == sysModules) = false) (rel : KV kvs vs) (dd : h'.DictOf (mixKind P w) a vs) :
    ObjOk P w H' h' a (.dK kvs) := ⟨z, hd, vs, rel, dd⟩
theorem d_setItem {H' : Hp} {Q : Unit → Shared → Prop} (hu : A.units + 1 < cLine) (I : Inv X pins σ H s) (g : DPut H a y v H') (ry : RelV y u) (rv : RelV v r) (h : ∀ s', Inv X pins σ H' s' → Q () s') :
    wpAny (model X.prog X.w) A (setItem (.ref a) u r) Q E s := by
  rcases g with ⟨kvs, k, e, ey, l, eH⟩ | ⟨kvs, k, b, e, ey, eb, l, eH⟩
  · subst ey eH
    obtain ⟨z, hd, vs, rel, dd⟩ := dk_of I.hok e
    have hz : vs.length ≤ sizeLine := by rw [← rel.length]; exact z
    have hl : (putK kvs k v).length ≤ sizeLine := by have := length_putK kvs k v; omega
    refine wpAny_setItem_pairs (hsz := hz) (kV_is ry) dd fun h' dd' hs => h _ ?_
    have he : ∃ q, h'.get? a = some q := let ⟨q, _, _, hq, _⟩ := dd'; ⟨q, hq⟩
    exact d_write I (by rw [e]; exact True.intro) hs he (dk_new hl hd (rel.put k rv) dd')
  · subst ey eH
    cases (show u = Value.ref b from ry)
    obtain ⟨z, hd, xs, rel, dd⟩ := dt_of I.hok e
    have hz : xs.length ≤ sizeLine := by rw [← Paired.length rel]; exact z
    have hl : (putK kvs k v).length ≤ sizeLine := by have := length_putK kvs k v; omega
    refine wpAny_setItem_heap (hsz := hz) (tupleKind_room_in1 hu) (key_of I.hok eb) dd fun h' dd' hs => h _ ?_
    obtain ⟨q, es, ep, hq, h2, h3, h4, _, h5⟩ := dd'
    refine d_write I (by rw [e]; exact True.intro) hs ⟨q, hq⟩ ⟨hl, hd, _, (rel.put k eb rv).keeps fun c ys ec => ?_, q, es, ep, hq, h2, h3, h4, h5⟩
    rw [upd_ne (ne_of ec e (fun z => nomatch z))]
    exact ec
end
def NoSl (i : Expr) : Prop := ∀ ov iv, subscripted i false ov iv = operate [ov, iv] (getItem ov iv)
theorem subD_of {prog : Program} {w : World} {A : Around} {E : Value → Shared → Prop} {s : Shared} {env : Env} {value slice : Expr} {pos : Pos} {T id : String} {Q : Value → Shared → Prop}
    (hl : typeLookup (.type T) "__getitem__" = pure (some (.builtin id))) (hs : NoSl slice)
    (h : wpAny (model prog w) A (eval value env) (fun o s₁ => wpAny (model prog w) A (eval slice env) (fun i s₂ => s₂.TypeIs o T ∧ wpAny (model prog w) A (getItem o i) Q E s₂) E s₁) E s) :
    wpAny (model prog w) A (eval (.Subscript value slice pos) env) Q E s := by
  refine Subscript_ (wpAny_mono h (fun o s₁ h₁ => wpAny_mono h₁ (fun i s₂ h₂ => ?_) fun _ _ x => x) fun _ _ x => x)
  obtain ⟨hT, h₂⟩ := h₂
  unfold subscriptTail
  refine wpAny_bind ?_
  rw [getitemInPython_of_ne hT.not_modules]
  refine wpAny_bind (wpAny_specialOf hT hl ?_)
  have fin : wpAny (model prog w) A (subscripted slice false o i) (fun r s₃ => wpAny (model prog w) A (letTemporaryGo value o r >>= fun _ => pure r) Q E s₃) E s₂ := by
    rw [hs o i]
    exact wpAny_operating (wpAny_mono h₂ (fun r s₃ h₃ => wpAny_bind (wpAny_letTemporaryGo (wpAny_pure h₃))) fun _ _ x => x)
  first
    | exact wpAny_pure (wpAny_bind fin)
    | exact wpAny_bind (wpAny_pure (wpAny_bind fin))
    | exact wpAny_bind fin
theorem dict_typeIs {X : Cx} {pins : List (Addr × Obj)} {σ : St} {H : Hp} {s : Shared} {a : Addr} {y : V} {o : Option V} (I : Inv X pins σ H s) (g : DGet H a y o) : s.TypeIs (.ref a) "dict" := by
  rcases g with ⟨kvs, k, e, _, _⟩ | ⟨kvs, k, b, e, _, _, _⟩
  · obtain ⟨_, _, vs, _, dd⟩ := dk_rd I.hok e
    exact dd.typeIs
  · obtain ⟨_, _, xs, _, dd⟩ := dt_rd I.hok e
    exact dd.typeIs
def tDGet (td ty : TE) : TE := fun σ H Q => td σ H fun x H1 => ty σ H1 fun y H2 => ∃ a v, x = .ref a ∧ DGet H2 a y (some v) ∧ Q v H2
def sDPut (td ty tv : TE) : TS := fun D σ H => tv σ H fun v H1 => td σ H1 fun x H2 => ty σ H2 fun y H3 => ∃ a H4, x = .ref a ∧ DPut H3 a y v H4 ∧ D.nx σ H4
section
variable {X : Cx} {o i e value : Expr} {pos pos' tpos : Pos} {td ty tv : TE}
theorem pe_dget (hu : X.A.units + 1 < cLine) (ho : PE X o td) (hi : PE X i ty) (hs : NoSl i) : PE X (.Subscript o i pos) (tDGet td ty) := by
  intro pins s σ H Q I h
  refine subD_of PySem.F.slot_dict_getitem.lookup hs (thn (ho pins s σ H _ I h) fun u s1 ⟨x, H1, I1, rx, q1⟩ => thn (hi pins s1 σ H1 _ I1 q1) fun iv s2 ⟨y, H2, I2, ry, a, v, ex, g, q2⟩ => ?_)
  subst ex
  obtain rfl : u = Value.ref a := rx
  exact ⟨dict_typeIs I2 g, d_getItem hu I2 g ry fun w' s3 I3 rw' => ⟨v, H2, I3, rw', q2⟩⟩
theorem ps_dput (hu : X.A.units + 1 < cLine) (ho : PE X o td) (hi : PE X i ty) (hv : PE X value tv) (hs : swapsWith value (some (.Subscript o i pos')) pos.line X.env = pure false) :
    PS X (.Assign [.Subscript o i pos'] value pos) (sDPut td ty tv) := by
  intro pins s σ H D I h
  refine wpAny_Assign_Subscript (thn (hv pins s σ H _ I h) fun r s1 ⟨v, H1, I1, rv, q1⟩ => thn (ho pins s1 σ H1 _ I1 q1) fun u s2 ⟨x, H2, I2, rx, q2⟩ => thn (hi pins s2 σ H2 _ I2 q2) fun iv s3 ⟨y, H3, I3, ry, a, H4, ex, g, q3⟩ => ?_) hs
  subst ex
  obtain rfl : u = Value.ref a := rx
  exact d_setItem hu I3 g ry rv fun s4 I4 => ⟨σ, H4, I4, q3⟩
end
theorem dk_empty {P : Program} {w : World} {H : Hp} (h : Heap) (hb : sysModules < h.objs.size) : ObjOk P w H (h.push { cls := .type "dict", data := .dict #[] }) h.objs.size (.dK []) :=
  ⟨Nat.zero_le _, beq_eq_false_iff_ne.mpr (Ne.symm (Nat.ne_of_lt hb)), [], .nil, Heap.DictOf.new h⟩
def tDNewK : TE := fun _ H Q => ∀ p, H p = none → Q (.ref p) (upd H p (.dK []))
section
variable {X : Cx} {pos : Pos}
theorem pe_dnewK : PE X (.Dict [] [] pos) tDNewK := fun pins s σ H Q I h =>
  wpAny_Dict_empty ⟨.ref s.heap.objs.size, _, I.laid (a := s.heap.objs.size) (o := .dK []) (t' := s.toks) (fun _ _ q => Heap.get?_push_of_some _ q) (Nat.le_refl _) (dk_empty s.heap I.big), rfl, h _ (I.hok.fresh (Nat.le_refl _))⟩
end
def tPairs : List (TE × TE) → St → Hp → (List (V × V) → Hp → Prop) → Prop
  | [], _, H, Q => Q [] H
  | (tk, tv) :: r, σ, H, Q => tk σ H fun x H1 => tv σ H1 fun y H2 => tPairs r σ H2 fun ps H3 => Q ((x, y) :: ps) H3
abbrev VV : List (V × V) → List (Value × Value) → Prop := Paired fun p q => RelV p.1 q.1 ∧ RelV p.2 q.2
def PPs (X : Cx) (pos : Pos) (keys : List (Option Expr)) (values : List Expr) (trs : List (TE × TE)) : Prop :=
  ∀ (pins : List (Addr × Obj)) (s : Shared) (σ : St) (H : Hp) (Q : List (V × V) → Hp → Prop), Inv X pins σ H s → tPairs trs σ H Q →
    wpAny (model X.prog X.w) X.A (evalPairs (pairTrees keys values X.env pos)) (fun vs s' => ∃ ps H', Inv X pins σ H' s' ∧ VV ps vs ∧ Q ps H') X.xe s
theorem pps_nil {X : Cx} {pos : Pos} : PPs X pos [] [] [] := fun pins s σ H Q I h => pairTrees_nil_walk ⟨[], H, I, .nil, h⟩
theorem pps_cons {X : Cx} {pos : Pos} {k v : Expr} {ks : List (Option Expr)} {vs : List Expr} {tk tv : TE} {trs : List (TE × TE)} (hk : PE X k tk) (hv : PE X v tv) (hr : PPs X pos ks vs trs) :
    PPs X pos (some k :: ks) (v :: vs) ((tk, tv) :: trs) := fun pins s σ H Q I h =>
  pairTrees_cons_walk (thn (hk pins s σ H _ I h) fun u s1 ⟨x, H1, I1, rx, q1⟩ => thn (hv pins s1 σ H1 _ I1 q1) fun w2 s2 ⟨y, H2, I2, ry, q2⟩ =>
    thn (hr pins s2 σ H2 _ I2 q2) fun ws s3 ⟨ps, H3, I3, rel, q3⟩ => ⟨(x, y) :: ps, H3, I3, .cons ⟨rx, ry⟩ rel, q3⟩)
def mergeK (kvs more : List (Key × V)) : List (Key × V) := more.foldl (fun acc kv => putK acc kv.1 kv.2) kvs
theorem KV.merge : ∀ {more : List (Key × V)} {rs : List (Key × Value)} {kvs : List (Key × V)} {vs : List (Key × Value)}, KV more rs → KV kvs vs → KV (mergeK kvs more) (merged vs rs) := by
  intro more rs kvs vs r
  unfold KV at r
  induction r generalizing kvs vs with
  | nil => intro q; exact q
  | @cons p q ps qs h t ih =>
    intro r0
    have e : KV (putK kvs p.1 p.2) (stored vs q.1 q.2) := by
      have := r0.put p.1 h.2
      rw [← h.1]; exact this
    exact ih e
theorem length_mergeK : ∀ (more kvs : List (Key × V)), (mergeK kvs more).length ≤ kvs.length + more.length
  | [], kvs => by show kvs.length ≤ kvs.length + 0; omega
  | p :: r, kvs => by
    have h1 := length_mergeK r (putK kvs p.1 p.2)
    have h2 := length_putK kvs p.1 p.2
    show (mergeK (putK kvs p.1 p.2) r).length ≤ _
    rw [List.length_cons]; omega
theorem carries_of {P : Program} {w : World} : ∀ {kvs : List (Key × V)} {ws : List (Value × Value)}, VV (kvs.map fun kv => (kV kv.1, kv.2)) ws → ∃ rs, Carries (mixKind P w) ws rs ∧ KV kvs rs
  | [], _, r => by rw [List.map_nil] at r; cases r; exact ⟨[], True.intro, .nil⟩
  | p :: kvs, _, r => by
    rw [List.map_cons] at r
    cases r with
    | @cons a b as bs h t =>
      obtain ⟨rs, c, q⟩ := carries_of (P := P) (w := w) t
      obtain ⟨b1, b2⟩ := b
      exact ⟨(p.1, b2) :: rs, ⟨kV_is h.1, rfl, c⟩, .cons ⟨rfl, h.2⟩ q⟩
def tDisp (trs : List (TE × TE)) : TE := fun σ H Q => ∀ p, H p = none → tPairs trs σ (upd H p (.dK [])) fun ps H2 => H2 p = some (.dK []) ∧ ∃ kvs : List (Key × V), ps = kvs.map (fun kv => (kV kv.1, kv.2)) ∧ kvs.length ≤ 15 ∧ Q (.ref p) (upd H2 p (.dK (mergeK [] kvs)))
theorem pe_disp {X : Cx} {pos : Pos} {keys : List (Option Expr)} {values : List Expr} {trs : List (TE × TE)} (h : PPs X pos keys values trs) (hall : keys.all (·.isSome) = true) (hl : keys.length = values.length) (h0 : keys ≠ [])
    (h15 : keys.length ≤ 15) : PE X (.Dict keys values pos) (tDisp trs) := by
  intro pins s σ H Q I q
  have hn := I.hok.fresh (Nat.le_refl s.heap.objs.size)
  have I1 := I.laid (a := s.heap.objs.size) (o := .dK []) (h' := s.heap.push { cls := .type "dict", data := .dict #[] }) (t' := s.toks) (fun _ _ q => Heap.get?_push_of_some _ q) (Nat.le_refl _) (dk_empty s.heap I.big)
  refine wpAny_Dict_walk (knd := mixKind X.prog X.w) hall hl h0 h15 (thn (h pins _ σ _ _ I1 (q _ hn)) fun ws s2 ⟨ps, H2, I2, rel, e, kvs, ep, lk, q2⟩ => ?_)
  subst ep
  obtain ⟨rs, c, rk⟩ := carries_of (P := X.prog) (w := X.w) rel
  obtain ⟨z, hd, vs0, r0, dd⟩ := dk_of I2.hok e
  cases r0
  refine ⟨rs, c, dd, fun h' dd' hs => ⟨.ref s.heap.objs.size, _, ?_, rfl, q2⟩⟩
  have hz : (mergeK [] kvs).length ≤ sizeLine := by
    have h1 := length_mergeK kvs []
    rw [List.length_nil] at h1
    rw [sizeLine_eq]; omega
  have he : ∃ q, h'.get? s.heap.objs.size = some q := let ⟨q, _, _, hq, _⟩ := dd'; ⟨q, hq⟩
  exact d_write I2 (by rw [e]; exact True.intro) hs he (dk_new hz hd (rk.merge .nil) dd')
structure M1 (X : Cx) (o : Expr) (m : Str) (apos : Pos) (e : Expr) (cpos : Pos) : Prop where
  base : attributeBase o m X.env (eval o X.env) = eval o X.env
  few : ((backTo cpos (starEach [e] X.env)).all (fun x => !x.1) && (backToKw cpos (keywordEach [] X.env)).all (fun x => x.1.isSome)
    && decide (([e] : List Expr).length + ([] : List Keyword).length + (if ([] : List Keyword).isEmpty then 0 else 1) < 30)) = true
  line : (apos.endLine == cpos.line) = true
  trees : backTo cpos (starEach [e] X.env) = [(false, eval e X.env)]
structure M2 (X : Cx) (o : Expr) (m : Str) (apos : Pos) (e f : Expr) (cpos : Pos) : Prop where
  base : attributeBase o m X.env (eval o X.env) = eval o X.env
  few : ((backTo cpos (starEach [e, f] X.env)).all (fun x => !x.1) && (backToKw cpos (keywordEach [] X.env)).all (fun x => x.1.isSome)
    && decide (([e, f] : List Expr).length + ([] : List Keyword).length + (if ([] : List Keyword).isEmpty then 0 else 1) < 30)) = true
  line : (apos.endLine == cpos.line) = true
  trees : backTo cpos (starEach [e, f] X.env) = [(false, eval e X.env), (false, eval f X.env)]
def IsD (H : Hp) (a : Addr) : Prop := (∃ kvs, Rd H a (.dK kvs)) ∨ ∃ kvs, Rd H a (.dT kvs)
theorem isD_at {X : Cx} {pins : List (Addr × Obj)} {σ : St} {H : Hp} {s : Shared} {a : Addr} (I : Inv X pins σ H s) (d : IsD H a) :
    s.TypeIs (.ref a) "dict" ∧ (∀ b, Value.ref a = .ref b → ∃ ob, s.heap.get? b = some ob ∧ ob.dict = none) ∧ (a == sysModules) = false := by
  rcases d with ⟨kvs, e⟩ | ⟨kvs, e⟩
  · obtain ⟨_, hd, vs, _, dd⟩ := dk_rd I.hok e
    refine ⟨dd.typeIs, fun b q => ?_, hd⟩
    cases q
    obtain ⟨ob, _, _, h1, h2, _⟩ := dd
    exact ⟨ob, h1, h2.2.1⟩
  · obtain ⟨_, hd, xs, _, dd⟩ := dt_rd I.hok e
    refine ⟨dd.typeIs, fun b q => ?_, hd⟩
    cases q
    obtain ⟨ob, _, _, h1, h2, _⟩ := dd
    exact ⟨ob, h1, h2.2.1⟩
section
variable {X : Cx} {pins : List (Addr × Obj)} {σ : St} {H : Hp} {s : Shared} {a : Addr} {y d : V} {u r : Value} {o : Option V} {A : Around} {E : Value → Shared → Prop}
theorem d_get2 {Q : Value → Shared → Prop} (hu : A.units + 1 < cLine) (I : Inv X pins σ H s) (g : DGet H a y o) (ry : RelV y u) (rd : RelV d r) (h : ∀ w' s', Inv X pins σ H s' → RelV (o.getD d) w' → Q w' s') :
    wpAny (model X.prog X.w) A (call (.builtin "dict.get") [.ref a, u, r]) Q E s := by
  rcases g with ⟨kvs, k, e, ey, l⟩ | ⟨kvs, k, b, e, ey, eb, l⟩
  · subst ey
    obtain ⟨z, hd, vs, rel, dd⟩ := dk_rd I.hok e
    refine call_meetsIn PySem.F.slot_dict_get dd.typeIs PySem.F.entry_dict_get (PySem.F.args_dict_get_3 _ _ _) (meets_dict_get_default (mixKind X.prog X.w) a (kV_is ry) hd r) ⟨_, dd.mapOf, h _ _ (I.tok _) ?_⟩
    rw [l]
    exact (rel.val k).getD rd
  · subst ey
    cases (show u = Value.ref b from ry)
    obtain ⟨z, hd, xs, rel, dd⟩ := dt_rd I.hok e
    refine call_meetsIn PySem.F.slot_dict_get dd.typeIs PySem.F.entry_dict_get (PySem.F.args_dict_get_3 _ _ _) (meetsH_dict_get_default (tupleKind (mixKind X.prog X.w)) a b hd r) ⟨tupleKind_room_in1 hu, k, xs, key_of I.hok eb, dd, h _ _ (I.tok _) ?_⟩
    rw [l]
    exact (rel.val k).getD rd
end
def tDGet2 (td ty tx : TE) : TE := fun σ H Q => td σ H fun x H1 => ∃ a, x = .ref a ∧ IsD H1 a ∧ ty σ H1 fun y H2 => tx σ H2 fun z H3 => ∃ o, DGet H3 a y o ∧ Q (o.getD z) H3
section
variable {X : Cx} {o e f : Expr} {apos cpos : Pos} {td ty tx : TE}
theorem pe_dget2 (hu : X.A.units + 1 < cLine) (ho : PE X o td) (he : PE X e ty) (hf : PE X f tx) (m : M2 X o "get" apos e f cpos) : PE X (.Call (.Attribute o "get" apos) [e, f] [] cpos) (tDGet2 td ty tx) := by
  intro pins s σ H Q I h
  refine wpAny_Call_method m.base m.few m.line PySem.F.plainAttrs_dict PySem.F.slot_dict_get PySem.F.type_dict_get (thn (ho pins s σ H _ I h) fun u s1 ⟨x, H1, I1, rx, a, ex, d, q1⟩ => ?_)
  subst ex
  obtain rfl : u = Value.ref a := rx
  obtain ⟨t1, t2, _⟩ := isD_at I1 d
  refine ⟨t1, t2, ?_⟩
  rw [m.trees]
  refine Calls.callWith_builtin rfl (Calls.evalArgs_plain (Calls.spliced_cons (thn (he pins s1 σ H1 _ I1 q1) fun iv s2 ⟨y, H2, I2, ry, q2⟩ =>
    Calls.spliced_cons (thn (hf pins s2 σ H2 _ I2 q2) fun fv s3 ⟨z, H3, I3, rz, ov, g, q3⟩ => Calls.spliced_nil ?_))))
  exact d_get2 hu I3 g ry rz fun w' s4 I4 rw' => ⟨_, H3, I4, rw', q3⟩
end
end L2
namespace Att
open PySem PySem.W PySem.Calls PyProof.Rows
theorem ints_of_wellAll {P : Params} {h : Heap} : ∀ (ns : List Int) (vs : List Value), WellAll P h vs (ns.map WData.int) → IntsAre vs ns := by
  intro ns
  induction ns with
  | nil =>
    intro vs w
    rw [List.map_nil] at w
    cases w
    exact .nil
  | cons n ns ih =>
    intro vs w
    rw [List.map_cons] at w
    cases w with
    | cons a b =>
      cases a
      exact .cons _ _ (ih _ b)
theorem script_of {l : OpenLaw} {n : Nat} (hn : l.most = some n) {P : Params} {h : Heap} {args : List WData} {vals : List Value}
    (hpre : l.row.toRowW.claim.pre args = true) (hwl : WellAll P h vals args) :
    ∃ a vs ns, vals = [Value.ref a] ∧ args = [WData.list (ns.map WData.int)] ∧ h.get? a = some { cls := .type "list", data := .seq vs.toArray } ∧ IntsAre vs ns ∧ ns.length ≤ n := by
  have hsh : WShape.hasAll [] args [.list .int] = true := (pre_splitW hpre).1
  have hc : l.pre.holds [] { args := args } = true := (pre_splitW hpre).2
  obtain ⟨d, r, rfl, h1, h2⟩ := hasAllW_cons hsh
  obtain rfl := hasAllW_nil h2
  obtain ⟨xs, rfl, h3⟩ := hasW_list h1
  obtain ⟨ns, rfl⟩ := items_int h3
  have hlen : ns.length ≤ n := by
    unfold OpenLaw.pre at hc
    have h4 : (WTm.not (.lt (.lit (.int (n : Int))) (.len (.arg 0)))).holds [] { args := [.list (ns.map .int)] } = true := by
      have h4 := (holds_andW hc).1
      rw [hn] at h4
      exact h4
    have h5 := condW_of h4 (w_not (w_lt w_lit (w_len_list (w_arg rfl))))
    rw [List.length_map] at h5
    refine Nat.le_of_not_lt fun q => ?_
    have q' : (n : Int) < ((ns.length : Nat) : Int) := by omega
    first
      | (rw [decide_eq_true q'] at h5; exact absurd h5 (by decide))
      | (simp at h5; omega)
  cases hwl with
  | cons w1 w2 =>
    cases w2
    cases w1 with
    | list ho hall => exact ⟨_, _, ns, rfl, rfl, ho, ints_of_wellAll ns _ hall, hlen⟩
theorem post_true (l : OpenLaw) (args : List WData) : l.row.toRowW.claim.post args (.bool true) args = true :=
  postW_of (r := l.row.toRowW) (X := (true == true))
    (show WShape.has [] (.bool true) .bool = true by first | rfl | decide | simp [WShape.has, WShape.arms, WShape.armsAll])
    (show (WTm.eq .res (.lit (.bool true))).value [] { args := args, res := some (.bool true), after := args } = some (.bool (true == true)) from w_eq_bool (w_res rfl) w_lit) rfl
theorem attach_call {l : OpenLaw} {n : Nat} {q : Program} {loose : List Str} {XP : (Str → Option Value) → Heap → Prop} {YP : World → Heap → Prop} {d : DefRec}
    (hn : l.most = some n) (hdf : d.params.defaults = [])
    (call : ∀ (w : World) (s₀ s₁ : Shared) (mg mb : Str → Option Value) (fa : Addr) (o : Obj) (pm cd doc : Value) (a : Addr) (vs : List Value) (ns : List Int),
      Ground q loose [] XP w s₀ mg mb s₁.heap → YP w s₁.heap →
      s₁.heap.get? fa = some o → o.data = .func (docDef d.name d.params d.body d.scope pm cd doc) → s₁.heap.CodeRec cd d.name → mg d.name = some (.ref fa) →
      s₁.heap.get? a = some { cls := .type "list", data := .seq vs.toArray } → IntsAre vs ns → ns.length ≤ n → s₁.gens = #[] →
      codeAny (model l.prog w) callerA (.call (.ref fa) ⟨[.ref a], []⟩) (fun r s' => r = .ok (.ret (.bool true)) ∧ OldK s₁.heap s'.heap ∧ s'.os = s₁.os ∧ AllBare s'.gens) s₁) :
    WalkO q loose XP YP l.row.toRowW d [] (fun f vs => PySem.call f vs) := by
  intro w s₀ s₁ mg mb G Y fa o pm cd doc dV kV ho hd hcd hD hmg hg args vals as hpre hlay hrd hwl hlo
  obtain rfl : dV = .none := Dflts.none hD hdf
  obtain rfl : kV = .none := Dflts.noKw hD
  obtain ⟨a, vs, ns, rfl, rfl, hobj, hints, hlen⟩ := script_of hn hpre hwl
  refine enter_call (codeAny_mono (call w s₀ s₁ mg mb fa o pm cd doc a vs ns G Y ho (fd_plain hd) hcd hmg hobj hints hlen hg) fun r s' hq => ?_)
  obtain ⟨rfl, h2, h3, h4⟩ := hq
  exact ⟨.inl ⟨.bool true, .bool true, [], rfl, fun _ => rfl, .bool true, post_true l _, fun _ => ⟨List.Pairwise.nil, fun _ hm => (nomatch hm)⟩⟩, h2, h3, h4⟩
section
variable {prog : Program} {w : World} {A : Around} {E : Value → Shared → Prop} {s : Shared} {K : Frag}
def ledger (h : Heap) (L d : Addr) : List (Addr × Obj) := (List.range h.objs.size).filterMap fun a => if a = L ∨ a = d then none else (h.get? a).map fun o => (a, o)
end
end Att
namespace L2
open PySem PySem.Spec PyProof.Rows
theorem vals_ints : ∀ {vs : List Value} {ns : List Int}, IntsAre vs ns → Vals (ns.map V.int) vs
  | _, _, .nil => .nil
  | _, _, .cons n t h => .cons ⟨t, rfl⟩ (vals_ints h)
def Only (H : Hp) : Prop := ∀ b, H b = none ∨ ∃ o xs, H b = some (.frz o (.lst xs))
theorem law_call {P : Program} {w : World} {K : PySem.W.Frag} {mg mb : Str → Option Value} {CX : CXT} {k : Nat} {fa a : Addr} {fd : FuncData} {x : Str} {sp : Sp} {s₁ : Shared} {vs : List Value} {ns : List Int}
    (KX : K.In s₁.heap) (hns : s₁.heap.Ns mainGlobals mg) (hb : s₁.heap.Ns builtinsNs mb) (hbb : ∀ x : Str, x ≠ "__name__" → mb x = bootBuiltins x) (hlim : s₁.heap.NoLimit) (hg : s₁.gens = #[])
    (ha : s₁.heap.get? a = some { cls := .type "list", data := .seq vs.toArray }) (hi : IntsAre vs ns) (hl : ns.length ≤ sizeLine) (hr : Room k callerA)
    (F : ∀ base : Heap, K.In base → base.Ns mainGlobals mg → FnOk P w K mg base CX k fa fd [x] sp) (hbind : ∀ (s : Shared) (u : Value), BindsTo s fd ⟨[u], []⟩ [(x, u)])
    (hsp : ∀ H : Hp, Only H → SqL K H a (ns.map V.int) → sp [.ref a] H (fun v _ => v = .bl true) fun _ _ _ => False)
    (hCX : ∀ H e s', CX [] H s₁ (fun _ _ _ => False) e s' → False) :
    codeAny (model P w) callerA (.call (.ref fa) ⟨[.ref a], []⟩) (fun r s' => r = .ok (.ret (.bool true)) ∧ OldK s₁.heap s'.heap ∧ s'.os = s₁.os ∧ AllBare s'.gens) s₁ := by
  have rv := vals_ints hi
  have lenV := hi.length
  -- from an abstract heap in which nothing but the script may be tracked
  have core : ∀ H : Hp, Only H → SqL K H a (ns.map V.int) → HOk P w H s₁.heap → (∀ b, H b ≠ none → b = a) → (H a ≠ none → K.lookup a = none) →
      codeAny (model P w) callerA (.call (.ref fa) ⟨[.ref a], []⟩) (fun r s' => r = .ok (.ret (.bool true)) ∧ OldK s₁.heap s'.heap ∧ s'.os = s₁.os ∧ AllBare s'.gens) s₁ := by
    intro H hO hS hok hA hK
    have base_of : ∀ {b : Addr} {o : Obj}, s₁.heap.get? b = some o → H b = none → (hidT s₁.heap H).get? b = some o := fun e n => hidT_get e n
    have noA : ∀ {b : Addr} {o : Obj} {es : Array DictEntry} {ep : Nat}, s₁.heap.get? b = some o → o.data = .dict es ep → H b = none := fun {b o es ep} e d => by
      cases q : H b with
      | none => rfl
      | some u =>
        have e' : b = a := hA b (by rw [q]; simp)
        subst e'
        rw [ha] at e; cases e
        have d' : Data.seq vs.toArray _ = Data.dict es ep := d
        cases d'
    have nsK : ∀ {b : Addr} {m : Str → Option Value}, s₁.heap.Ns b m → (hidT s₁.heap H).Ns b m := fun {b m} ⟨o, es, ep, e, d, r⟩ => ⟨o, es, ep, base_of e (noA e d), d, r⟩
    have hKb : K.In (hidT s₁.heap H) := fun b o e => base_of (KX b o e) (by
      cases q : H b with
      | none => rfl
      | some u =>
        have e' : b = a := hA b (by rw [q]; simp)
        subst e'
        rw [hK (by rw [q]; simp)] at e; cases e)
    have hM : Mod K mg (hidT s₁.heap H) := ⟨hKb, nsK hns, ⟨mb, nsK hb, hbb⟩, let ⟨mc, h1, h2⟩ := hlim; ⟨mc, nsK h1, h2⟩⟩
    have e0 : Env0 P w K mg (hidT s₁.heap H) callerA [] s₁ H := ⟨rfl, hM, fun b o e => of_hidT e, Nat.le_of_eq (hidT_size _ _), trivial, fun b hb => absurd (show b ∈ ([] : List Addr) from hb) (by simp), hok, .of_eq hg⟩
    refine codeAny_mono ((F _ hKb (nsK hns)).run callerA [] s₁ H ⟨[.ref a], []⟩ [.ref a] [.ref a] _ _ hr e0 (hbind s₁ (.ref a)) (.cons rfl .nil) (hsp H hO hS)) fun r s' h => ?_
    cases r with
    | error e => exact (hCX H e s' h).elim
    | ok fl =>
      cases fl with
      | next => exact False.elim h
      | brk => exact False.elim h
      | cont => exact False.elim h
      | ret u =>
        obtain ⟨v, H', os, bare, un, hok', r', q⟩ := h
        have q' : v = .bl true := q
        subst q'
        obtain rfl : u = Value.bool true := r'
        refine ⟨rfl, OldK.of_keep fun b o e => ?_, os, bare⟩
        cases q : H b with
        | none => exact un.keep b o e q (by intro z; exact absurd (show b ∈ ([] : List Addr) from z) (by simp)) (by simp)
        | some u =>
          rcases hO b with z | ⟨ob, xs, z⟩
          · rw [q] at z; cases z
          · have z2 := un.frzs b ob _ z
            obtain ⟨e1, _⟩ := hok b _ z
            obtain ⟨e2, _⟩ := hok' b _ z2
            rw [e] at e1; cases e1
            exact e2
  cases hk : K.lookup a with
  | some o =>
    -- the script is one of the module's own objects
    have e := KX a o hk
    rw [ha] at e
    cases e
    refine core (fun _ => none) (fun _ => .inl rfl) (.inr ⟨_, vs.toArray, _, hk, rfl, rfl, rfl, by rw [List.size_toArray, lenV]; exact hl, by simpa using rv⟩) (fun b u z => by have z' : (none : Option HO) = some u := z; cases z') (fun b z => absurd rfl z) fun z => absurd rfl z
  | none =>
    refine core (fun b => if b = a then some (.frz { cls := .type "list", data := .seq vs.toArray } (.lst (ns.map V.int))) else none) (fun b => ?_) (.inl (.inr ⟨{ cls := .type "list", data := .seq vs.toArray }, if_pos rfl⟩)) (fun b u z => ?_) (fun b z => ?_) fun _ => hk
    · by_cases hb : b = a
      · exact .inr ⟨_, _, if_pos hb⟩
      · exact .inl (if_neg hb)
    · by_cases hb : b = a
      · have z' := (if_pos hb).symm.trans z
        cases z'
        subst hb
        exact ⟨ha, by rw [List.length_map]; exact hl, vs, _, rv, ha⟩
      · have z' := (if_neg hb).symm.trans z
        cases z'
    · by_cases hb : b = a
      · exact hb
      · exact absurd (if_neg hb) z
end L2
namespace L2
open PySem PySem.Spec PyProof.Rows
theorem walk_of {l : PySem.W.OpenLaw} {n k : Nat} {q : Program} {loose : List Str} {XP : (Str → Option Value) → Heap → Prop} {YP : World → Heap → Prop} {d : DefRec} {K : Params → PySem.W.Frag} {CX : World → CXT} {sp : World → Sp} {x : Str}
    (hn : l.most = some n) (hn2 : n ≤ sizeLine) (hdf : d.params.defaults = []) (hr : Room k callerA)
    (hY : ∀ (w : World) (h : Heap), YP w h → (K w.params).In h)
    (F : ∀ (w : World) (mg : Str → Option Value) (fa : Addr) (h : Heap), (K w.params).In h → h.Ns mainGlobals mg → mg d.name = some (.ref fa) →
      ∃ fd : FuncData, (∀ (s : Shared) (u : Value), BindsTo s fd ⟨[u], []⟩ [(x, u)]) ∧
        ∀ base : Heap, (K w.params).In base → base.Ns mainGlobals mg → FnOk l.prog w (K w.params) mg base (CX w) k fa fd [x] (sp w))
    (hsp : ∀ (w : World) (H : Hp) (a : Addr) (ns : List Int), ns.length ≤ n → Only H → SqL (K w.params) H a (ns.map V.int) → sp w [.ref a] H (fun v _ => v = .bl true) fun _ _ _ => False)
    (hCX : ∀ (w : World) (H : Hp) (s : Shared) (e : Value) (s' : Shared), CX w [] H s (fun _ _ _ => False) e s' → False) :
    PySem.W.WalkO q loose XP YP l.row.toRowW d [] (fun f vs => PySem.call f vs) := by
  refine Att.attach_call hn hdf fun w s₀ s₁ mg mb fa o pm cd doc a vs ns G Y ho hd hcd hmg hobj hints hlen hg => ?_
  have KX := hY w _ Y
  obtain ⟨fd, hb, hF⟩ := F w mg fa _ KX G.T.g hmg
  exact law_call KX G.T.g G.T.b G.T.builtins G.T.nolimit hg hobj hints (Nat.le_trans hlen hn2) hr hF hb (fun H hO hS => hsp w H a ns hlen hO hS) fun H e s' => hCX w H s₁ e s'
end L2
namespace L2
open PySem PySem.Spec PyProof.Rows
def defArgs (s : Stmt) : Arguments := match s with
  | .FunctionDef _ a _ _ _ _ _ _ _ _ => a
  | _ => { posonlyargs := [], args := [], vararg := none, kwonlyargs := [], kw_defaults := [], kwarg := none, defaults := [] }
def defBody (s : Stmt) : List Stmt := match s with
  | .FunctionDef _ _ b _ _ _ _ _ _ _ => b
  | _ => []
def defScope (s : Stmt) : Scope := match s with
  | .FunctionDef _ _ _ _ _ _ sc _ _ _ => sc
  | _ => { kind := .function, names := [], isGenerator := false, isCoroutine := false }
abbrev CX0 : CXT := fun _ _ _ _ _ _ => False
abbrev E0 : XK := fun _ _ _ => False
theorem pass0 {X : Cx} : Passes CX0 X E0 := fun _ _ _ _ _ _ _ h => h.elim
structure Fun (K : PySem.W.Frag) (x qual : Str) (st : Stmt) (f : Addr) (fd : FuncData) : Prop where
  ex : ∃ (oc : Value) (od : Option Addr) (kV doc pm : Value) (an : Option Addr) (cdv ct : Value) (osl : Array (Option Value)),
    fd = PySem.W.fnOf x qual (defArgs st) (defBody st) (defScope st) .none kV doc pm an cdv ct ∧ K.lookup f = some ⟨oc, od, .func fd, osl⟩ ∧ PySem.W.codeIn K cdv qual = true
  kp : PySem.W.keepIn K (.ref f) = true
section
variable {P : Program} {w : World} {K : PySem.W.Frag} {mg : Str → Option Value} {base : Heap}
theorem Fun.ok {x qual : Str} {st : Stmt} {f : Addr} {fd : FuncData} {N ps : List Str} {k : Nat} {sp : Sp} (F : Fun K x qual st f fd) (S : FnScope N ps (defScope st)) (len : ∀ vs H Q E, sp vs H Q E → vs.length = ps.length)
    (hbody : ∀ (cdv : Value) (A : Around) (outer : List Env) (s : Shared) (H : Hp) (vs : List V) (Q : VK) (E : XK), Room k (A.deeper (envOfC qual (defScope st) s.heap.objs.size f cdv)) → sp vs H Q E →
      ∃ t, PSs (cxOf CX0 P w K mg base N qual (defScope st) f cdv A outer s H E).nox (defBody st) t ∧ t { nx := fun _ H' => Q .non H', rt := Q } (start N vs) H) : FnOk P w K mg base CX0 (k + 1) f fd ps sp := by
  obtain ⟨oc, od, kV, doc, pm, an, cdv, ct, osl, rfl, lk, hcd⟩ := F.ex
  refine fn_of lk hcd S len fun A outer s H vs Q E hr hsp => ?_
  obtain ⟨t, h, q⟩ := hbody cdv A outer s H vs Q E hr hsp
  exact ⟨t, h.nox, q⟩
theorem Fun.binds {x qual : Str} {st : Stmt} {f : Addr} {fd : FuncData} {ps : List Str} (F : Fun K x qual st f fd)
    (h : ∀ (kV doc pm : Value) (an : Option Addr) (cdv ct : Value) (us : List Value), us.length = ps.length → bindArgs (PySem.W.fnOf x qual (defArgs st) (defBody st) (defScope st) .none kV doc pm an cdv ct) ⟨us, []⟩ = pure (ps.zip us)) : Binds K fd ps [] := by
  obtain ⟨oc, od, kV, doc, pm, an, cdv, ct, osl, rfl, lk, hcd⟩ := F.ex
  exact .all (h kV doc pm an cdv ct)
theorem fun_mk {x qual : Str} {st : Stmt} {f : Addr} {oc : Value} {od an : Option Addr} {osl : Array (Option Value)} {kV doc pm cdv ct : Value} (l : K.lookup f = some ⟨oc, od, .func (PySem.W.fnOf x qual (defArgs st) (defBody st) (defScope st) .none kV doc pm an cdv ct), osl⟩)
    (c : PySem.W.codeIn K cdv qual = true) (k : PySem.W.keepIn K (.ref f) = true) : Fun K x qual st f (PySem.W.fnOf x qual (defArgs st) (defBody st) (defScope st) .none kV doc pm an cdv ct) := ⟨⟨oc, od, kV, doc, pm, an, cdv, ct, osl, rfl, l, c⟩, k⟩
end
theorem hu_of {A : Around} {k : Nat} (hr : Room k A) : A.units + 1 < cLine := Nat.lt_of_le_of_lt (Nat.add_le_add_left (by decide : 1 ≤ 64) _) hr.units
section
variable {X : Cx}
theorem pv (i : Nat) {x : Str} {pos : Pos} (hN : X.N[i]? = some x := by rfl) (hv : Vis X.env.scope x := by first | exact Or.inl rfl | exact Or.inr (Or.inl rfl) | exact Or.inr (Or.inr rfl)) (hd : (x == ("__debug__" : Str)) = false := by decide)
    (hcd : (x == ("__classdict__" : Str)) = false := by decide) : PE X (.Name x pos) (tVar i) := pe_var hN hv hd hcd
end
theorem iteF {A B : Prop} (h : B) : if false = true then A else B := by
  rw [if_neg Bool.false_ne_true]
  exact h
theorem iteT {A B : Prop} (h : A) : if true = true then A else B := by
  rw [if_pos rfl]
  exact h
theorem ite2 {c A B : Prop} [Decidable c] (h1 : c → A) (h2 : ¬ c → B) : if c then A else B := by
  by_cases h : c
  · rw [if_pos h]
    exact h1 h
  · rw [if_neg h]
    exact h2 h
theorem iteNS {c A B : Prop} [Decidable c] (hc : c) (h : B) : if (!decide c) = true then A else B := by
  rw [decide_eq_true hc]
  exact iteF h
def Same (H H' : Hp) : Prop := ∀ b o, H b = some o → H' b = some o
theorem Same.refl (H : Hp) : Same H H := fun _ _ h => h
theorem Same.trans {H H1 H2 : Hp} (a : Same H H1) (b : Same H1 H2) : Same H H2 := fun c o h => b c o (a c o h)
theorem Same.free {H H' : Hp} (e : Same H H') {l : Addr} (h : H' l = Option.none) : H l = Option.none := by
  cases q : H l with
  | none => rfl
  | some o =>
    rw [e l o q] at h
    cases h
theorem Same.seq {K : PySem.W.Frag} {H H' : Hp} {a : Addr} {xs : List V} (e : Same H H') (h : SqL K H a xs) : SqL K H' a xs := by
  rcases h with (h | ⟨o, h⟩) | h
  · exact .inl (.inl (e _ _ h))
  · exact .inl (.inr ⟨o, e _ _ h⟩)
  · exact .inr h
end L2
namespace L2
open PySem PySem.Spec PyProof.Rows
def closL (cells : List (Str × Addr)) : List (Str × NameKind) → List (Str × Addr) → List (Str × Addr)
  | [], acc => acc
  | (n, k) :: r, acc => if (k == NameKind.free) = true then (match cells.lookup n with | some c => closL cells r ((n, c) :: acc) | none => closL cells r acc) else closL cells r acc
theorem closL_run {env : Env} : ∀ (ns : List (Str × NameKind)) (acc : List (Str × Addr)), (∀ y ∈ ns, y.2 = .free → ∃ c, env.cells.lookup y.1 = some c) →
    (forIn ns acc (fun x cs => (match x with | (name, kind) => if (kind == NameKind.free) = true then (do let c ← cellOf env name; pure (ForInStep.yield ((name, c) :: cs))) else pure (ForInStep.yield cs))) : Sem (List (Str × Addr))) = pure (closL env.cells ns acc)
  | [], acc, _ => rfl
  | (n, k) :: r, acc, h => by
    rw [List.forIn_cons]
    by_cases hk : (k == NameKind.free) = true
    · obtain ⟨c, hc⟩ := h (n, k) List.mem_cons_self (by simpa using hk)
      have hc : env.cells.lookup n = some c := hc
      have e := closL_run (env := env) r ((n, c) :: acc) fun y hy => h y (List.mem_cons_of_mem _ hy)
      simp only [closL, hk, if_true, cellOf, hc, pure_bind]
      exact e
    · have e := closL_run (env := env) r acc fun y hy => h y (List.mem_cons_of_mem _ hy)
      have hk : (k == NameKind.free) = false := by simpa using hk
      simp only [closL, hk, Bool.false_eq_true, if_false, pure_bind]
      exact e
theorem closureFor_eq {scope : Scope} {env : Env} (h : ∀ y ∈ scope.names, y.2 = .free → ∃ c, env.cells.lookup y.1 = some c) : closureFor scope env = pure (closL env.cells scope.names []) := by
  have e := closL_run (env := env) scope.names [] h
  unfold closureFor
  simp only [bind_pure]
  first
    | exact e
    | (refine Eq.trans ?_ e; congr 1)
    | (simp only [bind_pure_comp] at e ⊢; exact e)
theorem closL_sub {cells : List (Str × Addr)} : ∀ {ns : List (Str × NameKind)} {acc : List (Str × Addr)} {x : Str} {c : Addr}, (closL cells ns acc).lookup x = some c → acc.lookup x = some c ∨ cells.lookup x = some c
  | [], acc, x, c, h => .inl h
  | (n, k) :: r, acc, x, c, h => by
    unfold closL at h
    split at h
    · split at h
      · rename_i q hq
        rcases closL_sub h with z | z
        · rw [List.lookup_cons] at z
          cases hx : x == n with
          | true =>
            rw [hx] at z
            cases z
            have : x = n := by simpa using hx
            subst this
            exact .inr hq
          | false =>
            rw [hx] at z
            exact .inl z
        · exact .inr z
      · exact closL_sub h
    · exact closL_sub h
theorem closL_has {cells : List (Str × Addr)} : ∀ {ns : List (Str × NameKind)} {acc : List (Str × Addr)} {x : Str} {c : Addr}, cells.lookup x = some c → ((x, NameKind.free) ∈ ns ∨ acc.lookup x = some c) → (closL cells ns acc).lookup x = some c
  | [], acc, x, c, hc, h => h.elim (fun z => nomatch z) fun z => z
  | (n, k) :: r, acc, x, c, hc, h => by
    unfold closL
    split
    · rename_i hk
      split
      · rename_i q hq
        refine closL_has hc ?_
        rcases h with h | h
        · rcases List.mem_cons.mp h with e | h
          · cases e
            rw [hc] at hq
            cases hq
            exact .inr (by simp)
          · exact .inl h
        · by_cases e : x = n
          · subst e
            rw [hc] at hq
            cases hq
            exact .inr (by simp)
          · exact .inr (by rw [List.lookup_cons, (by simpa using e : (x == n) = false)]; exact h)
      · rename_i hq
        refine closL_has hc ?_
        rcases h with h | h
        · rcases List.mem_cons.mp h with e | h
          · cases e
            rw [hc] at hq
            cases hq
          · exact .inl h
        · exact .inr h
    · rename_i hk
      refine closL_has hc ?_
      rcases h with h | h
      · rcases List.mem_cons.mp h with e | h
        · cases e
          exact absurd rfl hk
        · exact .inl h
      · exact .inr h
theorem lookup_relabel_free {env : Env} : ∀ {names : List (Str × NameKind)} {x : Str}, names.lookup x = some .free →
    (names.map fun (n, k) => if (k == NameKind.free && env.scope.kind == .function && env.kindOf n == some .cell) then (n, NameKind.cell) else (n, k)).lookup x = some .cell ∨
    (names.map fun (n, k) => if (k == NameKind.free && env.scope.kind == .function && env.kindOf n == some .cell) then (n, NameKind.cell) else (n, k)).lookup x = some .free
  | [], _, h => by simp at h
  | (n, k) :: r, x, h => by
    have ih := @lookup_relabel_free env r x
    show List.lookup x ((if (k == NameKind.free && env.scope.kind == .function && env.kindOf n == some .cell) = true then (n, NameKind.cell) else (n, k)) :: _) = _ ∨ List.lookup x ((if (k == NameKind.free && env.scope.kind == .function && env.kindOf n == some .cell) = true then (n, NameKind.cell) else (n, k)) :: _) = _
    cases hx : x == n with
    | true =>
      simp only [List.lookup_cons, hx] at h
      cases h
      by_cases hc : (NameKind.free == NameKind.free && env.scope.kind == .function && env.kindOf n == some .cell) = true
      · rw [if_pos hc]; simp [List.lookup_cons, hx]
      · rw [if_neg hc]; simp [List.lookup_cons, hx]
    | false =>
      simp only [List.lookup_cons, hx] at h
      by_cases hc : (k == NameKind.free && env.scope.kind == .function && env.kindOf n == some .cell) = true
      · rw [if_pos hc]; simp only [List.lookup_cons, hx]; exact ih h
      · rw [if_neg hc]; simp only [List.lookup_cons, hx]; exact ih h
theorem of_relabel {env : Env} : ∀ {names : List (Str × NameKind)} {x : Str} {q : NameKind}, (names.map fun (n, k) => if (k == NameKind.free && env.scope.kind == .function && env.kindOf n == some .cell) then (n, NameKind.cell) else (n, k)).lookup x = some q →
    (∀ y ∈ names, y.2 ≠ .cell) → q = .cell ∨ q = .free → (x, NameKind.free) ∈ names
  | [], _, _, h, _, _ => by simp at h
  | (n, k) :: r, x, q, h, hn, hq => by
    have ih := @of_relabel env r x q
    have h : List.lookup x ((if (k == NameKind.free && env.scope.kind == .function && env.kindOf n == some .cell) = true then (n, NameKind.cell) else (n, k)) :: r.map fun (n, k) => if (k == NameKind.free && env.scope.kind == .function && env.kindOf n == some .cell) then (n, NameKind.cell) else (n, k)) = some q := h
    have nk : k ≠ .cell := hn (n, k) List.mem_cons_self
    have hn' : ∀ y ∈ r, y.2 ≠ .cell := fun y hy => hn y (List.mem_cons_of_mem _ hy)
    cases hx : x == n with
    | true =>
      have e : x = n := by simpa using hx
      subst e
      by_cases hc : (k == NameKind.free && env.scope.kind == .function && env.kindOf x == some .cell) = true
      · have : k = .free := by
          simp only [Bool.and_eq_true] at hc
          simpa using hc.1.1
        subst this
        exact List.mem_cons_self
      · rw [if_neg hc] at h
        simp only [List.lookup_cons, hx] at h
        cases h
        rcases hq with z | z
        · exact absurd z nk
        · rw [z]; exact List.mem_cons_self
    | false =>
      by_cases hc : (k == NameKind.free && env.scope.kind == .function && env.kindOf n == some .cell) = true
      · rw [if_pos hc] at h; simp only [List.lookup_cons, hx] at h; exact List.mem_cons_of_mem _ (ih h hn' hq)
      · rw [if_neg hc] at h; simp only [List.lookup_cons, hx] at h; exact List.mem_cons_of_mem _ (ih h hn' hq)
end L2
namespace L2
open PySem PySem.Spec PyProof.Rows
def startC (ix : List (Option Nat)) (σ : St) : St := ix.map fun o => o.bind fun i => (σ[i]?).join
def cxC (X : Cx) (N : List Str) (scope : Scope) (C : Addr) (fp : List Addr) (s : Shared) (H : Hp) : Cx :=
  { X with N := N, s₀ := s, H₀ := H, env := compEnvC scope (closL X.env.cells scope.names []) C X.env, outer := X.stack, stack := X.stack, ex := fp, fn := fun _ => false, xe := fun _ _ => False }
structure CompOk (X : Cx) (scope : Scope) (N : List Str) (ix : List (Option Nat)) : Prop where
  kind : scope.kind = .function
  nocell : ∀ y ∈ scope.names, y.2 ≠ .cell
  len : ix.length = N.length
  names : ∀ y ∈ scope.names, y.2 = .local → scope.names.lookup y.1 = some .local
  fr : ∀ y ∈ scope.names, y.2 = .free → X.env.kindOf y.1 = some .cell ∨ X.env.kindOf y.1 = some .free
  cap : ∀ (j i : Nat), ix[j]? = some (some i) → ∃ x : Str, N[j]? = some x ∧ X.N[i]? = some x ∧ scope.names.lookup x = some .free ∧ (x, NameKind.free) ∈ scope.names
theorem mem_of_lookup {names : List (Str × NameKind)} {x : Str} {k : NameKind} (h : names.lookup x = some k) : (x, k) ∈ names := by
  induction names with
  | nil => simp at h
  | cons p r ih =>
    obtain ⟨n, q⟩ := p
    rw [List.lookup_cons] at h
    cases hx : x == n with
    | true =>
      rw [hx] at h; cases h; have : x = n := by simpa using hx
      subst this; exact List.mem_cons_self
    | false => rw [hx] at h; exact List.mem_cons_of_mem _ (ih h)
section
variable {X : Cx} {pins : List (Addr × Obj)} {σ : St} {H : Hp} {s : Shared} {scope : Scope} {N : List Str} {ix : List (Option Nat)} {fp : List Addr}
theorem CompOk.ok (c : CompOk X scope N ix) (I : Inv X pins σ H s) (hf : ∀ b ∈ fp, FpOk X pins H b) (hlt : ∀ b ∈ fp, b < s.heap.objs.size) {C : Nat} (hC : s.heap.objs.size ≤ C) : (cxC X N scope C fp s H).Ok where
  mod := I.ok.mod
  kind := c.kind
  glob := I.ok.glob
  blt := I.ok.blt
  above := hC
  inj := fun x y d h1 h2 => by
    have h1 : (closL X.env.cells scope.names []).lookup x = some d := h1
    have h2 : (closL X.env.cells scope.names []).lookup y = some d := h2
    rcases closL_sub h1 with z | z
    · simp at z
    · rcases closL_sub h2 with z' | z'
      · simp at z'
      · exact I.ok.inj x y d z z'
  has := fun x h => by
    have hm : (x, NameKind.free) ∈ scope.names := by
      rcases h with h | h
      · exact of_relabel h c.nocell (.inl rfl)
      · exact of_relabel h c.nocell (.inr rfl)
    obtain ⟨d, hd⟩ := I.ok.has x (c.fr _ hm rfl)
    exact ⟨d, closL_has hd (.inl hm)⟩
  cab := fun x d h => by cases h
  hd := I.ok.hd
  frames := I.ok.frames
  stk := .inl rfl
  exf := fun b hb => by
    refine ⟨fun z => ?_, fun x d e z => ?_⟩
    · have z : b = C := z
      have := hlt b hb
      rw [z] at this
      exact absurd (Nat.lt_of_lt_of_le this hC) (Nat.lt_irrefl _)
    · rcases closL_sub e with q | q
      · simp at q
      · exact (hf b hb).2.2.2.2.1 x d q z
  bs := fun b o e => I.bs b o e
  bsz := Nat.le_trans I.ok.bsz I.sz
  noex := fun b o e hb => by
    rcases (hf b hb).2.2.2.1 with z | z
    · exact I.ok.noex b o e z
    · exact absurd (Nat.lt_of_lt_of_le (Heap.lt_size (I.ok.bs b o e).1) z) (Nat.lt_irrefl _)
  exfs := fun b hb z => by
    rcases List.mem_cons.mp (I.stkSub b z) with e | e
    · exact (hf b hb).2.1 e
    · exact (hf b hb).2.2.1 e
  funs := I.stack
  frf := I.stkFree
theorem CompOk.enter (c : CompOk X scope N ix) (I : Inv X pins σ H s) (hf : ∀ b ∈ fp, FpOk X pins H b) (ho : ∀ b ∈ fp, ∃ o, s.heap.get? b = some o ∧ ∀ v, o.data ≠ .cell v) {C D : Nat} {h' : Heap} {t' : Nat} {m : Str → Option Value} {oD : Obj} (hC : C = s.heap.objs.size + 1) (hD : D = s.heap.objs.size)
    (k : ∀ b o, s.heap.get? b = some o → h'.get? b = some o) (hn : h'.Ns C m) (hoD : h'.get? D = some oD) (hdD : ∀ v, oD.data ≠ .cell v) :
    Inv (cxC X N scope C fp s H) (pins ++ [(D, oD)]) (startC ix σ) H { s with heap := h', toks := t' } := by
  have hlt : ∀ b ∈ fp, b < s.heap.objs.size := fun b hb => let ⟨o, e, _⟩ := ho b hb; Heap.lt_size e
  have sub : ∀ x d, (closL X.env.cells scope.names []).lookup x = some d → X.env.cells.lookup x = some d := fun x d e => by
    rcases closL_sub e with z | z
    · simp at z
    · exact z
  refine ⟨c.ok I hf hlt (by omega), rfl, I.bare, Un.kept k, ⟨m, hn, fun j x v e1 e2 e3 => ?_⟩, fun x d e => ?_, I.hok.fresh (by show s.heap.objs.size ≤ C; omega), fun x d e => I.freeC x d (sub x d e), fun p hp => ?_, I.hok.kept k, ?_⟩
  · have e2 : (ix.map fun o => o.bind fun i => (σ[i]?).join)[j]? = some (some v) := e2
    rw [List.getElem?_map] at e2
    cases hj : ix[j]? with
    | none => rw [hj] at e2; cases e2
    | some o =>
      rw [hj] at e2
      cases o with
      | none => cases e2
      | some i =>
        have e2 : some ((σ[i]?).join) = some (some v) := e2
        obtain ⟨x', a1, a2, a3, a4⟩ := c.cap j i hj
        have e1 : N[j]? = some x := e1
        rw [e1] at a1
        cases a1
        have hs : σ[i]? = some (some v) := by
          have z := Option.some.inj e2
          cases q : σ[i]? with
          | none => rw [q] at z; cases z
          | some w => rw [q] at z; have z : w = some v := z; rw [z]
        have kx := c.fr _ a4 rfl
        obtain ⟨m0, hn0, hl0⟩ := I.loc
        obtain ⟨u, r, l⟩ := hl0 i x v a2 hs (kx.elim (fun z => .inr (.inl z)) fun z => .inr (.inr z))
        refine ⟨u, r, .inr ⟨?_, ?_⟩⟩
        · exact lookup_relabel_free (env := X.env) a3
        · rcases l with ⟨z, _⟩ | ⟨_, d, hd, hcell⟩
          · rcases kx with q | q <;> rw [q] at z <;> cases z
          · refine ⟨d, closL_has hd (.inl a4), ?_⟩
            obtain ⟨o, ho, hdt⟩ := hcell
            exact ⟨o, k d o ho, hdt⟩
  · obtain ⟨v, o, ho, hdt⟩ := I.cell x d (sub x d e)
    exact ⟨v, o, k d o ho, hdt⟩
  · have nstk : ∀ b, b ≠ X.env.locals → b ∉ X.fs → b ∉ frs X.stack := fun b h1 h2 z => by
      rcases List.mem_cons.mp (I.stkSub b z) with e | e
      · exact h1 e
      · exact h2 e
    have old : ∀ p ∈ X.pn ++ pins, h'.get? p.1 = some p.2 ∧ H p.1 = none ∧ p.1 ≠ C ∧ p.1 ∉ frs X.stack ∧ ∀ v, p.2.data ≠ .cell v := fun p hp => by
      obtain ⟨a1, a2, a3, a4, a5⟩ := I.pin p hp
      have : @LT.lt Nat _ p.1 s.heap.objs.size := Heap.lt_size a1
      exact ⟨k _ _ a1, a2, Nat.ne_of_lt (by rw [hC]; exact Nat.lt_succ_of_lt this), nstk _ a3 a4, a5⟩
    have hp : p ∈ X.pn ++ (pins ++ [(D, oD)]) := hp
    rcases List.mem_append.mp hp with z | z
    · exact old p (List.mem_append_left _ z)
    · rcases List.mem_append.mp z with z | z
      · exact old p (List.mem_append_right _ z)
      · have e : p = (D, oD) := by simpa using z
        subst e
        have lt : @LT.lt Nat _ X.env.locals s.heap.objs.size := I.lt
        refine ⟨hoD, I.hok.fresh (by show s.heap.objs.size ≤ D; omega), (by show (D : Nat) ≠ C; omega), nstk D (Nat.ne_of_gt (by rw [hD]; exact lt)) (I.nofs (by omega)), hdD⟩
  · show (ix.map _).length = N.length
    rw [List.length_map, c.len]
theorem CompOk.leave (c : CompOk X scope N ix) (I : Inv X pins σ H s) (hf : ∀ b ∈ fp, FpOk X pins H b) {C D : Nat} {σ' : St} {H' : Hp} {s' : Shared} {ys : List V} {its : List Value} {n : Nat} {pl : List (Addr × Obj)} (hC : C = s.heap.objs.size + 1) (hD : D = s.heap.objs.size)
    (I' : Inv (cxC X N scope C fp s H) (pl ++ [(D, { cls := .type "list", data := .seq its.toArray n })]) σ' H' s') (rv : Vals ys its) (hz : ys.length ≤ sizeLine) :
    Inv X pins σ (upd H' D (.lst ys)) s' := by
  have pD := I'.pin (D, _) (List.mem_append_right _ (List.mem_append_right _ List.mem_cons_self))
  have hDn : H' D = none := pD.2.1
  have u : Un (frs X.stack) fp H H' s.heap s'.heap := I'.base
  have hlt : ∀ b o, s.heap.get? b = some o → b ≠ D := fun b o e => Nat.ne_of_lt (by have : @LT.lt Nat _ b s.heap.objs.size := Heap.lt_size e; rw [hD]; exact this)
  refine I.call' (ch := fp) I'.os ?_ ?_ I'.bare fun b hb => ?_
  · refine ⟨u.keep, u.slot, fun b o e n hx => by rw [upd_ne (hlt b o e)]; exact u.free b o e n hx, u.there, fun b xs e => ?_, fun b o w e => ?_, fun b ps e => ?_⟩
    · have e' := u.tups b xs e
      rw [upd_ne (ne_of_none e' hDn)]; exact e'
    · have e' := u.frzs b o w e
      rw [upd_ne (ne_of_none e' hDn)]; exact e'
    · obtain ⟨more, e'⟩ := u.tbls b ps e
      exact ⟨more, by rw [upd_ne (ne_of_none e' hDn)]; exact e'⟩
  · intro b o e
    by_cases hb : b = D
    · subst hb
      rw [upd_same] at e
      cases e
      exact ⟨hz, its, n, rv, pD.1⟩
    · rw [upd_ne hb] at e
      refine (I'.hok b o e).stay (fun _ _ _ q => q) (fun a q => ?_) fun a xs q => ?_
      · rw [upd_ne (ne_of_none q hDn)]; exact q
      · rw [upd_ne (ne_of_none q hDn)]; exact q
  · obtain ⟨f0, f1, f2, f3, f4, f5⟩ := hf b hb
    exact ⟨f3, f1, f4, f5⟩
end
end L2
namespace L2
open PySem PySem.Spec PyProof.Rows
section
variable {prog : Program} {w : World} {A : Around} {R : Result → Shared → Prop} {s : Shared}
theorem compLoop_any {elt target iter : Expr} {ifs : List Expr} {scope : Scope} {pos : Pos} {it acc : Value} {env : Env} (I : Nat → Shared → Prop)
    (turn : ∀ n s, I n s → wpAny (model prog w) A (pyNext it) (fun r s₁ => match r with
      | none => R (.ok .next) s₁
      | some v => wpAny (model prog w) A (letOwnedTupleGo target it v) (fun _ s₁ => wpAny (model prog w) A (assign target env v) (fun _ s₂ =>
          wpAny (model prog w) A (forIn ifs true fun c r => if r = true then do let ok ← isTrue c env (eval c env); pure (ForInStep.yield ok) else pure (ForInStep.yield r)) (fun ok s₃ =>
            if ok = true then wpAny (model prog w) A (eval elt env) (fun x s₄ =>
              wpAny (model prog w) A (call (.builtin "list.append") [acc, x]) (fun _ s₅ => ∃ m, m < n ∧ I m s₅) (fun _ _ => False) s₄) (fun _ _ => False) s₃
            else ∃ m, m < n ∧ I m s₃) (fun _ _ => False) s₂) (fun _ _ => False) s₁) (fun _ _ => False) s₁) (fun _ _ => False) s)
    (n : Nat) (h : I n s) :
    codeAny (model prog w) A (.compLoop (.ListComp elt [⟨target, iter, ifs, 0⟩] scope pos) 0 it acc env) R s := by
  refine codeAny_loop rfl I (fun n s hI => ?_) n h
  show wpAny _ A ((compTurn (.ListComp elt [⟨target, iter, ifs, 0⟩] scope pos) 0 it acc env).onRaise (fun x => do noteFrame x env; theTreesLotGoes x)) _ _ s
  refine wpAny_noted ?_
  rw [compTurn_list]
  refine wpAny_bind (wpAny_standAt (wpAny_bind (wpAny_mono (turn n s hI) (fun r s₁ h₁ => ?_) fun _ _ h' => h'.elim)))
  cases r with
  | none => exact wpAny_pure h₁
  | some v =>
    refine wpAny_bind (wpAny_mono h₁ (fun _ s₁ h₁ => ?_) fun _ _ h' => h'.elim)
    refine wpAny_bind (wpAny_mono h₁ (fun _ s₂ h₂ => wpAny_bind (wpAny_mono h₂ (fun ok s₃ h₃ => ?_) fun _ _ h' => h'.elim)) fun _ _ h' => h'.elim)
    cases ok with
    | false => exact wpAny_pure ⟨rfl, h₃⟩
    | true =>
      refine wpAny_bind (wpAny_bind (wpAny_mono h₃ (fun x s₄ h₄ => wpAny_bind (wpAny_mono h₄ (fun _ s₅ h₅ => ?_) fun _ _ h' => h'.elim)) fun _ _ h' => h'.elim))
      exact wpAny_pure (wpAny_pure ⟨rfl, h₅⟩)
end
def PIf (X : Cx) (cs : List Expr) (t : TT) : Prop :=
  ∀ (pins : List (Addr × Obj)) (s : Shared) (σ : St) (H : Hp) (Q : Bool → Hp → Prop), Inv X pins σ H s → t σ H Q →
    wpAny (model X.prog X.w) X.A (forIn cs true fun c r => if r = true then do let ok ← isTrue c X.env (eval c X.env); pure (ForInStep.yield ok) else pure (ForInStep.yield r)) (TP X pins σ Q) X.xe s
def tTrue : TT := fun _ H Q => Q true H
theorem pif_nil {X : Cx} : PIf X [] tTrue := fun _ _ _ H _ I h => wpAny_tests_nil ⟨H, I, h⟩
theorem pif_one {X : Cx} {c : Expr} {t : TT} (h : PT X c t) : PIf X [c] t := fun pins s σ H Q I q => wpAny_tests_one (h pins s σ H Q I q)
abbrev WC := Nat → Nat → List V → St → Hp → Prop
def rComp (ix : List (Option Nat)) (g : TG) (tc : TT) (te : TE) (σ : St) (Q : VK) (J : It) (H1 : Hp) : Prop :=
  ∃ W : WC, (∃ m, W 0 m [] (startC ix σ) H1) ∧ ∀ i m ys σ' H', W i m ys σ' H' →
    (J.stop i H' ∧ ys.length ≤ sizeLine ∧ ∀ p, H' p = none → Q (.ref p) (upd H' p (.lst ys))) ∨
    (J.go i H' ∧ ys.length < sizeLine ∧ ∀ x H2, J.yld i H' x H2 → g x σ' H2 fun σ2 H3 => tc σ2 H3 fun b H4 =>
      if b = true then te σ2 H4 fun v H5 => ∃ m', m' < m ∧ W (i + 1) m' (ys ++ [v]) σ2 H5 else ∃ m', m' < m ∧ W (i + 1) m' ys σ2 H4)
def tComp (ix : List (Option Nat)) (wi : TI) (g : TG) (tc : TT) (te : TE) : TE := fun σ H Q => wi σ H (rComp ix g tc te σ Q)
section
variable {X : Cx} {scope : Scope} {N : List Str} {ix : List (Option Nat)} {elt tg iter : Expr} {ifs : List Expr} {g : TG} {tc : TT} {te : TE} {pos : Pos}
theorem comp_block {pins : List (Addr × Obj)} {σ : St} {s2 : Shared} {Q : VK} {itv : Value} {RR : Value → Addr → Result → Shared → Prop} {E : Value → Shared → Prop} (c : CompOk X scope N ix) (hc : X.calm = true)
    (hg : ∀ C fp s H, PG (cxC X N scope C fp s H) tg g) (ht : ∀ C fp s H, PIf (cxC X N scope C fp s H) ifs tc) (he : ∀ C fp s H, PE (cxC X N scope C fp s H) elt te)
    (h2 : PIE X pins σ tg (rComp ix g tc te σ Q) itv s2)
    (hR : ∀ (D C : Addr) (s' : Shared) (H' : Hp) (m : Str → Option Value), Inv X pins σ H' s' → s'.heap.Ns C m → H' C = none → X.s₀.heap.objs.size ≤ C → (∀ p ∈ X.pn ++ pins, p.1 ≠ C) → C ≠ X.env.locals → (∀ x c, X.env.cells.lookup x = some c → c ≠ C) → Q (.ref D) H' → RR (.ref D) C (.ok .next) s') :
    wpAny (model X.prog X.w) X.A (newList []) (fun acc s₃ => wpAny (model X.prog X.w) X.A (newFunctionEnv scope X.env.globals (closL X.env.cells scope.names []) [] X.env.qual none .none (some X.env)) (fun cenv s₄ =>
      codeAny (model X.prog X.w) X.A (.compStart (.ListComp elt [⟨tg, iter, ifs, 0⟩] scope pos) 0 itv acc { cenv with scope := relabel scope X.env }) (RR acc cenv.locals) s₄) E s₃) E s2 := by
  obtain ⟨it, fp, tn, J, H2, rfl, I2, T, st2, f2, W, ⟨m0, w0⟩, turn⟩ := h2
  refine wpAny_newObj_type (wpAny_newFunctionEnv c.nocell (by intro y hy; simp at hy) (fun h₁ hns₁ hsb₁ => ?_) c.kind)
  dsimp only at hns₁ hsb₁ ⊢
  generalize hH2 : s2.heap.push { cls := .type "list", dict := none, data := .seq ([] : List Value).toArray } = G2 at hns₁ hsb₁ ⊢
  have hCs : G2.objs.size = s2.heap.objs.size + 1 := by rw [← hH2, Heap.size_push]
  generalize hCe : G2.objs.size = C at hns₁ hsb₁ hCs ⊢
  generalize hDe : s2.heap.objs.size = D at hCs ⊢
  have ltC : ∀ b, @LT.lt Nat _ b D → b ≠ C := fun b hb => Nat.ne_of_lt (by rw [hCs]; exact Nat.lt_succ_of_lt hb)
  have ltS : ∀ b o, s2.heap.get? b = some o → @LT.lt Nat _ b D := fun b o e => by rw [← hDe]; exact Heap.lt_size e
  have hDC : D ≠ C := Nat.ne_of_lt (by rw [hCs]; exact Nat.lt_succ_self _)
  have old : ∀ b o, s2.heap.get? b = some o → h₁.get? b = some o := fun b o e => hsb₁.extBut b o (ltC b (ltS b o e)) (Heap.get?_push_of_some _ (hH2 ▸ Heap.get?_push_of_some _ e))
  have hoD : h₁.get? D = some { cls := .type "list", dict := none, data := .seq ([] : List Value).toArray } := by
    refine hsb₁.extBut _ _ hDC (Heap.get?_push_of_some _ ?_)
    rw [← hH2, ← hDe]
    exact Heap.get?_push_size _ rfl
  have I4 : Inv (cxC X N scope C fp s2 H2) (pins ++ [(D, { cls := .type "list", data := .seq ([] : List Value).toArray })]) (startC ix σ) H2 { s2 with heap := h₁, toks := s2.toks + ([] : List (Str × Value)).length } :=
    c.enter I2 f2 (T.obj _ _ st2) (by rw [hCs, hDe]) hDe.symm old hns₁ hoD fun v z => by cases z
  have st4 : tn 0 h₁ := T.keep _ _ _ st2 fun b _ o e => old b o e
  have pinD : ∀ p ∈ X.pn ++ pins, p.1 ≠ D := fun p hp => Nat.ne_of_lt (ltS _ _ (I2.pin p hp).1)
  have pinC : ∀ p ∈ X.pn ++ pins, p.1 ≠ C := fun p hp => ltC _ (ltS _ _ (I2.pin p hp).1)
  have celD : ∀ x d, X.env.cells.lookup x = some d → @LT.lt Nat _ d D := fun x d e => by
    obtain ⟨v, o, ho, _⟩ := I2.cell x d e
    exact ltS d o ho
  have fpD : ∀ b ∈ fp, @LT.lt Nat _ b D := fun b hb => by
    obtain ⟨o, e, _⟩ := T.obj _ _ st2 b hb
    exact ltS b o e
  have sub : ∀ x d, (closL X.env.cells scope.names []).lookup x = some d → X.env.cells.lookup x = some d := fun x d e => by
    rcases closL_sub e with z | z
    · simp at z
    · exact z
  have stat : ∀ {H' : Hp} {oD : Obj}, (∀ b ∈ fp, H' b = none) → ∀ b ∈ fp, FpOk (cxC X N scope C fp s2 H2) (pins ++ [(D, oD)]) H' b := fun {H' oD} hn b hb => by
    obtain ⟨f0, f1, f2, f3, f4, f5⟩ := f2 b hb
    refine ⟨hn b hb, ltC b (fpD b hb), fun z => ?_, .inl hb, fun x d e => f4 x d (sub x d e), fun p hp => ?_⟩
    · rcases List.mem_cons.mp (I2.stkSub b z) with e | e
      · exact f1 e
      · exact f2 e
    · have hp : p ∈ X.pn ++ (pins ++ [(D, oD)]) := hp
      rw [← List.append_assoc] at hp
      rcases List.mem_append.mp hp with z | z
      · exact f5 p z
      · have e : p = (D, oD) := by simpa using z
        subst e
        exact Nat.ne_of_gt (fpD b hb)
  have loop : ∀ s3 : Shared, s3 = { s2 with heap := h₁, toks := s2.toks + ([] : List (Str × Value)).length } →
      codeAny (model X.prog X.w) X.A (.compLoop (.ListComp elt [⟨tg, iter, ifs, 0⟩] scope pos) 0 (.ref it) (.ref D) (cxC X N scope C fp s2 H2).env) (RR (.ref D) C) s3 := by
    rintro s3 rfl
    refine compLoop_any (fun n s' => ∃ i σ' H' ys its k, Inv (cxC X N scope C fp s2 H2) (pins ++ [(D, { cls := .type "list", data := .seq (List.toArray its) k })]) σ' H' s' ∧ tn i s'.heap ∧ (∀ b ∈ fp, H' b = none) ∧ Vals ys its ∧ W i n ys σ' H') ?_ m0
      ⟨0, _, H2, [], [], _, I4, st4, fun b hb => (f2 b hb).1, .nil, w0⟩
    rintro n s3 ⟨i, σ3, H3, ys, its, k, I3, st3, fr3, rv, w3⟩
    rcases turn i n ys σ3 H3 w3 with ⟨stop, hz, qn⟩ | ⟨go, hz, step⟩
    · refine thn (T.done (cxC X N scope C fp s2 H2) rfl rfl rfl hc i _ s3 σ3 H3 _ I3 (stat fr3) st3 stop) fun r s4 ⟨hr, I4⟩ => ?_
      subst hr
      have hDn : H3 D = none := (I3.pin (D, _) (List.mem_append_right _ (List.mem_append_right _ List.mem_cons_self))).2.1
      obtain ⟨m4, hn4, _⟩ := id I4.loc
      refine hR D C s4 _ m4 (c.leave I2 f2 (by rw [hCs, hDe]) hDe.symm I4 rv hz) hn4 ?_ ?_ pinC ?_ (fun x d e => ltC d (celD x d e)) (qn D hDn)
      · rw [upd_ne hDC.symm]; exact I4.free
      · refine Nat.le_trans I2.sz ?_
        rw [hDe, hCs]; exact Nat.le_succ _
      · refine Nat.ne_of_gt (Nat.lt_of_lt_of_le I2.lt ?_)
        rw [hDe, hCs]; exact Nat.le_succ _
    · refine thn (T.item (cxC X N scope C fp s2 H2) rfl rfl rfl hc i _ s3 σ3 H3 _ I3 (stat fr3) st3 go) fun r s4 ⟨u, hr, h4⟩ => ?_
      subst hr
      refine thn h4 fun _ s5 ⟨x, H5, I5, r5, y5, st5, fr5⟩ => ?_
      have I5' := I5.pinned (stat fr5) (T.obj _ _ st5)
      refine thn (hg C fp s2 H2 _ s5 σ3 H5 x u _ I5' r5 (step x H5 y5)) fun _ s6 ⟨σ6, H6, I6, q6⟩ => ?_
      refine thn (ht C fp s2 H2 _ s6 σ6 H6 _ I6 q6) fun ok s7 ⟨H7, I7, q7⟩ => ?_
      have keep : ∀ {s' : Shared} {σ' : St} {H' : Hp}, Inv (cxC X N scope C fp s2 H2) ((pins ++ [(D, { cls := .type "list", data := .seq its.toArray k })]) ++ pinsAt fp s5.heap) σ' H' s' → tn (i + 1) s'.heap ∧ ∀ b ∈ fp, H' b = none := fun {s' σ' H'} I' => by
        refine ⟨T.keep _ _ _ st5 fun b hb o e => (I'.pin (b, o) (List.mem_append_right _ (List.mem_append_right _ (mem_pinsAt hb e)))).1, fun b hb => ?_⟩
        obtain ⟨o, e, d⟩ := T.obj _ _ st5 b hb
        exact (I'.pin (b, o) (List.mem_append_right _ (List.mem_append_right _ (mem_pinsAt hb e)))).2.1
      cases ok with
      | false =>
        rw [if_neg Bool.false_ne_true]
        rw [if_neg Bool.false_ne_true] at q7
        obtain ⟨m', hm, w7⟩ := q7
        obtain ⟨k1, k2⟩ := keep I7
        exact ⟨m', hm, i + 1, σ6, H7, ys, its, k, I7.unpinned, k1, k2, rv, w7⟩
      | true =>
        rw [if_pos rfl]
        rw [if_pos rfl] at q7
        refine thn (he C fp s2 H2 _ s7 σ6 H7 _ I7 q7) fun y s8 ⟨v, H8, I8, r8, m', hm, w8⟩ => ?_
        obtain ⟨k1, k2⟩ := keep I8
        have pD := I8.pin (D, _) (List.mem_append_right _ (List.mem_append_left _ (List.mem_append_right _ List.mem_cons_self)))
        have I8u := I8.unpinned
        have I8v : Inv (cxC X N scope C fp s2 H2) pins σ6 H8 s8 := I8u.unpinned
        have len := rv.length
        refine wpAny_list_append_plain (items := its.toArray) (hsz := by simp; omega) ⟨k, pD.1⟩ fun h9 hl9 hs9 => ?_
        obtain ⟨k9, e9⟩ := hl9
        have I9 : Inv (cxC X N scope C fp s2 H2) pins σ6 H8 { s8 with heap := h9 } := by
          refine I8v.turned (t' := s8.toks) (it := D) (fun b o hb e => hs9.extBut b o hb e) pD.2.1 hDC (.inr ?_) (fun x d e => Nat.ne_of_lt (celD x d (sub x d e))) fun p hp => ?_
          · show s2.heap.objs.size ≤ D
            rw [hDe]; exact Nat.le_refl _
          · exact pinD p hp
        have e9' : h9.get? D = some { cls := .type "list", data := .seq (its ++ [y]).toArray k9 } := by
          rw [e9]; simp
        refine ⟨m', hm, i + 1, σ6, H8, ys ++ [v], its ++ [y], k9, I9.pins_of fun p hp => ?_, T.keep _ _ _ k1 fun b hb o e => hs9.extBut b o (Nat.ne_of_lt (fpD b hb)) e, k2, rv.append (.cons r8 .nil), w8⟩
        rcases List.mem_append.mp hp with z | z
        · exact I9.pin p (List.mem_append_right _ z)
        · have e : p = (D, { cls := .type "list", data := .seq (its ++ [y]).toArray k9 }) := by simpa using z
          subst e
          exact ⟨e9', pD.2.1, pD.2.2.1, pD.2.2.2.1, fun v z => by cases z⟩
  exact codeAny_compStart_list (loop _ rfl) (T.self _ 0 _ _ _ st4 (loop _ rfl))
variable {wi : TI}
theorem pe_comp (c : CompOk X scope N ix) (hc : X.calm = true) (hi : PI X tg iter wi) (hg : ∀ C fp s H, PG (cxC X N scope C fp s H) tg g) (ht : ∀ C fp s H, PIf (cxC X N scope C fp s H) ifs tc) (he : ∀ C fp s H, PE (cxC X N scope C fp s H) elt te)
    (hs : ∀ x, foldedSetIterable iter X.env x = pure x := by intro _; rfl) : PE X (.ListComp elt [⟨tg, iter, ifs, 0⟩] scope pos) (tComp ix wi g tc te) := by
  intro pins s σ H Q I h
  rw [eval_ListComp]
  have hcl : ∀ y ∈ scope.names, y.2 = NameKind.free → ∃ d, X.env.cells.lookup y.1 = some d := fun y hy e => I.ok.has _ (c.fr y hy e)
  refine wpAny_comprehension_free (use := none) rfl hs (closureFor_eq hcl) c.kind c.names (thn (hi pins s σ H _ I h) fun v s1 h1 => thn h1 fun itv s2 h2 => ?_)
  refine comp_block (RR := fun acc C => compPost (model X.prog X.w) X.A X.xe none (EP X pins σ Q) acc C) c hc hg ht he h2 ?_
  intro D C s' H' m I' hn hC hz hp hL hcells q
  exact ⟨m, hn, fun h' hs' => ⟨.ref D, H', I'.turned (t' := s'.toks) (fun b o hb e => hs'.extBut b o hb e) hC hL (.inr hz) hcells hp, rfl, q⟩⟩
theorem ps_comp {i : Nat} {x : Str} {px spos : Pos} (hN : X.N.Nodup) (hx0 : X.N[i]? = some x) (hx : X.env.scope.names.lookup x = some .local) (c : CompOk X scope N ix) (hc : X.calm = true) (hi : PI X tg iter wi) (hg : ∀ C fp s H, PG (cxC X N scope C fp s H) tg g) (ht : ∀ C fp s H, PIf (cxC X N scope C fp s H) ifs tc) (he : ∀ C fp s H, PE (cxC X N scope C fp s H) elt te)
    (hsw : swapsWith (.ListComp elt [⟨tg, iter, ifs, 0⟩] scope pos) (some (.Name x px)) spos.line X.env = pure true := by rfl)
    (hs : ∀ x, foldedSetIterable iter X.env x = pure x := by intro _; rfl) : PS X (.Assign [.Name x px] (.ListComp elt [⟨tg, iter, ifs, 0⟩] scope pos) spos) (tAsg (tComp ix wi g tc te) (gName i)) := by
  intro pins s σ H D0 I h
  rw [exec_Assign_Name_used _ _ _ _ hsw]
  refine wpAny_bind (wpAny_standAt (wpAny_bind ?_))
  show wpAny _ _ (do let _ ← comprehension (.ListComp elt [⟨tg, iter, ifs, 0⟩] scope pos) scope X.env _ (newList []) false (eval iter X.env) (some (assign (.Name x px) X.env))) _ _ s
  have hcl : ∀ y ∈ scope.names, y.2 = NameKind.free → ∃ d, X.env.cells.lookup y.1 = some d := fun y hy e => I.ok.has _ (c.fr y hy e)
  refine wpAny_bind (wpAny_mono (wpAny_comprehension_free (use := some (assign (.Name x px) X.env)) (Q := fun _ s' => SP X pins D0 .next s') rfl hs (closureFor_eq hcl) c.kind c.names
    (thn (hi pins s σ H _ I h) fun v s1 h1 => thn h1 fun itv s2 h2 => ?_)) (fun _ s' hq => wpAny_pure (wpAny_pure hq)) fun _ _ e => e)
  refine comp_block (RR := fun acc C => compPost (model X.prog X.w) X.A X.xe (some (assign (.Name x px) X.env)) (fun _ s' => SP X pins D0 .next s') acc C) c hc hg ht he h2 ?_
  intro D C s' H' m I' hn hC hz hp hL hcells q
  show wpAny _ _ (assign (.Name x px) X.env (.ref D)) _ _ _
  refine wpAny_assign_Name (store_ok2 (v := .ref D) I' hN hx0 (.inl hx) rfl (fun s'' I'' hsb => ?_) (.inr hx))
  obtain ⟨a, sb, ha⟩ := hsb
  have haC : a ≠ C := by
    rcases ha with e | e
    · rw [e]; exact hL.symm
    · exact hcells x a e
  refine ⟨m, hn.sameBut sb haC.symm, fun h' hs' => ⟨_, H', I''.turned (t' := s''.toks) (fun b o hb e => hs'.extBut b o hb e) hC hL (.inr hz) hcells hp, q⟩⟩
end
end L2
namespace L2
open PySem PySem.Spec PyProof.Rows
mutual
inductive Dat (K : PySem.W.Frag) (H : Hp) (P : Addr → Prop) : V → PyData → Prop
  | non : Dat K H P .non .none
  | bl (b : Bool) : Dat K H P (.bl b) (.bool b)
  | int (i : Int) : Dat K H P (.int i) (.int i)
  | str (x : Str) : Dat K H P (.str x) (.str x)
  | lst {a : Addr} {vs : List V} {ds : List PyData} : SqL K H a vs → P a → DatAll K H P vs ds → Dat K H P (.ref a) (.list ds)
  | tup {a : Addr} {vs : List V} {ds : List PyData} : SqT K H a vs → P a → DatAll K H P vs ds → Dat K H P (.ref a) (.tuple ds)
inductive DatAll (K : PySem.W.Frag) (H : Hp) (P : Addr → Prop) : List V → List PyData → Prop
  | nil : DatAll K H P [] []
  | cons {v : V} {d : PyData} {vs : List V} {ds : List PyData} : Dat K H P v d → DatAll K H P vs ds → DatAll K H P (v :: vs) (d :: ds)
end
def Keep (P : Addr → Prop) (H H' : Hp) : Prop := ∀ b o, P b → H b = some o → H' b = some o
theorem Keep.sqL {P : Addr → Prop} {H H' : Hp} {K : PySem.W.Frag} {a : Addr} {xs : List V} (k : Keep P H H') (p : P a) (h : SqL K H a xs) : SqL K H' a xs := by
  rcases h with (h | ⟨o, h⟩) | h
  · exact .inl (.inl (k _ _ p h))
  · exact .inl (.inr ⟨o, k _ _ p h⟩)
  · exact .inr h
theorem Keep.sqT {P : Addr → Prop} {H H' : Hp} {K : PySem.W.Frag} {a : Addr} {xs : List V} (k : Keep P H H') (p : P a) (h : SqT K H a xs) : SqT K H' a xs := by
  rcases h with (h | ⟨o, h⟩) | h
  · exact .inl (.inl (k _ _ p h))
  · exact .inl (.inr ⟨o, k _ _ p h⟩)
  · exact .inr h
mutual
theorem Dat.keep {K : PySem.W.Frag} {H H' : Hp} {P : Addr → Prop} (k : Keep P H H') : ∀ {v : V} {d : PyData}, Dat K H P v d → Dat K H' P v d
  | _, _, .non => .non
  | _, _, .bl b => .bl b
  | _, _, .int i => .int i
  | _, _, .str x => .str x
  | _, _, .lst h p r => .lst (k.sqL p h) p (r.keep k)
  | _, _, .tup h p r => .tup (k.sqT p h) p (r.keep k)
theorem DatAll.keep {K : PySem.W.Frag} {H H' : Hp} {P : Addr → Prop} (k : Keep P H H') : ∀ {vs : List V} {ds : List PyData}, DatAll K H P vs ds → DatAll K H' P vs ds
  | _, _, .nil => .nil
  | _, _, .cons h r => .cons (h.keep k) (r.keep k)
end
mutual
theorem Dat.imp {K : PySem.W.Frag} {H : Hp} {P P' : Addr → Prop} (k : ∀ a, P a → P' a) : ∀ {v : V} {d : PyData}, Dat K H P v d → Dat K H P' v d
  | _, _, .non => .non
  | _, _, .bl b => .bl b
  | _, _, .int i => .int i
  | _, _, .str x => .str x
  | _, _, .lst h p r => .lst h (k _ p) (r.imp k)
  | _, _, .tup h p r => .tup h (k _ p) (r.imp k)
theorem DatAll.imp {K : PySem.W.Frag} {H : Hp} {P P' : Addr → Prop} (k : ∀ a, P a → P' a) : ∀ {vs : List V} {ds : List PyData}, DatAll K H P vs ds → DatAll K H P' vs ds
  | _, _, .nil => .nil
  | _, _, .cons h r => .cons (h.imp k) (r.imp k)
end
section
variable {X : Cx} {pins : List (Addr × Obj)} {σ : St} {H : Hp} {s : Shared}
mutual
theorem Inv.reads {P : Addr → Prop} (I : Inv X pins σ H s) : ∀ {v : V} {d : PyData} {u : Value}, Dat X.K H P v d → RelV v u → ∃ as, Reads s.heap u d as
  | _, _, u, .non, r => by cases (show u = Value.none from r); exact ⟨_, .none⟩
  | _, _, u, .bl b, r => by cases (show u = Value.bool b from r); exact ⟨_, .bool b⟩
  | _, _, u, .int i, r => by obtain ⟨t, rfl⟩ := (show ∃ t, u = Value.int i t from r); exact ⟨_, .int i t⟩
  | _, _, u, .str x, r => by obtain ⟨t, rfl⟩ := (show ∃ t, u = Value.str x t from r); exact ⟨_, .str x t⟩
  | .ref a, _, u, .lst h p rs, r => by
    cases (show u = Value.ref a from r)
    obtain ⟨its, rv, ⟨o, n, e, c, _, d⟩, _⟩ := I.list h
    obtain ⟨as, q⟩ := Inv.readsAll I rs rv
    exact ⟨_, .list e c d (by simpa using q)⟩
  | .ref a, _, u, .tup h p rs, r => by
    cases (show u = Value.ref a from r)
    obtain ⟨its, rv, ⟨o, e, c, n, d⟩, _⟩ := I.tuple h
    obtain ⟨as, q⟩ := Inv.readsAll I rs rv
    exact ⟨_, .tuple e c d (by simpa using q)⟩
theorem Inv.readsAll {P : Addr → Prop} (I : Inv X pins σ H s) : ∀ {vs : List V} {ds : List PyData} {us : List Value}, DatAll X.K H P vs ds → Vals vs us → ∃ as, ReadsAll s.heap us ds as
  | _, _, _, .nil, r => by cases r; exact ⟨_, .nil⟩
  | _, _, _, .cons h rs, r => by
    cases r with
    | cons r1 r2 =>
      obtain ⟨as, q⟩ := Inv.reads I h r1
      obtain ⟨bs, q'⟩ := Inv.readsAll I rs r2
      exact ⟨_, .cons q q'⟩
end
def rEqD (K : PySem.W.Frag) : R2 := fun x y H Q => ∃ P dx dy, Dat K H P x dx ∧ Dat K H P y dy ∧ dx.canLay0 = true ∧ dy.canLay0 = true ∧ dx.depth ≤ 60 ∧ Q (.bl (PyData.eqv dx dy)) H
def rNeD (K : PySem.W.Frag) : R2 := fun x y H Q => ∃ P dx dy, Dat K H P x dx ∧ Dat K H P y dy ∧ dx.canLay0 = true ∧ dy.canLay0 = true ∧ dx.depth ≤ 60 ∧ Q (.bl (!PyData.eqv dx dy)) H
theorem op_eqD (hu : X.A.units + 64 < cLine) : OpR X (compareOp .Eq) (rEqD X.K) := by
  intro pins s σ H x y v u Q I rx ry h
  obtain ⟨P, dx, dy, hx, hy, lx, ly, dd, q⟩ := h
  obtain ⟨as, qa⟩ := I.reads hx rx
  obtain ⟨bs, qb⟩ := I.reads hy ry
  exact SeqAt.compareEq_reads qa qb lx ly (by omega) ⟨.bl _, H, I, rfl, q⟩
theorem op_neD (hu : X.A.units + 64 < cLine) : OpR X (compareOp .NotEq) (rNeD X.K) := by
  intro pins s σ H x y v u Q I rx ry h
  obtain ⟨P, dx, dy, hx, hy, lx, ly, dd, q⟩ := h
  obtain ⟨as, qa⟩ := I.reads hx rx
  obtain ⟨bs, qb⟩ := I.reads hy ry
  exact SeqAt.compareNe_reads qa qb lx ly (by omega) ⟨.bl _, H, I, rfl, q⟩
def rRange : List V → Hp → VK → Prop := fun xs H Q => (∃ j, xs = [.int j] ∧ ∀ p, H p = none → Q (.ref p) (upd H p (.rng 0 j))) ∨ ∃ i j, xs = [.int i, .int j] ∧ ∀ p, H p = none → Q (.ref p) (upd H p (.rng i j))
theorem call_range : CallR X (.type "range") rRange := by
  intro pins s σ H xs us Q I r h
  rcases h with ⟨j, rfl, q⟩ | ⟨i, j, rfl, q⟩
  · obtain ⟨u, rfl, t, rfl⟩ := vals1 r
    refine call_range_1 ⟨.ref s.heap.objs.size, _, I.laid (o := .rng 0 j) (fun b o e => Heap.get?_push_of_some _ e) (Nat.le_refl _) ⟨_, _, _, Heap.get?_push_size _ rfl⟩, rfl, q _ (I.hok.fresh (Nat.le_refl _))⟩
  · obtain ⟨u, u', rfl, ⟨t, rfl⟩, ⟨t', rfl⟩⟩ := vals2 r
    refine call_range_2 ⟨.ref s.heap.objs.size, _, I.laid (o := .rng i j) (fun b o e => Heap.get?_push_of_some _ e) (Nat.le_refl _) ⟨_, _, _, Heap.get?_push_size _ rfl⟩, rfl, q _ (I.hok.fresh (Nat.le_refl _))⟩
def ivl (lo hi : Int) : List Int := (List.range (hi - lo).toNat).map fun (i : Nat) => lo + (i : Int)
theorem ivl_length (lo hi : Int) : (ivl lo hi).length = (hi - lo).toNat := by simp [ivl]
theorem items_ints {lo : Int} {n : Nat} {acc : Array Value} (h : ItemsOf (fun i v => ∃ t, v = .int (lo + i * 1) t) acc n) : Vals (((List.range n).map fun (i : Nat) => lo + (i : Int)).map V.int) acc.toList := by
  obtain ⟨h1, h2⟩ := h
  have key : ∀ (l : List Value) (k : Nat), (∀ (j : Nat) (v : Value), l[j]? = some v → ∃ t, v = Value.int (lo + ((k + j : Nat) : Int) * 1) t) → Vals ((List.range' k l.length).map fun (i : Nat) => V.int (lo + (i : Int))) l := by
    intro l
    induction l with
    | nil => intro k _; exact .nil
    | cons v r ih =>
      intro k hk
      rw [List.length_cons, List.range'_succ, List.map_cons]
      refine .cons ?_ (ih (k + 1) fun j v hj => ?_)
      · obtain ⟨t, e⟩ := hk 0 v rfl
        refine ⟨t, ?_⟩
        rw [e]; simp
      · obtain ⟨t, e⟩ := hk (j + 1) v (by simpa using hj)
        refine ⟨t, ?_⟩
        rw [e]
        congr 2
        simp
        omega
  have := key acc.toList 0 fun j v hj => by
    have := h2 j v (by simpa using hj)
    simpa using this
  rw [List.map_map]
  rw [List.range_eq_range']
  have e : acc.toList.length = n := by simpa using h1
  rw [e] at this
  exact this
theorem rng_size {i j : Int} : Builtin.Range.rangeSize i j 1 = (((j - i).toNat : Nat) : Int) := by
  rw [rangeSize_one]; split <;> omega
def rListRng : List V → Hp → VK → Prop := fun xs H Q => ∃ p i j, xs = [.ref p] ∧ H p = some (.rng i j) ∧ -1000000 ≤ i ∧ i ≤ 1000000 ∧ -1000000 ≤ j ∧ j ≤ 1000000 ∧ ∀ l, H l = none → Q (.ref l) (upd H l (.lst ((ivl i j).map V.int)))
theorem size_le {i j : Int} (h1 : -1000000 ≤ i) (h2 : i ≤ 1000000) (h3 : -1000000 ≤ j) (h4 : j ≤ 1000000) : (j - i).toNat ≤ 2 ^ 24 := by
  have : (j - i).toNat ≤ 2000000 := by omega
  exact Nat.le_trans this (by decide)
theorem call_list_rng (hc : X.calm = true) : CallR X (.type "list") rListRng := by
  intro pins s σ H xs us Q I r h
  obtain ⟨p, i, j, rfl, hp, h1, h2, h3, h4, q⟩ := h
  obtain ⟨u, rfl, rx⟩ := vals1 r
  cases rx
  obtain ⟨t, t', t'', e⟩ := (show ObjOk X.prog X.w H s.heap p (.rng i j) from I.hok p _ hp)
  refine call_list_range (I.ok.hd hc) e (small_one (by omega) (by omega) (by omega) (by omega)) rng_size (size_le h1 h2 h3 h4) fun h' tk acc' c' k e' it => ?_
  have v := items_ints it
  refine ⟨.ref s.heap.objs.size, _, I.laid (o := .lst ((ivl i j).map V.int)) k (Nat.le_refl _) ⟨?_, acc'.toList, c', v, by simpa using e'⟩, rfl, q _ (I.hok.fresh (Nat.le_refl _))⟩
  rw [List.length_map, ivl_length]
  exact Nat.le_trans (size_le h1 h2 h3 h4) (by decide)
end
end L2
namespace L2
open PySem PySem.Spec PyProof.Rows
section
variable {prog : Program} {w : World} {A : Around} {E : Value → Shared → Prop} {s : Shared}
theorem collect_range {Q : List Value → Shared → Prop} {r : Addr} {a b c : Int} {t u v : Tok} {n : Nat} (hh : A.handled = none) (hr : IsRange s.heap r a b c t u v) (hsmall : Builtin.Range.small a b c = true)
    (hn : Builtin.Range.rangeSize a b c = n) (hlen : n ≤ 2 ^ 24)
    (hQ : ∀ h' tk acc, (∀ b o, s.heap.get? b = some o → h'.get? b = some o) → ItemsOf (fun i v => ∃ t, v = .int (a + i * c) t) acc n → Q acc.toList { s with heap := h', toks := tk }) :
    wpAny (model prog w) A (collect (.ref r)) Q E s := by
  unfold collect
  refine wpAny_bind (wpAny_runValue (codeAny_builtin F.entry_proto_collect ?_))
  rw [Around.under_plainId F.plain_proto_collect _]
  show wpAny _ A.in1 (newList [] >>= fun l => again (.builtin "list.__iadd__" ⟨[l, .ref r], []⟩)) _ _ s
  refine wpAny_bind (wpAny_newObj_type ?_)
  refine wpAny_pure ⟨plainId_quiet F.plain_list_iadd _, codeAny_builtin F.entry_list_iadd ?_⟩
  rw [Around.under_plainId F.plain_list_iadd _]
  show wpAny _ A.in1 (Builtin.List.listExtendWith (.ref s.heap.objs.size) (.ref r) (.ref s.heap.objs.size)) _ _ _
  have hS : (s.heap.push { cls := .type "list", data := .seq ([] : List Value).toArray }).get? s.heap.objs.size = some { cls := .type "list", data := .seq #[] 0 } := Heap.get?_push_size _ rfl
  have fin' : ∀ (h' : Heap) (tk : Nat) (acc' : Array Value) (c' : Nat), (∀ b o, b ≠ s.heap.objs.size → (s.heap.push { cls := .type "list", data := .seq ([] : List Value).toArray }).get? b = some o → h'.get? b = some o) →
      h'.get? s.heap.objs.size = some { cls := .type "list", dict := none, data := .seq acc' c', slots := #[] } → ItemsOf (fun i v => ∃ t, v = .int (a + i * c) t) acc' n → wpAny (model prog w) A (match Value.ref s.heap.objs.size with
      | Value.ref a => do
        match (← load a).data with
          | Data.seq xs _ => pure xs.toList
          | _ => unsupported "internal:collect"
      | _ => unsupported "internal:collect") Q E { s with heap := h', toks := tk } := fun h' tk acc' c' hk hS' hacc => by
    show wpAny _ A (load s.heap.objs.size >>= _) _ _ _
    refine wpAny_bind (wpAny_load hS' ?_)
    exact wpAny_pure (hQ h' tk acc' (fun b o e => hk b o (Nat.ne_of_lt (Heap.lt_size e)) (Heap.get?_push_of_some _ e)) hacc)
  refine wpAny_mono (wpAny_extend_range (A := A) (R := fun r s' => r = .ok (.ret (.ref s.heap.objs.size)) ∧ wpAny (model prog w) A (match Value.ref s.heap.objs.size with
      | Value.ref a => do
        match (← load a).data with
          | Data.seq xs _ => pure xs.toList
          | _ => unsupported "internal:collect"
      | _ => unsupported "internal:collect") Q E s') (s := { s with heap := s.heap.push { cls := .type "list", data := .seq ([] : List Value).toArray } }) hh (Heap.get?_push_of_some _ hr) hsmall hn hlen _ (.ref s.heap.objs.size) 0 hS fun h' tk acc' c' hk hS' hacc => ⟨rfl, fin' h' tk acc' c' hk hS' hacc⟩) (fun fin s' h => ?_) (fun e s' h => ?_)
  · cases fin with
    | done f =>
      obtain ⟨e, q⟩ := h
      cases e
      exact q
    | again c' => exact ⟨h.1, codeAny_mono h.2 fun r s'' hr => by obtain ⟨rfl, q⟩ := hr; exact q⟩
  · exact absurd h.1 (by simp)
theorem meets_tuple_new_range {r : Addr} {a b c : Int} {t u v : Tok} {n : Nat} (hsmall : Builtin.Range.small a b c = true) (hn : Builtin.Range.rangeSize a b c = n) (hlen : n ≤ 2 ^ 24) :
    Meets (Builtin.«tuple.__new__» ⟨[.type "tuple", .ref r], []⟩)
      (fun A R s => A.handled = none ∧ IsRange s.heap r a b c t u v ∧ ∀ (h' : Heap) (tk : Nat) (acc : Array Value), (∀ b o, s.heap.get? b = some o → h'.get? b = some o) → ItemsOf (fun i v => ∃ t, v = .int (a + i * c) t) acc n →
        R (.ok (.ret (.ref h'.objs.size))) { s with heap := h'.push { cls := .type "tuple", data := .seq acc }, toks := tk }) :=
  .of_wp fun prog w A R s h => by
    obtain ⟨hp, g, d, tk, os⟩ := s
    obtain ⟨hh, hr, h⟩ := h
    have hsub := sub_tuple_self
    have hinit := init_tuple_lookup
    have hmh := madeHere_tuple
    have hT : Shared.TypeIs ⟨hp, g, d, tk, os⟩ (.ref r) "range" := ⟨_, hr, rfl⟩
    have hh1 : A.in1.handled = none := hh
    wp_walk using wpAny_typeOf hT, collect_range hh1 hr hsmall hn hlen
    intro h' tk acc hk hacc
    have hsz : acc.size ≤ sizeLine := by rw [hacc.1]; exact Nat.le_trans hlen (by decide)
    show wpAny _ _ (Builtin.Tuple.tupleExact acc.toList.toArray >>= fun v => ret v) _ _ _
    unfold Builtin.Tuple.tupleExact
    refine wpAny_bind (wpAny_newObj_type ?_ (show acc.toList.toArray.size ≤ sizeLine by simpa using hsz))
    refine wpAny_pure ⟨_, rfl, ?_⟩
    have e : acc.toList.toArray = acc := by simp
    rw [e]
    exact h h' tk acc hk hacc
theorem call_tuple_range {Q : Value → Shared → Prop} {r : Addr} {a b c : Int} {t u v : Tok} {n : Nat} (hh : A.handled = none) (hr : IsRange s.heap r a b c t u v) (hsmall : Builtin.Range.small a b c = true)
    (hn : Builtin.Range.rangeSize a b c = n) (hlen : n ≤ 2 ^ 24)
    (h : ∀ (h' : Heap) (tk : Nat) (acc : Array Value), (∀ b o, s.heap.get? b = some o → h'.get? b = some o) → ItemsOf (fun i v => ∃ t, v = .int (a + i * c) t) acc n → Q (.ref h'.objs.size) { s with heap := h'.push { cls := .type "tuple", data := .seq acc }, toks := tk }) :
    wpAny (model prog w) A (call (.type "tuple") [.ref r]) Q E s := by
  refine callType_new F.called_tuple (by decide) (F.typeCall_tuple_1 _) (F.newCall_tuple_1 _) (fun obj => F.args_object_init_2 obj _) F.entry_tuple_new
    (meets_tuple_new_range hsmall hn hlen) ⟨hh, hr, fun h' tk acc hk hacc => ⟨⟨_, Heap.get?_push_size _ rfl, rfl⟩, ?_⟩⟩
  exact h h' tk acc hk hacc
end
section
variable {X : Cx}
def rTupRng : List V → Hp → VK → Prop := fun xs H Q => ∃ p i j, xs = [.ref p] ∧ H p = some (.rng i j) ∧ -1000000 ≤ i ∧ i ≤ 1000000 ∧ -1000000 ≤ j ∧ j ≤ 1000000 ∧ ∀ l, H l = none → Q (.ref l) (upd H l (.tup ((ivl i j).map V.int)))
theorem call_tuple_rng (hc : X.calm = true) : CallR X (.type "tuple") rTupRng := by
  intro pins s σ H xs us Q I r h
  obtain ⟨p, i, j, rfl, hp, h1, h2, h3, h4, q⟩ := h
  obtain ⟨u, rfl, rx⟩ := vals1 r
  cases rx
  obtain ⟨t, t', t'', e⟩ := (show ObjOk X.prog X.w H s.heap p (.rng i j) from I.hok p _ hp)
  refine call_tuple_range (I.ok.hd hc) e (small_one (by omega) (by omega) (by omega) (by omega)) rng_size (size_le h1 h2 h3 h4) fun h' tk acc k it => ?_
  have v := items_ints it
  have I1 : Inv X pins σ H { s with heap := h', toks := tk } := I.kept k
  refine ⟨.ref h'.objs.size, _, I1.laid (t' := tk) (o := .tup ((ivl i j).map V.int)) (fun b o e => Heap.get?_push_of_some _ e) (Nat.le_refl _) ⟨?_, acc.toList, v, by simpa using IsTup.new h' acc⟩, rfl, q _ (I1.hok.fresh (Nat.le_refl _))⟩
  rw [List.length_map, ivl_length]
  exact Nat.le_trans (size_le h1 h2 h3 h4) (by decide)
def tyOfV (K : PySem.W.Frag) (x : V) (H : Hp) (T : String) : Prop := TyOf K H x (.type T)
def rIsi (K : PySem.W.Frag) : List V → Hp → VK → Prop := fun xs H Q => ∃ x T C b, xs = [x, .ty C] ∧ tyOfV K x H T ∧ PySem.W.kitOne K (.type T) (.type C) = some b ∧ Q (.bl b) H
theorem call_isi : CallR X (.builtin "isinstance") (rIsi X.K) := by
  intro pins s σ H xs us Q I r h
  obtain ⟨x, T, C, b, rfl, ty, e, q⟩ := h
  obtain ⟨u, w', rfl, rx, ry⟩ := vals2 r
  cases (show w' = Value.type C from ry)
  exact isinst_ok I rx ty e fun tk => ⟨.bl b, H, I.tok _, rfl, q⟩
theorem kit_self (K : PySem.W.Frag) (T : String) : PySem.W.kitOne K (.type T) (.type T) = some true := by
  unfold PySem.W.kitOne
  rw [if_pos (beq_self_eq_true _)]
def rAll (K : PySem.W.Frag) : List V → Hp → VK → Prop := fun xs H Q => ∃ (p : Addr) (bs : List Bool), xs = [.ref p] ∧ SqL K H p (bs.map V.bl) ∧ Q (.bl (bs.all id)) H
theorem vals_bools : ∀ {bs : List Bool} {us : List Value}, Vals (bs.map V.bl) us → us = bs.map Value.bool
  | [], us, r => by cases r; rfl
  | b :: r, us, h => by
    cases h with
    | cons h1 h2 =>
      rw [List.map_cons, ← vals_bools h2]
      rw [show _ = Value.bool b from h1]
theorem call_all (hc : X.calm = true) : CallR X (.builtin "all") (rAll X.K) := by
  intro pins s σ H xs us Q I r h
  obtain ⟨p, bs, rfl, hl, q⟩ := h
  obtain ⟨u, rfl, rx⟩ := vals1 r
  cases rx
  obtain ⟨its, rv, pl, hz⟩ := I.list hl
  have e := vals_bools rv
  subst e
  refine call_all_walk (wpAny_pyIter_list pl.isList ?_)
  have lt : p < s.heap.objs.size := by obtain ⟨o, n, e, _⟩ := pl; exact Heap.lt_size e
  refine ⟨s.heap.objs.size, _, _, _, _, _, fun i => bs.getD i true, rfl, Walks.list (A := X.A.in1) (show X.A.in1.handled = none from I.ok.hd hc) s.heap.objs.size p (Nat.ne_of_lt lt) (bs.map Value.bool).toArray, ?_, ?_, ?_⟩
  · refine ⟨⟨_, Heap.get?_push_size _ rfl, rfl, rfl⟩, pl.isList.at fun o e => Heap.get?_push_of_some _ e⟩
  · intro i v s' Q' E' hP hQ'
    have hP : (bs.map Value.bool).toArray[i]? = some v := hP
    have : (bs.map Value.bool)[i]? = some v := by simpa using hP
    rw [List.getElem?_map] at this
    cases hb : bs[i]? with
    | none => rw [hb] at this; cases this
    | some b =>
      rw [hb] at this
      cases this
      have hg : bs.getD i true = b := by rw [List.getD_eq_getElem?_getD, hb]; rfl
      have hQ' : Q' (bs.getD i true) s' := hQ'
      rw [hg] at hQ'
      exact wpAny_truthy_bool hQ'
  · intro h' tk hk
    have e : (List.range (bs.map Value.bool).toArray.size).all (fun i => bs.getD i true) = bs.all id := by
      have : ∀ (l : List Bool), (List.range l.length).all (fun i => l.getD i true) = l.all id := by
        intro l
        induction l with
        | nil => rfl
        | cons b r ih =>
          rw [List.length_cons, List.range_succ_eq_map, List.all_cons, List.all_cons, List.all_map]
          rw [← ih]
          rfl
      simpa using this bs
    rw [e]
    refine ⟨.bl (bs.all id), H, ?_, rfl, q⟩
    refine (I.kept (t' := s.toks) (h' := h') fun b o e => hk b o ?_ (Heap.get?_push_of_some _ e)).tok tk
    intro z
    have z : b = s.heap.objs.size := by simpa using z
    exact absurd (Heap.lt_size e) (by rw [z]; exact Nat.lt_irrefl _)
end
end L2
namespace L2
open PySem PySem.Spec PyProof.Rows
structure FnAt (P : Program) (w : World) (K : PySem.W.Frag) (mg : Str → Option Value) (base : Heap) (x : Str) (k : Nat) (ps : List Str) (sp : Sp) : Prop where
  ex : ∃ (f : Addr) (fd : FuncData), FnOk P w K mg base CX0 k f fd ps sp ∧ mg x = some (.ref f) ∧ PySem.W.keepIn K (.ref f) = true ∧ Binds K fd ps []
section
variable {X : Cx} {x : Str} {k : Nat} {ps : List Str} {sp : Sp} {e : Expr} {es : List Expr} {t : TA} {p pos : Pos}
theorem pe_callF (F : FnAt X.prog X.w X.K X.mg X.base x k ps sp) (hr : Room k X.A) (hg : Gl X x) (ha : PA X (e :: es) t) (hdb : (x == ("__debug__" : Str)) = false := by decide +kernel) (he : starEach (e :: es) X.env = (false, eval e X.env) :: starEach es X.env := by rfl) (hpl : (backTo pos (starEach es X.env)).any (·.1) = false := by rfl) :
    PE X (.Call (.Name x p) (e :: es) [] pos) (tCall sp [] E0 t) := by
  obtain ⟨f, fd, F, hm, hk, hb⟩ := F.ex
  exact pe_call F hr hg hm hk hb .nil pass0 ha hdb he hpl
def CDivL (i j : Int) : Prop := 0 < j ∧ j < 2 ^ 200
theorem log2_lt {j : Int} (h : 0 < j) (h2 : j < 2 ^ 200) : j.natAbs.log2 < 9000 := by
  have h3 : j.natAbs < 2 ^ 200 := by
    have e : ((j.natAbs : Nat) : Int) = j := Int.natAbs_of_nonneg (Int.le_of_lt h)
    have : ((j.natAbs : Nat) : Int) < ((2 ^ 200 : Nat) : Int) := by rw [e]; simpa using h2
    exact Int.ofNat_lt.mp this
  have h0 : j.natAbs ≠ 0 := by omega
  have := (Nat.log2_lt h0).mpr h3
  omega
theorem op_fdivL : OpR X (binaryOp .FloorDiv) (rI CDivL fun i j => .int (i / j)) := opI fun i j _ _ _ _ _ hc q => by
  refine floordiv_int (by have := hc.1; omega) ?_ (.inl (PyProof.noPylong_of_log2 (log2_lt hc.1 hc.2)))
  rw [Int.fdiv_eq_ediv_of_nonneg _ (Int.le_of_lt hc.1)]
  exact q
end
def capB (XN N : List Str) (ix : List (Option Nat)) (names : List (Str × NameKind)) : Bool :=
  (List.range ix.length).all fun j => match ix[j]? with
    | some (some i) => match N[j]? with
      | some x => XN[i]? == some x && names.lookup x == some .free
      | none => false
    | _ => true
theorem cap_ok {XN N : List Str} {ix : List (Option Nat)} {names : List (Str × NameKind)} (h : capB XN N ix names = true) :
    ∀ (j i : Nat), ix[j]? = some (some i) → ∃ x : Str, N[j]? = some x ∧ XN[i]? = some x ∧ names.lookup x = some .free ∧ (x, NameKind.free) ∈ names := by
  intro j i e
  have hj : j < ix.length := (List.getElem?_eq_some_iff.mp e).1
  have q := List.all_eq_true.mp h j (List.mem_range.mpr hj)
  rw [e] at q
  dsimp only at q
  cases hn : N[j]? with
  | none => rw [hn] at q; cases q
  | some x =>
    rw [hn] at q
    dsimp only at q
    obtain ⟨q1, q2⟩ := Bool.and_eq_true_iff.mp q
    have q1 : XN[i]? = some x := by simpa using q1
    have q2 : names.lookup x = some NameKind.free := by
      cases hl : names.lookup x with
      | none => rw [hl] at q2; cases q2
      | some k => rw [hl] at q2; cases k <;> first | rfl | cases q2
    exact ⟨x, rfl, q1, q2, mem_of_lookup q2⟩
def SameX (p : Addr) (H H' : Hp) : Prop := ∀ b o, b ≠ p → H b = some o → H' b = some o
theorem SameX.trans {p : Addr} {H H1 H2 : Hp} (a : SameX p H H1) (b : SameX p H1 H2) : SameX p H H2 := fun c o n h => b c o n (a c o n h)
theorem Same.x {p : Addr} {H H' : Hp} (a : Same H H') : SameX p H H' := fun c o _ h => a c o h
theorem SameX.upd {p : Addr} {H : Hp} {o : HO} : SameX p H (upd H p o) := fun c o n h => by rw [upd_ne n]; exact h
theorem Same.new {p : Addr} {H : Hp} {o : HO} (h : H p = none) : Same H (upd H p o) := fun c o e => by rw [upd_ne (ne_of_none e h)]; exact e
theorem SameX.new {p q : Addr} {H : Hp} {o : HO} (h : H q = none) : SameX p H (L2.upd H q o) := (Same.new h).x
end L2
namespace L2
open PySem PySem.Spec PyProof.Rows
theorem comp_gen {ix : List (Option Nat)} {g : TG} {tc : TT} {te : TE} {σ : St} {Q : VK} {J : It} {H : Hp} {n : Nat} (Pv : Nat → List V → St → Hp → Prop) (hn : n ≤ 1000000) (h0 : Pv 0 [] (startC ix σ) H)
    (hgo : ∀ i ys σ H, i < n → Pv i ys σ H → J.go i H) (hst : ∀ ys σ H, Pv n ys σ H → J.stop n H) (hlen : ∀ i ys σ H, Pv i ys σ H → ys.length ≤ i)
    (hs : ∀ i ys σ H x H2, i < n → Pv i ys σ H → J.yld i H x H2 → g x σ H2 fun σ2 H3 => tc σ2 H3 fun b H4 => if b = true then te σ2 H4 fun v H5 => Pv (i + 1) (ys ++ [v]) σ2 H5 else Pv (i + 1) ys σ2 H4)
    (mg : ∀ x σ H R R', (∀ σ2 H2, R σ2 H2 → R' σ2 H2) → g x σ H R → g x σ H R') (mc : ∀ σ H (R R' : Bool → Hp → Prop), (∀ b H2, R b H2 → R' b H2) → tc σ H R → tc σ H R') (me : ∀ σ H (R R' : VK), (∀ v H2, R v H2 → R' v H2) → te σ H R → te σ H R')
    (hd : ∀ ys σ' H' p, Pv n ys σ' H' → H' p = none → Q (.ref p) (upd H' p (.lst ys))) : rComp ix g tc te σ Q J H := by
  have big : (1000000 : Nat) < sizeLine := by decide
  refine ⟨fun i m ys σ' H' => m = n - i ∧ i ≤ n ∧ Pv i ys σ' H', ⟨n, by simp, Nat.zero_le _, h0⟩, ?_⟩
  rintro i m ys σ' H' ⟨rfl, hi, p⟩
  have hl := hlen i ys σ' H' p
  by_cases hlt : i < n
  · refine .inr ⟨hgo i ys σ' H' hlt p, by omega, fun x H2 y => ?_⟩
    refine mg _ _ _ _ _ (fun σ2 H3 q => ?_) (hs i ys σ' H' x H2 hlt p y)
    refine mc _ _ _ _ (fun b H4 q => ?_) q
    cases b with
    | true =>
      rw [if_pos rfl] at q ⊢
      exact me _ _ _ _ (fun v H5 q => ⟨n - (i + 1), by omega, rfl, hlt, q⟩) q
    | false =>
      rw [if_neg Bool.false_ne_true] at q ⊢
      exact ⟨n - (i + 1), by omega, rfl, hlt, q⟩
  · have e : i = n := by omega
    subst e
    exact .inl ⟨hst ys σ' H' p, by omega, fun q hq => hd ys σ' H' q p hq⟩
theorem comp_list {K : PySem.W.Frag} {ix : List (Option Nat)} {te : TE} {σ : St} {Q : VK} {H : Hp} {a : Addr} {xs : List V} {k : Nat} (Pv : Nat → List V → St → Hp → Prop) (hn : xs.length ≤ 1000000) (h0 : Pv 0 [] (startC ix σ) H)
    (hl : ∀ i ys σ H, i ≤ xs.length → Pv i ys σ H → SqL K H a xs) (hlen : ∀ i ys σ H, Pv i ys σ H → ys.length ≤ i)
    (hs : ∀ i ys σ H x, xs[i]? = some x → Pv i ys σ H → te (σ.set k (some x)) H fun v H5 => Pv (i + 1) (ys ++ [v]) (σ.set k (some x)) H5) (me : ∀ σ H (R R' : VK), (∀ v H2, R v H2 → R' v H2) → te σ H R → te σ H R')
    (hd : ∀ ys σ' H' p, Pv xs.length ys σ' H' → H' p = none → Q (.ref p) (upd H' p (.lst ys))) : rComp ix (gName k) tTrue te σ Q (Itl K a) H := by
  refine comp_gen Pv hn h0 (fun i ys σ H hi p => ⟨xs, xs[i], hl i ys σ H (Nat.le_of_lt hi) p, by simp [hi]⟩) (fun ys σ H p => ⟨xs, hl _ ys σ H (Nat.le_refl _) p, Nat.le_refl _⟩) hlen (fun i ys σ H x H2 hi p y => ?_) (fun _ _ _ _ _ m q => m _ _ q) (fun _ _ _ _ m q => m _ _ q) me hd
  obtain ⟨rfl, y⟩ := y
  unfold gName tTrue
  simp only [if_true]
  exact hs i ys σ _ x (y xs (hl i ys σ _ (Nat.le_of_lt hi) p)) p
theorem comp_tup {K : PySem.W.Frag} {ix : List (Option Nat)} {te : TE} {σ : St} {Q : VK} {H : Hp} {a : Addr} {xs : List V} {k : Nat} (Pv : Nat → List V → St → Hp → Prop) (hn : xs.length ≤ 1000000) (h0 : Pv 0 [] (startC ix σ) H)
    (hl : ∀ i ys σ H, i ≤ xs.length → Pv i ys σ H → SqT K H a xs) (hlen : ∀ i ys σ H, Pv i ys σ H → ys.length ≤ i)
    (hs : ∀ i ys σ H x, xs[i]? = some x → Pv i ys σ H → te (σ.set k (some x)) H fun v H5 => Pv (i + 1) (ys ++ [v]) (σ.set k (some x)) H5) (me : ∀ σ H (R R' : VK), (∀ v H2, R v H2 → R' v H2) → te σ H R → te σ H R')
    (hd : ∀ ys σ' H' p, Pv xs.length ys σ' H' → H' p = none → Q (.ref p) (upd H' p (.lst ys))) : rComp ix (gName k) tTrue te σ Q (Itt K a) H := by
  refine comp_gen Pv hn h0 (fun i ys σ H hi p => ⟨xs, xs[i], hl i ys σ H (Nat.le_of_lt hi) p, by simp [hi]⟩) (fun ys σ H p => ⟨xs, hl _ ys σ H (Nat.le_refl _) p, Nat.le_refl _⟩) hlen (fun i ys σ H x H2 hi p y => ?_) (fun _ _ _ _ _ m q => m _ _ q) (fun _ _ _ _ m q => m _ _ q) me hd
  obtain ⟨rfl, y⟩ := y
  unfold gName tTrue
  simp only [if_true]
  exact hs i ys σ _ x (y xs (hl i ys σ _ (Nat.le_of_lt hi) p)) p
end L2
namespace L2
open PySem PySem.Spec PyProof.Rows
def compB (XS : List (Str × NameKind)) (XN : List Str) (names : List (Str × NameKind)) (N : List Str) (ix : List (Option Nat)) : Bool :=
  names.all (fun y => match y.2 with
    | .cell => false
    | .local => (match names.lookup y.1 with | some .local => true | _ => false)
    | .free => (match XS.lookup y.1 with | some .cell => true | some .free => true | _ => false)
    | _ => true) && decide (ix.length = N.length) && capB XN N ix names
theorem comp_ok {X : Cx} {scope : Scope} {N : List Str} {ix : List (Option Nat)} (hk : scope.kind = .function) (h : compB X.env.scope.names X.N scope.names N ix = true) : CompOk X scope N ix := by
  unfold compB at h
  obtain ⟨h, h3⟩ := Bool.and_eq_true_iff.mp h
  obtain ⟨h1, h2⟩ := Bool.and_eq_true_iff.mp h
  have all : ∀ y ∈ scope.names, _ := fun y hy => List.all_eq_true.mp h1 y hy
  refine ⟨hk, fun y hy e => ?_, of_decide_eq_true h2, fun y hy e => ?_, fun y hy e => ?_, cap_ok h3⟩
  · have q := all y hy
    rw [e] at q
    cases q
  · have q := all y hy
    rw [e] at q
    dsimp only at q
    cases hl : scope.names.lookup y.1 with
    | none => rw [hl] at q; cases q
    | some k => rw [hl] at q; cases k <;> first | rfl | cases q
  · have q := all y hy
    rw [e] at q
    dsimp only at q
    show X.env.scope.names.lookup y.1 = _ ∨ X.env.scope.names.lookup y.1 = _
    cases hl : X.env.scope.names.lookup y.1 with
    | none => rw [hl] at q; cases q
    | some k => rw [hl] at q; cases k <;> first | exact .inl rfl | exact .inr rfl | cases q
section
variable {X : Cx} {K : PySem.W.Frag}
theorem call_isiK (h : X.K = K) : CallR X (.builtin "isinstance") (rIsi K) := by subst h; exact call_isi
theorem ix_listK (h : X.K = K) : IxR X (rIxL K) := by subst h; exact ix_list
theorem ix_tupK (h : X.K = K) : IxR X (rIxT K) := by subst h; exact ix_tup
theorem call_lenK (h : X.K = K) : CallR X (.builtin "len") (fun xs H Q => ∃ p ys, xs = [.ref p] ∧ (SqL K H p ys ∨ SqT K H p ys) ∧ Q (.int ys.length) H) := by subst h; exact call_len_seq
theorem call_allK (h : X.K = K) (hc : X.calm = true) : CallR X (.builtin "all") (rAll K) := by subst h; exact call_all hc
theorem op_notInK (h : X.K = K) : OpR X (compareOp .NotIn) (rIn K true) := by subst h; exact op_notIn_seq
theorem pi_listK {tg l : Expr} {tl : TE} (h : X.K = K) (hl : PE X l tl) : PI X tg l (iList K tl) := by subst h; exact pi_list hl
theorem pi_tupK {tg l : Expr} {tl : TE} (h : X.K = K) (hl : PE X l tl) : PI X tg l (iTup K tl) := by subst h; exact pi_tup hl
theorem pg_tupK {es : List Expr} {k : Nat} {t : TGs} {n : Nat} {pos : Pos} (hk : X.K = K) (hc : X.calm = true) (h : PGs X es t)
    (hn : (assignEach es X.env).length = n := by rfl) (hst : (assignEach es X.env).findIdx? (·.1) = none := by rfl) : PG X (.Tuple es k pos) (gTup K n t) := by subst hk; exact pg_tup hc h hn hst
end
end L2
namespace Sw
open PySem L2
inductive Exs (H : Hp) : List V → List (Int × Int) → Prop
  | nil : Exs H [] []
  | cons {t : Addr} {a b : Int} {vs : List V} {r : List (Int × Int)} : H t = some (.tup [.int a, .int b]) → Exs H vs r → Exs H (.ref t :: vs) ((a, b) :: r)
theorem Exs.length {H : Hp} : ∀ {vs : List V} {r : List (Int × Int)}, Exs H vs r → vs.length = r.length
  | _, _, .nil => rfl
  | _, _, .cons _ x => by rw [List.length_cons, List.length_cons, x.length]
theorem Exs.keep {H H' : Hp} (k : ∀ b xs, H b = some (.tup xs) → H' b = some (.tup xs)) : ∀ {vs : List V} {r : List (Int × Int)}, Exs H vs r → Exs H' vs r
  | _, _, .nil => .nil
  | _, _, .cons h x => .cons (k _ _ h) (x.keep k)
theorem Exs.append {H : Hp} : ∀ {vs ws : List V} {r q : List (Int × Int)}, Exs H vs r → Exs H ws q → Exs H (vs ++ ws) (r ++ q)
  | _, _, _, _, .nil, y => y
  | _, _, _, _, .cons h x, y => .cons h (x.append y)
theorem Exs.get {H : Hp} : ∀ {vs : List V} {r : List (Int × Int)} {i : Nat} {x : V}, Exs H vs r → vs[i]? = some x → ∃ t a b, x = .ref t ∧ H t = some (.tup [.int a, .int b]) ∧ r[i]? = some (a, b)
  | _, _, _, _, .nil, e => by simp at e
  | _, _, 0, _, .cons h x, e => by simp at e; subst e; exact ⟨_, _, _, rfl, h, rfl⟩
  | _, _, i + 1, _, .cons h x, e => by
    obtain ⟨t, a, b, e1, e2, e3⟩ := x.get (i := i) (by simpa using e)
    exact ⟨t, a, b, e1, e2, by simpa using e3⟩
theorem Exs.dat {K : PySem.W.Frag} {H : Hp} : ∀ {vs : List V} {r : List (Int × Int)}, Exs H vs r → DatAll K H (fun _ => True) vs (r.map fun p => .tuple [.int p.1, .int p.2])
  | _, _, .nil => .nil
  | _, _, .cons h x => .cons (.tup (SqT.of h) True.intro (.cons (.int _) (.cons (.int _) .nil))) x.dat
theorem Same.tups {H H' : Hp} (s : Same H H') : ∀ b xs, H b = some (.tup xs) → H' b = some (.tup xs) := fun b xs e => s b _ e
theorem SameX.tups {p : Addr} {H H' : Hp} {ys : List V} (s : SameX p H H') (hp : H p = some (.lst ys)) : ∀ b xs, H b = some (.tup xs) → H' b = some (.tup xs) := fun b xs e => s b _ (ne_of e hp (by intro z; cases z)) e
theorem ints_dat {K : PySem.W.Frag} {H : Hp} {P : Addr → Prop} : ∀ (ns : List Int), DatAll K H P (ns.map V.int) (ns.map PyData.int)
  | [] => .nil
  | n :: r => .cons (.int n) (ints_dat r)
theorem tup_dat {K : PySem.W.Frag} {H : Hp} {t : Addr} {ns : List Int} (h : H t = some (.tup (ns.map V.int))) : Dat K H (fun _ => True) (.ref t) (.tuple (ns.map PyData.int)) := .tup (SqT.of h) True.intro (ints_dat ns)
theorem lay_ints : ∀ (ns : List Int), PyData.canLayAll0 (ns.map PyData.int) = true
  | [] => rfl
  | n :: r => by rw [List.map_cons]; unfold PyData.canLayAll0; rw [lay_ints r]; rfl
theorem lay_tup (ns : List Int) : (PyData.tuple (ns.map PyData.int)).canLay0 = true := by unfold PyData.canLay0; exact lay_ints ns
theorem depth_ints : ∀ (ns : List Int), PyData.depthAll (ns.map PyData.int) = 0
  | [] => by simp [PyData.depthAll]
  | n :: r => by rw [List.map_cons]; unfold PyData.depthAll; rw [depth_ints r]; simp [PyData.depth]
theorem depth_tup (ns : List Int) : (PyData.tuple (ns.map PyData.int)).depth ≤ 60 := by unfold PyData.depth; rw [depth_ints ns]; decide
theorem eqv_ints : ∀ (ns ms : List Int), PyData.eqvAll (ns.map PyData.int) (ms.map PyData.int) = decide (ns = ms)
  | [], [] => by simp [PyData.eqvAll]
  | [], m :: r => by simp [PyData.eqvAll]
  | n :: r, [] => by simp [PyData.eqvAll]
  | n :: r, m :: q => by
    rw [List.map_cons, List.map_cons]; unfold PyData.eqvAll; rw [eqv_ints r q]
    simp [PyData.eqv]
    by_cases h1 : n = m <;> by_cases h2 : r = q <;> simp [h1, h2]
theorem eqv_tup (ns ms : List Int) : PyData.eqv (.tuple (ns.map PyData.int)) (.tuple (ms.map PyData.int)) = decide (ns = ms) := by unfold PyData.eqv; exact eqv_ints ns ms
theorem eqT {K : PySem.W.Frag} {H : Hp} {t u : Addr} {ns ms : List Int} {Q : VK} (h1 : H t = some (.tup (ns.map V.int))) (h2 : H u = some (.tup (ms.map V.int))) (q : Q (.bl (!decide (ns = ms))) H) : rNeD K (.ref t) (.ref u) H Q :=
  ⟨_, _, _, tup_dat h1, tup_dat h2, lay_tup _, lay_tup _, depth_tup _, by rw [eqv_tup]; exact q⟩
def swp (x : Int) (e : Int × Int) : Int := if x = e.1 then e.2 else if x = e.2 then e.1 else x
def go (row : List (Int × Int)) (x : Int) : Int := row.foldl swp x
def ledM (n : Int) (row : List (Int × Int)) : List Int := (ivl 1 (n + 1)).map (go row)
def Good (n : Int) (row : List (Int × Int)) : Prop := ∀ e ∈ row, 1 ≤ e.1 ∧ e.1 < e.2 ∧ e.2 ≤ n
theorem Good.append {n : Int} {r q : List (Int × Int)} (a : Good n r) (b : Good n q) : Good n (r ++ q) := fun e h => (List.mem_append.mp h).elim (a e) (b e)
theorem Good.reverse {n : Int} {r : List (Int × Int)} (a : Good n r) : Good n r.reverse := fun e h => a e (List.mem_reverse.mp h)
theorem swp_in {n x : Int} {e : Int × Int} (h : 1 ≤ e.1 ∧ e.1 < e.2 ∧ e.2 ≤ n) (h1 : 1 ≤ x) (h2 : x ≤ n) : 1 ≤ swp x e ∧ swp x e ≤ n := by
  unfold swp; split
  · omega
  · split <;> omega
theorem swp_swp (x : Int) (e : Int × Int) : swp (swp x e) e = x := by
  unfold swp
  by_cases h1 : x = e.1
  · rw [if_pos h1]
    by_cases h2 : e.2 = e.1
    · rw [if_pos h2]; omega
    · rw [if_neg h2, if_pos rfl]; exact h1.symm
  · rw [if_neg h1]
    by_cases h2 : x = e.2
    · rw [if_pos h2, if_pos rfl]; exact h2.symm
    · rw [if_neg h2, if_neg h1, if_neg h2]
theorem go_in {n : Int} : ∀ {row : List (Int × Int)} {x : Int}, Good n row → 1 ≤ x → x ≤ n → 1 ≤ go row x ∧ go row x ≤ n
  | [], _, _, h1, h2 => ⟨h1, h2⟩
  | e :: r, x, g, h1, h2 => by
    have h := swp_in (g e List.mem_cons_self) h1 h2
    exact go_in (row := r) (fun e h => g e (List.mem_cons_of_mem _ h)) h.1 h.2
theorem go_append (r q : List (Int × Int)) (x : Int) : go (r ++ q) x = go q (go r x) := by unfold go; rw [List.foldl_append]
theorem go_back : ∀ (r : List (Int × Int)) (x : Int), go r.reverse (go r x) = x
  | [], _ => rfl
  | e :: r, x => by
    rw [List.reverse_cons, go_append]
    show go [e] (go r.reverse (go r (swp x e))) = x
    rw [go_back r]
    exact swp_swp x e
theorem go_back' (r : List (Int × Int)) (x : Int) : go r (go r.reverse x) = x := by
  have := go_back r.reverse x
  rwa [List.reverse_reverse] at this
theorem mem_ivl {lo hi x : Int} : x ∈ ivl lo hi ↔ lo ≤ x ∧ x < hi := by
  unfold ivl
  rw [List.mem_map]
  constructor
  · rintro ⟨i, h, rfl⟩
    have := List.mem_range.mp h
    omega
  · intro h
    exact ⟨(x - lo).toNat, List.mem_range.mpr (by omega), by omega⟩
theorem get_ivl {lo hi : Int} {i : Nat} (h : i < (hi - lo).toNat) : (ivl lo hi)[i]? = some (lo + i) := by
  unfold ivl
  rw [List.getElem?_map, List.getElem?_range h]
  rfl
theorem ledM_length (n : Int) (row : List (Int × Int)) : (ledM n row).length = n.toNat := by
  unfold ledM; rw [List.length_map, ivl_length]; omega
theorem ledM_get {n : Int} {row : List (Int × Int)} {i : Nat} (h : i < n.toNat) : (ledM n row)[i]? = some (go row (1 + i)) := by
  unfold ledM
  rw [List.getElem?_map, get_ivl (by omega)]
  rfl
theorem ledM_mem {n : Int} {row : List (Int × Int)} (g : Good n row) {x : Int} (h : x ∈ ledM n row) : 1 ≤ x ∧ x ≤ n := by
  obtain ⟨y, hy, rfl⟩ := List.mem_map.mp h
  have := mem_ivl.mp hy
  exact go_in g (by omega) (by omega)
def thenM (xs ys : List Int) : List Int := xs.map fun x => ys.getD (x - 1).toNat 0
theorem thenM_led {n : Int} {r q : List (Int × Int)} (g : Good n r) : thenM (ledM n r) (ledM n q) = ledM n (r ++ q) := by
  unfold thenM
  conv => rhs; unfold ledM
  unfold ledM
  rw [List.map_map]
  apply List.map_congr_left
  intro x hx
  have hx := mem_ivl.mp hx
  have hg := go_in (row := r) (x := x) g (by omega) (by omega)
  show List.getD (ledM n q) (go r x - 1).toNat 0 = go (r ++ q) x
  rw [List.getD_eq_getElem?_getD, ledM_get (by omega), go_append]
  show go q (1 + ((go r x - 1).toNat : Int)) = go q (go r x)
  congr 1
  omega
theorem ledM_nil (n : Int) : ledM n [] = ivl 1 (n + 1) := by
  unfold ledM
  conv => rhs; rw [← List.map_id (ivl 1 (n + 1))]
  apply List.map_congr_left
  intro x _
  rfl
end Sw
namespace L2
open PySem PySem.Spec PyProof.Rows
section
variable {X : Cx} {pins : List (Addr × Obj)} {σ : St} {H : Hp} {s : Shared} {h' : Heap}
theorem Inv.turnedL {t' : Nat} {fp : List Addr} (I : Inv X pins σ H s) (k : ∀ b o, b ∉ fp → s.heap.get? b = some o → h'.get? b = some o) (hf : ∀ b ∈ fp, FpOk X pins H b) : Inv X pins σ H { s with heap := h', toks := t' } := by
  have nit : ∀ b u, H b = some u → b ∉ fp := fun b u e z => by rw [(hf b z).1] at e; cases e
  refine I.step (g' := s.gens) (d' := s.drawn) (ch := fp) (fun b hb => ?_) (fun b o _ _ hc e _ => k b o hc e) (fun b o _ _ hc e _ => ⟨o.slots, k b o hc e⟩) (fun _ _ _ _ n => n)
    (fun b o hc e => ⟨o, k b o hc e⟩) (fun _ _ e => e) (fun _ _ _ e => e) (fun b ps e => ⟨#[], by rw [e]; simp⟩) (fun m hm => ?_) (fun b u e => ?_) I.bare
  · obtain ⟨f0, f1, f2, f3, f4, f5⟩ := hf b hb
    exact ⟨f3, f1, f4, f5⟩
  · obtain ⟨o, es, ep, ho, r⟩ := hm
    exact ⟨o, es, ep, k _ o (fun z => (hf _ z).2.1 rfl) ho, r⟩
  · refine (I.hok b u e).stay (fun c v hc q => k c v ?_ q) (fun _ q => q) fun _ _ q => q
    rcases hc with z | z
    · rw [z]; exact nit b u e
    · exact nit c _ z
theorem Inv.track {T : Addr} {o : HO} (I : Inv X pins σ H s) (hf : FpOk X pins H T) (new : ObjOk X.prog X.w (upd H T o) s.heap T o) : Inv X pins σ (upd H T o) s := by
  obtain ⟨f0, f1, f2, f3, f4, f5⟩ := hf
  have := I.step (h' := s.heap) (H' := upd H T o) (g' := s.gens) (d' := s.drawn) (t' := s.toks) (ch := [T]) (fun b hb => by
    have e : b = T := by simpa using hb
    subst e
    exact ⟨f3, f1, f4, f5⟩) (fun b o _ _ _ e _ => e) (fun b o _ _ _ e _ => ⟨o.slots, e⟩) (fun b o hc _ n => by rw [upd_ne (fun z => hc (by simp [z]))]; exact n)
    (fun b o _ e => ⟨o, e⟩) (fun b xs e => by rw [upd_ne (ne_of_none e f0)]; exact e) (fun b o u e => by rw [upd_ne (ne_of_none e f0)]; exact e) (fun b ps e => ⟨#[], by rw [upd_ne (ne_of_none e f0), e]; simp⟩) (fun m hm => hm) (fun b u e => ?_) I.bare
  · exact this
  · by_cases hb : b = T
    · subst hb
      rw [upd_same] at e
      cases e
      exact new
    · rw [upd_ne hb] at e
      refine (I.hok b u e).stay (fun _ _ _ q => q) (fun c q => ?_) fun c xs q => ?_
      · rw [upd_ne (ne_of_none q f0)]; exact q
      · rw [upd_ne (ne_of_none q f0)]; exact q
end
end L2
namespace L2
open PySem PySem.Spec PyProof.Rows
theorem comp_by {ix : List (Option Nat)} {g : TG} {tc : TT} {te : TE} {σ : St} {Q : VK} {J : It} {H : Hp} {n : Nat} (Pv : Nat → List V → St → Hp → Prop) (hn : n ≤ 1000000) (h0 : Pv 0 [] (startC ix σ) H)
    (hgo : ∀ i ys σ H, i < n → Pv i ys σ H → J.go i H) (hst : ∀ ys σ H, Pv n ys σ H → J.stop n H) (hlen : ∀ i ys σ H, Pv i ys σ H → ys.length ≤ i)
    (hs : ∀ i ys σ H x H2 (R : St → List V → Hp → Prop), i < n → Pv i ys σ H → J.yld i H x H2 → (∀ σ2 ys2 H5, Pv (i + 1) ys2 σ2 H5 → R σ2 ys2 H5) →
      g x σ H2 fun σ2 H3 => tc σ2 H3 fun b H4 => if b = true then te σ2 H4 fun v H5 => R σ2 (ys ++ [v]) H5 else R σ2 ys H4)
    (hd : ∀ ys σ' H' p, Pv n ys σ' H' → H' p = none → Q (.ref p) (upd H' p (.lst ys))) : rComp ix g tc te σ Q J H := by
  have big : (1000000 : Nat) < sizeLine := by decide
  refine ⟨fun i m ys σ' H' => m = n - i ∧ i ≤ n ∧ Pv i ys σ' H', ⟨n, by simp, Nat.zero_le _, h0⟩, ?_⟩
  rintro i m ys σ' H' ⟨rfl, hi, p⟩
  have hl := hlen i ys σ' H' p
  by_cases hlt : i < n
  · refine .inr ⟨hgo i ys σ' H' hlt p, by omega, fun x H2 y => ?_⟩
    exact hs i ys σ' H' x H2 (fun σ2 ys2 H5 => ∃ m', m' < n - i ∧ (m' = n - (i + 1) ∧ i + 1 ≤ n ∧ Pv (i + 1) ys2 σ2 H5)) hlt p y fun σ2 ys2 H5 q => ⟨n - (i + 1), by omega, rfl, hlt, q⟩
  · have e : i = n := by omega
    subst e
    exact .inl ⟨hst ys σ' H' p, by omega, fun q hq => hd ys σ' H' q p hq⟩
theorem compL {K : PySem.W.Frag} {ix : List (Option Nat)} {te : TE} {σ : St} {Q : VK} {H : Hp} {a : Addr} {xs : List V} {k : Nat} (Pv : Nat → List V → St → Hp → Prop) (hn : xs.length ≤ 1000000) (h0 : Pv 0 [] (startC ix σ) H)
    (hl : ∀ i ys σ H, i ≤ xs.length → Pv i ys σ H → SqL K H a xs) (hlen : ∀ i ys σ H, Pv i ys σ H → ys.length ≤ i)
    (hs : ∀ i ys σ H x (R : St → List V → Hp → Prop), xs[i]? = some x → Pv i ys σ H → (∀ σ2 ys2 H5, Pv (i + 1) ys2 σ2 H5 → R σ2 ys2 H5) → te (σ.set k (some x)) H fun v H5 => R (σ.set k (some x)) (ys ++ [v]) H5)
    (hd : ∀ ys σ' H' p, Pv xs.length ys σ' H' → H' p = none → Q (.ref p) (upd H' p (.lst ys))) : rComp ix (gName k) tTrue te σ Q (Itl K a) H := by
  refine comp_by Pv hn h0 (fun i ys σ H hi p => ⟨xs, xs[i], hl i ys σ H (Nat.le_of_lt hi) p, by simp [hi]⟩) (fun ys σ H p => ⟨xs, hl _ ys σ H (Nat.le_refl _) p, Nat.le_refl _⟩) hlen (fun i ys σ H x H2 R hi p y r => ?_) hd
  obtain ⟨rfl, y⟩ := y
  unfold gName tTrue
  simp only [if_true]
  exact hs i ys σ _ x R (y xs (hl i ys σ _ (Nat.le_of_lt hi) p)) p r
theorem compR {ix : List (Option Nat)} {te : TE} {σ : St} {Q : VK} {H : Hp} {lo : Int} {n : Nat} {k : Nat} (Pv : Nat → List V → St → Hp → Prop) (hn : n ≤ 1000000) (h0 : Pv 0 [] (startC ix σ) H) (hlen : ∀ i ys σ H, Pv i ys σ H → ys.length ≤ i)
    (hs : ∀ i ys σ H (R : St → List V → Hp → Prop), i < n → Pv i ys σ H → (∀ σ2 ys2 H5, Pv (i + 1) ys2 σ2 H5 → R σ2 ys2 H5) → te (σ.set k (some (.int (lo + i)))) H fun v H5 => R (σ.set k (some (.int (lo + i)))) (ys ++ [v]) H5)
    (hd : ∀ ys σ' H' p, Pv n ys σ' H' → H' p = none → Q (.ref p) (upd H' p (.lst ys))) : rComp ix (gName k) tTrue te σ Q (Itr lo n) H := by
  refine comp_by Pv hn h0 (fun i ys σ H hi p => hi) (fun ys σ H p => Nat.le_refl _) hlen (fun i ys σ H x H2 R hi p y r => ?_) hd
  obtain ⟨rfl, rfl⟩ := y
  unfold gName tTrue
  simp only [if_true]
  exact hs i ys σ _ R hi p r
theorem compLif {K : PySem.W.Frag} {ix : List (Option Nat)} {tc : TT} {te : TE} {σ : St} {Q : VK} {H : Hp} {a : Addr} {xs : List V} {k : Nat} (Pv : Nat → List V → St → Hp → Prop) (hn : xs.length ≤ 1000000) (h0 : Pv 0 [] (startC ix σ) H)
    (hl : ∀ i ys σ H, i ≤ xs.length → Pv i ys σ H → SqL K H a xs) (hlen : ∀ i ys σ H, Pv i ys σ H → ys.length ≤ i)
    (hs : ∀ i ys σ H x (R : St → List V → Hp → Prop), xs[i]? = some x → Pv i ys σ H → (∀ σ2 ys2 H5, Pv (i + 1) ys2 σ2 H5 → R σ2 ys2 H5) →
      tc (σ.set k (some x)) H fun b H4 => if b = true then te (σ.set k (some x)) H4 fun v H5 => R (σ.set k (some x)) (ys ++ [v]) H5 else R (σ.set k (some x)) ys H4)
    (hd : ∀ ys σ' H' p, Pv xs.length ys σ' H' → H' p = none → Q (.ref p) (upd H' p (.lst ys))) : rComp ix (gName k) tc te σ Q (Itl K a) H := by
  refine comp_by Pv hn h0 (fun i ys σ H hi p => ⟨xs, xs[i], hl i ys σ H (Nat.le_of_lt hi) p, by simp [hi]⟩) (fun ys σ H p => ⟨xs, hl _ ys σ H (Nat.le_refl _) p, Nat.le_refl _⟩) hlen (fun i ys σ H x H2 R hi p y r => ?_) hd
  obtain ⟨rfl, y⟩ := y
  unfold gName
  exact hs i ys σ _ x R (y xs (hl i ys σ _ (Nat.le_of_lt hi) p)) p r
section
variable {X : Cx} {K : PySem.W.Frag} {o e : Expr} {es : List Expr} {to : TE} {t : TA} {name : Str} {apos cpos : Pos} {T id : String} {r : V → List V → Hp → VK → Prop}
theorem pe_bm0K (h : X.K = K) (pa : PlainAttrs T) (slot : Slot T name id) (hty : typeOf (.builtin id) = pure (.type "method_descriptor")) (hm : MtR X id r) (ho : PE X o to)
    (hbase : attributeBase o name X.env (eval o X.env) = eval o X.env := by rfl) (hline : (apos.endLine == cpos.line) = true := by rfl) : PE X (.Call (.Attribute o name apos) [] [] cpos) (tBM0 K T r to) := by
  subst h; exact pe_bm0 pa slot hty hm ho hbase hline
theorem pe_bmK (h : X.K = K) (pa : PlainAttrs T) (slot : Slot T name id) (hty : typeOf (.builtin id) = pure (.type "method_descriptor")) (hm : MtR X id r) (ho : PE X o to) (ha : PA X (e :: es) t)
    (hbase : attributeBase o name X.env (eval o X.env) = eval o X.env := by rfl)
    (hfew : ((backTo cpos (starEach (e :: es) X.env)).all (fun x => !x.1) && (backToKw cpos (keywordEach [] X.env)).all (fun x => x.1.isSome)
      && decide ((e :: es).length + ([] : List Keyword).length + (if ([] : List Keyword).isEmpty then 0 else 1) < 30)) = true := by rfl)
    (hline : (apos.endLine == cpos.line) = true := by rfl) (hs : starEach (e :: es) X.env = (false, eval e X.env) :: starEach es X.env := by rfl) (hplain : (backTo cpos (starEach es X.env)).any (·.1) = false := by rfl) :
    PE X (.Call (.Attribute o name apos) (e :: es) [] cpos) (tBM K T r to t) := by
  subst h; exact pe_bm pa slot hty hm ho ha hbase hfew hline hs hplain
end
end L2
namespace Sw
open PySem L2
theorem ivl_nodup (a b : Int) : (ivl a b).Nodup := by
  unfold ivl
  refine List.Pairwise.map _ ?_ (List.nodup_range (n := (b - a).toNat))
  intro x y h z
  apply h
  omega
def Ord (n : Int) (xs : List Int) : Prop := xs.Perm (ivl 1 (n + 1))
theorem Ord.length {n : Int} {xs : List Int} (o : Ord n xs) : xs.length = n.toNat := by
  rw [List.Perm.length_eq o, ivl_length]; congr 1; omega
theorem Ord.mem {n : Int} {xs : List Int} (o : Ord n xs) {x : Int} : x ∈ xs ↔ 1 ≤ x ∧ x ≤ n := by
  rw [List.Perm.mem_iff o, mem_ivl]; omega
theorem Ord.nodup {n : Int} {xs : List Int} (o : Ord n xs) : xs.Nodup := (List.Perm.nodup_iff o).mpr (ivl_nodup _ _)
theorem erase_perm {α : Type} : ∀ {l : List α} {k : Nat} {y : α}, l[k]? = some y → (y :: l.eraseIdx k).Perm l
  | [], _, _, h => by simp at h
  | a :: l, 0, y, h => by simp at h; subst h; exact List.Perm.refl _
  | a :: l, k + 1, y, h => by
    have q := erase_perm (l := l) (k := k) (y := y) (by simpa using h)
    rw [List.eraseIdx_cons_succ]
    exact (List.Perm.swap a y _).trans (q.cons a)
theorem pop_perm {n : Int} {fs ls : List Int} {k : Nat} {y : Int} (o : Ord n (fs ++ ls)) (h : ls[k]? = some y) : Ord n ((fs ++ [y]) ++ ls.eraseIdx k) := by
  unfold Ord at *
  rw [List.append_assoc, List.singleton_append]
  exact ((erase_perm h).append_left fs).trans o
theorem swap_perm {n : Int} {ls : List Int} {i j : Nat} {x y : Int} (o : Ord n ls) (hi : ls[i]? = some x) (hj : ls[j]? = some y) : Ord n ((ls.set i y).set j x) := by
  obtain ⟨h1, rfl⟩ := List.getElem?_eq_some_iff.mp hi
  obtain ⟨h2, rfl⟩ := List.getElem?_eq_some_iff.mp hj
  exact (List.set_set_perm h1 h2).trans o
def nxt (xs : List Int) (x : Int) : Int := xs.getD ((xs.idxOf x + 1) % xs.length) 0
theorem nxt_at {xs : List Int} (nd : xs.Nodup) {j : Nat} {x : Int} (h : xs[j]? = some x) : nxt xs x = xs.getD ((j + 1) % xs.length) 0 := by
  obtain ⟨h1, rfl⟩ := List.getElem?_eq_some_iff.mp h
  unfold nxt
  rw [List.Nodup.idxOf_getElem nd]
theorem nxt_map {xs : List Int} (nd : xs.Nodup) : (xs.map (nxt xs)).Perm xs := by
  match xs, nd with
  | [], _ => exact List.Perm.refl _
  | y :: t, nd =>
    have e : (y :: t).map (nxt (y :: t)) = t ++ [y] := by
      apply List.ext_getElem?
      intro j
      rw [List.getElem?_map]
      by_cases hj : j < (y :: t).length
      · have h : (y :: t)[j]? = some (y :: t)[j] := List.getElem?_eq_getElem hj
        rw [h, Option.map_some, nxt_at nd h]
        by_cases h2 : j + 1 < (y :: t).length
        · rw [Nat.mod_eq_of_lt h2]
          have : j < t.length := by simpa using h2
          rw [List.getElem?_append_left this]
          simp [List.getD_eq_getElem?_getD, this]
        · have e2 : j + 1 = (y :: t).length := by omega
          rw [e2, Nat.mod_self]
          have : j = t.length := by simpa using e2
          subst this
          simp
      · rw [List.getElem?_eq_none (by omega), List.getElem?_eq_none (by simp; simp at hj; omega)]
        rfl
    rw [e]
    exact List.perm_append_comm (l₁ := t) (l₂ := [y])
theorem nxt_ord {n : Int} {xs : List Int} (o : Ord n xs) : Ord n ((ivl 1 (n + 1)).map (nxt xs)) :=
  ((List.Perm.map (nxt xs) (List.Perm.symm o)).trans (nxt_map o.nodup)).trans o
theorem ord_plain (n : Int) : Ord n (ivl 1 (n + 1)) := List.Perm.refl _
theorem idx_of {xs : List Int} {x : Int} (h : x ∈ xs) : ∃ j, xs[j]? = some x ∧ j < xs.length := by
  obtain ⟨j, hj, e⟩ := List.mem_iff_getElem.mp h
  exact ⟨j, by rw [List.getElem?_eq_getElem hj, e], hj⟩
end Sw
namespace L2
open PySem PySem.Spec PyProof.Rows
section
variable {X : Cx} {K : PySem.W.Frag}
theorem vals_toks : ∀ {ns : List Int} {us : List Value}, Vals (ns.map V.int) us → ∃ xs : List (Int × Tok), us = xs.map (fun p => Value.int p.1 p.2) ∧ xs.map (·.1) = ns
  | [], us, r => by cases r; exact ⟨[], rfl, rfl⟩
  | n :: ns, us, r => by
    cases r with
    | cons r1 r2 =>
      obtain ⟨t, rfl⟩ := r1
      obtain ⟨xs, rfl, e⟩ := vals_toks r2
      exact ⟨(n, t) :: xs, rfl, by rw [List.map_cons, e]⟩
def rMinL (K : PySem.W.Frag) : List V → Hp → VK → Prop := fun xs H Q => ∃ (p : Addr) (ns : List Int) (M : Int), xs = [.ref p] ∧ SqL K H p (ns.map V.int) ∧ M ∈ ns ∧ (∀ a ∈ ns, M ≤ a) ∧ Q (.int M) H
theorem call_minL (hc : X.calm = true) (hK : X.K = K) : CallR X (.builtin "min") (rMinL K) := by
  subst hK
  intro pins s σ H xs us Q I r h
  obtain ⟨p, ns, M, rfl, hl, hM, hm, q⟩ := h
  obtain ⟨u, rfl, rx⟩ := vals1 r
  cases rx
  obtain ⟨its, rv, pl, hz⟩ := I.list hl
  obtain ⟨xs, rfl, e⟩ := vals_toks rv
  have hpos : 0 < xs.length := by
    rw [← List.length_map (f := (·.1)), e]
    exact List.length_pos_of_mem hM
  refine min_intList (l := p) (xs := xs.toArray) (I.ok.hd hc) ?_ (by simpa using hpos) fun v h' tk hv hk => ?_
  · have := pl.isList
    unfold intItems
    simpa using this
  · have num : ∀ i, numAt xs.toArray i = ns.getD i 0 := by
      intro i
      unfold numAt
      rw [List.getElem?_toArray, ← e, List.getD_eq_getElem?_getD, List.getElem?_map]
    obtain ⟨b1, b2⟩ := argBest_lt (numAt xs.toArray) (xs.toArray.size - 1)
    generalize argBest (fun i j => decide (numAt xs.toArray i < numAt xs.toArray j)) (xs.toArray.size - 1) = k at b1 b2 hv
    have lk : k < xs.length := by simp at b1; omega
    have hv' : v = Value.int xs[k].1 xs[k].2 := by
      unfold intItems at hv
      simp at hv
      rw [List.getElem?_eq_getElem lk] at hv
      obtain ⟨a, b, h1, h2⟩ := hv
      have h1 := Option.some.inj h1
      rw [h1]
      exact h2.symm
    subst hv'
    have lx : xs.length = ns.length := by rw [← e, List.length_map]
    have ek : xs[k].1 = ns[k] := by
      have : (xs.map (·.1))[k]'(by rw [List.length_map]; exact lk) = ns[k] := by simp only [e]
      simpa using this
    have eM : xs[k].1 = M := by
      rw [ek]
      refine Int.le_antisymm ?_ (hm _ (List.getElem_mem _))
      obtain ⟨j, hj, ej⟩ := List.mem_iff_getElem.mp hM
      have := b2 j (by simp; omega)
      rw [num, num] at this
      rw [← ej]
      rw [List.getD_eq_getElem?_getD, List.getElem?_eq_getElem (by omega), List.getD_eq_getElem?_getD, List.getElem?_eq_getElem hj] at this
      exact this
    rw [eM]
    refine ⟨.int M, H, ?_, ⟨_, rfl⟩, q⟩
    exact (I.kept (t' := s.toks) (h' := h') fun b o e => hk b o e).tok tk
def tChain3 (r r' r'' : R2) (ta tb tc td : TE) : TE := fun σ H Q => ta σ H fun x H1 => tb σ H1 fun y H2 => r x y H2 fun z H3 => ∃ k, z = .bl k ∧
  (if k = true then tc σ H3 fun w' H4 => r' y w' H4 fun z' H5 => ∃ k', z' = .bl k' ∧ (if k' = true then td σ H5 fun w2 H6 => r'' w' w2 H6 Q else Q (.bl false) H5) else Q (.bl false) H3)
theorem pt_chain3 {op op' op'' : CmpOp} {r r' r'' : R2} {a b c d : Expr} {ta tb tc td : TE} {pos : Pos} (ho : OpR X (compareOp op) r) (ho' : OpR X (compareOp op') r') (ho2 : OpR X (compareOp op'') r'') (ha : PE X a ta) (hb : PE X b tb) (hc : PE X c tc) (hd : PE X d td)
    (hm : lastMarks [op, op', op''] [b, c, d] = false := by with_unfolding_all rfl) : PT X (.Compare a [op, op', op''] [b, c, d] pos) (tTest (tChain3 r r' r'' ta tb tc td)) := by
  intro pins s σ H Q I h
  refine isTrue_chain (thn (ha pins s σ H _ I h) fun v s1 ⟨x, H1, I1, r1, q1⟩ => test_link (thn (hb pins s1 σ H1 _ I1 q1) fun u s2 ⟨y, H2, I2, r2, q2⟩ =>
    thn (ho pins s2 σ H2 x y v u _ I2 r1 r2 q2) fun d s3 ⟨z, H3, I3, r3, k, e, q3⟩ => ?_)) hm
  subst e
  cases r3
  refine wpAny_truthy_bool ?_
  cases k with
  | false =>
    obtain ⟨k', e', q'⟩ := q3
    cases e'
    exact ite_ff ⟨H3, I3, q'⟩
  | true =>
    refine ite_tt (test_link (thn (hc pins s3 σ H3 _ I3 q3) fun w' s4 ⟨z', H4, I4, r4, q4⟩ => thn (ho' pins s4 σ H4 y z' u w' _ I4 r2 r4 q4) fun d' s5 ⟨z2, H5, I5, r5, k2, e2, q5⟩ => ?_))
    subst e2
    cases r5
    refine wpAny_truthy_bool ?_
    cases k2 with
    | false =>
      obtain ⟨k', e', q'⟩ := q5
      cases e'
      exact ite_ff ⟨H5, I5, q'⟩
    | true =>
      refine ite_tt (test_last (thn (hd pins s5 σ H5 _ I5 q5) fun w2 s6 ⟨z3, H6, I6, r6, q6⟩ => thn (ho2 pins s6 σ H6 z' z3 w' w2 _ I6 r4 r6 q6) fun d2 s7 ⟨z4, H7, I7, r7, k3, e3, q7⟩ => ?_))
      subst e3
      cases r7
      exact wpAny_truthy_bool ⟨H7, I7, q7⟩
end
end L2
namespace L2
open PySem PySem.Spec PyProof.Rows
section
variable {X : Cx} {K : PySem.W.Frag}
theorem ints_are : ∀ {ns : List Int} {us : List Value}, Vals (ns.map V.int) us → IntsAre us ns
  | [], us, r => by cases r; exact .nil
  | n :: ns, us, r => by
    cases r with
    | cons r1 r2 =>
      obtain ⟨t, rfl⟩ := r1
      exact .cons n t (ints_are r2)
theorem vals_are : ∀ {us : List Value} {ns : List Int}, IntsAre us ns → Vals (ns.map V.int) us
  | _, _, .nil => .nil
  | _, _, .cons n t r => .cons ⟨t, rfl⟩ (vals_are r)
def rSort (K : PySem.W.Frag) : List V → Hp → VK → Prop := fun xs H Q => ∃ (p : Addr) (ns : List Int), xs = [.ref p] ∧ SqL K H p (ns.map V.int) ∧ ns.length < 64 ∧ ∀ (l : Addr) (ns' : List Int), H l = none → ns'.Perm ns → ns'.Pairwise (· ≤ ·) → Q (.ref l) (upd H l (.lst (ns'.map V.int)))
theorem call_sorted (hK : X.K = K) : CallR X (.builtin "sorted") (rSort K) := by
  subst hK
  intro pins s σ H xs us Q I r h
  obtain ⟨p, ns, rfl, hl, hz, q⟩ := h
  obtain ⟨u, rfl, rx⟩ := vals1 r
  cases rx
  obtain ⟨its, rv, pl, _⟩ := I.list hl
  have len := rv.length
  rw [List.length_map] at len
  refine sorted_ints pl.isList (ints_are rv) (by omega) fun out ns' ia pm pw => ?_
  obtain ⟨e, he⟩ := sortedAll_at s.heap its out
  have lp := pm.length_eq
  have big : (64 : Nat) ≤ sizeLine := by decide
  refine ⟨.ref (s.heap.objs.size + 1), _, I.laid (o := .lst (ns'.map V.int)) (fun b u e => sortedAll_old e) (Nat.le_succ _) ⟨by rw [List.length_map]; omega, out.toList, e, vals_are ia, by simpa using he⟩, rfl, q _ ns' (I.hok.fresh (Nat.le_succ _)) pm pw⟩
end
def Ite0 (K : PySem.W.Frag) (a : Addr) (xs : List V) : It :=
  ⟨fun i H => i < xs.length ∧ SqL K H a xs, fun i H x H' => ∃ t v, H t = none ∧ x = .ref t ∧ xs[i]? = some v ∧ H' = upd H t (.tup [.int (i : Int), v]), fun i H => i = xs.length ∧ SqL K H a xs⟩
theorem turn_enum0 {P : Program} {w : World} {K : PySem.W.Frag} {elts : List Expr} {k : Nat} {pos : Pos} (a e it : Addr) (xs : List V) (hei : e ≠ it) (hae : a ≠ e) (hai : a ≠ it) :
    Turn P w K (.Tuple elts k pos) (Ite0 K a xs) [e, it] e (fun i h => (∃ old, IsEnum h e it (i : Int) old) ∧ h.IsListIter it a i) where
  mem := by simp
  obj := fun i h st b hb => by
    obtain ⟨⟨old, he⟩, ⟨o, e2, c, d⟩⟩ := st
    rcases List.mem_cons.mp hb with z | z
    · subst z
      exact ⟨_, he, fun v z => by cases z⟩
    · have z : b = it := by simpa using z
      subst z
      exact ⟨o, e2, fun v z => by rw [d] at z; cases z⟩
  keep := fun i h h' st kk => ⟨by obtain ⟨⟨old, he⟩, _⟩ := st; exact ⟨old, kk e (by simp) _ he⟩, st.2.at fun o q => kk it (by simp) o q⟩
  item := by
    intro X hP hw hK hc i pins s σ H E I hf st hg
    subst hP hw hK
    obtain ⟨hi, hq⟩ := hg
    obtain ⟨its, rv, ht, hz⟩ := I.list hq
    have hl := rv.length
    obtain ⟨⟨old, he⟩, hit⟩ := st
    have W := WalksT.enumerate (prog := X.prog) (w := X.w) (A := X.A) (I.ok.hd hc) e it a hei hae hai its.toArray
    refine W.item i s _ _ (by simp; omega) ⟨⟨old, he⟩, hit, ht.isList⟩ fun T vals h' tk hPt hsz hT hMid hk => ?_
    obtain ⟨t, x, hx, rfl⟩ := hPt
    obtain ⟨v, hv, rvx⟩ : ∃ v, xs[i]? = some v ∧ RelV v x := by
      rw [List.getElem?_eq_getElem hi]
      obtain ⟨u, hu, ru⟩ := rv.get (List.getElem?_eq_getElem hi)
      have : its[i]? = some x := by simpa using hx
      rw [this] at hu
      cases hu
      exact ⟨_, rfl, ru⟩
    refine ⟨.ref T, rfl, W.go elts k pos i T _ _ _ hMid fun h'' hSt hk'' => ?_⟩
    have hTe := hMid.2.2.2.1
    have hTi := hMid.2.2.2.2
    have I1 : Inv X pins σ H { s with heap := h'', toks := tk } := I.turnedL (fp := [e, it]) (fun b o hb q => hk'' b o hb (hk b o hb q)) hf
    have fT : FpOk X pins H T := I.fpOk hsz (I.hok.fresh hsz)
    have hT' : IsTup h'' T #[.int (i : Int) t, x] := by
      obtain ⟨o, e1, e2, e3⟩ := hT
      exact ⟨o, hk'' T o (by simp; exact ⟨hTe, hTi⟩) e1, e2, e3⟩
    obtain ⟨⟨old', he'⟩, hit2, _⟩ := hSt
    refine ⟨.ref T, upd H T (.tup [.int (i : Int), v]), I1.track fT ⟨(by show 2 ≤ sizeLine; decide), [.int (i : Int) t, x], .cons ⟨t, rfl⟩ (.cons rvx .nil), hT'⟩, rfl, ⟨T, v, fT.1, rfl, hv, rfl⟩, ⟨⟨old', he'⟩, hit2⟩, fun b hb => ?_⟩
    have hbT : b ≠ T := by
      rcases List.mem_cons.mp hb with z | z
      · rw [z]; exact hTe.symm
      · have z : b = it := by simpa using z
        rw [z]; exact hTi.symm
    rw [upd_ne hbT]
    exact (hf b hb).1
  done := by
    intro X hP hw hK hc i pins s σ H E I hf st hg
    subst hP hw hK
    obtain ⟨hi, hq⟩ := hg
    obtain ⟨its, rv, ht, hz⟩ := I.list hq
    have hl := rv.length
    obtain ⟨⟨old, he⟩, hit⟩ := st
    have W := WalksT.enumerate (prog := X.prog) (w := X.w) (A := X.A) (I.ok.hd hc) e it a hei hae hai its.toArray
    have en : i = its.toArray.size := by simp; omega
    refine W.done s _ _ (by rw [← en]; exact ⟨⟨old, he⟩, hit, ht.isList⟩) fun h' tk hk => ⟨rfl, I.turnedL (fp := [e, it]) (fun b o hb q => hk b o hb q) hf⟩
  self := fun A i s Q E st hQ => by
    obtain ⟨⟨old, he⟩, _⟩ := st
    exact wpAny_pyIter_enum he hQ
def iEnum0 (K : PySem.W.Frag) (ta : TA) : TI := fun σ H R => ta σ H fun vs H1 => ∃ (a : Addr) (xs : List V), vs = [.ref a] ∧ SqL K H1 a xs ∧ R (Ite0 K a xs) H1
theorem pi_enum0 {X : Cx} {K : PySem.W.Frag} {e : Expr} {ta : TA} {p pos : Pos} {kk : Nat} {elts : List Expr} {tp : Pos} (hK : X.K = K) (hg : Gl X "enumerate") (hm : X.mg "enumerate" = none) (ha : PA X [e] ta)
    (hs : starEach [e] X.env = [(false, eval e X.env)] := by rfl) :
    PI X (.Tuple elts kk tp) (.Call (.Name "enumerate" p) [e] [] pos) (iEnum0 K ta) := by
  subst hK
  intro pins s σ H R I h
  refine Call_ (ld_blt I hg hm (by decide +kernel : bootBuiltins "enumerate" = some (.type "enumerate")) (PyProof.Rows.callWith_type1 (thn (ha pos pins s σ H _ I h) fun us s2 ⟨vs, H2, I2, r1, a, xs, e1, hq, hR⟩ => ?_) hs rfl) (by decide +kernel) (by decide +kernel))
  subst e1
  obtain ⟨u, rfl, ru⟩ := vals1 r1
  cases ru
  obtain ⟨its, rv, pl, hz⟩ := I2.list hq
  refine call_enumerate_list pl.isList fun h' e0 it0 sz k0 => ?_
  have lta : @LT.lt Nat _ a s2.heap.objs.size := by obtain ⟨o, n, e, _⟩ := pl; exact Heap.lt_size e
  refine wpAny_pyIter_enum e0 ?_
  refine ⟨s2.heap.objs.size + 1, [s2.heap.objs.size + 1, s2.heap.objs.size], _, _, H2, rfl, I2.kept (t' := s2.toks) k0, turn_enum0 a (s2.heap.objs.size + 1) s2.heap.objs.size xs (Nat.succ_ne_self _) (Nat.ne_of_lt (Nat.lt_succ_of_lt lta)) (Nat.ne_of_lt lta), ⟨⟨.none, e0⟩, it0⟩, fun b hb => ?_, hR⟩
  rcases List.mem_cons.mp hb with z | z
  · rw [z]; exact I2.fpOk (Nat.le_succ _) (I2.hok.fresh (Nat.le_succ _))
  · have z : b = s2.heap.objs.size := by simpa using z
    rw [z]; exact I2.fpOk (Nat.le_refl _) (I2.hok.fresh (Nat.le_refl _))
end L2
namespace L2
open PySem PySem.Spec PyProof.Rows
def kitB (T C : String) : Option Bool := if (Value.type T == Value.type C) = true then some true else if PySem.W.kitMeta C = true then (fastBuiltinMro T).map (·.contains (Value.type C)) else none
theorem kit_type (K : PySem.W.Frag) {T C : String} {b : Bool} (h : kitB T C = some b) : PySem.W.kitOne K (.type T) (.type C) = some b := h
theorem kit_int_bool (K : PySem.W.Frag) : PySem.W.kitOne K (.type "int") (.type "bool") = some false := kit_type K (by decide +kernel)
end L2
namespace Sw
open PySem L2
def ld (xs : List Int) (x : Int) : Int := xs.getD (x - 1).toNat 0
def itn (f : Int → Int) : Nat → Int → Int
  | 0, x => x
  | k + 1, x => f (itn f k x)
theorem itn_add (f : Int → Int) (j : Nat) (x : Int) : ∀ k, itn f (k + j) x = itn f k (itn f j x)
  | 0 => by rw [Nat.zero_add]; rfl
  | k + 1 => by rw [Nat.succ_add]; show f _ = f _; rw [itn_add f j x k]
theorem ld_get {n : Int} {xs : List Int} (o : Ord n xs) {x : Int} (h1 : 1 ≤ x) (h2 : x ≤ n) : xs[(x - 1).toNat]? = some (ld xs x) := by
  have := o.length
  unfold ld
  rw [List.getD_eq_getElem?_getD, List.getElem?_eq_getElem (by omega)]
  rfl
theorem ld_in {n : Int} {xs : List Int} (o : Ord n xs) {x : Int} (h1 : 1 ≤ x) (h2 : x ≤ n) : 1 ≤ ld xs x ∧ ld xs x ≤ n := o.mem.mp (List.mem_of_getElem? (ld_get o h1 h2))
theorem ld_inj {n : Int} {xs : List Int} (o : Ord n xs) {x y : Int} (h1 : 1 ≤ x) (h2 : x ≤ n) (h3 : 1 ≤ y) (h4 : y ≤ n) (e : ld xs x = ld xs y) : x = y := by
  have a := ld_get o h1 h2
  have b := ld_get o h3 h4
  rw [e] at a
  obtain ⟨p, pa⟩ := List.getElem?_eq_some_iff.mp a
  obtain ⟨q, qa⟩ := List.getElem?_eq_some_iff.mp b
  have := (List.getElem_inj (i := (x - 1).toNat) (j := (y - 1).toNat) (h₀ := p) (h₁ := q) o.nodup).mp (pa.trans qa.symm)
  omega
theorem itn_in {n : Int} {xs : List Int} (o : Ord n xs) {x : Int} (h1 : 1 ≤ x) (h2 : x ≤ n) : ∀ k, 1 ≤ itn (ld xs) k x ∧ itn (ld xs) k x ≤ n
  | 0 => ⟨h1, h2⟩
  | k + 1 => ld_in o (itn_in o h1 h2 k).1 (itn_in o h1 h2 k).2
theorem itn_inj {n : Int} {xs : List Int} (o : Ord n xs) {x y : Int} (h1 : 1 ≤ x) (h2 : x ≤ n) (h3 : 1 ≤ y) (h4 : y ≤ n) : ∀ k, itn (ld xs) k x = itn (ld xs) k y → x = y
  | 0, e => e
  | k + 1, e => itn_inj o h1 h2 h3 h4 k (ld_inj o (itn_in o h1 h2 k).1 (itn_in o h1 h2 k).2 (itn_in o h3 h4 k).1 (itn_in o h3 h4 k).2 e)
theorem ex_per {n : Int} {xs : List Int} (o : Ord n xs) {x : Int} (h1 : 1 ≤ x) (h2 : x ≤ n) : ∃ k, k < n.toNat ∧ itn (ld xs) (k + 1) x = x := by
  apply Classical.byContradiction
  intro no
  have hne : ∀ i j, i < j → j ≤ n.toNat → itn (ld xs) i x ≠ itn (ld xs) j x := by
    intro i j hij hj e
    apply no
    refine ⟨j - i - 1, by omega, ?_⟩
    have e2 : itn (ld xs) (i + (j - i)) x = itn (ld xs) i (itn (ld xs) (j - i) x) := itn_add _ _ _ _
    rw [show i + (j - i) = j by omega, ← e] at e2
    have q := itn_in o h1 h2 (j - i)
    have := itn_inj o h1 h2 q.1 q.2 i e2
    rw [show j - i - 1 + 1 = j - i by omega]
    exact this.symm
  have nd : ((List.range (n.toNat + 1)).map (fun k => itn (ld xs) k x)).Nodup := by
    rw [List.Nodup, List.pairwise_iff_getElem]
    intro i j hi hj hij
    simp only [List.getElem_map, List.getElem_range]
    simp at hj
    exact hne i j hij (by omega)
  have le := List.Nodup.length_le_of_subset nd (l₂ := ivl 1 (n + 1)) (by
    intro y hy
    obtain ⟨k, _, rfl⟩ := List.mem_map.mp hy
    have := itn_in o h1 h2 k
    exact mem_ivl.mpr (by omega))
  rw [List.length_map, List.length_range, ivl_length] at le
  omega
def per (xs : List Int) (x : Int) : Nat := (List.range xs.length).findIdx (fun k => itn (ld xs) (k + 1) x == x) + 1
def orb (xs : List Int) (x : Int) : List Int := (List.range (per xs x)).map fun k => itn (ld xs) k x
theorem per_le {n : Int} {xs : List Int} (o : Ord n xs) {x : Int} (h1 : 1 ≤ x) (h2 : x ≤ n) : per xs x ≤ n.toNat := by
  obtain ⟨k, hk, e⟩ := ex_per o h1 h2
  have := List.findIdx_lt_length_of_exists (xs := List.range xs.length) (p := fun k => itn (ld xs) (k + 1) x == x) ⟨k, List.mem_range.mpr (by rw [o.length]; exact hk), by simpa using e⟩
  rw [List.length_range, o.length] at this
  unfold per
  rw [o.length]
  omega
theorem per_eq {n : Int} {xs : List Int} (o : Ord n xs) {x : Int} (h1 : 1 ≤ x) (h2 : x ≤ n) : itn (ld xs) (per xs x) x = x := by
  obtain ⟨k, hk, e⟩ := ex_per o h1 h2
  have lt := List.findIdx_lt_length_of_exists (xs := List.range xs.length) (p := fun k => itn (ld xs) (k + 1) x == x) ⟨k, List.mem_range.mpr (by rw [o.length]; exact hk), by simpa using e⟩
  have := List.findIdx_getElem (xs := List.range xs.length) (p := fun k => itn (ld xs) (k + 1) x == x) (w := lt)
  rw [List.getElem_range] at this
  unfold per
  simpa using this
theorem per_ne {xs : List Int} {x : Int} {j : Nat} (h0 : 0 < j) (h : j < per xs x) : itn (ld xs) j x ≠ x := by
  unfold per at h
  have lt : j - 1 < (List.range xs.length).findIdx (fun k => itn (ld xs) (k + 1) x == x) := by omega
  have := List.not_of_lt_findIdx lt
  rw [List.getElem_range] at this
  rw [show j - 1 + 1 = j by omega] at this
  simpa using this
theorem itn_mod {n : Int} {xs : List Int} (o : Ord n xs) {x : Int} (h1 : 1 ≤ x) (h2 : x ≤ n) (k : Nat) : ∃ j, j < per xs x ∧ itn (ld xs) k x = itn (ld xs) j x := by
  induction k with
  | zero => exact ⟨0, by unfold per; omega, rfl⟩
  | succ k ih =>
    obtain ⟨j, hj, e⟩ := ih
    by_cases h : j + 1 < per xs x
    · exact ⟨j + 1, h, by show ld xs _ = ld xs _; rw [e]⟩
    · refine ⟨0, by unfold per; omega, ?_⟩
      show ld xs _ = x
      rw [e]
      have : j + 1 = per xs x := by omega
      have q := per_eq o h1 h2
      rw [← this] at q
      exact q
theorem orb_mem {n : Int} {xs : List Int} (o : Ord n xs) {x : Int} (h1 : 1 ≤ x) (h2 : x ≤ n) {y : Int} : y ∈ orb xs x ↔ ∃ k, itn (ld xs) k x = y := by
  unfold orb
  rw [List.mem_map]
  constructor
  · rintro ⟨k, _, e⟩
    exact ⟨k, e⟩
  · rintro ⟨k, e⟩
    obtain ⟨j, hj, e2⟩ := itn_mod o h1 h2 k
    exact ⟨j, List.mem_range.mpr hj, e2.symm.trans e⟩
def least (xs : List Int) (x : Int) : Bool := (orb xs x).all fun y => decide (x ≤ y)
theorem least_iff {n : Int} {xs : List Int} (o : Ord n xs) {x : Int} (h1 : 1 ≤ x) (h2 : x ≤ n) : least xs x = true ↔ ∀ k, x ≤ itn (ld xs) k x := by
  unfold least
  rw [List.all_eq_true]
  constructor
  · intro h k
    exact of_decide_eq_true (h _ ((orb_mem o h1 h2).mpr ⟨k, rfl⟩))
  · intro h y hy
    obtain ⟨k, rfl⟩ := (orb_mem o h1 h2).mp hy
    exact decide_eq_true (h k)
def rndM (n : Int) (xs : List Int) : List (List Int) := ((ivl 1 (n + 1)).filter (least xs)).map (orb xs)
theorem map_ord {n : Int} {xs : List Int} (o : Ord n xs) {e : Int × Int} (h : 1 ≤ e.1 ∧ e.1 < e.2 ∧ e.2 ≤ n) : Ord n (xs.map (swp · e)) := by
  have nd : (xs.map (swp · e)).Nodup := by
    refine List.Pairwise.map _ ?_ o.nodup
    intro a b ne z
    apply ne
    have := congrArg (swp · e) z
    simpa [swp_swp] using this
  refine (List.perm_ext_iff_of_nodup nd (ivl_nodup _ _)).mpr fun y => ?_
  rw [mem_ivl, List.mem_map]
  constructor
  · rintro ⟨x, hx, rfl⟩
    have hx := o.mem.mp hx
    have := swp_in h hx.1 hx.2
    omega
  · rintro ⟨a, b⟩
    have := swp_in h a (by omega)
    exact ⟨swp y e, o.mem.mpr this, swp_swp _ _⟩
theorem ld_map {n : Int} {xs : List Int} (o : Ord n xs) (f : Int → Int) {x : Int} (h1 : 1 ≤ x) (h2 : x ≤ n) : ld (xs.map f) x = f (ld xs x) := by
  have g := ld_get o h1 h2
  show (xs.map f).getD _ 0 = _
  rw [List.getD_eq_getElem?_getD, List.getElem?_map, g]
  rfl
theorem ld_led {n : Int} {row : List (Int × Int)} {x : Int} (h1 : 1 ≤ x) (h2 : x ≤ n) : ld (ledM n row) x = go row x := by
  unfold ld
  rw [List.getD_eq_getElem?_getD, ledM_get (by omega)]
  rw [show 1 + (((x - 1).toNat : Nat) : Int) = x by omega]
  rfl
theorem ord_ext {n : Int} {xs ys : List Int} (a : xs.length = n.toNat) (b : ys.length = n.toNat) (h : ∀ x, 1 ≤ x → x ≤ n → ld xs x = ld ys x) : xs = ys := by
  apply List.ext_getElem
  · rw [a, b]
  intro i h1 h2
  have := h (1 + i) (by omega) (by omega)
  unfold ld at this
  rw [show (1 + (i : Int) - 1).toNat = i by omega, List.getD_eq_getElem?_getD, List.getD_eq_getElem?_getD, List.getElem?_eq_getElem h1, List.getElem?_eq_getElem h2] at this
  exact this
theorem led_ord {n : Int} {row : List (Int × Int)} (g : Good n row) : Ord n (ledM n row) := by
  have nd : (ledM n row).Nodup := by
    unfold ledM
    refine List.Pairwise.map _ ?_ (ivl_nodup 1 (n + 1))
    intro a b ne z
    apply ne
    have := congrArg (go row.reverse) z
    rwa [go_back, go_back] at this
  refine (List.perm_ext_iff_of_nodup nd (ivl_nodup _ _)).mpr fun y => ?_
  rw [mem_ivl]
  constructor
  · intro h
    have := ledM_mem g h
    omega
  · rintro ⟨a, b⟩
    unfold ledM
    have := go_in (row := row.reverse) g.reverse a (by omega : y ≤ n)
    exact List.mem_map.mpr ⟨go row.reverse y, mem_ivl.mpr (by omega), go_back' row y⟩
end Sw
namespace Sw
open PySem L2
def homeS : Nat → List Int → List (Int × Int)
  | 0, _ => []
  | m + 1, xs => if ld xs ((m : Int) + 1) = (m : Int) + 1 then homeS m xs else homeS m (xs.map (swp · (ld xs ((m : Int) + 1), (m : Int) + 1))) ++ [(ld xs ((m : Int) + 1), (m : Int) + 1)]
def Fix (n : Int) (m : Nat) (xs : List Int) : Prop := ∀ x, (m : Int) < x → x ≤ n → ld xs x = x
theorem step_lt {n : Int} {xs : List Int} {m : Nat} (o : Ord n xs) (f : Fix n (m + 1) xs) (hm : (m : Int) + 1 ≤ n) (ne : ld xs ((m : Int) + 1) ≠ (m : Int) + 1) : 1 ≤ ld xs ((m : Int) + 1) ∧ ld xs ((m : Int) + 1) < (m : Int) + 1 := by
  have r := ld_in o (x := (m : Int) + 1) (by omega) hm
  refine ⟨r.1, ?_⟩
  apply Classical.byContradiction
  intro h
  have e := f (ld xs ((m : Int) + 1)) (by omega) r.2
  have := ld_inj o (x := ld xs ((m : Int) + 1)) (y := (m : Int) + 1) r.1 r.2 (by omega) hm e
  omega
theorem swp_ne {x : Int} {e : Int × Int} (h1 : x ≠ e.1) (h2 : x ≠ e.2) : swp x e = x := by
  unfold swp; rw [if_neg h1, if_neg h2]
theorem step_fix {n : Int} {xs : List Int} {m : Nat} (o : Ord n xs) (f : Fix n (m + 1) xs) (hm : (m : Int) + 1 ≤ n) (ne : ld xs ((m : Int) + 1) ≠ (m : Int) + 1) : Fix n m (xs.map (swp · (ld xs ((m : Int) + 1), (m : Int) + 1))) := by
  intro x h1 h2
  rw [ld_map o _ (by omega) h2]
  have lt := step_lt o f hm ne
  by_cases h : x = (m : Int) + 1
  · rw [h]; unfold swp; rw [if_pos rfl]
  · have e := f x (by omega) h2
    rw [e]
    exact swp_ne (by dsimp only; omega) (by dsimp only; exact h)
theorem fix_down {n : Int} {xs : List Int} {m : Nat} (f : Fix n (m + 1) xs) (e : ld xs ((m : Int) + 1) = (m : Int) + 1) : Fix n m xs := by
  intro x h1 h2
  by_cases h : x = (m : Int) + 1
  · rw [h]; exact e
  · exact f x (by omega) h2
theorem homeS_go {n : Int} : ∀ (m : Nat) (xs : List Int), (m : Int) ≤ n → Ord n xs → Fix n m xs → ∀ x, 1 ≤ x → x ≤ n → go (homeS m xs) x = ld xs x
  | 0, xs, _, o, f, x, h1, h2 => (f x (by omega) h2).symm
  | m + 1, xs, hm, o, f, x, h1, h2 => by
    unfold homeS
    have hm' : (m : Int) + 1 ≤ n := by omega
    split
    · rename_i e
      exact homeS_go m xs (by omega) o (fix_down f e) x h1 h2
    · rename_i ne
      have lt := step_lt o f hm' ne
      have gd : 1 ≤ (ld xs ((m : Int) + 1), (m : Int) + 1).1 ∧ (ld xs ((m : Int) + 1), (m : Int) + 1).1 < (ld xs ((m : Int) + 1), (m : Int) + 1).2 ∧ (ld xs ((m : Int) + 1), (m : Int) + 1).2 ≤ n := ⟨lt.1, lt.2, hm'⟩
      rw [go_append, homeS_go m _ (by omega) (map_ord o gd) (step_fix o f hm' ne) x h1 h2, ld_map o _ h1 h2]
      exact swp_swp _ _
inductive Rise : Int → List (Int × Int) → Prop
  | nil {m : Int} : Rise m []
  | snoc {m a b : Int} {r : List (Int × Int)} : Rise (b - 1) r → 1 ≤ a → a < b → b ≤ m → Rise m (r ++ [(a, b)])
theorem Rise.mono {m m' : Int} {r : List (Int × Int)} (h : Rise m r) (l : m ≤ m') : Rise m' r := by
  cases h with
  | nil => exact .nil
  | snoc a b c d => exact .snoc a b c (by omega)
theorem Rise.good {n m : Int} {r : List (Int × Int)} (h : Rise m r) (l : m ≤ n) : Good n r := by
  induction h with
  | nil => intro e he; cases he
  | snoc a b c d ih =>
    refine (ih (by omega)).append fun e he => ?_
    rw [List.mem_singleton.mp he]
    exact ⟨b, c, by omega⟩
theorem homeS_rise {n : Int} : ∀ (m : Nat) (xs : List Int), (m : Int) ≤ n → Ord n xs → Fix n m xs → Rise m (homeS m xs)
  | 0, xs, _, o, f => .nil
  | m + 1, xs, hm, o, f => by
    unfold homeS
    have hm' : (m : Int) + 1 ≤ n := by omega
    split
    · rename_i e
      exact (homeS_rise m xs (by omega) o (fix_down f e)).mono (by omega)
    · rename_i ne
      have lt := step_lt o f hm' ne
      have gd : 1 ≤ (ld xs ((m : Int) + 1), (m : Int) + 1).1 ∧ (ld xs ((m : Int) + 1), (m : Int) + 1).1 < (ld xs ((m : Int) + 1), (m : Int) + 1).2 ∧ (ld xs ((m : Int) + 1), (m : Int) + 1).2 ≤ n := ⟨lt.1, lt.2, hm'⟩
      exact .snoc ((homeS_rise m _ (by omega) (map_ord o gd) (step_fix o f hm' ne)).mono (by omega)) lt.1 lt.2 (by omega)
theorem Rise.go_fix {m : Int} {r : List (Int × Int)} (h : Rise m r) : ∀ {x : Int}, m < x → go r x = x := by
  induction h with
  | nil => intro x hx; rfl
  | snoc a b c d ih =>
    intro x hx
    rw [go_append, ih (by omega)]
    exact swp_ne (by dsimp only; omega) (by dsimp only; omega)
theorem homeS_of {n : Int} : ∀ (m : Nat) (r : List (Int × Int)), (m : Int) ≤ n → Rise m r → homeS m (ledM n r) = r
  | 0, r, _, h => by
    cases h with
    | nil => rfl
    | snoc a b c d => omega
  | m + 1, r, hm, h => by
    unfold homeS
    rw [ld_led (by omega) (by omega)]
    cases h with
    | nil => rw [if_pos (show go [] ((m : Int) + 1) = (m : Int) + 1 from rfl)]; exact homeS_of m [] (by omega) .nil
    | @snoc _ a b r' h' ha hb hc =>
      by_cases e : b = (m : Int) + 1
      · subst e
        have g1 : go (r' ++ [(a, (m : Int) + 1)]) ((m : Int) + 1) = a := by
          rw [go_append, h'.go_fix (by omega)]
          show swp _ _ = a
          unfold swp
          rw [if_neg (by dsimp only; omega), if_pos rfl]
        rw [g1, if_neg (by omega)]
        have e2 : (ledM n (r' ++ [(a, (m : Int) + 1)])).map (swp · (a, (m : Int) + 1)) = ledM n r' := by
          unfold ledM
          rw [List.map_map]
          apply List.map_congr_left
          intro x _
          show swp (go (r' ++ [(a, (m : Int) + 1)]) x) _ = _
          rw [go_append]
          exact swp_swp _ _
        rw [e2, homeS_of m r' (by omega) (h'.mono (by omega))]
      · have hr : Rise (m : Int) (r' ++ [(a, b)]) := .snoc h' ha hb (by omega)
        rw [if_pos (hr.go_fix (by omega))]
        exact homeS_of m _ (by omega) hr
def cnt (n : Int) (xs : List Int) : Nat := ((ivl 1 (n + 1)).filter (least xs)).length
theorem filter_one {α : Type} [DecidableEq α] {p q : α → Bool} {g : α} (hp : p g = false) (hq : q g = true) : ∀ (l : List α), l.Nodup → g ∈ l → (∀ x ∈ l, x ≠ g → p x = q x) → (l.filter q).length = (l.filter p).length + 1
  | [], _, h, _ => by cases h
  | a :: l, nd, h, k => by
    rw [List.nodup_cons] at nd
    by_cases e : a = g
    · subst e
      rw [List.filter_cons_of_pos hq, List.filter_cons_of_neg (by rw [hp]; decide), List.length_cons]
      congr 1
      congr 1
      apply List.filter_congr
      intro x hx
      exact (k x (List.mem_cons_of_mem _ hx) (by intro z; subst z; exact nd.1 hx)).symm
    · have ih := filter_one hp hq l nd.2 (by cases h with | head => exact absurd rfl e | tail _ h => exact h) fun x hx => k x (List.mem_cons_of_mem _ hx)
      have ea := k a List.mem_cons_self e
      rw [List.filter_cons, List.filter_cons, ea]
      split
      · rw [List.length_cons, List.length_cons, ih]
      · exact ih
section
variable {n : Int} {xs : List Int} {m : Nat}
theorem cut_ld (o : Ord n xs) (hm : (m : Int) + 1 ≤ n) {x : Int} (h1 : 1 ≤ x) (h2 : x ≤ n) (hx : x ≠ (m : Int) + 1) :
    ld (xs.map (swp · (ld xs ((m : Int) + 1), (m : Int) + 1))) x = if ld xs x = (m : Int) + 1 then ld xs ((m : Int) + 1) else ld xs x := by
  rw [ld_map o _ h1 h2]
  have ne : ld xs x ≠ ld xs ((m : Int) + 1) := fun e => hx (ld_inj o h1 h2 (by omega) hm e)
  unfold swp
  rw [if_neg ne]
theorem cut_itn (o : Ord n xs) (f : Fix n (m + 1) xs) (hm : (m : Int) + 1 ≤ n) (ne : ld xs ((m : Int) + 1) ≠ (m : Int) + 1) {x : Int} (h1 : 1 ≤ x) (h2 : x ≤ n) (hx : x ≠ (m : Int) + 1) :
    ∀ k, itn (ld (xs.map (swp · (ld xs ((m : Int) + 1), (m : Int) + 1)))) k x ≠ (m : Int) + 1 ∧ ∃ j, itn (ld (xs.map (swp · (ld xs ((m : Int) + 1), (m : Int) + 1)))) k x = itn (ld xs) j x
  | 0 => ⟨hx, 0, rfl⟩
  | k + 1 => by
    obtain ⟨a, j, e⟩ := cut_itn o f hm ne h1 h2 hx k
    have r := itn_in o h1 h2 j
    show ld _ (itn _ k x) ≠ _ ∧ ∃ j, ld _ (itn _ k x) = _
    rw [e] at a ⊢
    rw [cut_ld o hm r.1 r.2 a]
    by_cases h : ld xs (itn (ld xs) j x) = (m : Int) + 1
    · rw [if_pos h]
      refine ⟨ne, j + 2, ?_⟩
      show _ = ld xs (ld xs (itn (ld xs) j x))
      rw [h]
    · rw [if_neg h]
      exact ⟨h, j + 1, rfl⟩
theorem itn_cut (o : Ord n xs) (f : Fix n (m + 1) xs) (hm : (m : Int) + 1 ≤ n) (ne : ld xs ((m : Int) + 1) ≠ (m : Int) + 1) {x : Int} (h1 : 1 ≤ x) (h2 : x ≤ n) (hx : x ≠ (m : Int) + 1) :
    ∀ j, (∃ k, itn (ld xs) j x = itn (ld (xs.map (swp · (ld xs ((m : Int) + 1), (m : Int) + 1)))) k x) ∨ (itn (ld xs) j x = (m : Int) + 1 ∧ ∃ k, itn (ld (xs.map (swp · (ld xs ((m : Int) + 1), (m : Int) + 1)))) k x = ld xs ((m : Int) + 1))
  | 0 => .inl ⟨0, rfl⟩
  | j + 1 => by
    have r := itn_in o h1 h2 j
    rcases itn_cut o f hm ne h1 h2 hx j with ⟨k, e⟩ | ⟨e, k, e2⟩
    · have a := (cut_itn o f hm ne h1 h2 hx k).1
      have e3 : itn (ld (xs.map (swp · (ld xs ((m : Int) + 1), (m : Int) + 1)))) (k + 1) x = if ld xs (itn (ld xs) j x) = (m : Int) + 1 then ld xs ((m : Int) + 1) else ld xs (itn (ld xs) j x) := by
        show ld _ (itn _ k x) = _
        rw [← e] at a ⊢
        exact cut_ld o hm r.1 r.2 a
      by_cases h : ld xs (itn (ld xs) j x) = (m : Int) + 1
      · rw [if_pos h] at e3
        exact .inr ⟨h, k + 1, e3⟩
      · rw [if_neg h] at e3
        exact .inl ⟨k + 1, e3.symm⟩
    · refine .inl ⟨k, ?_⟩
      show ld xs (itn (ld xs) j x) = _
      rw [e, e2]
theorem cut_cnt (o : Ord n xs) (f : Fix n (m + 1) xs) (hm : (m : Int) + 1 ≤ n) (ne : ld xs ((m : Int) + 1) ≠ (m : Int) + 1) : cnt n (xs.map (swp · (ld xs ((m : Int) + 1), (m : Int) + 1))) = cnt n xs + 1 := by
  have lt := step_lt o f hm ne
  have gd : 1 ≤ (ld xs ((m : Int) + 1), (m : Int) + 1).1 ∧ (ld xs ((m : Int) + 1), (m : Int) + 1).1 < (ld xs ((m : Int) + 1), (m : Int) + 1).2 ∧ (ld xs ((m : Int) + 1), (m : Int) + 1).2 ≤ n := ⟨lt.1, lt.2, hm⟩
  have o' := map_ord o gd
  have f' := step_fix o f hm ne
  unfold cnt
  refine filter_one (g := (m : Int) + 1) ?_ ?_ _ (ivl_nodup _ _) (mem_ivl.mpr (by omega)) ?_
  · cases h : least xs ((m : Int) + 1) with
    | false => rfl
    | true =>
      have := (least_iff o (by omega) hm).mp h 1
      exact absurd this (by show ¬ _ ≤ ld xs ((m : Int) + 1); omega)
  · refine (least_iff o' (by omega) hm).mpr fun k => ?_
    have : ∀ k, itn (ld (xs.map (swp · (ld xs ((m : Int) + 1), (m : Int) + 1)))) k ((m : Int) + 1) = (m : Int) + 1 := by
      intro k
      induction k with
      | zero => rfl
      | succ k ih => show ld _ (itn _ k _) = _; rw [ih]; exact f' _ (by omega) hm
    rw [this k]
    exact Int.le_refl _
  · intro x hx hne
    have hx := mem_ivl.mp hx
    have h1 : 1 ≤ x := hx.1
    have h2 : x ≤ n := by omega
    rw [Bool.eq_iff_iff, least_iff o h1 h2, least_iff o' h1 h2]
    constructor
    · intro h k
      obtain ⟨_, j, e⟩ := cut_itn o f hm ne h1 h2 hne k
      rw [e]
      exact h j
    · intro h j
      rcases itn_cut o f hm ne h1 h2 hne j with ⟨k, e⟩ | ⟨e, k, e2⟩
      · rw [e]; exact h k
      · have := h k
        rw [e2] at this
        rw [e]
        omega
end
theorem homeS_cnt {n : Int} : ∀ (m : Nat) (xs : List Int), (m : Int) ≤ n → Ord n xs → Fix n m xs → (homeS m xs).length + cnt n xs = n.toNat
  | 0, xs, _, o, f => by
    have : (ivl 1 (n + 1)).filter (least xs) = ivl 1 (n + 1) := by
      rw [List.filter_eq_self]
      intro x hx
      have hx := mem_ivl.mp hx
      refine (least_iff o hx.1 (by omega)).mpr fun k => ?_
      have : ∀ k, itn (ld xs) k x = x := by
        intro k
        induction k with
        | zero => rfl
        | succ k ih => show ld _ (itn _ k _) = _; rw [ih]; exact f _ (by omega) (by omega)
      rw [this k]
      exact Int.le_refl _
    unfold cnt
    rw [this, ivl_length]
    show 0 + _ = _
    omega
  | m + 1, xs, hm, o, f => by
    unfold homeS
    have hm' : (m : Int) + 1 ≤ n := by omega
    split
    · rename_i e
      exact homeS_cnt m xs (by omega) o (fix_down f e)
    · rename_i ne
      have lt := step_lt o f hm' ne
      have gd : 1 ≤ (ld xs ((m : Int) + 1), (m : Int) + 1).1 ∧ (ld xs ((m : Int) + 1), (m : Int) + 1).1 < (ld xs ((m : Int) + 1), (m : Int) + 1).2 ∧ (ld xs ((m : Int) + 1), (m : Int) + 1).2 ≤ n := ⟨lt.1, lt.2, hm'⟩
      have ih := homeS_cnt m _ (by omega) (map_ord o gd) (step_fix o f hm' ne)
      rw [cut_cnt o f hm' ne] at ih
      rw [List.length_append, List.length_singleton]
      omega
def homeM (xs : List Int) : List (Int × Int) := homeS xs.length xs
section
variable {n : Int} {xs : List Int}
theorem fix_top (o : Ord n xs) : Fix n xs.length xs := fun x h1 h2 => by have := o.length; omega
theorem homeM_rise (hn : 0 ≤ n) (o : Ord n xs) : Rise n (homeM xs) := (homeS_rise _ xs (by have := o.length; omega) o (fix_top o)).mono (by have := o.length; omega)
theorem homeM_led (hn : 0 ≤ n) (o : Ord n xs) : ledM n (homeM xs) = xs :=
  ord_ext (ledM_length _ _) o.length fun x h1 h2 => by
    rw [ld_led h1 h2]
    exact homeS_go _ xs (by have := o.length; omega) o (fix_top o) x h1 h2
theorem homeM_cnt (hn : 0 ≤ n) (o : Ord n xs) : (homeM xs).length + cnt n xs = n.toNat := homeS_cnt _ xs (by have := o.length; omega) o (fix_top o)
theorem homeM_of (hn : 0 ≤ n) {r : List (Int × Int)} (h : Rise n r) : homeM (ledM n r) = r := by
  unfold homeM
  rw [ledM_length]
  exact homeS_of _ r (by omega) (h.mono (by omega))
end
theorem least_ex : ∀ {l : List Int}, l ≠ [] → ∃ M, M ∈ l ∧ ∀ b ∈ l, M ≤ b
  | [], h => absurd rfl h
  | [a], _ => ⟨a, List.mem_singleton.mpr rfl, fun b hb => by rw [List.mem_singleton.mp hb]; exact Int.le_refl _⟩
  | a :: b :: r, _ => by
    obtain ⟨M, h1, h2⟩ := least_ex (l := b :: r) (by simp)
    by_cases h : a ≤ M
    · refine ⟨a, List.mem_cons_self, fun c hc => ?_⟩
      rcases List.mem_cons.mp hc with rfl | hc
      · exact Int.le_refl _
      · exact Int.le_trans h (h2 c hc)
    · refine ⟨M, List.mem_cons_of_mem _ h1, fun c hc => ?_⟩
      rcases List.mem_cons.mp hc with rfl | hc
      · omega
      · exact h2 c hc
end Sw
namespace L2
open PySem
theorem compE0 {K : PySem.W.Frag} {ix : List (Option Nat)} {g : TG} {te : TE} {σ : St} {Q : VK} {H : Hp} {a : Addr} {xs : List V} (Pv : Nat → List V → St → Hp → Prop) (hn : xs.length ≤ 1000000) (h0 : Pv 0 [] (startC ix σ) H)
    (hl : ∀ i ys σ H, i ≤ xs.length → Pv i ys σ H → SqL K H a xs) (hlen : ∀ i ys σ H, Pv i ys σ H → ys.length ≤ i)
    (hs : ∀ i ys σ H t v (R : St → List V → Hp → Prop), xs[i]? = some v → Pv i ys σ H → H t = none → (∀ σ2 ys2 H5, Pv (i + 1) ys2 σ2 H5 → R σ2 ys2 H5) → g (.ref t) σ (upd H t (.tup [.int (i : Int), v])) fun σ2 H3 => te σ2 H3 fun v H5 => R σ2 (ys ++ [v]) H5)
    (mg : ∀ x σ H R R', (∀ σ2 H2, R σ2 H2 → R' σ2 H2) → g x σ H R → g x σ H R')
    (hd : ∀ ys σ' H' p, Pv xs.length ys σ' H' → H' p = none → Q (.ref p) (upd H' p (.lst ys))) : rComp ix g tTrue te σ Q (Ite0 K a xs) H := by
  refine comp_by Pv hn h0 (fun i ys σ H hi p => ⟨hi, hl i ys σ H (Nat.le_of_lt hi) p⟩) (fun ys σ H p => ⟨rfl, hl _ ys σ H (Nat.le_refl _) p⟩) hlen (fun i ys σ H x H2 R hi p y r => ?_) hd
  obtain ⟨t, v, ht, rfl, hv, rfl⟩ := y
  refine mg _ _ _ _ _ (fun σ2 H3 q => ?_) (hs i ys σ H t v R hv p ht r)
  unfold tTrue
  simp only [if_true]
  exact q
end L2
namespace Sw
open PySem L2
theorem orb_sym {n : Int} {xs : List Int} (o : Ord n xs) {x y : Int} (h1 : 1 ≤ x) (h2 : x ≤ n) (h : y ∈ orb xs x) : x ∈ orb xs y := by
  obtain ⟨k, rfl⟩ := (orb_mem o h1 h2).mp h
  obtain ⟨j, hj, e⟩ := itn_mod o h1 h2 k
  have r := itn_in o h1 h2 k
  refine (orb_mem o r.1 r.2).mpr ⟨per xs x - j, ?_⟩
  rw [e, ← itn_add, show per xs x - j + j = per xs x by omega]
  exact per_eq o h1 h2
theorem orb_trans {n : Int} {xs : List Int} (o : Ord n xs) {x y z : Int} (h1 : 1 ≤ x) (h2 : x ≤ n) (h : y ∈ orb xs x) (h' : z ∈ orb xs y) : z ∈ orb xs x := by
  obtain ⟨k, rfl⟩ := (orb_mem o h1 h2).mp h
  have r := itn_in o h1 h2 k
  obtain ⟨j, rfl⟩ := (orb_mem o r.1 r.2).mp h'
  exact (orb_mem o h1 h2).mpr ⟨j + k, itn_add _ _ _ _⟩
theorem orb_in {n : Int} {xs : List Int} (o : Ord n xs) {x y : Int} (h1 : 1 ≤ x) (h2 : x ≤ n) (h : y ∈ orb xs x) : 1 ≤ y ∧ y ≤ n := by
  obtain ⟨k, rfl⟩ := (orb_mem o h1 h2).mp h
  exact itn_in o h1 h2 k
theorem orb_self {xs : List Int} (x : Int) : x ∈ orb xs x := by
  unfold orb
  exact List.mem_map.mpr ⟨0, List.mem_range.mpr (by unfold per; omega), rfl⟩
theorem orb_length (xs : List Int) (x : Int) : (orb xs x).length = per xs x := by unfold orb; rw [List.length_map, List.length_range]
theorem low_ex {n : Int} {xs : List Int} (o : Ord n xs) {x : Int} (h1 : 1 ≤ x) (h2 : x ≤ n) : ∃ m, m ∈ orb xs x ∧ least xs m = true ∧ m ≤ x := by
  obtain ⟨M, m1, m2⟩ := least_ex (l := orb xs x) (List.ne_nil_of_mem (orb_self x))
  refine ⟨M, m1, ?_, m2 x (orb_self x)⟩
  unfold least
  rw [List.all_eq_true]
  intro y hy
  exact decide_eq_true (m2 y (orb_trans o h1 h2 m1 hy))
theorem met_least {n : Int} {xs : List Int} (o : Ord n xs) {i : Nat} (hi : (i : Int) < n) : least xs (1 + i) = true ↔ ¬ ∃ m ∈ ((ivl 1 (n + 1)).take i).filter (least xs), (1 + (i : Int)) ∈ orb xs m := by
  have b1 : (1 : Int) ≤ 1 + i := by omega
  have b2 : (1 : Int) + i ≤ n := by omega
  have tk : ∀ m, m ∈ (ivl 1 (n + 1)).take i ↔ 1 ≤ m ∧ m ≤ i := by
    intro m
    constructor
    · intro h
      obtain ⟨j, hj, e⟩ := List.mem_iff_getElem.mp h
      rw [List.length_take] at hj
      rw [List.getElem_take] at e
      have g := get_ivl (lo := 1) (hi := n + 1) (i := j) (by rw [ivl_length] at hj; omega)
      rw [List.getElem?_eq_getElem (by omega)] at g
      have g := Option.some.inj g
      rw [e] at g
      omega
    · rintro ⟨h3, h4⟩
      refine List.mem_iff_getElem.mpr ⟨(m - 1).toNat, by rw [List.length_take, ivl_length]; omega, ?_⟩
      rw [List.getElem_take]
      have g := get_ivl (lo := 1) (hi := n + 1) (i := (m - 1).toNat) (by omega)
      rw [List.getElem?_eq_getElem (by rw [ivl_length]; omega)] at g
      have g := Option.some.inj g
      rw [g]
      omega
  constructor
  · rintro h ⟨m, hm, hmo⟩
    rw [List.mem_filter, tk] at hm
    have s := orb_sym o hm.1.1 (by omega) hmo
    unfold least at h
    have := of_decide_eq_true (List.all_eq_true.mp h m s)
    omega
  · intro h
    obtain ⟨m, m1, m2, m3⟩ := low_ex o b1 b2
    by_cases e : m = 1 + (i : Int)
    · rw [← e]; exact m2
    · exfalso
      apply h
      have mi := orb_in o b1 b2 m1
      exact ⟨m, List.mem_filter.mpr ⟨(tk m).mpr (by omega), m2⟩, orb_sym o b1 b2 m1⟩
theorem at_last {ns : List Int} {k : Nat} {z : Int} (h : ns.length = k + 1) (e : ns[k]? = some z) : atI (ns.map V.int) (-1) = some (V.int z) := by
  unfold atI ixN
  rw [if_neg (by decide), if_pos (by rw [List.length_map]; omega)]
  show (ns.map V.int)[(-1 + ((ns.map V.int).length : Int)).toNat]? = _
  rw [List.length_map, show (-1 + (ns.length : Int)).toNat = k by omega, List.getElem?_map, e]
  rfl
theorem inV_int (x : Int) (ms : List Int) : inV (.int x) (ms.map V.int) = decide (x ∈ ms) := by
  unfold inV
  rw [List.any_map, Bool.eq_iff_iff, List.any_eq_true]
  simp only [decide_eq_true_eq]
  constructor
  · rintro ⟨y, hy, e⟩
    have e : eqV (.int y) (.int x) = true := e
    unfold eqV at e
    have : y = x := by simpa using e
    rw [← this]; exact hy
  · intro h
    refine ⟨x, h, ?_⟩
    show eqV (.int x) (.int x) = true
    unfold eqV
    simp
theorem flat_ints (ms : List Int) : (ms.map V.int).all flatV = true := by
  rw [List.all_map, List.all_eq_true]
  intro x _
  rfl
end Sw
namespace Sw
open PySem L2
def Cyc (n : Int) (xs r : List Int) : Prop := r ≠ [] ∧ ∀ (i : Nat) (x : Int), r[i]? = some x → 1 ≤ x ∧ x ≤ n ∧ r[(i + 1) % r.length]? = some (ld xs x)
structure Rnds (n : Int) (xs : List Int) (rs : List (List Int)) : Prop where
  cyc : ∀ r ∈ rs, Cyc n xs r
  nd : rs.flatten.Nodup
  rest : ∀ x, 1 ≤ x → x ≤ n → x ∉ rs.flatten → ld xs x = x
theorem rot_get {r : List Int} {a i : Nat} (ha : a ≤ r.length) (hi : i < r.length) : (r.drop a ++ r.take a)[i]? = r[(i + a) % r.length]? := by
  by_cases h : i < r.length - a
  · rw [List.getElem?_append_left (by rw [List.length_drop]; exact h), List.getElem?_drop, Nat.mod_eq_of_lt (by omega), Nat.add_comm]
  · rw [List.getElem?_append_right (by rw [List.length_drop]; omega), List.length_drop, List.getElem?_take_of_lt (by omega)]
    congr 1
    rw [Nat.mod_eq_sub_mod (by omega), Nat.mod_eq_of_lt (by omega)]
    omega
theorem rot_len {r : List Int} {a : Nat} (ha : a ≤ r.length) : (r.drop a ++ r.take a).length = r.length := by
  rw [List.length_append, List.length_drop, List.length_take]; omega
theorem rot_cyc {n : Int} {xs r : List Int} (c : Cyc n xs r) {a : Nat} (ha : a ≤ r.length) : Cyc n xs (r.drop a ++ r.take a) := by
  have l := rot_len ha
  have pos : 0 < r.length := List.length_pos_iff.mpr c.1
  refine ⟨fun z => ?_, fun i x h => ?_⟩
  · rw [z] at l; simp at l; omega
  · have hi : i < r.length := by rw [← l]; exact (List.getElem?_eq_some_iff.mp h).1
    rw [rot_get ha hi] at h
    obtain ⟨c1, c2, c3⟩ := c.2 _ _ h
    refine ⟨c1, c2, ?_⟩
    rw [l, rot_get ha (Nat.mod_lt _ pos), ← c3]
    congr 1
    rw [Nat.mod_add_mod, Nat.mod_add_mod]
    congr 1
    omega
theorem rot_perm (r : List Int) (a : Nat) : (r.drop a ++ r.take a).Perm r := by
  have := List.perm_append_comm (l₁ := r.drop a) (l₂ := r.take a)
  rwa [List.take_append_drop] at this
theorem one_fix {n : Int} {xs r : List Int} (c : Cyc n xs r) (h : r.length ≤ 1) : ∃ x, r = [x] ∧ ld xs x = x := by
  match r, c, h with
  | [], c, _ => exact absurd rfl c.1
  | [x], c, _ =>
    obtain ⟨_, _, e⟩ := c.2 0 x rfl
    simp at e
    exact ⟨x, rfl, e.symm⟩
theorem flat_erase {rl : List (List Int)} {k : Nat} {r : List Int} (h : rl[k]? = some r) : (r ++ (rl.eraseIdx k).flatten).Perm rl.flatten := by
  have := List.Perm.flatten (erase_perm h)
  rwa [List.flatten_cons] at this
structure Part (n : Int) (xs : List Int) (rf rl : List (List Int)) : Prop where
  cf : ∀ r ∈ rf, Cyc n xs r
  cl : ∀ r ∈ rl, Cyc n xs r
  nd : (rf.flatten ++ rl.flatten).Nodup
  rest : ∀ x, 1 ≤ x → x ≤ n → x ∉ rf.flatten → x ∉ rl.flatten → ld xs x = x
theorem orb_nodup {n : Int} {xs : List Int} (o : Ord n xs) {x : Int} (h1 : 1 ≤ x) (h2 : x ≤ n) : (orb xs x).Nodup := by
  unfold orb
  rw [List.Nodup, List.pairwise_map]
  refine (List.Pairwise.and_mem.mp (List.pairwise_lt_range (n := per xs x))).imp ?_
  rintro i j ⟨hi, hj, hij⟩ e
  have hi := List.mem_range.mp hi
  have hj := List.mem_range.mp hj
  have e2 : itn (ld xs) (i + (j - i)) x = itn (ld xs) i (itn (ld xs) (j - i) x) := itn_add _ _ _ _
  rw [show i + (j - i) = j by omega, ← e] at e2
  have q := itn_in o h1 h2 (j - i)
  have := itn_inj o h1 h2 q.1 q.2 i e2
  exact per_ne (by omega) (by omega) this.symm
theorem rnd_nodup {n : Int} {xs : List Int} (o : Ord n xs) : (rndM n xs).flatten.Nodup := by
  unfold rndM
  rw [List.Nodup, List.pairwise_flatten]
  constructor
  · intro r hr
    obtain ⟨x, hx, rfl⟩ := List.mem_map.mp hr
    have hx := mem_ivl.mp (List.mem_filter.mp hx).1
    exact orb_nodup o hx.1 (by omega)
  · rw [List.pairwise_map]
    have nd : ((ivl 1 (n + 1)).filter (least xs)).Nodup := (ivl_nodup 1 (n + 1)).filter _
    refine (List.Pairwise.and_mem.mp nd).imp ?_
    rintro a b ⟨ha, hb, ne⟩ y hya z hzb e
    subst e
    have ha' := List.mem_filter.mp ha
    have hb' := List.mem_filter.mp hb
    have ia := mem_ivl.mp ha'.1
    have ib := mem_ivl.mp hb'.1
    have yb := orb_sym o ib.1 (by omega) hzb
    have ab : b ∈ orb xs a := orb_trans o ia.1 (by omega) hya yb
    have ba : a ∈ orb xs b := orb_sym o ia.1 (by omega) ab
    have l1 := ha'.2
    have l2 := hb'.2
    unfold least at l1 l2
    have e1 := of_decide_eq_true (List.all_eq_true.mp l1 b ab)
    have e2 := of_decide_eq_true (List.all_eq_true.mp l2 a ba)
    exact ne (by omega)
theorem rnd_all {n : Int} {xs : List Int} (o : Ord n xs) {x : Int} (h1 : 1 ≤ x) (h2 : x ≤ n) : x ∈ (rndM n xs).flatten := by
  obtain ⟨m, m1, m2, m3⟩ := low_ex o h1 h2
  have mi := orb_in o h1 h2 m1
  refine List.mem_flatten.mpr ⟨orb xs m, ?_, orb_sym o h1 h2 m1⟩
  unfold rndM
  exact List.mem_map.mpr ⟨m, List.mem_filter.mpr ⟨mem_ivl.mpr (by omega), m2⟩, rfl⟩
theorem Part.take {n : Int} {xs : List Int} {rf rl : List (List Int)} (p : Part n xs rf rl) {k a : Nat} {r : List Int} (h : rl[k]? = some r) (ha : a ≤ r.length) : Part n xs (rf ++ [r.drop a ++ r.take a]) (rl.eraseIdx k) := by
  have fe := flat_erase h
  have pm : ((rf ++ [r.drop a ++ r.take a]).flatten ++ (rl.eraseIdx k).flatten).Perm (rf.flatten ++ rl.flatten) := by
    rw [List.flatten_append, List.flatten_cons, List.flatten_nil, List.append_nil, List.append_assoc]
    exact ((((rot_perm r a).append_right _).trans fe).append_left _)
  refine ⟨fun q hq => ?_, fun q hq => p.cl q (List.mem_of_mem_eraseIdx hq), (List.Perm.nodup_iff pm).mpr p.nd, fun x h1 h2 n1 n2 => ?_⟩
  · rcases List.mem_append.mp hq with z | z
    · exact p.cf q z
    · rw [List.mem_singleton.mp z]
      exact rot_cyc (p.cl r (List.mem_of_getElem? h)) ha
  · have : x ∉ rf.flatten ++ rl.flatten := fun z => by
      rcases List.mem_append.mp ((List.Perm.mem_iff pm).mpr z) with z | z
      · exact n1 z
      · exact n2 z
    exact p.rest x h1 h2 (fun z => this (List.mem_append_left _ z)) (fun z => this (List.mem_append_right _ z))
theorem Part.drop {n : Int} {xs : List Int} {rf rl : List (List Int)} (p : Part n xs rf rl) {k : Nat} {r : List Int} (h : rl[k]? = some r) (hr : r.length ≤ 1) : Part n xs rf (rl.eraseIdx k) := by
  have fe := flat_erase h
  obtain ⟨x, rfl, hx⟩ := one_fix (p.cl r (List.mem_of_getElem? h)) hr
  have pm : (x :: (rf.flatten ++ (rl.eraseIdx k).flatten)).Perm (rf.flatten ++ rl.flatten) :=
    (List.perm_middle.symm).trans (List.Perm.append_left _ fe)
  have nd := (List.Perm.nodup_iff pm).mpr p.nd
  refine ⟨p.cf, fun q hq => p.cl q (List.mem_of_mem_eraseIdx hq), (List.nodup_cons.mp nd).2, fun y h1 h2 n1 n2 => ?_⟩
  by_cases e : y = x
  · rw [e]; exact hx
  · refine p.rest y h1 h2 n1 fun z => ?_
    have := (List.Perm.mem_iff fe).mpr z
    rcases List.mem_append.mp this with z | z
    · exact e (List.mem_singleton.mp z)
    · exact n2 z
theorem nil_rnds (n : Int) : Rnds n (ivl 1 (n + 1)) [] := by
  refine ⟨fun r h => (by cases h), by simp, fun x h1 h2 _ => ?_⟩
  unfold ld
  rw [List.getD_eq_getElem?_getD, get_ivl (by omega)]
  show 1 + (((x - 1).toNat : Nat) : Int) = x
  omega
end Sw
namespace L2
open PySem PySem.Spec PyProof.Rows
mutual
inductive DT (H : Hp) (P : Addr → Prop) : V → PyData → Prop
  | non : DT H P .non .none
  | bl (b : Bool) : DT H P (.bl b) (.bool b)
  | int (i : Int) : DT H P (.int i) (.int i)
  | str (x : Str) : DT H P (.str x) (.str x)
  | lst {a : Addr} {vs : List V} {ds : List PyData} : H a = some (.lst vs) → P a → DTs H P vs ds → DT H P (.ref a) (.list ds)
  | tup {a : Addr} {vs : List V} {ds : List PyData} : H a = some (.tup vs) → P a → DTs H P vs ds → DT H P (.ref a) (.tuple ds)
inductive DTs (H : Hp) (P : Addr → Prop) : List V → List PyData → Prop
  | nil : DTs H P [] []
  | cons {v : V} {d : PyData} {vs : List V} {ds : List PyData} : DT H P v d → DTs H P vs ds → DTs H P (v :: vs) (d :: ds)
end
mutual
theorem DT.keep {H H' : Hp} {P : Addr → Prop} (k : Keep P H H') : ∀ {v : V} {d : PyData}, DT H P v d → DT H' P v d
  | _, _, .non => .non
  | _, _, .bl b => .bl b
  | _, _, .int i => .int i
  | _, _, .str x => .str x
  | _, _, .lst h p r => .lst (k _ _ p h) p (r.keep k)
  | _, _, .tup h p r => .tup (k _ _ p h) p (r.keep k)
theorem DTs.keep {H H' : Hp} {P : Addr → Prop} (k : Keep P H H') : ∀ {vs : List V} {ds : List PyData}, DTs H P vs ds → DTs H' P vs ds
  | _, _, .nil => .nil
  | _, _, .cons h r => .cons (h.keep k) (r.keep k)
end
mutual
theorem DT.dat {K : PySem.W.Frag} {H : Hp} {P : Addr → Prop} : ∀ {v : V} {d : PyData}, DT H P v d → Dat K H P v d
  | _, _, .non => .non
  | _, _, .bl b => .bl b
  | _, _, .int i => .int i
  | _, _, .str x => .str x
  | _, _, .lst h p r => .lst (SqL.of h) p r.dat
  | _, _, .tup h p r => .tup (SqT.of h) p r.dat
theorem DTs.dat {K : PySem.W.Frag} {H : Hp} {P : Addr → Prop} : ∀ {vs : List V} {ds : List PyData}, DTs H P vs ds → DatAll K H P vs ds
  | _, _, .nil => .nil
  | _, _, .cons h r => .cons h.dat r.dat
end
theorem DTs.length {H : Hp} {P : Addr → Prop} : ∀ {vs : List V} {ds : List PyData}, DTs H P vs ds → vs.length = ds.length
  | _, _, .nil => rfl
  | _, _, .cons h r => by rw [List.length_cons, List.length_cons, r.length]
theorem DTs.append {H : Hp} {P : Addr → Prop} : ∀ {vs ws : List V} {ds es : List PyData}, DTs H P vs ds → DTs H P ws es → DTs H P (vs ++ ws) (ds ++ es)
  | _, _, _, _, .nil, y => y
  | _, _, _, _, .cons h x, y => .cons h (x.append y)
theorem DTs.take {H : Hp} {P : Addr → Prop} : ∀ {vs : List V} {ds : List PyData} (k : Nat), DTs H P vs ds → DTs H P (vs.take k) (ds.take k)
  | _, _, 0, _ => .nil
  | _, _, k + 1, .nil => .nil
  | _, _, k + 1, .cons h x => .cons h (x.take k)
theorem DTs.drop {H : Hp} {P : Addr → Prop} : ∀ {vs : List V} {ds : List PyData} (k : Nat), DTs H P vs ds → DTs H P (vs.drop k) (ds.drop k)
  | _, _, 0, x => x
  | _, _, k + 1, .nil => .nil
  | _, _, k + 1, .cons h x => x.drop k
theorem DTs.get {H : Hp} {P : Addr → Prop} : ∀ {vs : List V} {ds : List PyData} {i : Nat} {x : V}, DTs H P vs ds → vs[i]? = some x → ∃ d, ds[i]? = some d ∧ DT H P x d
  | _, _, _, _, .nil, e => by simp at e
  | _, _, 0, _, .cons h x, e => by simp at e; subst e; exact ⟨_, rfl, h⟩
  | _, _, i + 1, _, .cons h x, e => by
    obtain ⟨d, e1, e2⟩ := x.get (i := i) (by simpa using e)
    exact ⟨d, by simpa using e1, e2⟩
def tyD : PyData → String
  | .none => "NoneType"
  | .bool _ => "bool"
  | .int _ => "int"
  | .str _ => "str"
  | .list _ => "list"
  | .tuple _ => "tuple"
  | .dict _ => "dict"
theorem DT.ty {K : PySem.W.Frag} {H : Hp} {P : Addr → Prop} {v : V} {d : PyData} (h : DT H P v d) : TyOf K H v (.type (tyD d)) := by
  cases h with
  | non => exact .non
  | bl b => exact .bl b
  | int i => exact .int i
  | str x => exact .str x
  | lst h p r => exact .lst h
  | tup h p r => exact .tup h
def isT : PyData → Bool
  | .tuple _ => true
  | _ => false
theorem kit_tuple (K : PySem.W.Frag) {H : Hp} {P : Addr → Prop} {v : V} {d : PyData} (h : DT H P v d) : PySem.W.kitOne K (.type (tyD d)) (.type "tuple") = some (isT d) := by
  cases h with
  | non => exact kit_type K (show kitB "NoneType" "tuple" = some false by decide +kernel)
  | bl b => exact kit_type K (show kitB "bool" "tuple" = some false by decide +kernel)
  | int i => exact kit_type K (show kitB "int" "tuple" = some false by decide +kernel)
  | str x => exact kit_type K (show kitB "str" "tuple" = some false by decide +kernel)
  | lst h p r => exact kit_type K (show kitB "list" "tuple" = some false by decide +kernel)
  | tup h p r => exact kit_type K (show kitB "tuple" "tuple" = some true by decide +kernel)
structure Fit (B : Nat) (d : PyData) : Prop where
  sh : d.showable = true
  nd : d.hasDict = false
  dp : d.depth ≤ 20
  ls : PyData.leavesShort 40 d = true
  wt : d.weight ≤ B
theorem Fit.len {B : Nat} {d : PyData} (f : Fit B d) (hB : B ≤ 100000) : d.shown.length ≤ sizeLine := by
  have := PyData.shown_le 40 (by decide) d f.ls
  have big : (10000000 : Nat) ≤ sizeLine := by decide
  have := f.wt
  omega
structure Fits (B k : Nat) (ds : List PyData) : Prop where
  sh : PyData.showableAll ds = true
  nd : PyData.hasDictAll ds = false
  dp : PyData.depthAll ds ≤ k
  ls : PyData.leavesShortAll 40 ds = true
  wt : PyData.weightAll ds ≤ B * ds.length
end L2
namespace L2
open PySem PySem.Spec PyProof.Rows
def Lone (h : Heap) (e : Addr) : Prop := ∃ o vs, h.get? e = some o ∧ o.data = .fields vs ∧ vs[2]? = some .none
end L2
namespace L2
open PySem PySem.Spec PyProof.Rows
theorem ObjOk.here {P : Program} {w : World} {H : Hp} {h : Heap} {a : Addr} {o : HO} (x : ObjOk P w H h a o) : ∃ ob, h.get? a = some ob := by
  cases o with
  | lst xs => obtain ⟨_, _, _, _, e⟩ := x; exact ⟨_, e⟩
  | tup xs => obtain ⟨_, _, _, ob, e, _⟩ := x; exact ⟨_, e⟩
  | dK kvs => obtain ⟨_, _, _, _, o, _, _, e, _⟩ := x; exact ⟨_, e⟩
  | dT kvs => obtain ⟨_, _, _, _, o, _, _, e, _⟩ := x; exact ⟨_, e⟩
  | set S n => obtain ⟨o, _, _, _, e, _⟩ := x; exact ⟨_, e⟩
  | ins C dx fs => obtain ⟨_, _, _, e, _⟩ := x; exact ⟨_, e⟩
  | own y => obtain ⟨_, e⟩ := x; exact ⟨_, e⟩
  | xd fs => obtain ⟨_, ⟨_, _, _, e, _⟩, _⟩ := x; exact ⟨_, e⟩
  | rng lo hi => obtain ⟨_, _, _, e⟩ := x; exact ⟨_, e⟩
  | frz ob u => obtain ⟨e, _⟩ := x; exact ⟨_, e⟩
  | tbl ps => exact ⟨_, (show h.get? a = some _ from x)⟩
  | met f y => exact ⟨_, (show h.get? a = some _ from x)⟩
  | ext φ => obtain ⟨_, ⟨_, e⟩, _⟩ := x; exact ⟨_, e⟩
structure Fly (P : Program) (w : World) (fr : List Env) (H : Hp) (h : Heap) (e : Addr) (cls a0 : Value) (B : Heap) (H' : Hp) (h' : Heap) : Prop where
  un : Un (frs fr) [] H H' h h'
  hok : HOk P w H' h'
  fl : Heap.FlyingW B fr e cls a0 h'
  old : ∀ b o o', h.get? b = some o → b ∉ frs fr → h'.get? b = some o' → B.get? b = some o'
  trk : ∀ b u o', H' b = some u → h'.get? b = some o' → B.get? b = some o'
  frf : ∀ b ∈ frs fr, H' b = none
  lo : Lone h' e
def CX1 (P : Program) (w : World) : CXT := fun fr H s E ev s' => ∃ (e : Addr) (cls a0 : Value) (B : Heap) (H' : Hp), ev = .ref e ∧ s'.os = s.os ∧ AllBare s'.gens ∧ Fly P w fr H s.heap e cls a0 B H' s'.heap ∧ E cls none H'
end L2
namespace L2
open PySem PySem.Spec PyProof.Rows PySem.W PySem.Builtin PySem.Builtin.ObjectAttr PySem.Builtin.Getset_descriptor
structure ExcI (K : Frag) (C : Addr) : Prop where
  ga : findIn K (.ref C) "__getattribute__" = some (some (.builtin "BaseException.__getattribute__"))
  gt : findIn K (.ref C) "__getattr__" = some none
  fd : findIn K (.ref C) "__class__" = some (some (.builtin "object.__class__"))
  sp : specialIn K (.builtin "object.__class__") "__get__" = some (some (.builtin "getset_descriptor.__get__"))
  tk : takesIn K (.builtin "object.__class__") = some true
  mo : mroIn K C (.type "object") = some true
  mb : mroIn K C (.type "BaseException") = some true
  cl : (clsIn K C).isSome = true
end L2
namespace L2
open PySem PySem.Spec PyProof.Rows PySem.W
structure ExcM (K : Frag) (C D : Addr) (b : Bool) : Prop where
  ty : typeIn K (.ref D) = some (.type "type")
  cd : (clsIn K D).isSome = true
  mb : mroIn K D (.type "BaseException") = some true
  mc : mroIn K C (.ref D) = some b
def Held (X : Cx) (pins : List (Addr × Obj)) (σ : St) (H : Hp) (s : Shared) (e : Addr) (cls : Value) : Prop :=
  ∃ (H₁ : Hp) (s₁ : Shared) (B : Heap) (a0 : Value), Inv X pins σ H₁ s₁ ∧ s.os = s₁.os ∧ AllBare s.gens ∧ Fly X.prog X.w X.stack H₁ s₁.heap e cls a0 B H s.heap
section
variable {X : Cx} {pins : List (Addr × Obj)} {σ : St} {H : Hp} {s : Shared} {e : Addr} {cls : Value}
theorem Held.free (h : Held X pins σ H s e cls) : H e = none := by
  obtain ⟨H₁, s₁, B, a0, I, os, bare, F⟩ := h
  cases q : H e with
  | none => rfl
  | some u =>
    obtain ⟨o, ho⟩ := (F.hok e u q).here
    have := F.trk e u o q ho
    rw [F.fl.2.1] at this; cases this
end
abbrev TH := Ends → St → Value → Addr → Hp → Prop
end L2
namespace L2
open PySem PySem.Spec PyProof.Rows
structure RoomH (k : Nat) (A : Around) : Prop where
  gd : A.guards = some []
  dp : A.depth + 3 * k + 5 < recursionLimit
  un : A.units + 16 * k + 200 < cLine
structure FnOkH (P : Program) (w : World) (K : PySem.W.Frag) (mg : Str → Option Value) (base : Heap) (k : Nat) (f : Addr) (fd : FuncData) (ps : List Str) (sp : Sp) : Prop where
  len : ∀ vs H Q E, sp vs H Q E → vs.length = ps.length
  run : ∀ (A : Around) (outer : List Env) (s : Shared) (H : Hp) (args : Args) (us : List Value) (vs : List V) (Q : VK) (E : XK), RoomH k A → Env0 P w K mg base A outer s H → BindsTo s fd args (ps.zip us) → Vals vs us → sp vs H Q E →
    codeAny (model P w) A (.call (.ref f) args) (CR CX0 outer P w H s Q E) s
structure FnAtH (P : Program) (w : World) (K : PySem.W.Frag) (mg : Str → Option Value) (base : Heap) (x : Str) (k : Nat) (ps : List Str) (sp : Sp) : Prop where
  ex : ∃ (f : Addr) (fd : FuncData), FnOkH P w K mg base k f fd ps sp ∧ mg x = some (.ref f) ∧ PySem.W.keepIn K (.ref f) = true ∧ Binds K fd ps []
structure FnAtX (P : Program) (w : World) (K : PySem.W.Frag) (mg : Str → Option Value) (base : Heap) (x : Str) (k : Nat) (ps : List Str) (sp : Sp) : Prop where
  ex : ∃ (f : Addr) (fd : FuncData), FnOk P w K mg base (CX1 P w) k f fd ps sp ∧ mg x = some (.ref f) ∧ PySem.W.keepIn K (.ref f) = true ∧ Binds K fd ps []
end L2
namespace L2
open PySem PySem.Spec PyProof.Rows PySem.SeqAt
def Tp (H : Hp) (t : Addr) (xs : List V) : Prop := ∃ o : Obj, H t = some (.frz o (.tup xs)) ∧ o.cls = .type "tuple" ∧ o.dict = none
theorem Tp.keep {H H' : Hp} {t : Addr} {xs : List V} (h : Tp H t xs) (k : Same H H') : Tp H' t xs := let ⟨o, e, r⟩ := h; ⟨o, k _ _ e, r⟩
end L2
namespace L2
open PySem PySem.Spec PyProof.Rows PySem.SeqAt
section
variable {X : Cx} {K : PySem.W.Frag}
def rInsert : V → List V → Hp → VK → Prop := fun x vs H Q => ∃ (l : Addr) (xs : List V) (i : Int) (y : V), x = .ref l ∧ vs = [.int i, y] ∧ H l = some (.lst xs) ∧ 0 ≤ i ∧ i ≤ xs.length ∧ xs.length ≤ 1000000 ∧ Q .non (upd H l (.lst (xs.take i.toNat ++ y :: xs.drop i.toNat)))
theorem ins_eq (its : List Value) (k : Nat) (y : Value) : (its.toArray.extract 0 k).push y ++ its.toArray.extract k = (its.take k ++ y :: its.drop k).toArray := by
  apply Array.toList_inj.mp
  simp [List.take_of_length_le]
theorem mt_insert : MtR X "list.insert" rInsert := by
  intro pins s σ H x vs v us Q I rx rv h
  obtain ⟨l, xs, i, y, rfl, rfl, hH, h0, h1, hz, q⟩ := h
  cases rx
  obtain ⟨u, u', rfl, ⟨t, rfl⟩, ru⟩ := vals2 rv
  obtain ⟨z, its, n, r, hl, e⟩ := I.lstM hH
  have big : (10000000 : Nat) ≤ sizeLine := by decide
  refine call_meets F.slot_list_insert ⟨_, e, rfl⟩ F.entry_list_insert (F.args_list_insert_3 _ _ _) (PySem.AutoSeq1.list_insert_list_int_val_1 l its.toArray n i t u' (by rw [fitsIndex_both (by omega) (by omega)]; simp) (by rw [List.size_toArray]; omega)) ⟨e, ?_⟩
  refine ⟨.non, _, I.lset (its' := its.take i.toNat ++ u' :: its.drop i.toNat) hH e ?_ ((r.take _).append (.cons ru (r.drop _))) ?_, rfl, q⟩
  · dsimp only
    rw [if_neg (by omega)]
    have : min i.toNat its.toArray.size = i.toNat := by rw [List.size_toArray]; omega
    rw [this]
    exact ins_eq its _ u'
  · rw [List.length_append, List.length_take, List.length_cons, List.length_drop]
    omega
end
end L2
namespace L2
open PySem PySem.Spec PyProof.Rows PySem.SeqAt
theorem st_con {c k p es env} : starEach (.Constant c k p :: es) env = (false, eval (.Constant c k p) env) :: starEach es env := rfl
theorem st_bin {a o b p es env} : starEach (.BinOp a o b p :: es) env = (false, eval (.BinOp a o b p) env) :: starEach es env := rfl
end L2
namespace Sw
open PySem L2
def top (i : Nat) : Stmt := PySem.Challenge.pw_swapstars_k20_all_least_rows.main.body.getD i (.Pass ⟨0, 0, 0, 0⟩)
theorem b01 (b : Bool) : -(2 ^ 64) < (if b = true then (1 : Int) else 0) ∧ (if b = true then (1 : Int) else 0) < 2 ^ 64 ∧ 0 ≤ (if b = true then (1 : Int) else 0) := by cases b <;> decide
structure Purse (H : Hp) (p : Addr) (c : Nat) : Prop where
  ex : ∃ (a b d : Int), H p = some (.lst [.int a, .int b, .int d]) ∧ 0 ≤ a ∧ 0 ≤ b ∧ b < 2147483647 ∧ 0 ≤ d ∧ d ≤ c ∧ c ≤ 100000
def spPurse (K : PySem.W.Frag) : Sp := fun vs H Q _ => ∃ (a : Addr) (ns : List Int) (i : Int), vs = [.ref a, .int i] ∧ SqL K H a (ns.map V.int) ∧ 0 ≤ i ∧ i ≤ 1000 ∧ ∀ p H', H p = none → Purse H' p 0 → Same H H' → Q (.ref p) H'
def spTake : Sp := fun vs H Q _ => ∃ (p : Addr) (c : Nat) (m : Int), vs = [.ref p, .int m] ∧ Purse H p c ∧ c < 100000 ∧ 0 < m ∧ m < 2 ^ 200 ∧ ∀ r H', 0 ≤ r → r < m → Purse H' p (c + 1) → SameX p H H' → Q (.int r) H'
section
variable {P : Program} {w : World} {K : PySem.W.Frag} {mg : Str → Option Value} {base : Heap}
theorem sc__law_take : FnScope ["_law_purse_here", "_law_many_here", "_law_turn", "_law_one", "_law_other", "_law_digit"] ["_law_purse_here", "_law_many_here"] (defScope (top 16)) := ⟨rfl, rfl, rfl, by decide +kernel, rfl, by decide +kernel, by decide +kernel⟩
theorem ok_take {f : Addr} {fd : FuncData} (F : Fun K "_law_take" "_law_take" (top 16) f fd) : FnOk P w K mg base CX0 1 f fd ["_law_purse_here", "_law_many_here"] spTake := by
  refine F.ok sc__law_take (fun vs H Q E h => ?_) (fun cdv A outer s H vs Q E hr h => ?_)
  · obtain ⟨p, c, m, rfl, _⟩ := h
    rfl
  · obtain ⟨p, c, m, rfl, ⟨a, b, d, hp, ha, hb, hb2, hd, hdc, hc0⟩, hc, hm, hm2, k⟩ := h
    refine ⟨_, (pss_cons (ps_if (pt_cmpR op_gt (pe_ix (ix_listK (K := K) rfl) (pv 0) pe_int (fun _ _ => rfl)) pe_int (nomark _)) (pss_cons (ps_set (i := 5) sc__law_take.nd rfl (Or.inl rfl) (pe_op op_mod (pe_ix (ix_listK (K := K) rfl) (pv 0) pe_int (fun _ _ => rfl)) (pv 1)))
      (pss_cons (ps_asg (pe_op op_fdivL (pe_ix (ix_listK (K := K) rfl) (pv 0) pe_int (fun _ _ => rfl)) (pv 1)) (pg_sub (pv 0) pe_int set_list))
      (pss_one (ps_ret (pv 5))))) pss_nil)
      (pss_cons (ps_asg (pe_op op_add (pe_ix (ix_listK (K := K) rfl) (pv 0) pe_int (fun _ _ => rfl)) pe_int) (pg_sub (pv 0) pe_int set_list))
      (pss_cons (ps_set (i := 2) sc__law_take.nd rfl (Or.inl rfl) (pe_ix (ix_listK (K := K) rfl) (pv 0) pe_int (fun _ _ => rfl)))
      (pss_cons (ps_set (i := 3) sc__law_take.nd rfl (Or.inl rfl) (pe_op op_mod (pe_op op_pow (pe_op op_add (pe_op op_add (pe_ix (ix_listK (K := K) rfl) (pv 0) pe_int (fun _ _ => rfl)) (pe_op op_mul (pe_op op_mul pe_int (pv 2)) (pv 2))) pe_int) pe_int) pe_int))
      (pss_cons (ps_set (i := 4) sc__law_take.nd rfl (Or.inl rfl) (pe_op op_mod (pe_op op_pow (pe_op op_add (pe_op op_mul (pv 3) (pe_op op_add (pe_op op_mul pe_int (pv 2)) pe_int)) (pv 2)) pe_int) pe_int))
      (pss_one (ps_ret (pe_op op_mod (pe_op op_fdivL (pe_op op_add (pe_op op_mul (pv 3) pe_int) (pv 4)) pe_int) (pv 1))))))))), ?_⟩
    refine ⟨_, rfl, p, _, _, _, rfl, rfl, SqL.of hp, rfl, _, _, rfl, rfl, _, rfl, ?_⟩
    refine ite2 (fun _ => ?_) (fun _ => ?_)
    · refine ⟨_, rfl, p, _, _, _, rfl, rfl, SqL.of hp, rfl, _, rfl, _, _, rfl, rfl, hm, ?_⟩
      refine ⟨_, rfl, p, _, _, _, rfl, rfl, SqL.of hp, rfl, _, rfl, _, _, rfl, rfl, ⟨hm, hm2⟩, _, rfl, p, _, _, 0, rfl, rfl, hp, rfl, ?_⟩
      refine ⟨_, rfl, ?_⟩
      exact k _ _ (Int.emod_nonneg _ (by omega)) (Int.emod_lt_of_pos _ hm) ⟨_, _, _, upd_same, Int.ediv_nonneg ha (by omega), hb, hb2, hd, by omega, by omega⟩ SameX.upd
    · refine ⟨_, rfl, p, _, _, _, rfl, rfl, SqL.of hp, rfl, _, _, rfl, rfl, _, rfl, p, _, _, 2, rfl, rfl, hp, rfl, ?_⟩
      have h1 : upd H p (.lst [.int a, .int b, .int (d + 1)]) p = some (.lst [.int a, .int b, .int (d + 1)]) := upd_same
      refine ⟨_, rfl, p, _, _, _, rfl, rfl, SqL.of h1, rfl, ?_⟩
      have posM : (0 : Int) < 2147483647 := by decide
      have posN : (0 : Int) < 998244353 := by decide
      have t0 : 0 ≤ d + 1 := by omega
      have t1 : d + 1 ≤ 200000 := by omega
      have t2 : 0 ≤ 48271 * (d + 1) * (d + 1) := Int.mul_nonneg (by omega) t0
      have t3 : 48271 * (d + 1) * (d + 1) ≤ 48271 * 200000 * 200000 := Int.mul_le_mul (by omega) t1 t0 (by omega)
      refine ⟨_, rfl, p, _, _, _, rfl, rfl, SqL.of h1, rfl, _, rfl, _, _, rfl, rfl, .inl ⟨by omega, by omega⟩, _, rfl, _, _, rfl, rfl, .inr ⟨by omega, by omega⟩, _, _, rfl, rfl, _, _, rfl, rfl, _, _, rfl, rfl, ⟨by omega, by omega, by omega⟩, _, _, rfl, rfl, posM, ?_⟩
      have o0 : 0 ≤ ((b + 48271 * (d + 1) * (d + 1) + 1) ^ Int.toNat 5 % 2147483647) := Int.emod_nonneg _ (by decide)
      have o1 : ((b + 48271 * (d + 1) * (d + 1) + 1) ^ Int.toNat 5 % 2147483647) < 2147483647 := Int.emod_lt_of_pos _ (by decide)
      have u0 : 0 ≤ ((b + 48271 * (d + 1) * (d + 1) + 1) ^ Int.toNat 5 % 2147483647) * (2 * (d + 1) + 30011) := Int.mul_nonneg o0 (by omega)
      have u1 : ((b + 48271 * (d + 1) * (d + 1) + 1) ^ Int.toNat 5 % 2147483647) * (2 * (d + 1) + 30011) ≤ 2147483647 * 430011 := Int.mul_le_mul (by omega) (by omega) (by omega) (by omega)
      refine ⟨_, rfl, _, rfl, _, _, rfl, rfl, .inl ⟨by omega, by omega⟩, _, _, rfl, rfl, _, _, rfl, rfl, .inl ⟨by omega, by omega⟩, _, rfl, _, _, rfl, rfl, _, _, rfl, rfl, ⟨by omega, by omega, by omega⟩, _, _, rfl, rfl, posN, ?_⟩
      refine ⟨_, rfl, _, _, rfl, rfl, .inl ⟨by omega, by omega⟩, _, rfl, _, _, rfl, rfl, _, _, rfl, rfl, ⟨by decide, by decide⟩, _, rfl, _, _, rfl, rfl, hm, ?_⟩
      exact k _ _ (Int.emod_nonneg _ (by omega)) (Int.emod_lt_of_pos _ hm) ⟨_, _, _, h1, ha, hb, hb2, t0, by omega, by omega⟩ SameX.upd
structure TPurse (mg : Str → Option Value) : Prop where
  b_len : mg "len" = none
  b_abs : mg "abs" = none
  b_int : mg "int" = none
theorem sc__law_purse : FnScope ["_law_script", "_law_at", "_law_cell", "_law_far"] ["_law_script", "_law_at"] (defScope (top 15)) := ⟨rfl, rfl, rfl, by decide +kernel, rfl, by decide +kernel, by decide +kernel⟩
theorem ok_purse {f : Addr} {fd : FuncData} (F : Fun K "_law_purse" "_law_purse" (top 15) f fd) (T : TPurse mg) : FnOk P w K mg base CX0 1 f fd ["_law_script", "_law_at"] (spPurse K) := by
  refine F.ok sc__law_purse (fun vs H Q E h => ?_) (fun cdv A outer s H vs Q E hr h => ?_)
  · obtain ⟨a, ns, i, rfl, _⟩ := h
    rfl
  · obtain ⟨a, ns, i, rfl, hs, hi, hi2, k⟩ := h
    refine ⟨_, (pss_cons (ps_set (i := 2) sc__law_purse.nd rfl (Or.inl rfl) pe_int)
      (pss_cons (ps_if (pt_cmpR op_lt (pv 1) (pe_callB (call_lenK (K := K) rfl) rfl T.b_len (by decide +kernel) (pa_cons (pv 0) pa_nil)) (nomark _)) (pss_one (ps_set (i := 2) sc__law_purse.nd rfl (Or.inl rfl) (pe_ix (ix_listK (K := K) rfl) (pv 0) (pv 1) (fun _ _ => rfl)))) pss_nil)
      (pss_cons (ps_set (i := 3) sc__law_purse.nd rfl (Or.inl rfl) (pe_callB call_abs rfl T.b_abs (by decide +kernel) (pa_cons (pv 2) pa_nil)))
      (pss_one (ps_ret (pe_lst (@pa_cons _ _ _ _ _ (pe_op op_mul (pv 3) (pe_callTy call_int1 rfl T.b_int (by decide +kernel) (pa_cons (pe_cmpR op_ge (pv 3) (pe_op op_pow pe_int pe_int) (nomark _)) pa_nil))) (@pa_cons _ _ _ _ _ (pe_op op_mod (pe_op op_add (pe_op op_add (pe_op op_mod (pv 2) pe_int) (pe_op op_mul pe_int (pv 1))) pe_int) pe_int) (@pa_cons _ _ _ _ _ pe_int pa_nil st_con) st_bin) st_bin))))))), ?_⟩
    have posM : (0 : Int) < 2147483647 := by decide
    -- cell = 0; if at < len(script): cell = script[at]
    refine ⟨_, rfl, _, rfl, a, _, rfl, .inl hs, _, _, rfl, rfl, _, rfl, ?_⟩
    refine ite2 (fun hlt => ?_) (fun _ => ?_)
    · have hlt : i < ((ns.map V.int).length : Int) := of_decide_eq_true hlt
      rw [List.length_map] at hlt
      have hx : ∃ x, ns[i.toNat]? = some x := by
        rw [List.getElem?_eq_getElem (by omega)]
        exact ⟨_, rfl⟩
      obtain ⟨x, hx⟩ := hx
      have ha : atI (ns.map V.int) i = some (V.int x) := by
        have e : ((i.toNat : Nat) : Int) = i := Int.toNat_of_nonneg hi
        rw [← e]
        exact atI_nat (by rw [List.getElem?_map, hx]; rfl)
      refine ⟨_, rfl, _, rfl, a, _, _, _, rfl, rfl, hs, ha, ?_⟩
      refine ⟨_, rfl, x, rfl, ?_⟩
      refine ⟨_, rfl, _, rfl, _, _, rfl, rfl, ⟨by decide, by decide, by decide⟩, _, _, rfl, rfl, .inr ⟨_, rfl, _, _, rfl, rfl, .inr ⟨?b1, ?b2⟩, _, rfl, _, _, rfl, rfl, posM, _, rfl, _, _, rfl, rfl, .inl ⟨by decide, by decide⟩, _, _, rfl, rfl, _, _, rfl, rfl, _, _, rfl, rfl, posM, (by show 3 ≤ sizeLine; decide), fun p hp => ?_⟩⟩
      (case b1 => exact (b01 _).1)
      (case b2 => exact (b01 _).2.1)
      refine k p _ hp ⟨⟨_, _, _, upd_same, ?_, Int.emod_nonneg _ (by decide), Int.emod_lt_of_pos _ (by decide), Int.le_refl _, by decide, by decide⟩⟩ (Same.new hp)
      refine Int.mul_nonneg ?_ ?_
      · split <;> omega
      · exact (b01 _).2.2
    · refine ⟨_, rfl, 0, rfl, ?_⟩
      refine ⟨_, rfl, _, rfl, _, _, rfl, rfl, ⟨by decide, by decide, by decide⟩, _, _, rfl, rfl, .inr ⟨_, rfl, _, _, rfl, rfl, .inr ⟨?b1, ?b2⟩, _, rfl, _, _, rfl, rfl, posM, _, rfl, _, _, rfl, rfl, .inl ⟨by decide, by decide⟩, _, _, rfl, rfl, _, _, rfl, rfl, _, _, rfl, rfl, posM, (by show 3 ≤ sizeLine; decide), fun p hp => ?_⟩⟩
      (case b1 => exact (b01 _).1)
      (case b2 => exact (b01 _).2.1)
      refine k p _ hp ⟨⟨_, _, _, upd_same, ?_, Int.emod_nonneg _ (by decide), Int.emod_lt_of_pos _ (by decide), Int.le_refl _, by decide, by decide⟩⟩ (Same.new hp)
      refine Int.mul_nonneg ?_ ?_
      · split <;> omega
      · exact (b01 _).2.2
end
end Sw
namespace L2
open PySem
theorem call_list_ofK {X : Cx} {K : PySem.W.Frag} (h : X.K = K) : CallR X (.type "list") (fun xs H Q => ∃ p ys, xs = [.ref p] ∧ (SqL K H p ys ∨ SqT K H p ys) ∧ ∀ l, H l = none → Q (.ref l) (upd H l (.lst ys))) := by subst h; exact call_list_of
theorem call_tuple_ofK {X : Cx} {K : PySem.W.Frag} (h : X.K = K) : CallR X (.type "tuple") (fun xs H Q => ∃ p ys, xs = [.ref p] ∧ ((SqL K H p ys ∧ ∀ l, H l = none → Q (.ref l) (upd H l (.tup ys))) ∨ (SqT K H p ys ∧ Q (.ref p) H))) := by subst h; exact call_tuple_of
end L2
namespace Sw
open PySem L2
def spWholes (K : PySem.W.Frag) : Sp := fun vs H Q _ => ∃ (t : Addr) (ns : List Int), vs = [.ref t] ∧ H t = some (.tup (ns.map V.int)) ∧ ns.length ≤ 1000 ∧ ∀ H', Same H H' → Q (.bl true) H'
def spPlain : Sp := fun vs H Q _ => ∃ (n : Int), vs = [.int n] ∧ 0 ≤ n ∧ n ≤ 1000 ∧ ∀ t H', H t = none → H' t = some (.tup ((ivl 1 (n + 1)).map V.int)) → Same H H' → Q (.ref t) H'
def spEx : Sp := fun vs H Q _ => ∃ (t : Addr) (a b x : Int), vs = [.ref t, .int x] ∧ H t = some (.tup [.int a, .int b]) ∧ Q (.int (swp x (a, b))) H
def spLed : Sp := fun vs H Q _ => ∃ (n : Int) (l : Addr) (es : List V) (row : List (Int × Int)), vs = [.int n, .ref l] ∧ 0 ≤ n ∧ n ≤ 1000 ∧ H l = some (.lst es) ∧ Exs H es row ∧ Good n row ∧ ∀ t H', H t = none → H' t = some (.tup ((ledM n row).map V.int)) → Same H H' → Q (.ref t) H'
structure T1 (mg : Str → Option Value) (K : PySem.W.Frag) : Prop extends TPurse mg where
  b_all : mg "all" = none
  b_isinstance : mg "isinstance" = none
  b_bool : mg "bool" = none
  b_tuple : mg "tuple" = none
  b_list : mg "list" = none
  b_range : mg "range" = none
  k_ib : PySem.W.kitOne K (.type "int") (.type "bool") = some false
theorem take_succ_map {α β : Type} (f : α → β) {l : List α} {i : Nat} {x : α} (h : l[i]? = some x) : (l.take (i + 1)).map f = (l.take i).map f ++ [f x] := by
  rw [List.take_succ, h, List.map_append]; rfl
theorem go_take {row : List (Int × Int)} {i : Nat} {e : Int × Int} (h : row[i]? = some e) (x : Int) : go (row.take (i + 1)) x = swp (go (row.take i) x) e := by
  rw [List.take_succ, h, go_append]; rfl
theorem dict_swp (a b x : Int) (hab : a ≠ b) : (valV (mergeK [] [((Sum.inl a : Key), V.int b), (Sum.inl b, V.int a)]) (Sum.inl x)).getD (V.int x) = V.int (swp x (a, b)) := by
  show (valV (putK (putK [] (Sum.inl a : Key) (V.int b)) (Sum.inl b) (V.int a)) (Sum.inl x)).getD (V.int x) = V.int (swp x (a, b))
  rw [valV_put, valV_put, valV_nil]
  unfold swp
  have l : ∀ p q : Int, ((Sum.inl p : Key) = Sum.inl q) = (p = q) := fun p q => by simp
  simp only [l]
  by_cases h1 : x = b
  · have h2 : ¬ x = a := by omega
    simp [h1, h2]
    intro z; omega
  · by_cases h2 : x = a
    · simp [h1, h2, hab]
    · simp [h1, h2]
theorem Purse.mono {H : Hp} {p : Addr} {c c' : Nat} (h : Purse H p c) (a : c ≤ c') (b : c' ≤ 100000) : Purse H p c' := by
  obtain ⟨x, y, z, e, h1, h2, h3, h4, h5, h6⟩ := h.ex
  exact ⟨x, y, z, e, h1, h2, h3, h4, by omega, b⟩
theorem Purse.keep {H H' : Hp} {p : Addr} {c : Nat} (h : Purse H p c) (k : Same H H') : Purse H' p c := by
  obtain ⟨x, y, z, e, r⟩ := h.ex
  exact ⟨x, y, z, k _ _ e, r⟩
theorem Purse.at {H : Hp} {p : Addr} {c : Nat} (h : Purse H p c) : ∃ xs, H p = some (.lst xs) := by
  obtain ⟨x, y, z, e, r⟩ := h.ex
  exact ⟨_, e⟩
theorem Purse.upd {H : Hp} {p q : Addr} {c : Nat} {o : HO} (h : Purse H p c) (n : p ≠ q) : Purse (L2.upd H q o) p c := by
  obtain ⟨x, y, z, e, r⟩ := h.ex
  exact ⟨x, y, z, by rw [upd_ne n]; exact e, r⟩
theorem Purse.ne {H : Hp} {p q : Addr} {c : Nat} (h : Purse H p c) (n : H q = none) : p ≠ q := by
  obtain ⟨xs, e⟩ := h.at
  exact ne_of_none e n
theorem SameX.exs {p : Addr} {H H' : Hp} {c : Nat} (s : SameX p H H') (h : Purse H p c) {vs : List V} {r : List (Int × Int)} (x : Exs H vs r) : Exs H' vs r := by
  obtain ⟨xs, e⟩ := h.at
  exact x.keep (SameX.tups s e)
theorem SameX.put {p l : Addr} {H H' : Hp} {o : HO} (s : SameX p H H') (h : H l = none) : SameX p H (upd H' l o) := fun b o' hb e => by
  rw [upd_ne (ne_of_none e h)]
  exact s b o' hb e
theorem free_of {p l : Addr} {H H' : Hp} (s : SameX p H H') (n : p ≠ l) (h : H' l = none) : H l = none := by
  cases e : H l with
  | none => rfl
  | some o => rw [s l o n.symm e] at h; cases h
theorem eraseIdx_map {ls : List Int} : ∀ {k : Nat}, (ls.map V.int).eraseIdx k = (ls.eraseIdx k).map V.int := by
  induction ls with
  | nil => intro k; rfl
  | cons a t ih =>
    intro k
    cases k with
    | zero => rfl
    | succ k =>
      rw [List.map_cons, List.eraseIdx_cons_succ, List.eraseIdx_cons_succ, List.map_cons, ih]
theorem mem_int {ns : List Int} {i : Nat} {x : V} (h : (ns.map V.int)[i]? = some x) : ∃ z, x = .int z ∧ ns[i]? = some z := by
  rw [List.getElem?_map] at h
  cases e : ns[i]? with
  | none => rw [e] at h; cases h
  | some z => rw [e] at h; exact ⟨z, (Option.some.inj h).symm, rfl⟩
theorem at_int {ns : List Int} {i : Int} {z : Int} (h0 : 0 ≤ i) (h : ns[i.toNat]? = some z) : atI (ns.map V.int) i = some (V.int z) := by
  have e : ((i.toNat : Nat) : Int) = i := Int.toNat_of_nonneg h0
  rw [← e]
  exact atI_nat (by rw [List.getElem?_map, h]; rfl)
theorem get_lt {ns : List Int} {k : Nat} (h : k < ns.length) : ∃ z, ns[k]? = some z := ⟨_, List.getElem?_eq_getElem h⟩
theorem ixN_lt {n : Nat} {i : Int} (h0 : 0 ≤ i) (h : i < n) : ixN n i = some i.toNat := by
  unfold ixN
  rw [if_pos h0, if_pos h]
theorem map_get {ns : List Int} {k : Nat} {z : Int} (h : ns[k]? = some z) : (ns.map V.int)[k]? = some (V.int z) := by rw [List.getElem?_map, h]; rfl
def spOrder : Sp := fun vs H Q _ => ∃ (p : Addr) (c : Nat) (n : Int), vs = [.ref p, .int n] ∧ Purse H p c ∧ c ≤ 90000 ∧ 1 ≤ n ∧ n ≤ 100 ∧
  ∀ t xs H', H t = none → H' t = some (.tup (xs.map V.int)) → Ord n xs → Purse H' p (c + 300) → SameX p H H' → Q (.ref t) H'
inductive Lsts (H : Hp) : List V → List (List Int) → Prop
  | nil : Lsts H [] []
  | cons {a : Addr} {ns : List Int} {vs : List V} {r : List (List Int)} : H a = some (.lst (ns.map V.int)) → Lsts H vs r → Lsts H (.ref a :: vs) (ns :: r)
theorem Lsts.length {H : Hp} : ∀ {vs : List V} {r : List (List Int)}, Lsts H vs r → vs.length = r.length
  | _, _, .nil => rfl
  | _, _, .cons _ x => by rw [List.length_cons, List.length_cons, x.length]
theorem Lsts.keep {H H' : Hp} (k : Same H H') : ∀ {vs : List V} {r : List (List Int)}, Lsts H vs r → Lsts H' vs r
  | _, _, .nil => .nil
  | _, _, .cons h x => .cons (k _ _ h) (x.keep k)
theorem Lsts.append {H : Hp} : ∀ {vs ws : List V} {r q : List (List Int)}, Lsts H vs r → Lsts H ws q → Lsts H (vs ++ ws) (r ++ q)
  | _, _, _, _, .nil, y => y
  | _, _, _, _, .cons h x, y => .cons h (x.append y)
theorem Lsts.snoc {H : Hp} {vs : List V} {r : List (List Int)} {a : Addr} {ns : List Int} (x : Lsts H vs r) (h : H a = some (.lst (ns.map V.int))) : Lsts H (vs ++ [.ref a]) (r ++ [ns]) := x.append (.cons h .nil)
theorem Lsts.get {H : Hp} : ∀ {vs : List V} {r : List (List Int)} {i : Nat} {x : V}, Lsts H vs r → vs[i]? = some x → ∃ a ns, x = .ref a ∧ H a = some (.lst (ns.map V.int)) ∧ r[i]? = some ns
  | _, _, _, _, .nil, e => by simp at e
  | _, _, 0, _, .cons h x, e => by simp at e; subst e; exact ⟨_, _, rfl, h, rfl⟩
  | _, _, i + 1, _, .cons h x, e => by
    obtain ⟨t, a, e1, e2, e3⟩ := x.get (i := i) (by simpa using e)
    exact ⟨t, a, e1, e2, by simpa using e3⟩
theorem Lsts.mem {H : Hp} {vs : List V} {r : List (List Int)} (x : Lsts H vs r) {a : Addr} (h : V.ref a ∈ vs) : ∃ ns, H a = some (.lst ns) := by
  obtain ⟨i, hi, e⟩ := List.mem_iff_getElem.mp h
  obtain ⟨b, ns, e1, e2, _⟩ := x.get (i := i) (by rw [List.getElem?_eq_getElem hi, e])
  cases e1
  exact ⟨_, e2⟩
theorem Lsts.off {H : Hp} {a : Addr} {o : HO} : ∀ {vs : List V} {r : List (List Int)}, Lsts H vs r → V.ref a ∉ vs → Lsts (upd H a o) vs r
  | _, _, .nil, _ => .nil
  | _, _, .cons (a := b) h x, n => by
    refine .cons ?_ (x.off fun z => n (List.mem_cons_of_mem _ z))
    rw [upd_ne (by intro z; subst z; exact n List.mem_cons_self)]
    exact h
def Fresh (H : Hp) (vs : List V) : Prop := vs.Nodup ∧ ∀ v ∈ vs, ∃ a, v = .ref a ∧ H a = none
theorem Fresh.nil {H : Hp} : Fresh H [] := ⟨List.nodup_nil, fun v h => by cases h⟩
theorem Fresh.snoc {H H' : Hp} {vs : List V} {r : List (List Int)} {a : Addr} (f : Fresh H vs) (x : Lsts H' vs r) (h' : H' a = none) (h : H a = none) : Fresh H (vs ++ [.ref a]) := by
  refine ⟨List.nodup_append.mpr ⟨f.1, by simp, ?_⟩, fun v hv => ?_⟩
  · intro y hy z hz e
    rw [List.mem_singleton.mp hz] at e
    subst e
    obtain ⟨ns, e⟩ := x.mem hy
    rw [h'] at e
    cases e
  · rcases List.mem_append.mp hv with z | z
    · exact f.2 v z
    · exact ⟨a, List.mem_singleton.mp z, h⟩
theorem Fresh.sub {H : Hp} {vs ws : List V} (f : Fresh H vs) (s : ws.Sublist vs) : Fresh H ws := ⟨f.1.sublist s, fun v h => f.2 v (s.subset h)⟩
def spRf : Sp := fun vs H Q _ => ∃ (t : Addr) (n x : Int) (xs : List Int), vs = [.ref t, .int x] ∧ H t = some (.tup (xs.map V.int)) ∧ Ord n xs ∧ n ≤ 1000 ∧ 1 ≤ x ∧ x ≤ n ∧ ∀ l H', H l = none → H' l = some (.lst ((orb xs x).map V.int)) → Same H H' → Q (.ref l) H'
def spRounds : Sp := fun vs H Q _ => ∃ (t : Addr) (n : Int) (xs : List Int), vs = [.ref t] ∧ H t = some (.tup (xs.map V.int)) ∧ Ord n xs ∧ n ≤ 1000 ∧ ∀ l ws H', H l = none → H' l = some (.lst ws) → Lsts H' ws (rndM n xs) → Fresh H ws → V.ref l ∉ ws → Same H H' → Q (.ref l) H'
theorem Rise.at {m : Int} {r : List (Int × Int)} (h : Rise m r) : ∀ {i : Nat} {a b : Int}, r[i]? = some (a, b) → 1 ≤ a ∧ a < b ∧ b ≤ m ∧ ∀ j c d, j < i → r[j]? = some (c, d) → d < b := by
  induction h with
  | nil => intro i a b e; simp at e
  | @snoc m x y r h1 h2 h3 h4 ih =>
    intro i a b e
    by_cases hi : i < r.length
    · rw [List.getElem?_append_left hi] at e
      obtain ⟨e1, e2, e3, e4⟩ := ih e
      refine ⟨e1, e2, by omega, fun j c d hj ej => ?_⟩
      rw [List.getElem?_append_left (by omega)] at ej
      exact e4 j c d hj ej
    · have hi2 : i = r.length := by
        obtain ⟨z, _⟩ := List.getElem?_eq_some_iff.mp e
        rw [List.length_append, List.length_singleton] at z
        omega
      subst hi2
      rw [List.getElem?_append_right (Nat.le_refl _), Nat.sub_self] at e
      have e : (x, y) = (a, b) := by simpa using e
      cases e
      refine ⟨h2, h3, h4, fun j c d hj ej => ?_⟩
      rw [List.getElem?_append_left hj] at ej
      have := (ih ej).2.2.1
      omega
theorem iteP {A B : Prop} {b : Bool} (h : b = true) (x : A) : if b = true then A else B := by rw [if_pos h]; exact x
theorem iteE {A B : Prop} {b : Bool} (h : b = false) (x : B) : if b = true then A else B := by rw [h, if_neg Bool.false_ne_true]; exact x
theorem Lsts.stay {H H' : Hp} : ∀ {vs : List V} {r : List (List Int)}, Lsts H vs r → (∀ {b : Addr} {zs : List V}, V.ref b ∈ vs → H b = some (.lst zs) → H' b = some (.lst zs)) → Lsts H' vs r
  | _, _, .nil, _ => .nil
  | _, _, .cons h x, k => .cons (k List.mem_cons_self h) (x.stay fun hb e => k (List.mem_cons_of_mem _ hb) e)
theorem Lsts.eraseIdx {H : Hp} : ∀ {vs : List V} {r : List (List Int)} (k : Nat), Lsts H vs r → Lsts H (vs.eraseIdx k) (r.eraseIdx k)
  | _, _, _, .nil => .nil
  | _, _, 0, .cons h x => x
  | _, _, k + 1, .cons h x => .cons h (x.eraseIdx k)
theorem rnd_len {n : Int} {xs : List Int} (h : n ≤ 50) : (rndM n xs).length ≤ 50 := by
  unfold rndM
  rw [List.length_map]
  have := List.length_filter_le (least xs) (ivl 1 (n + 1))
  rw [ivl_length] at this
  omega
theorem rnd_each {n : Int} {xs r : List Int} (o : Ord n xs) (h : n ≤ 50) (m : r ∈ rndM n xs) : r.length ≤ 50 := by
  unfold rndM at m
  obtain ⟨x, hx, rfl⟩ := List.mem_map.mp m
  have hx := mem_ivl.mp (List.mem_filter.mp hx).1
  rw [orb_length]
  have := per_le o hx.1 (by omega)
  omega
def spLaw (K : PySem.W.Frag) : Sp := fun vs H Q _ => ∃ (a : Addr) (ns : List Int), vs = [.ref a] ∧ SqL K H a (ns.map V.int) ∧ ns.length ≤ 63 ∧ ∀ H', Q (.bl true) H'
theorem Same.of {p : Addr} {H0 H H' : Hp} (a : Same H0 H) (n : H0 p = none) (b : SameX p H H') : Same H0 H' := fun c o e => b c o (ne_of_none e n) (a c o e)
theorem add_at {x y z : Int} {H : Hp} {Q : VK} (h : x + y = z) (q : Q (.int z) H) : rI0 (fun i j => .int (i + j)) (.int x) (.int y) H Q := by subst h; exact ⟨_, _, rfl, rfl, q⟩
theorem Same.put {l : Addr} {H H' : Hp} {o : HO} (s : Same H H') (h : H l = none) : Same H (upd H' l o) := fun b o' e => by
  rw [upd_ne (ne_of_none e h)]
  exact s b o' e
end Sw
namespace Sw
open PySem L2
structure TR0 (P : Program) (w : World) (K : PySem.W.Frag) (mg : Str → Option Value) (base : Heap) : Prop extends T1 mg K where
  b_min : mg "min" = none
  f_round_from : FnAt P w K mg base "round_from" 1 ["order", "first"] spRf
section
variable {P : Program} {w : World} {K : PySem.W.Frag} {mg : Str → Option Value} {base : Heap}
theorem sc_round_from : FnScope ["order", "first", "found", "thing"] ["order", "first"] (defScope (top 6)) := ⟨rfl, rfl, rfl, by decide +kernel, rfl, by decide +kernel, by decide +kernel⟩
theorem ok_rf {f : Addr} {fd : FuncData} (F : Fun K "round_from" "round_from" (top 6) f fd) : FnOk P w K mg base CX0 1 f fd ["order", "first"] spRf := by
  refine F.ok sc_round_from (fun vs H Q E h => ?_) (fun cdv A outer s H vs Q E hr h => ?_)
  · obtain ⟨t, n, x, xs, rfl, _⟩ := h
    rfl
  · obtain ⟨t, n, x, xs, rfl, ht, o, hn, x1, x2, k⟩ := h
    refine ⟨_, (pss_cons (ps_set (i := 2) sc_round_from.nd rfl (Or.inl rfl) (pe_lst (pa_cons (pv 1) pa_nil)))
      (pss_cons (ps_set (i := 3) sc_round_from.nd rfl (Or.inl rfl) (pe_ix (ix_tupK (K := K) rfl) (pv 0) (pe_op op_sub (pv 1) pe_int) (fun _ _ => rfl)))
      (pss_cons (ps_while PassesOwn.never (pt_cmpR op_ne (pv 3) (pv 1) (nomark _)) (pss_cons (ps_expr (pe_bmK (K := K) rfl PySem.F.plainAttrs_list PySem.F.slot_list_append PySem.F.type_list_append mt_append (pv 2) (pa_cons (pv 3) pa_nil)))
      (pss_one (ps_set (i := 3) sc_round_from.nd rfl (Or.inl rfl) (pe_ix (ix_tupK (K := K) rfl) (pv 0) (pe_op op_sub (pv 3) pe_int) (fun _ _ => rfl))))))
      (pss_one (ps_ret (pv 2)))))), ?_⟩
    have ol := o.length
    have big : (100000 : Nat) ≤ sizeLine := by decide
    refine ⟨_, rfl, (by show 1 ≤ sizeLine; decide), fun l hl => ?_⟩
    have s1 : Same H (upd H l (.lst [V.int x])) := Same.new hl
    refine ⟨_, rfl, _, rfl, _, _, rfl, rfl, t, _, _, _, rfl, rfl, SqT.of (s1 _ _ ht), at_int (by omega) (ld_get o x1 x2), ?_⟩
    refine ⟨fun m σ H' => ∃ i, m = per xs x - i ∧ 1 ≤ i ∧ i ≤ per xs x ∧ σ = [some (.ref t), some (.int x), some (.ref l), some (.int (itn (ld xs) i x))] ∧ Same H H' ∧ H' l = some (.lst (((List.range i).map fun k => itn (ld xs) k x).map V.int)), ⟨_, 1, rfl, Nat.le_refl _, by unfold per; omega, rfl, s1, upd_same⟩, ?_⟩
    rintro m σ H' ⟨i, rfl, i1, i2, rfl, s2, h2⟩
    have pl := per_le o x1 x2
    have ir := itn_in o x1 x2 i
    refine ⟨_, rfl, _, rfl, rfl, _, rfl, ite2 (fun c => ?_) (fun c => ?_)⟩
    · have c : itn (ld xs) i x ≠ x := by simpa using c
      have lt : i < per xs x := by
        by_cases e : i = per xs x
        · rw [e] at c; exact absurd (per_eq o x1 x2) c
        · omega
      refine ⟨fun σ' H' => σ' = [some (.ref t), some (.int x), some (.ref l), some (.int (itn (ld xs) (i + 1) x))] ∧ Same H H' ∧ H' l = some (.lst (((List.range (i + 1)).map fun k => itn (ld xs) k x).map V.int)), fun σ' H' ⟨e1, e2, e3⟩ => ⟨_, (by show per xs x - (i + 1) < _; omega), i + 1, rfl, by omega, by omega, e1, e2, e3⟩, ?_⟩
      refine ⟨_, rfl, .inl ⟨rfl, _, SqL.of h2⟩, _, rfl, l, _, _, rfl, rfl, h2, by simp; omega, ?_⟩
      have s3 : Same H (upd H' l (.lst (((List.range i).map fun k => itn (ld xs) k x).map V.int ++ [.int (itn (ld xs) i x)]))) := fun b ob e => by rw [upd_ne (ne_of_none e hl)]; exact s2 b ob e
      refine ⟨_, rfl, _, rfl, _, _, rfl, rfl, t, _, _, _, rfl, rfl, SqT.of (s3 _ _ ht), at_int (by omega) (ld_get o ir.1 ir.2), ?_⟩
      refine ⟨rfl, s3, ?_⟩
      rw [upd_same, List.range_succ, List.map_append, List.map_append]
      rfl
    · have c : itn (ld xs) i x = x := by simpa using c
      have e : i = per xs x := by
        apply Classical.byContradiction
        intro z
        exact per_ne (by omega) (by omega) c
      subst e
      exact ⟨_, rfl, k l H' hl h2 s2⟩
theorem sc_rounds : FnScope ["order", "begun"] ["order"] (defScope (top 7)) := ⟨rfl, rfl, rfl, by decide +kernel, rfl, by decide +kernel, by decide +kernel⟩
theorem ok_rounds {f : Addr} {fd : FuncData} (F : Fun K "rounds" "rounds" (top 7) f fd) (T : TR0 P w K mg base) : FnOk P w K mg base CX0 3 f fd ["order"] spRounds := by
  refine F.ok sc_rounds (fun vs H Q E h => ?_) (fun cdv A outer s H vs Q E hr h => ?_)
  · obtain ⟨t, n, xs, rfl, _⟩ := h
    rfl
  · obtain ⟨t, n, xs, rfl, ht, o, hn, k⟩ := h
    refine ⟨_, (pss_cons (ps_comp (i := 1) sc_rounds.nd rfl rfl (N := (["first", "order"] : List Str)) (ix := ([none, some 0] : List (Option Nat))) (comp_ok rfl rfl) rfl (pi_range2 rfl T.b_range (pa_cons pe_int (pa_cons (pe_op op_add (pe_callB (call_lenK (K := K) rfl) rfl T.b_len (by decide +kernel) (pa_cons (pv 0) pa_nil)) pe_int) pa_nil))) (fun _ _ _ _ => (pg_name (i := 0) (show List.Nodup (["first", "order"] : List Str) from by decide +kernel) rfl (Or.inl rfl))) (fun _ _ _ _ => pif_nil) (fun _ _ _ _ => (pe_callF T.f_round_from (hr.mono (by first | decide | omega)) rfl (pa_cons (pv 1) (pa_cons (pv 0) pa_nil)))))
      (pss_one (ps_ret (pe_comp (N := (["found"] : List Str)) (ix := ([none] : List (Option Nat))) (comp_ok rfl rfl) rfl (pi_listK (K := K) rfl (pv 1)) (fun _ _ _ _ => (pg_name (i := 0) (show List.Nodup (["found"] : List Str) from by decide +kernel) rfl (Or.inl rfl))) (fun _ _ _ _ => (pif_one (pt_cmpR op_eq (pe_ix (ix_listK (K := K) rfl) (pv 0) pe_int (fun _ _ => rfl)) (pe_callB (call_minL (K := K) rfl rfl) rfl T.b_min (by decide +kernel) (pa_cons (pv 0) pa_nil)) (nomark _)))) (fun _ _ _ _ => (pv 0)))))), ?_⟩
    have ol := o.length
    have big : (100000 : Nat) ≤ sizeLine := by decide
    refine ⟨_, rfl, t, _, rfl, .inr (SqT.of ht), _, _, rfl, rfl, 1, _, rfl, ⟨by decide, by decide, by omega, by rw [List.length_map]; omega⟩, compR (k := 0) (fun i ys σ' H' => (∃ v, σ' = [v, some (.ref t)]) ∧ Same H H' ∧ Lsts H' ys (((ivl 1 (n + 1)).take i).map (orb xs)) ∧ Fresh H ys ∧ ys.length = i) (by rw [List.length_map]; omega) ⟨⟨none, rfl⟩, Same.refl _, .nil, Fresh.nil, rfl⟩ (fun i ys σ' H' q => Nat.le_of_eq q.2.2.2.2) ?_ ?_⟩
    · rintro i ys σ' H' R hi ⟨⟨v, rfl⟩, s1, x1, f1, l1⟩ done
      rw [List.length_map] at hi
      refine ⟨_, rfl, _, rfl, t, n, 1 + (i : Int), xs, rfl, s1 _ _ ht, o, hn, by omega, by omega, fun l H2 hl h2 s2 => done _ _ _ ⟨⟨_, rfl⟩, s1.trans s2, ?_, f1.snoc x1 hl (s1.free hl), ?_⟩⟩
      · rw [take_succ_map (orb xs) (get_ivl (lo := 1) (hi := n + 1) (i := i) (by omega))]
        exact (x1.keep s2).snoc h2
      · rw [List.length_append, l1]; rfl
    · rintro ys σ' H' p ⟨⟨v, rfl⟩, s1, x1, f1, l1⟩ hp
      have et : (ivl 1 (n + 1)).take (((xs.map V.int).length : Int) + 1 - 1).toNat = ivl 1 (n + 1) := List.take_of_length_le (by rw [ivl_length, List.length_map]; omega)
      rw [et] at x1
      rw [List.length_map] at l1
      have s2 := s1.trans (Same.new (o := .lst ys) hp)
      have x2 := x1.keep (Same.new (o := .lst ys) hp)
      have h2 : upd H' p (.lst ys) p = some (.lst ys) := upd_same
      generalize upd H' p (.lst ys) = H2 at s2 x2 h2 ⊢
      refine ⟨_, rfl, p, rfl, ⟨_, SqL.of h2⟩, compLif (K := K) (a := p) (xs := ys) (k := 0) (fun i zs σ' H'' => (∃ v, σ' = [v]) ∧ H'' = H2 ∧ zs.Sublist (ys.take i) ∧ Lsts H2 zs ((((ivl 1 (n + 1)).take i).filter (least xs)).map (orb xs))) (by omega) ⟨⟨none, rfl⟩, rfl, List.nil_sublist _, .nil⟩
        (fun i zs σ' H'' _ q => by rw [q.2.1]; exact SqL.of h2) (fun i zs σ' H'' q => by have := q.2.2.1.length_le; rw [List.length_take] at this; omega) ?_ ?_⟩
      · rintro i zs σ' H'' x R hx ⟨⟨v, rfl⟩, rfl, sb, lx⟩ done
        obtain ⟨a, ns, rfl, ha, hns⟩ := x2.get hx
        rw [List.getElem?_map] at hns
        have hi : i < (n + 1 - 1).toNat := by
          have := List.getElem?_eq_some_iff.mp hx
          obtain ⟨z, _⟩ := this
          rw [x2.length, List.length_map, ivl_length] at z
          exact z
        have gi := get_ivl hi
        rw [gi] at hns
        cases hns
        have ib1 : (1 : Int) ≤ 1 + i := by omega
        have ib2 : (1 : Int) + i ≤ n := by omega
        have h0 : (orb xs (1 + i))[0]? = some (1 + (i : Int)) := by
          unfold orb
          rw [List.getElem?_map, List.getElem?_range (by unfold per; omega)]
          rfl
        have et2 : (ys.take (i + 1)) = ys.take i ++ [.ref a] := by rw [List.take_succ, hx]; rfl
        have ef : ((ivl 1 (n + 1)).take (i + 1)) = (ivl 1 (n + 1)).take i ++ [1 + (i : Int)] := by rw [List.take_succ, gi]; rfl
        -- the least one
        obtain ⟨M, M1, M2⟩ : ∃ M, M ∈ orb xs (1 + i) ∧ ∀ b ∈ orb xs (1 + i), M ≤ b := least_ex (List.ne_nil_of_mem (List.mem_of_getElem? h0))
        refine ⟨_, rfl, a, _, _, _, rfl, rfl, SqL.of ha, at_int (by omega) h0, _, rfl, a, _, M, rfl, SqL.of ha, M1, M2, rfl, _, rfl, ?_⟩
        have el : decide (V.int (1 + (i : Int)) = V.int M) = least xs (1 + i) := by
          rw [Bool.eq_iff_iff]
          unfold least
          rw [List.all_eq_true]
          simp only [decide_eq_true_eq]
          constructor
          · intro e b hb
            cases e
            exact M2 b hb
          · intro h
            have e1 := h M M1
            have e2 := M2 _ (List.mem_of_getElem? h0)
            rw [Int.le_antisymm e1 e2]
        rw [el]
        cases hL : least xs (1 + (i : Int)) with
        | true =>
          refine iteT ⟨_, rfl, done _ _ _ ⟨⟨_, rfl⟩, rfl, ?_, ?_⟩⟩
          · rw [et2]; exact sb.append (List.Sublist.refl _)
          · rw [ef, List.filter_append, List.map_append, List.filter_cons_of_pos hL]
            exact lx.snoc ha
        | false =>
          refine iteF (done _ _ _ ⟨⟨_, rfl⟩, rfl, ?_, ?_⟩)
          · rw [et2]; exact sb.trans (List.sublist_append_left _ _)
          · rw [ef, List.filter_append, List.map_append, List.filter_cons_of_neg (by rw [hL]; decide), List.filter_nil, List.map_nil, List.append_nil]
            exact lx
      · rintro zs σ' H'' q ⟨⟨v, rfl⟩, rfl, sb, lx⟩ hq
        rw [List.take_of_length_le (Nat.le_refl _)] at sb
        have e3 : (ivl 1 (n + 1)).take ys.length = ivl 1 (n + 1) := List.take_of_length_le (by rw [ivl_length, l1]; omega)
        rw [e3] at lx
        refine k q zs _ (s2.free hq) upd_same (lx.keep (Same.new hq)) (f1.sub sb) (fun z => ?_) (s2.trans (Same.new hq))
        obtain ⟨ns, e⟩ := lx.mem z
        rw [hq] at e
        cases e
end
end Sw
namespace L2
open PySem PySem.Spec PyProof.Rows
section
variable {prog : Program} {w : World} {A : Around} {R : Result → Shared → Prop} {s : Shared}
theorem compStart1 {elt t1 i1 t2 i2 : Expr} {scope : Scope} {pos : Pos} {it acc : Value} {env : Env}
    (h1 : codeAny (model prog w) A (.compLoop (.ListComp elt [⟨t1, i1, [], 0⟩, ⟨t2, i2, [], 0⟩] scope pos) 1 it acc env) R s)
    (h2 : wpAny (model prog w) A (pyIter it) (fun it' s' => codeAny (model prog w) A (.compLoop (.ListComp elt [⟨t1, i1, [], 0⟩, ⟨t2, i2, [], 0⟩] scope pos) 1 it' acc env) R s') (fun _ _ => False) s) :
    codeAny (model prog w) A (.compStart (.ListComp elt [⟨t1, i1, [], 0⟩, ⟨t2, i2, [], 0⟩] scope pos) 1 it acc env) R s := by
  refine codeAny_of_tree ?_
  show wpAny _ A ((compStart (.ListComp elt [⟨t1, i1, [], 0⟩, ⟨t2, i2, [], 0⟩] scope pos) 1 it acc env).onRaise (fun x => do noteFrame x env; standAt theWindowsPlace)) _ _ s
  refine wpAny_onRaise ?_
  show wpAny _ A (ask >>= fun st => if st.params.followText "comprehension-iter-twice" = true then again (.compLoop (.ListComp elt [⟨t1, i1, [], 0⟩, ⟨t2, i2, [], 0⟩] scope pos) 1 it acc env) else do
    rule "comprehension.iter-twice"
    standAt i2.pos
    let it' ← pyIter it
    again (.compLoop (.ListComp elt [⟨t1, i1, [], 0⟩, ⟨t2, i2, [], 0⟩] scope pos) 1 it' acc env)) _ _ s
  refine wpAny_bind (wpAny_askSetting ?_)
  split
  · exact wpAny_pure ⟨rfl, h1⟩
  · refine wpAny_bind (wpAny_rule (wpAny_bind (wpAny_standAt (wpAny_bind (wpAny_mono h2 (fun it' s' h' => ?_) fun _ _ z => z.elim)))))
    exact wpAny_pure ⟨rfl, h'⟩
theorem compLoop1_any {elt t1 i1 t2 i2 : Expr} {scope : Scope} {pos : Pos} {it acc : Value} {env : Env} (I : Nat → Shared → Prop)
    (turn : ∀ n s, I n s → wpAny (model prog w) A (pyNext it) (fun r s₁ => match r with
      | none => R (.ok .next) s₁
      | some v => wpAny (model prog w) A (letOwnedTupleGo t2 it v) (fun _ s₁ => wpAny (model prog w) A (assign t2 env v) (fun _ s₂ =>
          wpAny (model prog w) A (eval elt env) (fun x s₄ =>
            wpAny (model prog w) A (call (.builtin "list.append") [acc, x]) (fun _ s₅ => ∃ m, m < n ∧ I m s₅) (fun _ _ => False) s₄) (fun _ _ => False) s₂) (fun _ _ => False) s₁) (fun _ _ => False) s₁) (fun _ _ => False) s)
    (n : Nat) (h : I n s) :
    codeAny (model prog w) A (.compLoop (.ListComp elt [⟨t1, i1, [], 0⟩, ⟨t2, i2, [], 0⟩] scope pos) 1 it acc env) R s := by
  refine codeAny_loop rfl I (fun n s hI => ?_) n h
  show wpAny _ A ((compTurn (.ListComp elt [⟨t1, i1, [], 0⟩, ⟨t2, i2, [], 0⟩] scope pos) 1 it acc env).onRaise (fun x => do noteFrame x env; theTreesLotGoes x)) _ _ s
  refine wpAny_noted ?_
  show wpAny _ A (do
    standAt i2.pos
    let r ← pyNext it
    match r with
    | none => pure (Fin.done Flow.next)
    | some v => do
      letOwnedTupleGo t2 it v
      assign t2 env v
      let ok ← forIn ([] : List Expr) true fun c r => if r = true then do let ok ← isTrue c env (eval c env); pure (ForInStep.yield ok) else pure (ForInStep.yield r)
      if ok = true then do
        let _ ← (do
          let x ← eval elt env
          let _ ← call (.builtin "list.append") [acc, x]
          pure ())
        again (.compLoop (.ListComp elt [⟨t1, i1, [], 0⟩, ⟨t2, i2, [], 0⟩] scope pos) 1 it acc env)
      else again (.compLoop (.ListComp elt [⟨t1, i1, [], 0⟩, ⟨t2, i2, [], 0⟩] scope pos) 1 it acc env)) _ _ s
  refine wpAny_bind (wpAny_standAt (wpAny_bind (wpAny_mono (turn n s hI) (fun r s₁ h₁ => ?_) fun _ _ h' => h'.elim)))
  cases r with
  | none => exact wpAny_pure h₁
  | some v =>
    refine wpAny_bind (wpAny_mono h₁ (fun _ s₁ h₁ => ?_) fun _ _ h' => h'.elim)
    refine wpAny_bind (wpAny_mono h₁ (fun _ s₂ h₂ => wpAny_bind (wpAny_tests_nil ?_)) fun _ _ h' => h'.elim)
    rw [if_pos rfl]
    refine wpAny_bind (wpAny_bind (wpAny_mono h₂ (fun x s₄ h₄ => wpAny_bind (wpAny_mono h₄ (fun _ s₅ h₅ => ?_) fun _ _ h' => h'.elim)) fun _ _ h' => h'.elim))
    exact wpAny_pure (wpAny_pure ⟨rfl, h₅⟩)
theorem compLoop0_any {elt t1 i1 t2 i2 : Expr} {scope : Scope} {pos : Pos} {it acc : Value} {env : Env} (hs : ∀ x, foldedSetIterable i2 env x = pure x) (I : Nat → Shared → Prop)
    (turn : ∀ n s, I n s → wpAny (model prog w) A (pyNext it) (fun r s₁ => match r with
      | none => R (.ok .next) s₁
      | some v => wpAny (model prog w) A (letOwnedTupleGo t1 it v) (fun _ s₁ => wpAny (model prog w) A (assign t1 env v) (fun _ s₂ =>
          wpAny (model prog w) A (eval i2 env) (fun x s₃ => wpAny (model prog w) A (pyIter x) (fun it2 s₄ =>
            codeAny (model prog w) A (.compStart (.ListComp elt [⟨t1, i1, [], 0⟩, ⟨t2, i2, [], 0⟩] scope pos) 1 it2 acc env) (fun r s₅ => r = .ok .next ∧ ∃ m, m < n ∧ I m s₅) s₄) (fun _ _ => False) s₃) (fun _ _ => False) s₂) (fun _ _ => False) s₁) (fun _ _ => False) s₁) (fun _ _ => False) s)
    (n : Nat) (h : I n s) :
    codeAny (model prog w) A (.compLoop (.ListComp elt [⟨t1, i1, [], 0⟩, ⟨t2, i2, [], 0⟩] scope pos) 0 it acc env) R s := by
  refine codeAny_loop rfl I (fun n s hI => ?_) n h
  show wpAny _ A ((compTurn (.ListComp elt [⟨t1, i1, [], 0⟩, ⟨t2, i2, [], 0⟩] scope pos) 0 it acc env).onRaise (fun x => do noteFrame x env; theTreesLotGoes x)) _ _ s
  refine wpAny_noted ?_
  show wpAny _ A (do
    standAt i1.pos
    let r ← pyNext it
    match r with
    | none => pure (Fin.done Flow.next)
    | some v => do
      letOwnedTupleGo t1 it v
      assign t1 env v
      let ok ← forIn ([] : List Expr) true fun c r => if r = true then do let ok ← isTrue c env (eval c env); pure (ForInStep.yield ok) else pure (ForInStep.yield r)
      if ok = true then do
        let x ← eval i2 env
        standAt i2.pos
        let x ← foldedSetIterable i2 env x
        let it2 ← holding [x] (pyIter x)
        let _ ← runOwn (.compStart (.ListComp elt [⟨t1, i1, [], 0⟩, ⟨t2, i2, [], 0⟩] scope pos) 1 it2 acc env) env
        again (.compLoop (.ListComp elt [⟨t1, i1, [], 0⟩, ⟨t2, i2, [], 0⟩] scope pos) 0 it acc env)
      else again (.compLoop (.ListComp elt [⟨t1, i1, [], 0⟩, ⟨t2, i2, [], 0⟩] scope pos) 0 it acc env)) _ _ s
  refine wpAny_bind (wpAny_standAt (wpAny_bind (wpAny_mono (turn n s hI) (fun r s₁ h₁ => ?_) fun _ _ h' => h'.elim)))
  cases r with
  | none => exact wpAny_pure h₁
  | some v =>
    refine wpAny_bind (wpAny_mono h₁ (fun _ s₁ h₁ => ?_) fun _ _ h' => h'.elim)
    refine wpAny_bind (wpAny_mono h₁ (fun _ s₂ h₂ => wpAny_bind (wpAny_tests_nil ?_)) fun _ _ h' => h'.elim)
    rw [if_pos rfl]
    refine wpAny_bind (wpAny_mono h₂ (fun x s₃ h₃ => wpAny_bind (wpAny_standAt (wpAny_bind (wpAny_of_eq (hs x) (wpAny_bind (wpAny_holding (wpAny_mono h₃ (fun it2 s₄ h₄ => ?_) fun _ _ h' => h'.elim))))))) fun _ _ h' => h'.elim)
    refine wpAny_bind (wpAny_runOwn (codeAny_mono h₄ fun r s₅ h₅ => ?_))
    obtain ⟨rfl, h₅⟩ := h₅
    exact wpAny_pure ⟨rfl, h₅⟩
end
end L2
namespace L2
open PySem PySem.Spec PyProof.Rows
def rComp2 (ix : List (Option Nat)) (g : TG) (wi2 : TI) (g2 : TG) (te : TE) (σ : St) (Q : VK) (J : It) (H1 : Hp) : Prop :=
  ∃ W : WC, (∃ m, W 0 m [] (startC ix σ) H1) ∧ ∀ i m ys σ' H', W i m ys σ' H' →
    (J.stop i H' ∧ ys.length ≤ sizeLine ∧ ∀ p, H' p = none → Q (.ref p) (upd H' p (.lst ys))) ∨
    (J.go i H' ∧ ∀ x H2, J.yld i H' x H2 → g x σ' H2 fun σ2 H3 => wi2 σ2 H3 fun J2 H4 =>
      ∃ W2 : WC, (∃ m2, W2 0 m2 ys σ2 H4) ∧ ∀ j m2 ys' σ3 H5, W2 j m2 ys' σ3 H5 →
        (J2.stop j H5 ∧ ∃ m', m' < m ∧ W (i + 1) m' ys' σ3 H5) ∨
        (J2.go j H5 ∧ ys'.length < sizeLine ∧ ∀ y H6, J2.yld j H5 y H6 → g2 y σ3 H6 fun σ4 H7 => te σ4 H7 fun v H8 => ∃ m3, m3 < m2 ∧ W2 (j + 1) m3 (ys' ++ [v]) σ4 H8))
def tComp2 (ix : List (Option Nat)) (wi : TI) (g : TG) (wi2 : TI) (g2 : TG) (te : TE) : TE := fun σ H Q => wi σ H (rComp2 ix g wi2 g2 te σ Q)
section
variable {X : Cx} {scope : Scope} {N : List Str} {ix : List (Option Nat)} {elt tg iter tg2 iter2 : Expr} {g g2 : TG} {wi2 : TI} {te : TE} {pos : Pos}
theorem comp_block2 {pins : List (Addr × Obj)} {σ : St} {s2 : Shared} {Q : VK} {itv : Value} {RR : Value → Addr → Result → Shared → Prop} {E : Value → Shared → Prop} (c : CompOk X scope N ix) (hc : X.calm = true)
    (hg : ∀ C fp s H, PG (cxC X N scope C fp s H) tg g) (hi2 : ∀ C fp s H, PI (cxC X N scope C fp s H) tg2 iter2 wi2) (hg2 : ∀ C fp s H, PG (cxC X N scope C fp s H) tg2 g2) (he : ∀ C fp s H, PE (cxC X N scope C fp s H) elt te)
    (hs2 : ∀ C fp s H x, foldedSetIterable iter2 (cxC X N scope C fp s H).env x = pure x)
    (h2 : PIE X pins σ tg (rComp2 ix g wi2 g2 te σ Q) itv s2)
    (hR : ∀ (D C : Addr) (s' : Shared) (H' : Hp) (m : Str → Option Value), Inv X pins σ H' s' → s'.heap.Ns C m → H' C = none → X.s₀.heap.objs.size ≤ C → (∀ p ∈ X.pn ++ pins, p.1 ≠ C) → C ≠ X.env.locals → (∀ x c, X.env.cells.lookup x = some c → c ≠ C) → Q (.ref D) H' → RR (.ref D) C (.ok .next) s') :
    wpAny (model X.prog X.w) X.A (newList []) (fun acc s₃ => wpAny (model X.prog X.w) X.A (newFunctionEnv scope X.env.globals (closL X.env.cells scope.names []) [] X.env.qual none .none (some X.env)) (fun cenv s₄ =>
      codeAny (model X.prog X.w) X.A (.compStart (.ListComp elt [⟨tg, iter, [], 0⟩, ⟨tg2, iter2, [], 0⟩] scope pos) 0 itv acc { cenv with scope := relabel scope X.env }) (RR acc cenv.locals) s₄) E s₃) E s2 := by
  obtain ⟨it, fp, tn, J, H2, rfl, I2, T, st2, f2, W, ⟨m0, w0⟩, turn⟩ := h2
  refine wpAny_newObj_type (wpAny_newFunctionEnv c.nocell (by intro y hy; simp at hy) (fun h₁ hns₁ hsb₁ => ?_) c.kind)
  dsimp only at hns₁ hsb₁ ⊢
  generalize hH2 : s2.heap.push { cls := .type "list", dict := none, data := .seq ([] : List Value).toArray } = G2 at hns₁ hsb₁ ⊢
  have hCs : G2.objs.size = s2.heap.objs.size + 1 := by rw [← hH2, Heap.size_push]
  generalize hCe : G2.objs.size = C at hns₁ hsb₁ hCs ⊢
  generalize hDe : s2.heap.objs.size = D at hCs ⊢
  have ltC : ∀ b, @LT.lt Nat _ b D → b ≠ C := fun b hb => Nat.ne_of_lt (by rw [hCs]; exact Nat.lt_succ_of_lt hb)
  have ltS : ∀ b o, s2.heap.get? b = some o → @LT.lt Nat _ b D := fun b o e => by rw [← hDe]; exact Heap.lt_size e
  have hDC : D ≠ C := Nat.ne_of_lt (by rw [hCs]; exact Nat.lt_succ_self _)
  have old : ∀ b o, s2.heap.get? b = some o → h₁.get? b = some o := fun b o e => hsb₁.extBut b o (ltC b (ltS b o e)) (Heap.get?_push_of_some _ (hH2 ▸ Heap.get?_push_of_some _ e))
  have hoD : h₁.get? D = some { cls := .type "list", dict := none, data := .seq ([] : List Value).toArray } := by
    refine hsb₁.extBut _ _ hDC (Heap.get?_push_of_some _ ?_)
    rw [← hH2, ← hDe]
    exact Heap.get?_push_size _ rfl
  have I4 : Inv (cxC X N scope C fp s2 H2) (pins ++ [(D, { cls := .type "list", data := .seq ([] : List Value).toArray })]) (startC ix σ) H2 { s2 with heap := h₁, toks := s2.toks + ([] : List (Str × Value)).length } :=
    c.enter I2 f2 (T.obj _ _ st2) (by rw [hCs, hDe]) hDe.symm old hns₁ hoD fun v z => by cases z
  have st4 : tn 0 h₁ := T.keep _ _ _ st2 fun b _ o e => old b o e
  have pinD : ∀ p ∈ X.pn ++ pins, p.1 ≠ D := fun p hp => Nat.ne_of_lt (ltS _ _ (I2.pin p hp).1)
  have pinC : ∀ p ∈ X.pn ++ pins, p.1 ≠ C := fun p hp => ltC _ (ltS _ _ (I2.pin p hp).1)
  have celD : ∀ x d, X.env.cells.lookup x = some d → @LT.lt Nat _ d D := fun x d e => by
    obtain ⟨v, o, ho, _⟩ := I2.cell x d e
    exact ltS d o ho
  have fpD : ∀ b ∈ fp, @LT.lt Nat _ b D := fun b hb => by
    obtain ⟨o, e, _⟩ := T.obj _ _ st2 b hb
    exact ltS b o e
  have sub : ∀ x d, (closL X.env.cells scope.names []).lookup x = some d → X.env.cells.lookup x = some d := fun x d e => by
    rcases closL_sub e with z | z
    · simp at z
    · exact z
  have stat : ∀ {H' : Hp} {oD : Obj}, (∀ b ∈ fp, H' b = none) → ∀ b ∈ fp, FpOk (cxC X N scope C fp s2 H2) (pins ++ [(D, oD)]) H' b := fun {H' oD} hn b hb => by
    obtain ⟨f0, f1, f2, f3, f4, f5⟩ := f2 b hb
    refine ⟨hn b hb, ltC b (fpD b hb), fun z => ?_, .inl hb, fun x d e => f4 x d (sub x d e), fun p hp => ?_⟩
    · rcases List.mem_cons.mp (I2.stkSub b z) with e | e
      · exact f1 e
      · exact f2 e
    · have hp : p ∈ X.pn ++ (pins ++ [(D, oD)]) := hp
      rw [← List.append_assoc] at hp
      rcases List.mem_append.mp hp with z | z
      · exact f5 p z
      · have e : p = (D, oD) := by simpa using z
        subst e
        exact Nat.ne_of_gt (fpD b hb)
  have loop : ∀ s3 : Shared, s3 = { s2 with heap := h₁, toks := s2.toks + ([] : List (Str × Value)).length } →
      codeAny (model X.prog X.w) X.A (.compLoop (.ListComp elt [⟨tg, iter, [], 0⟩, ⟨tg2, iter2, [], 0⟩] scope pos) 0 (.ref it) (.ref D) (cxC X N scope C fp s2 H2).env) (RR (.ref D) C) s3 := by
    rintro s3 rfl
    refine compLoop0_any (hs2 C fp s2 H2) (fun n s' => ∃ i σ' H' ys its k, Inv (cxC X N scope C fp s2 H2) (pins ++ [(D, { cls := .type "list", data := .seq (List.toArray its) k })]) σ' H' s' ∧ tn i s'.heap ∧ (∀ b ∈ fp, H' b = none) ∧ Vals ys its ∧ W i n ys σ' H') ?_ m0
      ⟨0, _, H2, [], [], _, I4, st4, fun b hb => (f2 b hb).1, .nil, w0⟩
    rintro n s3 ⟨i, σ3, H3, ys, its, k, I3, st3, fr3, rv, w3⟩
    rcases turn i n ys σ3 H3 w3 with ⟨stop, hz, qn⟩ | ⟨go, step⟩
    · refine thn (T.done (cxC X N scope C fp s2 H2) rfl rfl rfl hc i _ s3 σ3 H3 _ I3 (stat fr3) st3 stop) fun r s4 ⟨hr, I4⟩ => ?_
      subst hr
      have hDn : H3 D = none := (I3.pin (D, _) (List.mem_append_right _ (List.mem_append_right _ List.mem_cons_self))).2.1
      obtain ⟨m4, hn4, _⟩ := id I4.loc
      refine hR D C s4 _ m4 (c.leave I2 f2 (by rw [hCs, hDe]) hDe.symm I4 rv hz) hn4 ?_ ?_ pinC ?_ (fun x d e => ltC d (celD x d e)) (qn D hDn)
      · rw [upd_ne hDC.symm]; exact I4.free
      · refine Nat.le_trans I2.sz ?_
        rw [hDe, hCs]; exact Nat.le_succ _
      · refine Nat.ne_of_gt (Nat.lt_of_lt_of_le I2.lt ?_)
        rw [hDe, hCs]; exact Nat.le_succ _
    · refine thn (T.item (cxC X N scope C fp s2 H2) rfl rfl rfl hc i _ s3 σ3 H3 _ I3 (stat fr3) st3 go) fun r s4 ⟨u, hr, h4⟩ => ?_
      subst hr
      refine thn h4 fun _ s5 ⟨x, H5, I5, r5, y5, st5, fr5⟩ => ?_
      have I5' := I5.pinned (stat fr5) (T.obj _ _ st5)
      refine thn (hg C fp s2 H2 _ s5 σ3 H5 x u _ I5' r5 (step x H5 y5)) fun _ s6 ⟨σ6, H6, I6, q6⟩ => ?_
      refine thn (hi2 C fp s2 H2 _ s6 σ6 H6 _ I6 q6) fun v s7 h7 => thn h7 fun itv2 s8 h8 => ?_
      obtain ⟨it2, fp2, tn2, J2, H8, rfl, I8, T2, st8, f8, W2, ⟨m20, w20⟩, turn2⟩ := h8
      have keep : ∀ {s' : Shared} {σ' : St} {H' : Hp} {oD : Obj}, Inv (cxC X N scope C fp s2 H2) ((pins ++ [(D, oD)]) ++ pinsAt fp s5.heap) σ' H' s' → tn (i + 1) s'.heap ∧ ∀ b ∈ fp, H' b = none := fun {s' σ' H' oD} I' => by
        refine ⟨T.keep _ _ _ st5 fun b hb o e => (I'.pin (b, o) (List.mem_append_right _ (List.mem_append_right _ (mem_pinsAt hb e)))).1, fun b hb => ?_⟩
        obtain ⟨o, e, d⟩ := T.obj _ _ st5 b hb
        exact (I'.pin (b, o) (List.mem_append_right _ (List.mem_append_right _ (mem_pinsAt hb e)))).2.1
      -- the inner iterator's objects
      have n2D : ∀ b ∈ fp2, b ≠ D := fun b hb z => by
        obtain ⟨f0, f1, f2', f3, f4, f5⟩ := f8 b hb
        exact f5 (D, _) (List.mem_append_right _ (List.mem_append_left _ (List.mem_append_right _ List.mem_cons_self))) z.symm
      have stat2 : ∀ {H' : Hp} {oD : Obj}, (∀ b ∈ fp2, H' b = none) → ∀ b ∈ fp2, FpOk (cxC X N scope C fp s2 H2) ((pins ++ [(D, oD)]) ++ pinsAt fp s5.heap) H' b := fun {H' oD} hn b hb => by
        obtain ⟨f0, f1, f2', f3, f4, f5⟩ := f8 b hb
        refine ⟨hn b hb, f1, f2', f3, f4, fun p hp => ?_⟩
        have hp : p ∈ X.pn ++ ((pins ++ [(D, oD)]) ++ pinsAt fp s5.heap) := hp
        rcases List.mem_append.mp hp with z | z
        · exact f5 p (List.mem_append_left _ z)
        · rcases List.mem_append.mp z with z | z
          · rcases List.mem_append.mp z with z | z
            · exact f5 p (List.mem_append_right _ (List.mem_append_left _ (List.mem_append_left _ z)))
            · have e : p = (D, oD) := by simpa using z
              subst e
              exact (n2D b hb).symm
          · exact f5 p (List.mem_append_right _ (List.mem_append_right _ z))
      have loop2 : ∀ s9 : Shared, s9 = s8 → codeAny (model X.prog X.w) X.A (.compLoop (.ListComp elt [⟨tg, iter, [], 0⟩, ⟨tg2, iter2, [], 0⟩] scope pos) 1 (.ref it2) (.ref D) (cxC X N scope C fp s2 H2).env)
          (fun r s₅ => r = .ok .next ∧ ∃ m, m < n ∧ ∃ i σ' H' ys its k, Inv (cxC X N scope C fp s2 H2) (pins ++ [(D, { cls := .type "list", data := .seq (List.toArray its) k })]) σ' H' s₅ ∧ tn i s₅.heap ∧ (∀ b ∈ fp, H' b = none) ∧ Vals ys its ∧ W i m ys σ' H') s9 := by
        rintro s9 rfl
        refine compLoop1_any (fun n' s' => ∃ j σ' H' ys' its' k', Inv (cxC X N scope C fp s2 H2) ((pins ++ [(D, { cls := .type "list", data := .seq (List.toArray its') k' })]) ++ pinsAt fp s5.heap) σ' H' s' ∧ tn2 j s'.heap ∧ (∀ b ∈ fp2, H' b = none) ∧ Vals ys' its' ∧ W2 j n' ys' σ' H') ?_ m20
          ⟨0, σ6, H8, ys, its, k, I8, st8, fun b hb => (f8 b hb).1, rv, w20⟩
        rintro n' s' ⟨j, σj, Hj, ysj, itsj, kj, Ij, stj, frj, rvj, wj⟩
        rcases turn2 j n' ysj σj Hj wj with ⟨stop2, m', hm', w'⟩ | ⟨go2, hz2, step2⟩
        · refine thn (T2.done (cxC X N scope C fp s2 H2) rfl rfl rfl hc j _ s' σj Hj _ Ij (stat2 frj) stj stop2) fun r s10 ⟨hr, I10⟩ => ?_
          subst hr
          obtain ⟨k1, k2⟩ := keep I10
          exact ⟨rfl, m', hm', i + 1, σj, Hj, ysj, itsj, kj, I10.unpinned, k1, k2, rvj, w'⟩
        · refine thn (T2.item (cxC X N scope C fp s2 H2) rfl rfl rfl hc j _ s' σj Hj _ Ij (stat2 frj) stj go2) fun r s10 ⟨u2, hr, h10⟩ => ?_
          subst hr
          refine thn h10 fun _ s11 ⟨y, H11, I11, r11, y11, st11, fr11⟩ => ?_
          have I11' := I11.pinned (stat2 fr11) (T2.obj _ _ st11)
          refine thn (hg2 C fp s2 H2 _ s11 σj H11 y u2 _ I11' r11 (step2 y H11 y11)) fun _ s12 ⟨σ12, H12, I12, q12⟩ => ?_
          refine thn (he C fp s2 H2 _ s12 σ12 H12 _ I12 q12) fun z s13 ⟨v13, H13, I13, r13, m3, hm3, w13⟩ => ?_
          have pD := I13.pin (D, _) (List.mem_append_right _ (List.mem_append_left _ (List.mem_append_left _ (List.mem_append_right _ List.mem_cons_self))))
          have I13v : Inv (cxC X N scope C fp s2 H2) pins σ12 H13 s13 := I13.unpinned.unpinned.unpinned
          have len := rvj.length
          have k12 : ∀ b ∈ fp2, H13 b = none := fun b hb => by
            obtain ⟨o, e, d⟩ := T2.obj _ _ st11 b hb
            exact (I13.pin (b, o) (List.mem_append_right _ (List.mem_append_right _ (mem_pinsAt hb e)))).2.1
          have k11 : tn2 (j + 1) s13.heap := T2.keep _ _ _ st11 fun b hb o e => (I13.pin (b, o) (List.mem_append_right _ (List.mem_append_right _ (mem_pinsAt hb e)))).1
          refine wpAny_list_append_plain (items := itsj.toArray) (hsz := by simp; omega) ⟨kj, pD.1⟩ fun h9 hl9 hs9 => ?_
          obtain ⟨k9, e9⟩ := hl9
          have I9 : Inv (cxC X N scope C fp s2 H2) pins σ12 H13 { s13 with heap := h9 } := by
            refine I13v.turned (t' := s13.toks) (it := D) (fun b o hb e => hs9.extBut b o hb e) pD.2.1 hDC (.inr ?_) (fun x d e => Nat.ne_of_lt (celD x d (sub x d e))) fun p hp => ?_
            · show s2.heap.objs.size ≤ D
              rw [hDe]; exact Nat.le_refl _
            · exact pinD p hp
          have e9' : h9.get? D = some { cls := .type "list", data := .seq (itsj ++ [z]).toArray k9 } := by
            rw [e9]; simp
          refine ⟨m3, hm3, j + 1, σ12, H13, ysj ++ [v13], itsj ++ [z], k9, I9.pins_of fun p hp => ?_, T2.keep _ _ _ k11 fun b hb o e => hs9.extBut b o (n2D b hb) e, k12, rvj.append (.cons r13 .nil), w13⟩
          rcases List.mem_append.mp hp with q | q
          · rcases List.mem_append.mp q with q | q
            · exact I9.pin p (List.mem_append_right _ q)
            · have e : p = (D, { cls := .type "list", data := .seq (itsj ++ [z]).toArray k9 }) := by simpa using q
              subst e
              exact ⟨e9', pD.2.1, pD.2.2.1, pD.2.2.2.1, fun v z => by cases z⟩
          · obtain ⟨hb, _⟩ := of_pinsAt q
            obtain ⟨a1, a2, a3, a4, a5⟩ := I13.pin p (List.mem_append_right _ (List.mem_append_left _ (List.mem_append_right _ q)))
            exact ⟨hs9.extBut p.1 p.2 (Nat.ne_of_lt (fpD p.1 hb)) a1, a2, a3, a4, a5⟩
      exact compStart1 (loop2 _ rfl) (T2.self _ 0 _ _ _ st8 (loop2 _ rfl))
  exact codeAny_compStart_list (loop _ rfl) (T.self _ 0 _ _ _ st4 (loop _ rfl))
variable {wi : TI}
theorem pe_comp2 (c : CompOk X scope N ix) (hc : X.calm = true) (hi : PI X tg iter wi) (hg : ∀ C fp s H, PG (cxC X N scope C fp s H) tg g) (hi2 : ∀ C fp s H, PI (cxC X N scope C fp s H) tg2 iter2 wi2) (hg2 : ∀ C fp s H, PG (cxC X N scope C fp s H) tg2 g2) (he : ∀ C fp s H, PE (cxC X N scope C fp s H) elt te)
    (hs : ∀ x, foldedSetIterable iter X.env x = pure x := by intro _; rfl) (hs2 : ∀ C fp s H x, foldedSetIterable iter2 (cxC X N scope C fp s H).env x = pure x := by intro _ _ _ _ _; rfl) : PE X (.ListComp elt [⟨tg, iter, [], 0⟩, ⟨tg2, iter2, [], 0⟩] scope pos) (tComp2 ix wi g wi2 g2 te) := by
  intro pins s σ H Q I h
  rw [eval_ListComp]
  have hcl : ∀ y ∈ scope.names, y.2 = NameKind.free → ∃ d, X.env.cells.lookup y.1 = some d := fun y hy e => I.ok.has _ (c.fr y hy e)
  refine wpAny_comprehension_free (use := none) rfl hs (closureFor_eq hcl) c.kind c.names (thn (hi pins s σ H _ I h) fun v s1 h1 => thn h1 fun itv s2 h2 => ?_)
  refine comp_block2 (RR := fun acc C => compPost (model X.prog X.w) X.A X.xe none (EP X pins σ Q) acc C) c hc hg hi2 hg2 he hs2 h2 ?_
  intro D C s' H' m I' hn hC hz hp hL hcells q
  exact ⟨m, hn, fun h' hs' => ⟨.ref D, H', I'.turned (t' := s'.toks) (fun b o hb e => hs'.extBut b o hb e) hC hL (.inr hz) hcells hp, rfl, q⟩⟩
end
end L2
namespace L2
open PySem PySem.Spec PyProof.Rows
def EmW (prog : Program) (w : World) (A : Around) (elt : Expr) (gens : List Comprehension) (scope : Scope) (pos : Pos) (d : Nat) (acc : Value) (env : Env) (Q : Shared → Prop) (s : Shared) : Prop :=
  match gens[d + 1]? with
  | some g' => wpAny (model prog w) A (eval g'.iter env) (fun x s₃ => wpAny (model prog w) A (pyIter x) (fun it2 s₄ =>
      codeAny (model prog w) A (.compStart (.ListComp elt gens scope pos) (d + 1) it2 acc env) (fun r s₅ => r = .ok .next ∧ Q s₅) s₄) (fun _ _ => False) s₃) (fun _ _ => False) s
  | none => wpAny (model prog w) A (eval elt env) (fun x s₄ => wpAny (model prog w) A (call (.builtin "list.append") [acc, x]) (fun _ s₅ => Q s₅) (fun _ _ => False) s₄) (fun _ _ => False) s
section
variable {prog : Program} {w : World} {A : Around} {R : Result → Shared → Prop} {s : Shared} {elt t i : Expr} {ifs : List Expr} {gens : List Comprehension} {scope : Scope} {pos : Pos} {d : Nat} {it acc : Value} {env : Env}
theorem compLoopN_any (hd : gens[d]? = some ⟨t, i, ifs, 0⟩) (ha : ∀ g', gens[d + 1]? = some g' → g'.is_async = 0 ∧ ∀ x, foldedSetIterable g'.iter env x = pure x) (I : Nat → Shared → Prop)
    (turn : ∀ n s, I n s → wpAny (model prog w) A (pyNext it) (fun r s₁ => match r with
      | none => R (.ok .next) s₁
      | some v => wpAny (model prog w) A (letOwnedTupleGo t it v) (fun _ s₁ => wpAny (model prog w) A (assign t env v) (fun _ s₂ =>
          wpAny (model prog w) A (forIn ifs true fun c r => if r = true then do let ok ← isTrue c env (eval c env); pure (ForInStep.yield ok) else pure (ForInStep.yield r)) (fun ok s₃ =>
            if ok = true then EmW prog w A elt gens scope pos d acc env (fun s₄ => ∃ m, m < n ∧ I m s₄) s₃
            else ∃ m, m < n ∧ I m s₃) (fun _ _ => False) s₂) (fun _ _ => False) s₁) (fun _ _ => False) s₁) (fun _ _ => False) s)
    (n : Nat) (h : I n s) :
    codeAny (model prog w) A (.compLoop (.ListComp elt gens scope pos) d it acc env) R s := by
  refine codeAny_loop rfl I (fun n s hI => ?_) n h
  show wpAny _ A ((compTurn (.ListComp elt gens scope pos) d it acc env).onRaise (fun x => do noteFrame x env; theTreesLotGoes x)) _ _ s
  refine wpAny_noted ?_
  unfold compTurn
  simp only [hd, bne_self_eq_false, Bool.false_eq_true, if_false]
  refine wpAny_bind (wpAny_standAt (wpAny_bind (wpAny_mono (turn n s hI) (fun r s₁ h₁ => ?_) fun _ _ h' => h'.elim)))
  cases r with
  | none => exact wpAny_pure h₁
  | some v =>
    refine wpAny_bind (wpAny_mono h₁ (fun _ s₁ h₁ => ?_) fun _ _ h' => h'.elim)
    refine wpAny_bind (wpAny_mono h₁ (fun _ s₂ h₂ => wpAny_bind (wpAny_mono h₂ (fun ok s₃ h₃ => ?_) fun _ _ h' => h'.elim)) fun _ _ h' => h'.elim)
    cases ok with
    | false => exact wpAny_pure ⟨rfl, h₃⟩
    | true =>
      rw [if_pos rfl] at h₃ ⊢
      unfold EmW at h₃
      cases hg : gens[d + 1]? with
      | none =>
        rw [hg] at h₃
        refine wpAny_bind (wpAny_bind (wpAny_mono h₃ (fun x s₄ h₄ => wpAny_bind (wpAny_mono h₄ (fun _ s₅ h₅ => ?_) fun _ _ h' => h'.elim)) fun _ _ h' => h'.elim))
        exact wpAny_pure (wpAny_pure ⟨rfl, h₅⟩)
      | some g' =>
        rw [hg] at h₃
        obtain ⟨as, hs⟩ := ha g' hg
        simp only [as, bne_self_eq_false, Bool.false_eq_true, if_false]
        refine wpAny_bind (wpAny_mono h₃ (fun x s₃ h₃ => wpAny_bind (wpAny_standAt (wpAny_bind (wpAny_of_eq (hs x) (wpAny_bind (wpAny_holding (wpAny_mono h₃ (fun it2 s₄ h₄ => ?_) fun _ _ h' => h'.elim))))))) fun _ _ h' => h'.elim)
        refine wpAny_bind (wpAny_runOwn (codeAny_mono h₄ fun r s₅ h₅ => ?_))
        obtain ⟨rfl, h₅⟩ := h₅
        exact wpAny_pure ⟨rfl, h₅⟩
theorem compStartN (hd : gens[d]? = some ⟨t, i, ifs, 0⟩) (hf : (Code.compStart (.ListComp elt gens scope pos) d it acc env).isFrame = false)
    (h1 : codeAny (model prog w) A (.compLoop (.ListComp elt gens scope pos) d it acc env) R s)
    (h2 : wpAny (model prog w) A (pyIter it) (fun it' s' => codeAny (model prog w) A (.compLoop (.ListComp elt gens scope pos) d it' acc env) R s') (fun _ _ => False) s) :
    codeAny (model prog w) A (.compStart (.ListComp elt gens scope pos) d it acc env) R s := by
  refine codeAny_of_tree ?_
  show wpAny _ A ((compStart (.ListComp elt gens scope pos) d it acc env).onRaise (fun x => do noteFrame x env; standAt theWindowsPlace)) _ _ s
  refine wpAny_onRaise ?_
  unfold compStart
  have hc : clausesOf (.ListComp elt gens scope pos) = gens := rfl
  simp only [hc, hd, Option.elim, bne_self_eq_false, Bool.false_eq_true, if_false]
  refine wpAny_bind (wpAny_askSetting ?_)
  split
  · exact wpAny_pure ⟨rfl, h1⟩
  · refine wpAny_bind (wpAny_rule (wpAny_bind (wpAny_standAt (wpAny_bind (wpAny_mono h2 (fun it' s' h' => ?_) fun _ _ z => z.elim)))))
    exact wpAny_pure ⟨rfl, h'⟩
end
end L2
namespace L2
open PySem PySem.Spec PyProof.Rows
theorem EmW.mono {prog : Program} {w : World} {A : Around} {elt : Expr} {gens : List Comprehension} {scope : Scope} {pos : Pos} {d : Nat} {acc : Value} {env : Env} {Q Q' : Shared → Prop} {s : Shared} (h : EmW prog w A elt gens scope pos d acc env Q s) (hQ : ∀ s', Q s' → Q' s') : EmW prog w A elt gens scope pos d acc env Q' s := by
  unfold EmW at h ⊢
  cases hg : gens[d + 1]? with
  | none =>
    rw [hg] at h
    exact thn h fun x s₄ h₄ => thn h₄ fun _ s₅ h₅ => hQ _ h₅
  | some g' =>
    rw [hg] at h
    exact thn h fun x s₃ h₃ => thn h₃ fun it2 s₄ h₄ => codeAny_mono h₄ fun r s₅ h₅ => ⟨h₅.1, hQ _ h₅.2⟩
abbrev WK := List V → St → Hp → Prop
abbrev IN := List V → St → Hp → WK → Prop
def wElt (te : TE) : IN := fun ys σ H R => ys.length < sizeLine ∧ te σ H fun v H5 => R (ys ++ [v]) σ H5
def wLoop (g : TG) (tc : TT) (inn : IN) (J : It) : IN := fun ys σ H R =>
  ∃ W : WC, (∃ m, W 0 m ys σ H) ∧ ∀ i m ys' σ' H', W i m ys' σ' H' →
    (J.stop i H' ∧ R ys' σ' H') ∨
    (J.go i H' ∧ ∀ x H2, J.yld i H' x H2 → g x σ' H2 fun σ2 H3 => tc σ2 H3 fun b H4 => if b = true then inn ys' σ2 H4 (fun ys2 σ3 H5 => ∃ m', m' < m ∧ W (i + 1) m' ys2 σ3 H5) else ∃ m', m' < m ∧ W (i + 1) m' ys' σ2 H4)
def wGen (wi : TI) (g : TG) (tc : TT) (inn : IN) : IN := fun ys σ H R => wi σ H fun J H4 => wLoop g tc inn J ys σ H4 R
def Lob (its : List Value) (k : Nat) : Obj := { cls := .type "list", data := .seq its.toArray k }
structure DOk (Y : Cx) (base : List (Addr × Obj)) (D : Addr) : Prop where
  loc : D ≠ Y.env.locals
  sz : Y.s₀.heap.objs.size ≤ D
  cel : ∀ x c, Y.env.cells.lookup x = some c → c ≠ D
  pin : ∀ p ∈ Y.pn ++ base, p.1 ≠ D
inductive Chain (Y : Cx) (gens : List Comprehension) (elt : Expr) : Nat → IN → Prop
  | last {d : Nat} {te : TE} (hn : gens[d + 1]? = none) (he : PE Y elt te) : Chain Y gens elt d (wElt te)
  | more {d : Nat} {t i : Expr} {ifs : List Expr} {wi : TI} {g : TG} {tc : TT} {inn : IN} (hd : gens[d + 1]? = some ⟨t, i, ifs, 0⟩) (hi : PI Y t i wi) (hg : PG Y t g) (ht : PIf Y ifs tc) (hs : ∀ x, foldedSetIterable i Y.env x = pure x) (rest : Chain Y gens elt (d + 1) inn) : Chain Y gens elt d (wGen wi g tc inn)
theorem Chain.next {Y : Cx} {gens : List Comprehension} {elt : Expr} {d : Nat} {inn : IN} (c : Chain Y gens elt d inn) : ∀ g', gens[d + 1]? = some g' → g'.is_async = 0 ∧ ∀ x, foldedSetIterable g'.iter Y.env x = pure x := by
  intro g' h
  cases c with
  | last hn _ => rw [hn] at h; cases h
  | more hd _ _ _ hs _ => rw [hd] at h; cases h; exact ⟨rfl, hs⟩
section
variable {Y : Cx} {base : List (Addr × Obj)} {D : Addr} {elt : Expr} {gens : List Comprehension} {scope : Scope} {pos : Pos}
def At (Y : Cx) (base : List (Addr × Obj)) (D : Addr) (P : List (Addr × Obj)) (R : WK) (s' : Shared) : Prop :=
  ∃ σ' H' ys' its' k', Inv Y (base ++ ((D, Lob its' k') :: P)) σ' H' s' ∧ Vals ys' its' ∧ R ys' σ' H'
def BodyP (Y : Cx) (base : List (Addr × Obj)) (D : Addr) (elt : Expr) (gens : List Comprehension) (scope : Scope) (pos : Pos) (d : Nat) (inn : IN) : Prop :=
  ∀ (P : List (Addr × Obj)) (s : Shared) (σ : St) (H : Hp) (ys : List V) (its : List Value) (k : Nat) (R : WK), (∀ p ∈ P, p.1 ≠ D) → Inv Y (base ++ ((D, Lob its k) :: P)) σ H s → Vals ys its → inn ys σ H R →
    EmW Y.prog Y.w Y.A elt gens scope pos d (.ref D) Y.env (At Y base D P R) s
theorem mem_D {p : Addr × Obj} {P : List (Addr × Obj)} {o : Obj} (h : p ∈ base ++ ((D, o) :: P)) : p ∈ base ∨ p = (D, o) ∨ p ∈ P := by
  rcases List.mem_append.mp h with z | z
  · exact .inl z
  · exact .inr (List.mem_cons.mp z)
theorem loop_of_body {d : Nat} {t i : Expr} {ifs : List Expr} {g : TG} {tc : TT} {inn : IN} (hxe : Y.xe = fun _ _ => False) (hc : Y.calm = true) (hd : gens[d]? = some ⟨t, i, ifs, 0⟩) (ch : ∀ g', gens[d + 1]? = some g' → g'.is_async = 0 ∧ ∀ x, foldedSetIterable g'.iter Y.env x = pure x)
    (hg : PG Y t g) (ht : PIf Y ifs tc) (body : BodyP Y base D elt gens scope pos d inn)
    {P : List (Addr × Obj)} {J : It} {fp : List Addr} {it : Addr} {tn : Nat → Heap → Prop} {s : Shared} {σ : St} {H : Hp} {ys : List V} {its : List Value} {k : Nat} {R : WK} (hP : ∀ p ∈ P, p.1 ≠ D)
    (I : Inv Y (base ++ ((D, Lob its k) :: P)) σ H s) (rv : Vals ys its) (T : Turn Y.prog Y.w Y.K t J fp it tn) (st : tn 0 s.heap) (f : ∀ b ∈ fp, FpOk Y (base ++ ((D, Lob its k) :: P)) H b) (w : wLoop g tc inn J ys σ H R) :
    codeAny (model Y.prog Y.w) Y.A (.compLoop (.ListComp elt gens scope pos) d (.ref it) (.ref D) Y.env) (fun r s' => r = .ok .next ∧ At Y base D P R s') s := by
  obtain ⟨W, ⟨m0, w0⟩, turn⟩ := w
  have stat : ∀ {H' : Hp} {oD : Obj}, (∀ b ∈ fp, H' b = none) → ∀ b ∈ fp, FpOk Y (base ++ ((D, oD) :: P)) H' b := fun {H' oD} hn b hb => by
    obtain ⟨f0, f1, f2, f3, f4, f5⟩ := f b hb
    refine ⟨hn b hb, f1, f2, f3, f4, fun p hp => ?_⟩
    rcases List.mem_append.mp hp with z | z
    · exact f5 p (List.mem_append_left _ z)
    · rcases mem_D z with z | z | z
      · exact f5 p (List.mem_append_right _ (List.mem_append_left _ z))
      · have := f5 (D, Lob its k) (List.mem_append_right _ (List.mem_append_right _ List.mem_cons_self))
        rw [z]; exact this
      · exact f5 p (List.mem_append_right _ (List.mem_append_right _ (List.mem_cons_of_mem _ z)))
  have fD : ∀ b ∈ fp, b ≠ D := fun b hb => by
    obtain ⟨_, _, _, _, _, f5⟩ := f b hb
    exact (f5 (D, Lob its k) (List.mem_append_right _ (List.mem_append_right _ List.mem_cons_self))).symm
  refine compLoopN_any hd ch (fun n s' => ∃ j σ' H' ys' its' k', Inv Y (base ++ ((D, Lob its' k') :: P)) σ' H' s' ∧ tn j s'.heap ∧ (∀ b ∈ fp, H' b = none) ∧ Vals ys' its' ∧ W j n ys' σ' H') ?_ m0 ⟨0, σ, H, ys, its, k, I, st, fun b hb => (f b hb).1, rv, w0⟩
  rintro n s' ⟨j, σj, Hj, ysj, itsj, kj, Ij, stj, frj, rvj, wj⟩
  rcases turn j n ysj σj Hj wj with ⟨stop, q⟩ | ⟨go, step⟩
  · refine thn (T.done Y rfl rfl rfl hc j _ s' σj Hj _ Ij (stat frj) stj stop) fun r s2 ⟨hr, I2⟩ => ?_
    subst hr
    exact ⟨rfl, σj, Hj, ysj, itsj, kj, I2, rvj, q⟩
  · refine thn (T.item Y rfl rfl rfl hc j _ s' σj Hj _ Ij (stat frj) stj go) fun r s4 ⟨u, hr, h4⟩ => ?_
    subst hr
    refine thn h4 fun _ s5 ⟨x, H5, I5, r5, y5, st5, fr5⟩ => ?_
    have I5' := I5.pinned (stat fr5) (T.obj _ _ st5)
    rw [List.append_assoc, List.cons_append] at I5'
    have hP' : ∀ p ∈ P ++ pinsAt fp s5.heap, p.1 ≠ D := fun p hp => by
      rcases List.mem_append.mp hp with z | z
      · exact hP p z
      · obtain ⟨hb, _⟩ := of_pinsAt z
        exact fD _ hb
    have keep : ∀ {s' : Shared} {σ' : St} {H' : Hp} {oD : Obj}, Inv Y (base ++ ((D, oD) :: (P ++ pinsAt fp s5.heap))) σ' H' s' → tn (j + 1) s'.heap ∧ (∀ b ∈ fp, H' b = none) ∧ Inv Y (base ++ ((D, oD) :: P)) σ' H' s' := fun {s' σ' H' oD} I' => by
      have pin : ∀ p ∈ pinsAt fp s5.heap, p ∈ Y.pn ++ (base ++ ((D, oD) :: (P ++ pinsAt fp s5.heap))) := fun p hp => List.mem_append_right _ (List.mem_append_right _ (List.mem_cons_of_mem _ (List.mem_append_right _ hp)))
      refine ⟨T.keep _ _ _ st5 fun b hb o e => (I'.pin (b, o) (pin _ (mem_pinsAt hb e))).1, fun b hb => ?_, ?_⟩
      · obtain ⟨o, e, d⟩ := T.obj _ _ st5 b hb
        exact (I'.pin (b, o) (pin _ (mem_pinsAt hb e))).2.1
      · have := I'
        rw [← List.cons_append, ← List.append_assoc] at this
        exact this.unpinned
    have h6 := hg _ s5 σj H5 x u _ I5' r5 (step x H5 y5)
    rw [hxe] at h6
    refine thn h6 fun _ s6 ⟨σ6, H6, I6, q6⟩ => ?_
    have h7 := ht _ s6 σ6 H6 _ I6 q6
    rw [hxe] at h7
    refine thn h7 fun ok s7 ⟨H7, I7, q7⟩ => ?_
    cases ok with
    | false =>
      rw [if_neg Bool.false_ne_true] at q7 ⊢
      obtain ⟨m', hm, wm⟩ := q7
      obtain ⟨k1, k2, k3⟩ := keep I7
      exact ⟨m', hm, j + 1, σ6, H7, ysj, itsj, kj, k3, k1, k2, rvj, wm⟩
    | true =>
      rw [if_pos rfl] at q7 ⊢
      refine (body (P ++ pinsAt fp s5.heap) s7 σ6 H7 ysj itsj kj _ hP' I7 rvj q7).mono fun s8 ⟨σ8, H8, ys8, its8, k8, I8, rv8, m', hm, wm⟩ => ?_
      obtain ⟨k1, k2, k3⟩ := keep I8
      exact ⟨m', hm, j + 1, σ8, H8, ys8, its8, k8, k3, k1, k2, rv8, wm⟩
theorem bodyN (hxe : Y.xe = fun _ _ => False) (hc : Y.calm = true) (dk : DOk Y base D) (hfr : ∀ d it acc env, (Code.compStart (.ListComp elt gens scope pos) d it acc env).isFrame = false) {d : Nat} {inn : IN} (c : Chain Y gens elt d inn) : BodyP Y base D elt gens scope pos d inn := by
  induction c with
  | @last d te hn he =>
    intro P s σ H ys its k R hP I rv h
    unfold EmW
    rw [hn]
    obtain ⟨hz, h⟩ := h
    have h1 := he _ s σ H _ I h
    rw [hxe] at h1
    refine thn h1 fun z s13 ⟨v13, H13, I13, r13, w13⟩ => ?_
    have inD : (D, Lob its k) ∈ Y.pn ++ (base ++ ((D, Lob its k) :: P)) := List.mem_append_right _ (List.mem_append_right _ List.mem_cons_self)
    have pD := I13.pin _ inD
    have I13v : Inv Y base σ H13 s13 := I13.unpinned
    have len := rv.length
    refine wpAny_list_append_plain (items := its.toArray) (hsz := by simp; omega) ⟨k, pD.1⟩ fun h9 hl9 hs9 => ?_
    obtain ⟨k9, e9⟩ := hl9
    have I9 : Inv Y base σ H13 { s13 with heap := h9 } := I13v.turned (t' := s13.toks) (it := D) (fun b o hb e => hs9.extBut b o hb e) pD.2.1 dk.loc (.inr dk.sz) dk.cel dk.pin
    have e9' : h9.get? D = some (Lob (its ++ [z]) k9) := by
      rw [e9]; unfold Lob; simp
    refine ⟨σ, H13, ys ++ [v13], its ++ [z], k9, I9.pins_of fun p hp => ?_, rv.append (.cons r13 .nil), w13⟩
    rcases mem_D hp with q | q | q
    · exact I9.pin p (List.mem_append_right _ q)
    · subst q
      exact ⟨e9', pD.2.1, pD.2.2.1, pD.2.2.2.1, fun v z => by cases z⟩
    · obtain ⟨a1, a2, a3, a4, a5⟩ := I13.pin p (List.mem_append_right _ (List.mem_append_right _ (List.mem_cons_of_mem _ q)))
      exact ⟨hs9.extBut p.1 p.2 (hP p q) a1, a2, a3, a4, a5⟩
  | @more d t i ifs wi g tc inn hd hi hg ht hs rest ih =>
    intro P s σ H ys its k R hP I rv h
    unfold EmW
    rw [hd]
    have h1 := hi _ s σ H _ I h
    rw [hxe] at h1
    refine thn h1 fun v s7 h7 => thn h7 fun itv2 s8 h8 => ?_
    obtain ⟨it2, fp2, tn2, J2, H8, rfl, I8, T2, st8, f8, w8⟩ := h8
    have lp := loop_of_body (s := s8) hxe hc hd rest.next hg ht ih hP I8 rv T2 st8 f8 w8
    exact compStartN hd (hfr _ _ _ _) lp (T2.self _ 0 _ _ _ st8 lp)
end
end L2
namespace L2
open PySem PySem.Spec PyProof.Rows
theorem inner2L {K : PySem.W.Frag} {a : Addr} {xs : List V} {k : Nat} {te : TE} {ys : List V} {σ : St} {H : Hp} {R : List V → St → Hp → Prop} (Pw : Nat → List V → St → Hp → Prop) (h0 : Pw 0 ys σ H)
    (hl : ∀ j ys σ H, j ≤ xs.length → Pw j ys σ H → SqL K H a xs) (hz : ∀ j ys σ H, Pw j ys σ H → ys.length < 1000000)
    (hs : ∀ j ys σ H x (S : List V → St → Hp → Prop), xs[j]? = some x → Pw j ys σ H → (∀ ys' σ' H', Pw (j + 1) ys' σ' H' → S ys' σ' H') → te (σ.set k (some x)) H fun v H5 => S (ys ++ [v]) (σ.set k (some x)) H5)
    (hd : ∀ ys σ H, Pw xs.length ys σ H → R ys σ H) :
    ∃ W2 : WC, (∃ m2, W2 0 m2 ys σ H) ∧ ∀ j m2 ys' σ3 H5, W2 j m2 ys' σ3 H5 →
      ((Itl K a).stop j H5 ∧ R ys' σ3 H5) ∨
      ((Itl K a).go j H5 ∧ ys'.length < sizeLine ∧ ∀ y H6, (Itl K a).yld j H5 y H6 → gName k y σ3 H6 fun σ4 H7 => te σ4 H7 fun v H8 => ∃ m3, m3 < m2 ∧ W2 (j + 1) m3 (ys' ++ [v]) σ4 H8) := by
  have big : (1000000 : Nat) < sizeLine := by decide
  refine ⟨fun j m ys σ H => m = xs.length - j ∧ j ≤ xs.length ∧ Pw j ys σ H, ⟨xs.length, by simp, Nat.zero_le _, h0⟩, ?_⟩
  rintro j m ys' σ3 H5 ⟨rfl, hj, p⟩
  have hy := hz j ys' σ3 H5 p
  by_cases hlt : j < xs.length
  · refine .inr ⟨⟨xs, xs[j], hl j ys' σ3 H5 hj p, by simp [hlt]⟩, by omega, fun y H6 yy => ?_⟩
    obtain ⟨rfl, yy⟩ := yy
    unfold gName
    exact hs j ys' σ3 _ y (fun ys2 σ2 H2 => ∃ m3, m3 < xs.length - j ∧ (m3 = xs.length - (j + 1) ∧ j + 1 ≤ xs.length ∧ Pw (j + 1) ys2 σ2 H2)) (yy xs (hl j ys' σ3 _ hj p)) p fun ys2 σ2 H2 q => ⟨xs.length - (j + 1), by omega, rfl, hlt, q⟩
  · have e : j = xs.length := by omega
    subst e
    exact .inl ⟨⟨xs, hl _ ys' σ3 H5 (Nat.le_refl _) p, Nat.le_refl _⟩, hd ys' σ3 H5 p⟩
theorem comp2L {K : PySem.W.Frag} {ix : List (Option Nat)} {wi2 : TI} {g2 : TG} {te : TE} {σ : St} {Q : VK} {H : Hp} {a : Addr} {xs : List V} {k : Nat} (Pv : Nat → List V → St → Hp → Prop) (h0 : Pv 0 [] (startC ix σ) H)
    (hl : ∀ i ys σ H, i ≤ xs.length → Pv i ys σ H → SqL K H a xs) (hz : ∀ i ys σ H, Pv i ys σ H → ys.length < 1000000)
    (hs : ∀ i ys σ H x (R : List V → St → Hp → Prop), xs[i]? = some x → Pv i ys σ H → (∀ ys' σ' H', Pv (i + 1) ys' σ' H' → R ys' σ' H') → wi2 (σ.set k (some x)) H fun J2 H4 =>
      ∃ W2 : WC, (∃ m2, W2 0 m2 ys (σ.set k (some x)) H4) ∧ ∀ j m2 ys' σ3 H5, W2 j m2 ys' σ3 H5 →
        (J2.stop j H5 ∧ R ys' σ3 H5) ∨
        (J2.go j H5 ∧ ys'.length < sizeLine ∧ ∀ y H6, J2.yld j H5 y H6 → g2 y σ3 H6 fun σ4 H7 => te σ4 H7 fun v H8 => ∃ m3, m3 < m2 ∧ W2 (j + 1) m3 (ys' ++ [v]) σ4 H8))
    (hd : ∀ ys σ' H' p, Pv xs.length ys σ' H' → H' p = none → Q (.ref p) (upd H' p (.lst ys))) : rComp2 ix (gName k) wi2 g2 te σ Q (Itl K a) H := by
  have big : (1000000 : Nat) < sizeLine := by decide
  refine ⟨fun i m ys σ H => m = xs.length - i ∧ i ≤ xs.length ∧ Pv i ys σ H, ⟨xs.length, by simp, Nat.zero_le _, h0⟩, ?_⟩
  rintro i m ys σ' H' ⟨rfl, hi, p⟩
  have hy := hz i ys σ' H' p
  by_cases hlt : i < xs.length
  · refine .inr ⟨⟨xs, xs[i], hl i ys σ' H' hi p, by simp [hlt]⟩, fun x H2 yy => ?_⟩
    obtain ⟨rfl, yy⟩ := yy
    unfold gName
    exact hs i ys σ' _ x (fun ys2 σ2 H2 => ∃ m3, m3 < xs.length - i ∧ (m3 = xs.length - (i + 1) ∧ i + 1 ≤ xs.length ∧ Pv (i + 1) ys2 σ2 H2)) (yy xs (hl i ys σ' _ hi p)) p fun ys2 σ2 H2 q => ⟨xs.length - (i + 1), by omega, rfl, hlt, q⟩
  · have e : i = xs.length := by omega
    subst e
    exact .inl ⟨⟨xs, hl _ ys σ' H' (Nat.le_refl _) p, Nat.le_refl _⟩, by omega, fun q hq => hd ys σ' H' q p hq⟩
end L2
namespace L2
open PySem PySem.Spec PyProof.Rows PySem.SeqAt
inductive TxtEs (pr : Params) : List DictEntry → List (Str × Str) → Prop
  | nil : TxtEs pr [] []
  | cons {x y : Str} {t u : Tok} {es : List DictEntry} {ps : List (Str × Str)} : TxtEs pr es ps → TxtEs pr ({ hash := PyData.keyHash pr x, key := .str x t, val := .str y u } :: es) ((x, y) :: ps)
structure KTxt (K : PySem.W.Frag) (pr : Params) (a : Addr) (ps : List (Str × Str)) : Prop where
  sys : (a == sysModules) = false
  nd : (ps.map (·.1)).Nodup
  ex : ∃ (es : List DictEntry) (ep : Nat), K.lookup a = some { cls := .type "dict", data := .dict es.toArray ep } ∧ TxtEs pr es ps
end L2
namespace L2
open PySem PySem.Spec PyProof.Rows
def fin (Q : VK) : WK := fun ys _ H' => ys.length ≤ sizeLine ∧ ∀ p, H' p = none → Q (.ref p) (upd H' p (.lst ys))
def tCompN (ix : List (Option Nat)) (wi : TI) (g : TG) (tc : TT) (inn : IN) : TE := fun σ H Q => wi σ H fun J H1 => wLoop g tc inn J [] (startC ix σ) H1 (fin Q)
section
variable {X : Cx} {scope : Scope} {N : List Str} {ix : List (Option Nat)} {elt tg iter : Expr} {ifs : List Expr} {gens : List Comprehension} {g : TG} {tc : TT} {inn : IN} {pos : Pos}
theorem comp_blockN {pins : List (Addr × Obj)} {σ : St} {s2 : Shared} {Q : VK} {itv : Value} {RR : Value → Addr → Result → Shared → Prop} {E : Value → Shared → Prop} (c : CompOk X scope N ix) (hc : X.calm = true)
    (hd0 : gens[0]? = some ⟨tg, iter, ifs, 0⟩) (hg : ∀ C fp s H, PG (cxC X N scope C fp s H) tg g) (ht : ∀ C fp s H, PIf (cxC X N scope C fp s H) ifs tc) (hch : ∀ C fp s H, Chain (cxC X N scope C fp s H) gens elt 0 inn)
    (h2 : PIE X pins σ tg (fun J H1 => wLoop g tc inn J [] (startC ix σ) H1 (fin Q)) itv s2)
    (hR : ∀ (D C : Addr) (s' : Shared) (H' : Hp) (m : Str → Option Value), Inv X pins σ H' s' → s'.heap.Ns C m → H' C = none → X.s₀.heap.objs.size ≤ C → (∀ p ∈ X.pn ++ pins, p.1 ≠ C) → C ≠ X.env.locals → (∀ x c, X.env.cells.lookup x = some c → c ≠ C) → Q (.ref D) H' → RR (.ref D) C (.ok .next) s') :
    wpAny (model X.prog X.w) X.A (newList []) (fun acc s₃ => wpAny (model X.prog X.w) X.A (newFunctionEnv scope X.env.globals (closL X.env.cells scope.names []) [] X.env.qual none .none (some X.env)) (fun cenv s₄ =>
      codeAny (model X.prog X.w) X.A (.compStart (.ListComp elt gens scope pos) 0 itv acc { cenv with scope := relabel scope X.env }) (RR acc cenv.locals) s₄) E s₃) E s2 := by
  obtain ⟨it, fp, tn, J, H2, rfl, I2, T, st2, f2, wl⟩ := h2
  refine wpAny_newObj_type (wpAny_newFunctionEnv c.nocell (by intro y hy; simp at hy) (fun h₁ hns₁ hsb₁ => ?_) c.kind)
  dsimp only at hns₁ hsb₁ ⊢
  generalize hH2 : s2.heap.push { cls := .type "list", dict := none, data := .seq ([] : List Value).toArray } = G2 at hns₁ hsb₁ ⊢
  have hCs : G2.objs.size = s2.heap.objs.size + 1 := by rw [← hH2, Heap.size_push]
  generalize hCe : G2.objs.size = C at hns₁ hsb₁ hCs ⊢
  generalize hDe : s2.heap.objs.size = D at hCs ⊢
  have ltC : ∀ b, @LT.lt Nat _ b D → b ≠ C := fun b hb => Nat.ne_of_lt (by rw [hCs]; exact Nat.lt_succ_of_lt hb)
  have ltS : ∀ b o, s2.heap.get? b = some o → @LT.lt Nat _ b D := fun b o e => by rw [← hDe]; exact Heap.lt_size e
  have hDC : D ≠ C := Nat.ne_of_lt (by rw [hCs]; exact Nat.lt_succ_self _)
  have old : ∀ b o, s2.heap.get? b = some o → h₁.get? b = some o := fun b o e => hsb₁.extBut b o (ltC b (ltS b o e)) (Heap.get?_push_of_some _ (hH2 ▸ Heap.get?_push_of_some _ e))
  have hoD : h₁.get? D = some { cls := .type "list", dict := none, data := .seq ([] : List Value).toArray } := by
    refine hsb₁.extBut _ _ hDC (Heap.get?_push_of_some _ ?_)
    rw [← hH2, ← hDe]
    exact Heap.get?_push_size _ rfl
  have I4 : Inv (cxC X N scope C fp s2 H2) (pins ++ [(D, { cls := .type "list", data := .seq ([] : List Value).toArray })]) (startC ix σ) H2 { s2 with heap := h₁, toks := s2.toks + ([] : List (Str × Value)).length } :=
    c.enter I2 f2 (T.obj _ _ st2) (by rw [hCs, hDe]) hDe.symm old hns₁ hoD fun v z => by cases z
  have st4 : tn 0 h₁ := T.keep _ _ _ st2 fun b _ o e => old b o e
  have pinD : ∀ p ∈ X.pn ++ pins, p.1 ≠ D := fun p hp => Nat.ne_of_lt (ltS _ _ (I2.pin p hp).1)
  have pinC : ∀ p ∈ X.pn ++ pins, p.1 ≠ C := fun p hp => ltC _ (ltS _ _ (I2.pin p hp).1)
  have celD : ∀ x d, X.env.cells.lookup x = some d → @LT.lt Nat _ d D := fun x d e => by
    obtain ⟨v, o, ho, _⟩ := I2.cell x d e
    exact ltS d o ho
  have fpD : ∀ b ∈ fp, @LT.lt Nat _ b D := fun b hb => by
    obtain ⟨o, e, _⟩ := T.obj _ _ st2 b hb
    exact ltS b o e
  have sub : ∀ x d, (closL X.env.cells scope.names []).lookup x = some d → X.env.cells.lookup x = some d := fun x d e => by
    rcases closL_sub e with z | z
    · simp at z
    · exact z
  have stat : ∀ {H' : Hp} {oD : Obj}, (∀ b ∈ fp, H' b = none) → ∀ b ∈ fp, FpOk (cxC X N scope C fp s2 H2) (pins ++ [(D, oD)]) H' b := fun {H' oD} hn b hb => by
    obtain ⟨f0, f1, f2, f3, f4, f5⟩ := f2 b hb
    refine ⟨hn b hb, ltC b (fpD b hb), fun z => ?_, .inl hb, fun x d e => f4 x d (sub x d e), fun p hp => ?_⟩
    · rcases List.mem_cons.mp (I2.stkSub b z) with e | e
      · exact f1 e
      · exact f2 e
    · have hp : p ∈ X.pn ++ (pins ++ [(D, oD)]) := hp
      rw [← List.append_assoc] at hp
      rcases List.mem_append.mp hp with z | z
      · exact f5 p z
      · have e : p = (D, oD) := by simpa using z
        subst e
        exact Nat.ne_of_gt (fpD b hb)
  have dk : DOk (cxC X N scope C fp s2 H2) pins D := ⟨hDC, by show s2.heap.objs.size ≤ D; rw [hDe]; exact Nat.le_refl _, fun x d e => Nat.ne_of_lt (celD x d (sub x d e)), pinD⟩
  have lp : ∀ s3 : Shared, s3 = { s2 with heap := h₁, toks := s2.toks + ([] : List (Str × Value)).length } →
      codeAny (model X.prog X.w) X.A (.compLoop (.ListComp elt gens scope pos) 0 (.ref it) (.ref D) (cxC X N scope C fp s2 H2).env) (RR (.ref D) C) s3 := by
    rintro s3 rfl
    refine codeAny_mono (loop_of_body (Y := cxC X N scope C fp s2 H2) (base := pins) (D := D) (P := []) (its := []) (k := 0) rfl (show (cxC X N scope C fp s2 H2).calm = true from hc) hd0 (hch C fp s2 H2).next (hg C fp s2 H2) (ht C fp s2 H2) (bodyN (Y := cxC X N scope C fp s2 H2) rfl (show (cxC X N scope C fp s2 H2).calm = true from hc) dk (fun _ _ _ _ => rfl) (hch C fp s2 H2)) (fun p hp => nomatch hp) I4 .nil T st4 (stat fun b hb => (f2 b hb).1) wl) fun r s4 ⟨hr, σ4, H4, ys4, its4, k4, I4, rv4, hz, qn⟩ => ?_
    subst hr
    have hDn : H4 D = none := (I4.pin (D, _) (List.mem_append_right _ (List.mem_append_right _ List.mem_cons_self))).2.1
    obtain ⟨m4, hn4, _⟩ := id I4.loc
    refine hR D C s4 _ m4 (c.leave I2 f2 (by rw [hCs, hDe]) hDe.symm I4 rv4 hz) hn4 ?_ ?_ pinC ?_ (fun x d e => ltC d (celD x d e)) (qn D hDn)
    · rw [upd_ne hDC.symm]; exact I4.free
    · refine Nat.le_trans I2.sz ?_
      rw [hDe, hCs]; exact Nat.le_succ _
    · refine Nat.ne_of_gt (Nat.lt_of_lt_of_le I2.lt ?_)
      rw [hDe, hCs]; exact Nat.le_succ _
  exact compStartN hd0 rfl (lp _ rfl) (T.self _ 0 _ _ _ st4 (lp _ rfl))
variable {wi : TI}
theorem pe_compN {gs : List Comprehension} (c : CompOk X scope N ix) (hc : X.calm = true) (hi : PI X tg iter wi) (hg : ∀ C fp s H, PG (cxC X N scope C fp s H) tg g) (ht : ∀ C fp s H, PIf (cxC X N scope C fp s H) ifs tc) (hch : ∀ C fp s H, Chain (cxC X N scope C fp s H) (⟨tg, iter, ifs, 0⟩ :: gs) elt 0 inn)
    (hs : ∀ x, foldedSetIterable iter X.env x = pure x := by intro _; rfl) : PE X (.ListComp elt (⟨tg, iter, ifs, 0⟩ :: gs) scope pos) (tCompN ix wi g tc inn) := by
  intro pins s σ H Q I h
  rw [eval_ListComp]
  have hcl : ∀ y ∈ scope.names, y.2 = NameKind.free → ∃ d, X.env.cells.lookup y.1 = some d := fun y hy e => I.ok.has _ (c.fr y hy e)
  refine wpAny_comprehension_free (use := none) rfl hs (closureFor_eq hcl) c.kind c.names (thn (hi pins s σ H _ I h) fun v s1 h1 => thn h1 fun itv s2 h2 => ?_)
  refine comp_blockN (RR := fun acc C => compPost (model X.prog X.w) X.A X.xe none (EP X pins σ Q) acc C) c hc rfl hg ht hch h2 ?_
  intro D C s' H' m I' hn hC hz hp hL hcells q
  exact ⟨m, hn, fun h' hs' => ⟨.ref D, H', I'.turned (t' := s'.toks) (fun b o hb e => hs'.extBut b o hb e) hC hL (.inr hz) hcells hp, rfl, q⟩⟩
end
theorem wl_list {K : PySem.W.Frag} {a : Addr} {xs : List V} {g : TG} {tc : TT} {inn : IN} {ys : List V} {σ : St} {H : Hp} {R : WK} (Pv : Nat → List V → St → Hp → Prop) (h0 : Pv 0 ys σ H) (hl : ∀ i ys σ H, i ≤ xs.length → Pv i ys σ H → SqL K H a xs)
    (hs : ∀ i ys σ H x (S : WK), xs[i]? = some x → Pv i ys σ H → (∀ ys' σ' H', Pv (i + 1) ys' σ' H' → S ys' σ' H') → g x σ H fun σ2 H3 => tc σ2 H3 fun b H4 => if b = true then inn ys σ2 H4 S else S ys σ2 H4)
    (hd : ∀ ys σ H, Pv xs.length ys σ H → R ys σ H) : wLoop g tc inn (Itl K a) ys σ H R := by
  refine ⟨fun i m ys σ H => m = xs.length - i ∧ i ≤ xs.length ∧ Pv i ys σ H, ⟨xs.length, by simp, Nat.zero_le _, h0⟩, ?_⟩
  rintro i m ys' σ' H' ⟨rfl, hi, p⟩
  have q := hl i ys' σ' H' hi p
  by_cases hlt : i < xs.length
  · refine .inr ⟨⟨xs, xs[i], q, by simp [hlt]⟩, fun x H2 y => ?_⟩
    obtain ⟨rfl, y⟩ := y
    exact hs i ys' σ' _ x _ (y xs q) p fun ys2 σ2 H2 q2 => ⟨xs.length - (i + 1), by omega, rfl, hlt, q2⟩
  · have e : i = xs.length := by omega
    subst e
    exact .inl ⟨⟨xs, q, Nat.le_refl _⟩, hd _ _ _ p⟩
end L2
namespace L2
open PySem PySem.Spec PyProof.Rows PySem.SeqAt
inductive NumEs (pr : Params) : List DictEntry → List (Str × Int) → Prop
  | nil : NumEs pr [] []
  | cons {x : Str} {y : Int} {t u : Tok} {es : List DictEntry} {ps : List (Str × Int)} : NumEs pr es ps → NumEs pr ({ hash := PyData.keyHash pr x, key := .str x t, val := .int y u } :: es) ((x, y) :: ps)
structure KNum (K : PySem.W.Frag) (pr : Params) (a : Addr) (ps : List (Str × Int)) : Prop where
  sys : (a == sysModules) = false
  nd : (ps.map (·.1)).Nodup
  ex : ∃ (es : List DictEntry) (ep : Nat), K.lookup a = some { cls := .type "dict", data := .dict es.toArray ep } ∧ NumEs pr es ps
end L2
namespace L2
open PySem PySem.Spec PyProof.Rows
def Up (l : List Nat) : Prop := l.Pairwise (· < ·)
theorem Up.at {l : List Nat} (h : Up l) {i j x y : Nat} (hx : l[i]? = some x) (hy : l[j]? = some y) (hij : i < j) : x < y := by
  obtain ⟨hi, e1⟩ := List.getElem?_eq_some_iff.mp hx
  obtain ⟨hj, e2⟩ := List.getElem?_eq_some_iff.mp hy
  rw [← e1, ← e2]
  exact List.pairwise_iff_getElem.mp h i j hi hj hij
def TUp (t : SetTable) : Prop := Up t.place.toList
end L2
namespace L2
open PySem PySem.Spec PyProof.Rows
structure TabOk (w : World) (t : SetTable) (n : Nat) : Prop where
  fits : t.fits n = true
  up : TUp t
  led : t.led = !(w.params.followText "set-order")
theorem TabOk.len {w : World} {t : SetTable} {n : Nat} (h : TabOk w t n) : t.place.size = n := by
  have := h.fits
  unfold SetTable.fits at this
  rw [Bool.and_eq_true] at this
  simpa using this.1
end L2
namespace L2
open PySem PySem.Spec PyProof.Rows
def keyI (e : Int × Value) : Int := match e.2 with | .int n _ => n | _ => 0
structure RelI (prog : Program) (w : World) (ns : List Int) (i : Nat) (es : Array (Int × Value)) (t : SetTable) : Prop where
  tab : TabOk w t es.size
  few : es.size ≤ i
  els : ElemsOf (intKind prog w) es.toList
  one : (es.toList.map keyI).Nodup
  mem : ∀ k, k ∈ es.toList.map keyI ↔ k ∈ ns.take i
end L2
namespace L2
open PySem PySem.Spec PyProof.Rows
section
variable {prog : Program} {w : World} {A : Around} {E : Value → Shared → Prop} {s : Shared} {W : Addr → List Int → Prop}
abbrev TupK (prog : Program) (w : World) (h : Heap) (ks : List Int) (a : Addr) : Prop := IsTupleKey (intKind prog w) h ks a
theorem TupK.keep {h h' : Heap} {ks : List Int} {a : Addr} (x : TupK prog w h ks a) (k : ∀ b o, h.get? b = some o → h'.get? b = some o) : TupK prog w h' ks a := by
  obtain ⟨o, its, n, ho, r⟩ := x
  exact ⟨o, its, n, k _ _ ho, r⟩
theorem items_int {ks : List Int} {vs : List Value} (h : ItemsAre (intKind prog w) ks vs) : IntsAre vs ks := by
  induction h with
  | nil => exact .nil
  | cons h1 _ ih =>
    obtain ⟨t, rfl⟩ := Value.isInt_shape h1
    exact .cons _ t ih
theorem int_items {ks : List Int} {vs : List Value} (h : IntsAre vs ks) : ItemsAre (intKind prog w) ks vs := by
  induction h with
  | nil => exact .nil
  | cons n t _ ih => exact .cons (intKind_is prog w n t) ih
def hshT (ns : List Int) : Int := reduceHash (Builtin.Tuple.tupleHashOf (ns.map hashInt))
def hAt (ks : List (List Int)) (i : Nat) : Int := ((ks[i]?).map hshT).getD 0
def addP (ks : List (List Int)) (t : SetTable) (x : List Int) : Option (List (List Int) × SetTable) :=
  if t.gaveWay then none else
  match t.probe (hAt ks) (hshT x) (t.probeStart (hshT x)) with
  | some (.candidate _ i _) => if ks[i]? = some x then some (ks, t) else none
  | some (.empty j none) =>
    let kn := ks.take (t.put j).2 ++ x :: ks.drop (t.put j).2
    if (t.put j).1.fits (ks.length + 1) then
      if (t.put j).1.tooFull then
        if SetTable.sizeAbove (SetTable.grown (ks.length + 1)) ≤ 100000 then
          match (t.put j).1.relaid (kn.map hshT).toArray (SetTable.grown (ks.length + 1)) with
          | some (t2, o) => if (o.toList.filterMap (kn[·]?)).length = ks.length + 1 ∧ t2.fits (ks.length + 1) = true then some (o.toList.filterMap (kn[·]?), t2) else none
          | none => none
        else none
      else some (kn, (t.put j).1)
    else none
  | _ => none
def EsT (prog : Program) (w : World) (W : Addr → List Int → Prop) (h : Heap) (es : Array (Int × Value)) (ks : List (List Int)) : Prop := Paired (fun (e : Int × Value) (k : List Int) => e.1 = hshT k ∧ ∃ a, e.2 = .ref a ∧ TupK prog w h k a ∧ W a k) es.toList ks
theorem Paired.at' {α β : Type} {F : α → β → Prop} : ∀ {l : List α} {m : List β} (i : Nat), Paired F l m → (∃ a b, l[i]? = some a ∧ m[i]? = some b ∧ F a b) ∨ (l[i]? = none ∧ m[i]? = none)
  | _, _, i, .nil => .inr ⟨by simp, by simp⟩
  | _, _, 0, .cons r _ => .inl ⟨_, _, rfl, rfl, r⟩
  | _, _, i + 1, .cons _ t => by simpa using Paired.at' i t
theorem EsT.keep {h h' : Heap} {es : Array (Int × Value)} {ks : List (List Int)} (x : EsT prog w W h es ks) (k : ∀ b o, h.get? b = some o → h'.get? b = some o) : EsT prog w W h' es ks :=
  Paired.mapP x fun _ _ ⟨e, a, z, t, y⟩ => ⟨e, a, z, t.keep k, y⟩
end
end L2
namespace L2
open PySem PySem.Spec PyProof.Rows
theorem Paired.len' {α β : Type} {F : α → β → Prop} : ∀ {l : List α} {m : List β}, Paired F l m → l.length = m.length
  | _, _, .nil => rfl
  | _, _, .cons _ t => by rw [List.length_cons, List.length_cons, Paired.len' t]
section
variable {prog : Program} {w : World} {A : Around} {E : Value → Shared → Prop} {s : Shared} {W : Addr → List Int → Prop}
theorem EsT.len {h : Heap} {es : Array (Int × Value)} {ks : List (List Int)} (x : EsT prog w W h es ks) : es.size = ks.length := by
  rw [← Array.length_toList]; exact Paired.len' x
def simT (led : Bool) (xs : List (List Int)) : Option (List (List Int) × SetTable) := xs.foldlM (fun st x => addP st.1 st.2 x) ([], SetTable.fresh 0 0 led)
structure RelT (prog : Program) (w : World) (W : Addr → List Int → Prop) (h₀ : Heap) (led : Bool) (xs : List (List Int)) (i : Nat) (es : Array (Int × Value)) (t : SetTable) : Prop where
  ex : ∃ ks, EsT prog w W h₀ es ks ∧ t.fits ks.length = true ∧ ks.length ≤ i ∧ simT led (xs.take i) = some (ks, t)
end
end L2
namespace L2
open PySem PySem.Spec PyProof.Rows PySem.SeqAt
open PySem.AutoSeq1 (wpAny_loadPart')
open PySem.MeetsSeq PySem.MeetsSeq2 PySem.MeetsSeq3
def HdAt (h : Heap) (v : Value) (a : Int) : Prop := ∃ (l : Addr) (xs : Array Value) (n : Nat) (t : Tok), v = .ref l ∧ h.get? l = some { cls := .type "list", data := .seq xs n } ∧ xs[0]? = some (.int a t)
structure Rising (h : Heap) (vs : List Value) (hs : List Int) : Prop where
  len : hs.length = vs.length
  up : ∀ (i : Nat) (a c : Int), hs[i]? = some a → hs[i + 1]? = some c → a < c
  head : ∀ (i : Nat) (v : Value) (a : Int), vs[i]? = some v → hs[i]? = some a → HdAt h v a
theorem HdAt.keep {h h' : Heap} {v : Value} {a : Int} (x : HdAt h v a) (k : ∀ b o, h.get? b = some o → h'.get? b = some o) : HdAt h' v a := by
  obtain ⟨l, xs, n, t, e1, e2, e3⟩ := x
  exact ⟨l, xs, n, t, e1, k _ _ e2, e3⟩
theorem Rising.keep {h h' : Heap} {vs : List Value} {hs : List Int} (x : Rising h vs hs) (k : ∀ b o, h.get? b = some o → h'.get? b = some o) : Rising h' vs hs := ⟨x.len, x.up, fun i v a e1 e2 => (x.head i v a e1 e2).keep k⟩
section
variable {prog : Program} {w : World} {A : Around} {E : Value → Shared → Prop} {s : Shared}
theorem zip_snd {vs : List Value} : (vs.toArray.zip vs.toArray).map (·.2) = vs.toArray := by
  apply Array.toList_inj.mp
  rw [Array.toList_map, Array.toList_zip]
  simp [List.map_snd_zip]
end
end L2
namespace L2
open PySem PySem.W PyProof.Rows
def KSat {α : Type} (N : Nat) (rk : Nat → Int) : KasT α → (α → Prop) → Prop
  | .ret a, P => P a
  | .ask i j k, P => (i < N ∧ j < N) ∧ KSat N rk (k (decide (rk i < rk j))) P
section
variable {N : Nat} {rk : Nat → Int}
theorem KSat.mono {α : Type} : ∀ {t : KasT α} {P Q : α → Prop}, KSat N rk t P → (∀ a, P a → Q a) → KSat N rk t Q
  | .ret _, _, _, h, k => k _ h
  | .ask i j f, P, Q, h, k => ⟨h.1, KSat.mono (t := f (decide (rk i < rk j))) h.2 k⟩
theorem KSat.bind {α β : Type} : ∀ {t : KasT α} {f : α → KasT β} {P : β → Prop}, KSat N rk t (fun a => KSat N rk (f a) P) → KSat N rk (t.bind f) P
  | .ret _, _, _, h => h
  | .ask i j k, f, P, h => ⟨h.1, KSat.bind (t := k (decide (rk i < rk j))) h.2⟩
theorem KSat.wp {α : Type} {cmp : Nat → Nat → (Bool → Shared → Prop) → Shared → Prop} {s : Shared} (hc : ∀ i j C, i < N → j < N → C (decide (rk i < rk j)) s → cmp i j C s) : ∀ {t : KasT α} {P : α → Prop} {Q : α → Shared → Prop}, KSat N rk t P → (∀ a, P a → Q a s) → t.kasWp cmp Q s
  | .ret _, _, _, h, k => k _ h
  | .ask i j f, P, Q, h, k => hc i j _ h.1.1 h.1.2 (KSat.wp hc (t := f (decide (rk i < rk j))) h.2 k)
def KP (rk : Nat → Int) (p : Array Nat) (i : Nat) : Int := rk (p.getD i 0)
def Srt (rk : Nat → Int) (k : Nat) (p : Array Nat) : Prop := ∀ i j, i ≤ j → j < k → KP rk p i ≤ KP rk p j
def Fal (rk : Nat → Int) (k : Nat) (p : Array Nat) : Prop := ∀ i j, i ≤ j → j < k → KP rk p j ≤ KP rk p i
theorem KP_congr {p q : Array Nat} {i j : Nat} (h : p[i]? = q[j]?) : KP rk p i = KP rk q j := by
  unfold KP
  rw [Array.getD_eq_getD_getElem?, Array.getD_eq_getD_getElem?, h]
theorem KP_rev {p : Array Nat} {i j : Nat} (hj : j ≤ p.size) (k : Nat) : KP rk (kas_rev p i j) k = if i ≤ k ∧ k < j then KP rk p (i + j - 1 - k) else KP rk p k := by
  have e := getElem?_mirror_all (xs := p) (i := i) hj k
  unfold kas_rev
  by_cases h : i ≤ k ∧ k < j
  · rw [if_pos h] at e ⊢; exact KP_congr e
  · rw [if_neg h] at e ⊢; exact KP_congr e
theorem KP_bub {p : Array Nat} {src d : Nat} (hs : src < p.size) (hd : d ≤ src) (k : Nat) : KP rk (bubble p src d) k = if k = src - d then KP rk p src else if src - d < k ∧ k ≤ src then KP rk p (k - 1) else KP rk p k := by
  have e := getElem?_bubble hs d hd k
  by_cases h1 : k = src - d
  · rw [if_pos h1] at e ⊢; exact KP_congr e
  · rw [if_neg h1] at e ⊢
    by_cases h2 : src - d < k ∧ k ≤ src
    · rw [if_pos h2] at e ⊢; exact KP_congr e
    · rw [if_neg h2] at e ⊢; exact KP_congr e
theorem rev_same {p : Array Nat} {i j : Nat} (hj : j ≤ p.size) (h : ∀ k, i ≤ k → k < j → KP rk p k = KP rk p (j - 1)) (k : Nat) : KP rk (kas_rev p i j) k = KP rk p k := by
  rw [KP_rev hj]
  split
  · rename_i z
    rw [h (i + j - 1 - k) (by omega) (by omega), h k (by omega) (by omega)]
  · rfl
theorem rev_size (p : Array Nat) (i j : Nat) : (kas_rev p i j).size = p.size := mirror_size _ _ _ _
theorem rev_perm (p : Array Nat) (i j : Nat) : (kas_rev p i j).Perm p := mirror_perm _ _ _ _
def Bdd (N : Nat) (p : Array Nat) : Prop := ∀ i, p.getD i 0 < N
theorem Bdd.of {p q : Array Nat} (hN : 0 < N) (pm : p.Perm q) (hq : ∀ x ∈ q.toList, x < N) : Bdd N p := fun i => by
  rw [Array.getD_eq_getD_getElem?]
  cases h : p[i]? with
  | none => exact hN
  | some x =>
    have : x ∈ p := Array.mem_of_getElem? h
    exact hq x (Array.mem_toList_iff.mpr (pm.mem_iff.mp this))
theorem asc_sat (p : Array Nat) (hp : Bdd N p) : ∀ (f n : Nat), 1 ≤ n → Srt rk n p → KSat N rk (kas_asc p f n) fun m => n ≤ m ∧ m ≤ n + f ∧ Srt rk m p ∧ (m = n + f ∨ KP rk p m < KP rk p (m - 1))
  | 0, n, h1, hs => ⟨Nat.le_refl _, Nat.le_refl _, hs, .inl rfl⟩
  | f + 1, n, h1, hs => by
    refine ⟨⟨hp _, hp _⟩, ?_⟩
    show KSat N rk (if decide (rk (p.getD n 0) < rk (p.getD (n - 1) 0)) = true then .ret n else kas_asc p f (n + 1)) _
    by_cases c : rk (p.getD n 0) < rk (p.getD (n - 1) 0)
    · rw [if_pos (decide_eq_true c)]
      exact ⟨Nat.le_refl _, by omega, hs, .inr c⟩
    · rw [if_neg (by simpa using c)]
      have c : KP rk p (n - 1) ≤ KP rk p n := Int.not_lt.mp c
      refine KSat.mono (asc_sat p hp f (n + 1) (by omega) fun i j hij hj => ?_) fun m ⟨a, b, d, e⟩ => ⟨by omega, by omega, d, e.elim (fun e => .inl (by omega)) .inr⟩
      by_cases z : j < n
      · exact hs i j hij z
      · have : j = n := by omega
        subst this
        by_cases z : i = j
        · subst z; exact Int.le_refl _
        · exact Int.le_trans (hs i (j - 1) (by omega) (by omega)) c
structure DescOk (rk : Nat → Int) (p₀ p : Array Nat) (n q : Nat) : Prop where
  perm : p.Perm p₀
  size : p.size = p₀.size
  fal : Fal rk n p
  same : ∀ i, n - (q + 1) ≤ i → i < n → KP rk p i = KP rk p (n - 1)
  q1 : q + 1 ≤ n
theorem desc_sat {p₀ : Array Nat} (hN : 0 < N) (h0 : ∀ x ∈ p₀.toList, x < N) : ∀ (f : Nat) (p : Array Nat) (n q : Nat), n + f ≤ p₀.size → DescOk rk p₀ p n q → KSat N rk (kas_desc f p n q) fun r => n ≤ r.2.1 ∧ r.2.1 ≤ n + f ∧ DescOk rk p₀ r.1 r.2.1 r.2.2
  | 0, p, n, q, _, d => ⟨Nat.le_refl _, Nat.le_refl _, d⟩
  | f + 1, p, n, q, hz, d => by
    have hsz := d.size
    have hq := d.q1
    have fal1 : ∀ {p' : Array Nat}, (∀ k, KP rk p' k = KP rk p k) → KP rk p n ≤ KP rk p (n - 1) → Fal rk (n + 1) p' := fun {p'} e le i j hij hj => by
      rw [e, e]
      by_cases z : j < n
      · exact d.fal i j hij z
      · have : j = n := by omega
        subst this
        by_cases z : i = j
        · subst z; exact Int.le_refl _
        · exact Int.le_trans le (d.fal i (j - 1) (by omega) (by omega))
    have hp := Bdd.of hN d.perm h0
    refine ⟨⟨hp _, hp _⟩, ?_⟩
    show KSat N rk (if decide (rk (p.getD n 0) < rk (p.getD (n - 1) 0)) = true then (if q > 0 then kas_desc f (kas_rev p (n - (q + 1)) n) (n + 1) 0 else kas_desc f p (n + 1) 0)
      else .ask (p.getD (n - 1) 0) (p.getD n 0) fun d => if d = true then .ret (p, n, q) else kas_desc f p (n + 1) (q + 1)) _
    by_cases c : rk (p.getD n 0) < rk (p.getD (n - 1) 0)
    · rw [if_pos (decide_eq_true c)]
      have le : KP rk p n ≤ KP rk p (n - 1) := Int.le_of_lt c
      have one : ∀ p', DescOk rk p₀ p' (n + 1) 0 → KSat N rk (kas_desc f p' (n + 1) 0) fun r => n ≤ r.2.1 ∧ r.2.1 ≤ n + (f + 1) ∧ DescOk rk p₀ r.1 r.2.1 r.2.2 := fun p' d' => KSat.mono (desc_sat hN h0 f p' (n + 1) 0 (by omega) d') fun r ⟨a, b, e⟩ => ⟨by omega, by omega, e⟩
      have lone : ∀ {p' : Array Nat} (i : Nat), n + 1 - (0 + 1) ≤ i → i < n + 1 → KP rk p' i = KP rk p' (n + 1 - 1) := fun {p'} i h1 h2 => by rw [show i = n + 1 - 1 by omega]
      by_cases z : q > 0
      · rw [if_pos z]
        have e := rev_same (rk := rk) (p := p) (i := n - (q + 1)) (j := n) (by omega) d.same
        exact one _ ⟨(rev_perm p _ _).trans d.perm, by rw [rev_size]; exact hsz, fal1 e le, lone, by omega⟩
      · rw [if_neg z]
        exact one _ ⟨d.perm, hsz, fal1 (fun _ => rfl) le, lone, by omega⟩
    · rw [if_neg (by simpa using c)]
      have c1 : KP rk p (n - 1) ≤ KP rk p n := Int.not_lt.mp c
      refine ⟨⟨hp _, hp _⟩, ?_⟩
      show KSat N rk (if decide (rk (p.getD (n - 1) 0) < rk (p.getD n 0)) = true then .ret (p, n, q) else kas_desc f p (n + 1) (q + 1)) _
      by_cases c2 : rk (p.getD (n - 1) 0) < rk (p.getD n 0)
      · rw [if_pos (decide_eq_true c2)]
        exact ⟨Nat.le_refl _, by show n ≤ n + (f + 1); omega, d⟩
      · rw [if_neg (by simpa using c2)]
        have c2 : KP rk p n ≤ KP rk p (n - 1) := Int.not_lt.mp c2
        refine KSat.mono (desc_sat hN h0 f p (n + 1) (q + 1) (by omega) ⟨d.perm, hsz, fal1 (fun _ => rfl) c2, fun i h1 h2 => ?_, by omega⟩) fun r ⟨a, b, e⟩ => ⟨by omega, by omega, e⟩
        rw [show n + 1 - 1 = n by omega]
        by_cases z : i = n
        · rw [z]
        · rw [d.same i (by omega) (by omega)]
          omega
def RunOk (rk : Nat → Int) (p₀ : Array Nat) (nrem : Nat) (r : Nat × Array Nat) : Prop := r.2.Perm p₀ ∧ r.2.size = p₀.size ∧ 1 ≤ r.1 ∧ r.1 ≤ nrem ∧ Srt rk r.1 r.2
theorem tail_sat {p₀ p : Array Nat} {n nrem : Nat} (hN : 0 < N) (h0 : ∀ x ∈ p₀.toList, x < N) (h1 : 1 ≤ n) (hn : n ≤ nrem) (hz : nrem ≤ p₀.size) (pm : p.Perm p₀) (sz : p.size = p₀.size) (fl : Fal rk n p) : KSat N rk (kas_tail3 n nrem p) (RunOk rk p₀ nrem) := by
  unfold kas_tail3
  refine KSat.bind (KSat.mono (asc_sat (kas_rev p 0 n) (Bdd.of hN ((rev_perm p 0 n).trans pm) h0) (nrem - n) n h1 fun i j hij hj => ?_) fun m ⟨a, b, c, _⟩ => ⟨(rev_perm p 0 n).trans pm, by rw [rev_size]; exact sz, by omega, by omega, c⟩)
  rw [KP_rev (by omega), KP_rev (by omega), if_pos ⟨by omega, by omega⟩, if_pos ⟨by omega, by omega⟩]
  exact fl _ _ (by omega) (by omega)
theorem descPart_sat {p₀ p : Array Nat} {n nrem : Nat} (hN : 0 < N) (h0 : ∀ x ∈ p₀.toList, x < N) (hn : n + 1 ≤ nrem) (hz : nrem ≤ p₀.size) (d : DescOk rk p₀ p (n + 1) 0) : KSat N rk (kas_descPart n nrem p) (RunOk rk p₀ nrem) := by
  unfold kas_descPart
  refine KSat.bind (KSat.mono (desc_sat hN h0 (nrem - (n + 1)) p (n + 1) 0 (by omega) d) ?_)
  rintro ⟨p', n', q'⟩ ⟨a, b, d'⟩
  dsimp only at a b d'
  have sz := d'.size
  show KSat N rk (if q' > 0 then kas_tail3 n' nrem (kas_rev p' (n' - (q' + 1)) n') else kas_tail3 n' nrem p') _
  by_cases z : q' > 0
  · rw [if_pos z]
    have e := rev_same (rk := rk) (p := p') (i := n' - (q' + 1)) (j := n') (by omega) d'.same
    exact tail_sat hN h0 (by omega) (by omega) hz ((rev_perm p' _ _).trans d'.perm) (by rw [rev_size]; exact sz) fun i j hij hj => by rw [e, e]; exact d'.fal i j hij hj
  · rw [if_neg z]
    exact tail_sat hN h0 (by omega) (by omega) hz d'.perm sz d'.fal
theorem count_sat {p : Array Nat} {nrem : Nat} (hN : 0 < N) (h0 : ∀ x ∈ p.toList, x < N) (h1 : 1 ≤ nrem) (hz : nrem ≤ p.size) : KSat N rk (kas_count nrem p) (RunOk rk p nrem) := by
  unfold kas_count
  refine KSat.bind (KSat.mono (asc_sat p (Bdd.of hN (Array.Perm.refl _) h0) (nrem - 1) 1 (Nat.le_refl _) fun i j hij hj => by rw [show i = j by omega]; exact Int.le_refl _) ?_)
  rintro n ⟨a, b, hs, e⟩
  by_cases z : n = nrem
  · rw [if_pos (by simpa using z)]
    exact ⟨Array.Perm.refl _, rfl, a, by omega, hs⟩
  · rw [if_neg (by simpa using z)]
    have lt : KP rk p n < KP rk p (n - 1) := by
      rcases e with e | e
      · omega
      · exact e
    by_cases z1 : n > 1
    · rw [if_pos z1]
      have hp := Bdd.of hN (Array.Perm.refl p) h0
      refine ⟨⟨hp _, hp _⟩, ?_⟩
      show KSat N rk (if decide (rk (p.getD 0 0) < rk (p.getD (n - 1) 0)) = true then .ret (n, p) else kas_descPart n nrem (kas_rev p 0 n)) _
      by_cases c : rk (p.getD 0 0) < rk (p.getD (n - 1) 0)
      · rw [if_pos (decide_eq_true c)]
        exact ⟨Array.Perm.refl _, rfl, a, by omega, hs⟩
      · rw [if_neg (by simpa using c)]
        have c : KP rk p (n - 1) ≤ KP rk p 0 := Int.not_lt.mp c
        have same : ∀ k, 0 ≤ k → k < n → KP rk p k = KP rk p (n - 1) := fun k _ hk => by
          have x1 := hs 0 k (by omega) hk
          have x2 := hs k (n - 1) (by omega) (by omega)
          omega
        have ee := rev_same (rk := rk) (p := p) (i := 0) (j := n) (by omega) same
        refine descPart_sat hN h0 (by omega) hz ⟨rev_perm p 0 n, rev_size p 0 n, fun i j hij hj => ?_, fun i x1 x2 => by rw [show i = n + 1 - 1 by omega], by omega⟩
        rw [ee, ee]
        by_cases w : j < n
        · rw [same j (by omega) w, same i (by omega) (by omega)]; exact Int.le_refl _
        · have : j = n := by omega
          subst this
          by_cases w : i = j
          · subst w; exact Int.le_refl _
          · rw [same i (by omega) (by omega)]; exact Int.le_of_lt lt
    · rw [if_neg z1]
      have n1 : n = 1 := by omega
      subst n1
      refine descPart_sat hN h0 (by omega) hz ⟨Array.Perm.refl _, rfl, fun i j hij hj => ?_, fun i x1 x2 => by rw [show i = 1 + 1 - 1 by omega], by omega⟩
      by_cases w : i = j
      · subst w; exact Int.le_refl _
      · rw [show i = 0 by omega, show j = 1 by omega]; exact Int.le_of_lt lt
theorem place_sat {p : Array Nat} {k : Nat} (hp : Bdd N p) (hs : Srt rk k p) : ∀ (f l r : Nat), l ≤ r → r ≤ k → r - l ≤ f → (∀ i, i < l → KP rk p i ≤ KP rk p k) → (∀ i, r ≤ i → i < k → KP rk p k < KP rk p i) → KSat N rk (kas_place p k f l r) fun l' => l' ≤ k ∧ (∀ i, i < l' → KP rk p i ≤ KP rk p k) ∧ ∀ i, l' ≤ i → i < k → KP rk p k < KP rk p i
  | 0, l, r, h1, h2, h3, ha, hb => ⟨by omega, ha, fun i a b => hb i (by omega) b⟩
  | f + 1, l, r, h1, h2, h3, ha, hb => by
    unfold kas_place
    by_cases z : l ≥ r
    · rw [if_pos z]
      exact ⟨by omega, ha, fun i a b => hb i (by omega) b⟩
    · rw [if_neg z]
      refine ⟨⟨hp _, hp _⟩, ?_⟩
      show KSat N rk (if decide (rk (p.getD k 0) < rk (p.getD ((l + r) / 2) 0)) = true then kas_place p k f l ((l + r) / 2) else kas_place p k f ((l + r) / 2 + 1) r) _
      by_cases c : rk (p.getD k 0) < rk (p.getD ((l + r) / 2) 0)
      · rw [if_pos (decide_eq_true c)]
        exact place_sat hp hs f l ((l + r) / 2) (by omega) (by omega) (by omega) ha fun i x y => Int.lt_of_lt_of_le c (hs _ i x y)
      · rw [if_neg (by simpa using c)]
        have c : KP rk p ((l + r) / 2) ≤ KP rk p k := Int.not_lt.mp c
        exact place_sat hp hs f ((l + r) / 2 + 1) r (by omega) h2 (by omega) (fun i x => Int.le_trans (hs i _ (by omega) (by omega)) c) hb
theorem bin_sat {p₀ : Array Nat} (hN : 0 < N) (h0 : ∀ x ∈ p₀.toList, x < N) : ∀ (f : Nat) (p : Array Nat) (k : Nat), p.Perm p₀ → p.size = p₀.size → k + f ≤ p.size → Srt rk k p → KSat N rk (kas_bin f p k) fun p' => p'.Perm p₀ ∧ p'.size = p₀.size ∧ Srt rk (k + f) p'
  | 0, p, k, pm, sz, _, hs => ⟨pm, sz, hs⟩
  | f + 1, p, k, pm, sz, hk, hs => by
    unfold kas_bin
    refine KSat.bind (KSat.mono (place_sat (Bdd.of hN pm h0) hs k 0 k (by omega) (Nat.le_refl _) (by omega) (fun i h => by omega) fun i a b => by omega) fun l ⟨l1, lo, hi⟩ => ?_)
    refine KSat.mono (bin_sat hN h0 f (bubble p k (k - l)) (k + 1) ((bubble_perm p k _).trans pm) (by rw [bubble_size]; exact sz) (by rw [bubble_size]; omega) fun i j hij hj => ?_) fun p' ⟨a, b, c⟩ => ⟨a, b, by rw [show k + (f + 1) = k + 1 + f by omega]; exact c⟩
    rw [KP_bub (by omega) (by omega), KP_bub (by omega) (by omega), show k - (k - l) = l by omega]
    by_cases i1 : i = l
    · rw [if_pos i1]
      by_cases j1 : j = l
      · rw [if_pos j1]; exact Int.le_refl _
      · rw [if_neg j1, if_pos ⟨by omega, by omega⟩]
        exact Int.le_of_lt (hi (j - 1) (by omega) (by omega))
    · rw [if_neg i1]
      by_cases i2 : l < i ∧ i ≤ k
      · rw [if_pos i2, if_neg (by omega), if_pos ⟨by omega, by omega⟩]
        exact hs (i - 1) (j - 1) (by omega) (by omega)
      · rw [if_neg i2]
        have il : i < l := by omega
        by_cases j1 : j = l
        · rw [if_pos j1]; exact lo i il
        · rw [if_neg j1]
          by_cases j2 : l < j ∧ j ≤ k
          · rw [if_pos j2]
            exact hs i (j - 1) (by omega) (by omega)
          · rw [if_neg j2]
            exact hs i j hij (by omega)
theorem sort_sat {n : Nat} (h : 1 ≤ n) : KSat n rk (kas_sort n) fun p => p.Perm (List.toArray (List.range n)) ∧ p.size = n ∧ Srt rk n p := by
  have sz : (List.toArray (List.range n)).size = n := by simp
  unfold kas_sort
  have h0 : ∀ x ∈ (List.toArray (List.range n)).toList, x < n := fun x hx => List.mem_range.mp hx
  refine KSat.bind (KSat.mono (count_sat (by omega) h0 h (by omega)) ?_)
  rintro ⟨m, p⟩ ⟨pm, ps, m1, m2, hs⟩
  dsimp only at pm ps m1 m2 hs
  show KSat n rk (if m < n then kas_bin (n - max m 1) p (max m 1) else .ret p) _
  by_cases z : m < n
  · rw [if_pos z, Nat.max_eq_left m1]
    refine KSat.mono (bin_sat (by omega) h0 (n - m) p m pm (by omega) (by omega) hs) fun p' ⟨a, b, c⟩ => ⟨a, by omega, ?_⟩
    rwa [show m + (n - m) = n by omega] at c
  · rw [if_neg z]
    have : m = n := by omega
    subst this
    exact ⟨pm, by omega, hs⟩
end
end L2
namespace L2
open PySem PySem.Spec PyProof.Rows PySem.SeqAt
open PySem.AutoSeq1 (wpAny_loadPart')
open PySem.MeetsSeq PySem.MeetsSeq2 PySem.MeetsSeq3
def lexB : List Int → List Int → Bool
  | [], [] => false
  | [], _ :: _ => true
  | _ :: _, [] => false
  | a :: r, c :: q => if a = c then lexB r q else decide (a < c)
def IntsAt (xs : Array Value) (ns : List Int) : Prop := xs.size = ns.length ∧ ∀ (i : Nat) (a : Int), ns[i]? = some a → ∃ t, xs[i]? = some (.int a t)
section
variable {prog : Program} {w : World} {A : Around} {E : Value → Shared → Prop} {s : Shared}
def LisAt (h : Heap) (v : Value) (ns : List Int) : Prop := ∃ (l : Addr) (xs : Array Value) (n : Nat), v = .ref l ∧ h.get? l = some { cls := .type "list", data := .seq xs n } ∧ IntsAt xs ns
end
end L2
namespace L2
open PySem PySem.Spec PyProof.Rows PySem.SeqAt
structure Hds (H : Hp) (vs : List V) (hs : List Int) : Prop where
  len : hs.length = vs.length
  up : ∀ (i : Nat) (a c : Int), hs[i]? = some a → hs[i + 1]? = some c → a < c
  head : ∀ (i : Nat) (v : V) (a : Int), vs[i]? = some v → hs[i]? = some a → ∃ (b : Addr) (ns : List Int), v = .ref b ∧ H b = some (.lst (ns.map V.int)) ∧ ns[0]? = some a
end L2
namespace L2
open PySem PySem.Spec PyProof.Rows PySem.SeqAt PySem.W
theorem lexB_irr : ∀ a : List Int, lexB a a = false
  | [] => rfl
  | x :: a => by show (if x = x then lexB a a else _) = false; rw [if_pos rfl]; exact lexB_irr a
theorem lexB_trans : ∀ {a b c : List Int}, lexB a b = true → lexB b c = true → lexB a c = true
  | [], _ :: _, _ :: _, _, _ => rfl
  | [], [], _, h, _ => by cases h
  | [], _ :: _, [], _, h => by cases h
  | _ :: _, [], _, h, _ => by cases h
  | _ :: _, _ :: _, [], _, h => by cases h
  | x :: a, y :: b, z :: c, h1, h2 => by
    have h1 : (if x = y then lexB a b else decide (x < y)) = true := h1
    have h2 : (if y = z then lexB b c else decide (y < z)) = true := h2
    show (if x = z then lexB a c else decide (x < z)) = true
    by_cases e1 : x = y
    · rw [if_pos e1] at h1
      by_cases e2 : y = z
      · rw [if_pos e2] at h2
        rw [if_pos (e1.trans e2)]
        exact lexB_trans h1 h2
      · rw [if_neg e2] at h2
        rw [if_neg (by rw [e1]; exact e2), e1]
        exact h2
    · rw [if_neg e1] at h1
      have l1 : x < y := of_decide_eq_true h1
      by_cases e2 : y = z
      · rw [if_neg (by rw [← e2]; exact e1), ← e2]
        exact h1
      · rw [if_neg e2] at h2
        have l2 : y < z := of_decide_eq_true h2
        rw [if_neg (by omega)]
        exact decide_eq_true (by omega)
theorem lexB_tot : ∀ {a b : List Int}, lexB a b = false → lexB b a = false → a = b
  | [], [], _, _ => rfl
  | [], _ :: _, h, _ => by cases h
  | _ :: _, [], _, h => by cases h
  | x :: a, y :: b, h1, h2 => by
    have h1 : (if x = y then lexB a b else decide (x < y)) = false := h1
    have h2 : (if y = x then lexB b a else decide (y < x)) = false := h2
    by_cases e : x = y
    · rw [if_pos e] at h1
      rw [if_pos e.symm] at h2
      rw [e, lexB_tot h1 h2]
    · rw [if_neg e] at h1
      rw [if_neg (fun z => e z.symm)] at h2
      have := of_decide_eq_false h1
      have := of_decide_eq_false h2
      omega
theorem countP_less {α : Type} {p q : α → Bool} : ∀ {l : List α} {x : α}, (∀ y ∈ l, p y = true → q y = true) → x ∈ l → p x = false → q x = true → l.countP p < l.countP q
  | y :: l, x, h, hx, h1, h2 => by
    rw [List.countP_cons, List.countP_cons]
    have le : l.countP p ≤ l.countP q := List.countP_mono_left fun z hz => h z (List.mem_cons_of_mem _ hz)
    rcases List.mem_cons.mp hx with e | hx
    · subst e
      rw [h1, h2, if_neg Bool.false_ne_true, if_pos rfl]
      omega
    · have := countP_less (fun z hz => h z (List.mem_cons_of_mem _ hz)) hx h1 h2
      by_cases c : p y = true
      · rw [if_pos c, if_pos (h y List.mem_cons_self c)]; omega
      · rw [if_neg c]; omega
def rkL (Ls : List (List Int)) (i : Nat) : Int := (Ls.countP fun M => lexB M (Ls.getD i []) : Nat)
theorem rkL_lt {Ls : List (List Int)} {i j : Nat} (hi : i < Ls.length) (hj : j < Ls.length) : decide (rkL Ls i < rkL Ls j) = lexB (Ls.getD i []) (Ls.getD j []) := by
  have mi : Ls.getD i [] ∈ Ls := by rw [List.getD_eq_getElem?_getD, List.getElem?_eq_getElem hi]; exact List.getElem_mem hi
  have mj : Ls.getD j [] ∈ Ls := by rw [List.getD_eq_getElem?_getD, List.getElem?_eq_getElem hj]; exact List.getElem_mem hj
  unfold rkL
  generalize Ls.getD i [] = a at mi ⊢
  generalize Ls.getD j [] = b at mj ⊢
  cases h : lexB a b with
  | true =>
    have := countP_less (l := Ls) (p := fun M => lexB M a) (q := fun M => lexB M b) (fun y _ hy => lexB_trans hy h) mi (lexB_irr a) h
    exact decide_eq_true (by omega)
  | false =>
    cases h2 : lexB b a with
    | true =>
      have := countP_less (l := Ls) (p := fun M => lexB M b) (q := fun M => lexB M a) (fun y _ hy => lexB_trans hy h2) mj (lexB_irr b) h2
      exact decide_eq_false (by omega)
    | false =>
      rw [lexB_tot h h2]
      exact decide_eq_false (by omega)
section
variable {prog : Program} {w : World} {A : Around} {E : Value → Shared → Prop} {s : Shared}
theorem LisAt.keep {h h' : Heap} {v : Value} {ns : List Int} (x : LisAt h v ns) (k : ∀ b o, h.get? b = some o → h'.get? b = some o) : LisAt h' v ns := by
  obtain ⟨l, xs, n, e1, e2, e3⟩ := x
  exact ⟨l, xs, n, e1, k _ _ e2, e3⟩
def AllLis (h : Heap) (vs : List Value) (Ls : List (List Int)) : Prop := Ls.length = vs.length ∧ ∀ (i : Nat) (v : Value) (L : List Int), vs[i]? = some v → Ls[i]? = some L → LisAt h v L
def OrdP (Ls : List (List Int)) (p : List Nat) : Prop := p.Perm (List.range Ls.length) ∧ ∀ i j, i ≤ j → j < Ls.length → lexB (Ls.getD (p.getD j 0) []) (Ls.getD (p.getD i 0) []) = false
end
end L2
namespace L2
open PySem PySem.Spec PyProof.Rows PySem.SeqAt PySem.W
theorem Vals.pick {vs : List V} {us : List Value} (r : Vals vs us) : ∀ {p : List Nat}, (∀ i ∈ p, i < vs.length) → Vals (p.map fun i => vs.getD i .non) (p.map fun i => us.getD i Value.none)
  | [], _ => .nil
  | i :: p, h => by
    have hi := h i List.mem_cons_self
    obtain ⟨u, hu, ru⟩ := r.get (i := i) (x := vs[i]) (List.getElem?_eq_getElem hi)
    refine .cons ?_ (Vals.pick r fun j hj => h j (List.mem_cons_of_mem _ hj))
    dsimp only
    rw [List.getD_eq_getElem?_getD, List.getD_eq_getElem?_getD, hu, List.getElem?_eq_getElem hi]
    exact ru
def LssAt (H : Hp) (vs : List V) (Ls : List (List Int)) : Prop := Ls.length = vs.length ∧ ∀ (i : Nat) (v : V) (L : List Int), vs[i]? = some v → Ls[i]? = some L → ∃ b : Addr, v = .ref b ∧ H b = some (.lst (L.map V.int))
section
variable {X : Cx} {K : PySem.W.Frag} {pins : List (Addr × Obj)} {σ : St} {H : Hp} {s : Shared}
theorem LssAt.at {vs : List V} {us : List Value} {Ls : List (List Int)} (I : Inv X pins σ H s) (r : Vals vs us) (h : LssAt H vs Ls) : AllLis s.heap us Ls := by
  have len := r.length
  refine ⟨by rw [h.1, len], fun i u L hu hL => ?_⟩
  have iv : i < vs.length := by
    have := (List.getElem?_eq_some_iff.mp hu).1
    omega
  obtain ⟨b, e1, e2⟩ := h.2 i vs[i] L (List.getElem?_eq_getElem iv) hL
  obtain ⟨u', hu', ru⟩ := r.get (i := i) (x := vs[i]) (List.getElem?_eq_getElem iv)
  rw [hu] at hu'
  cases hu'
  rw [e1] at ru
  cases ru
  obtain ⟨z, its, n, rv, hl, e⟩ := I.lstM e2
  have il := rv.length
  rw [List.length_map] at il
  refine ⟨b, its.toArray, n, rfl, e, by rw [List.size_toArray]; omega, fun j a ha => ?_⟩
  obtain ⟨w', hw, rw'⟩ := rv.get (i := j) (x := .int a) (by rw [List.getElem?_map, ha]; rfl)
  obtain ⟨t, rfl⟩ := rw'
  exact ⟨t, by rw [List.getElem?_toArray]; exact hw⟩
theorem AllLis.keep {h h' : Heap} {vs : List Value} {Ls : List (List Int)} (x : AllLis h vs Ls) (k : ∀ b o, h.get? b = some o → h'.get? b = some o) : AllLis h' vs Ls := ⟨x.1, fun i v L e1 e2 => (x.2 i v L e1 e2).keep k⟩
end
end L2
namespace L2
open PySem PySem.Spec PyProof.Rows PySem.SeqAt PySem.W
section
variable {prog : Program} {w : World} {A : Around} {E : Value → Shared → Prop} {s : Shared}
theorem sort_gen {a : Addr} {vs : List Value} {Ls : List (List Int)} {n : Nat} {κ : SortKind} {P : Fin → Shared → Prop} (ho : s.heap.get? a = some (seqObj "list" vs.toArray n)) (h64 : vs.length < 64) (hlen : Ls.length = vs.length)
    (hk' : ∀ (S : Shared) (Q : SortKind → Shared → Prop), (∀ b o, b ≠ a → s.heap.get? b = some o → S.heap.get? b = some o) → Q κ S → wpAny (model prog w) A (keyKind' vs.toArray) Q E S)
    (hc' : ∀ (S : Shared) (E' : Value → Shared → Prop) (Q : Bool → Shared → Prop) (i j : Nat), (∀ b o, b ≠ a → s.heap.get? b = some o → S.heap.get? b = some o) → i < vs.length → j < vs.length → Q (lexB (Ls.getD i []) (Ls.getD j [])) S → wpAny (model prog w) A (keyLt' κ (vs.getD i Value.none) (vs.getD j Value.none)) Q E' S)
    (q : ∀ p : List Nat, OrdP Ls p → P (.done (.ret .none)) { s with heap := sortedHeap s.heap a vs (p.map fun i => vs.getD i Value.none).toArray }) :
    wpAny (model prog w) A (Builtin.«list.sort» ⟨[.ref a], []⟩) P E s := by
  rw [list_sort_plain]
  have la : a < s.heap.objs.size := Heap.lt_size ho
  obtain ⟨k, hk⟩ : ∃ k, (s.heap.update a (Obj.mapSeq fun _ => #[])).get? a = some (seqObj "list" #[] k) := ⟨_, get?_update_seq ho (fun _ => #[])⟩
  refine wpAny_bind (listItems_at ho rfl (wpAny_bind (listUpdate_at ho rfl (wpAny_bind (seqEpoch_at hk rfl (wpAny_bind (wpAny_newTuple (wpAny_bind (wpAny_newList (wpAny_holding ?_))))))))))
  have h6 : (((s.heap.update a (Obj.mapSeq fun _ => #[])).push (seqObj "tuple" vs.toArray 0)).push (seqObj "list" #[] 0)).get? a = some (seqObj "list" #[] k) := Heap.get?_push_of_some _ (Heap.get?_push_of_some _ hk)
  have R : ∀ b o, b ≠ a → s.heap.get? b = some o → (((s.heap.update a (Obj.mapSeq fun _ => #[])).push (seqObj "tuple" vs.toArray 0)).push (seqObj "list" #[] 0)).get? b = some o := fun b o hb e => Heap.get?_push_of_some _ (Heap.get?_push_of_some _ ((Heap.get?_update_other _ _ (Ne.symm hb)).trans e))
  show wpAny (model prog w) A _ P E { s with heap := ((s.heap.update a (Obj.mapSeq fun _ => #[])).push (seqObj "tuple" vs.toArray 0)).push (seqObj "list" #[] 0) }
  generalize eS : ({ s with heap := ((s.heap.update a (Obj.mapSeq fun _ => #[])).push (seqObj "tuple" vs.toArray 0)).push (seqObj "list" #[] 0) } : Shared) = S
  have h6' : S.heap.get? a = some (seqObj "list" #[] k) := by rw [← eS]; exact h6
  have R' : ∀ b o, b ≠ a → s.heap.get? b = some o → S.heap.get? b = some o := by rw [← eS]; exact R
  have q' : ∀ p : List Nat, OrdP Ls p → P (.done (.ret .none)) { S with heap := S.heap.update a (Obj.mapSeq fun _ => (p.map fun i => vs.getD i Value.none).toArray) } := by rw [← eS]; exact q
  dsimp only
  have vz : vs.toArray.size = vs.length := List.size_toArray
  have big : (10000000 : Nat) ≤ sizeLine := by decide
  have fin : ∀ (st : SortSt) (p : List Nat), OrdP Ls p → (arrOf st).map (·.2) = (p.map fun i => vs.getD i Value.none).toArray → failedOf st = none → wpAny (model prog w) A (do
      let touched := (← seqEpoch a) != k
      Builtin.List.listUpdate (.ref a) fun _ => (arrOf st).map (·.2)
      if let some e := failedOf st then rule "list.sort.comparison-raised"; throw e
      if touched then rule "list.sort.modified"; raiseError "ValueError" "list modified during sort"
      ret .none) P E S := fun st p hp e1 e2 => by
    rw [e1, e2]
    have pl : p.length = vs.length := by rw [hp.1.length_eq, List.length_range, hlen]
    refine wpAny_bind (seqEpoch_at h6' rfl ?_)
    refine wpAny_bind (listUpdate_at h6' rfl ?_ (hsz2 := by rw [List.size_toArray, List.length_map]; omega))
    simp only [bne_self_eq_false, Bool.false_eq_true, if_false]
    exact wpAny_pure (q' p hp)
  by_cases h2 : vs.toArray.size < 2
  · rw [if_pos h2, if_pos h2]
    refine wpAny_bind (wpAny_pure ?_)
    rw [StateT.run_pure]
    refine wpAny_bind (wpAny_pure ?_)
    refine fin (SortSt.mk' general' (vs.toArray.zip vs.toArray) #[] 7 none) (List.range vs.length) ⟨by rw [hlen], fun i j hij hj => ?_⟩ ?_ rfl
    · have : i = j := by rw [hlen] at hj; omega
      rw [this]
      exact lexB_irr _
    · have zs : (arrOf (SortSt.mk' general' (vs.toArray.zip vs.toArray) #[] 7 none)).map (·.2) = vs.toArray := zip_snd
      rw [zs]
      congr 1
      refine List.ext_getElem? fun i => ?_
      rw [List.getElem?_map]
      by_cases z : i < vs.length
      · rw [List.getElem?_range z]
        show vs[i]? = some (vs.getD i Value.none)
        rw [List.getD_eq_getElem?_getD, List.getElem?_eq_getElem z]
        rfl
      · rw [List.getElem?_eq_none (by omega), List.getElem?_eq_none (by rw [List.length_range]; omega)]
        rfl
  · rw [if_neg h2, if_neg h2]
    have n2 : 2 ≤ vs.length := by omega
    refine wpAny_bind (hk' S _ R' ?_)
    have est : SortSt.mk' κ (vs.toArray.zip vs.toArray) #[] 7 none = kas_st κ (pairsOf vs) (List.toArray (List.range vs.length)) := by
      have e := kas_range (pairsOf vs)
      rw [pairsOf_size] at e
      show SortSt.mk' κ (pairsOf vs) #[] 7 none = SortSt.mk' κ ((List.toArray (List.range vs.length)).map (kas_item (pairsOf vs))) #[] 7 none
      rw [e]
    have ask : (kas_sort vs.length).kasWp (kas_cmp prog w A κ (pairsOf vs)) (fun p s' => s' = S ∧ p.Perm (List.toArray (List.range vs.length)) ∧ p.size = vs.length ∧ Srt (rkL Ls) vs.length p) S :=
      KSat.wp (fun i j C hi hj h => by
        unfold kas_cmp
        rw [kas_item_eq, kas_item_eq]
        refine hc' S _ _ i j R' hi hj ?_
        rw [← rkL_lt (by rw [hlen]; exact hi) (by rw [hlen]; exact hj)]
        exact h) (sort_sat (rk := rkL Ls) (n := vs.length) (by omega)) fun p hp => ⟨rfl, hp⟩
    have run := kas_runs (E := E) (Q := fun _ st' s' => s' = S ∧ ∃ p : Array Nat, arrOf st' = p.map (kas_item (pairsOf vs)) ∧ failedOf st' = none ∧ p.Perm (List.toArray (List.range vs.length)) ∧ p.size = vs.length ∧ Srt (rkL Ls) vs.length p)
      n2 h64 (fun p' st' s' a1 a2 a3 a4 => ⟨a4.1, p', a2, a3, a4.2⟩) ask
    rw [← est] at run
    refine wpAny_bind (wpAny_mono run ?_ fun _ _ e => e)
    rintro ⟨⟨⟩, st⟩ s' ⟨rfl, p, har, hf, pm, ps, hs⟩
    refine fin st p.toList ⟨?_, fun i j hij hj => ?_⟩ ?_ hf
    · rw [hlen]
      exact Array.perm_iff_toList_perm.mp pm
    · have bd := Bdd.of (N := vs.length) (by omega) pm fun x hx => List.mem_range.mp hx
      have hj' : j < vs.length := by rw [← hlen]; exact hj
      have le := hs i j hij hj'
      have e1 : ∀ i, p.toList.getD i 0 = p.getD i 0 := fun i => by rw [List.getD_eq_getElem?_getD, Array.getElem?_toList, Array.getD_eq_getD_getElem?]
      rw [e1, e1, ← rkL_lt (by rw [hlen]; exact bd j) (by rw [hlen]; exact bd i)]
      unfold KP at le
      exact decide_eq_false (by omega)
    · apply Array.toList_inj.mp
      rw [har, Array.map_map, Array.toList_map]
      exact List.map_congr_left fun i _ => by show (kas_item (pairsOf vs) i).2 = _; rw [kas_item_eq]
def TupAt (h : Heap) (v : Value) (ns : List Int) : Prop := ∃ (a : Addr) (o : Obj) (xs : Array Value) (n : Nat), v = .ref a ∧ h.get? a = some o ∧ o.cls = .type "tuple" ∧ o.data = .seq xs n ∧ IntsAre xs.toList ns
theorem TupAt.keep {h h' : Heap} {v : Value} {ns : List Int} (x : TupAt h v ns) (k : ∀ b o, h.get? b = some o → h'.get? b = some o) : TupAt h' v ns := by
  obtain ⟨a, o, xs, n, e1, e2, r⟩ := x
  exact ⟨a, o, xs, n, e1, k _ _ e2, r⟩
theorem lex_tups {fin : Bool} {Q : Bool → Shared → Prop} : ∀ (xs ys : List Value) (ns ms : List Int) (i : Nat), IntsAre xs ns → IntsAre ys ms → fin = decide (xs.length < ys.length) → Q (lexB ns ms) s → KatLex prog w A true fin Q (xs.zip ys) i s
  | [], ys, _, ms, i, .nil, y, hf, q => by
    rw [List.zip_nil_left]
    refine kat_nil ?_
    subst hf
    cases y with
    | nil => exact q
    | cons n t r => exact q
  | _ :: _, [], _, _, i, .cons n t r, .nil, hf, q => by
    rw [List.zip_nil_right]
    refine kat_nil ?_
    subst hf
    exact q
  | _ :: xs, _ :: ys, _, _, i, .cons a t r, .cons c u r', hf, q => by
    rw [List.zip_cons_cons]
    refine kat_cons (wpAny_eqBool_int ?_)
    have q : Q (if a = c then lexB _ _ else decide (a < c)) s := q
    by_cases e : a = c
    · rw [if_pos e] at q
      rw [show (a == c) = true by simpa using e]
      exact kat_yes (lex_tups xs ys _ _ (i + 1) r r' (by rw [hf]; simp) q)
    · rw [if_neg e] at q
      rw [show (a == c) = false by simpa using e]
      refine kat_no ?_
      cases i with
      | zero => exact oneLt_int q
      | succ i =>
        show wpAny _ _ (oneLt' false _ _) _ _ _
        exact kat_one _ _ (PyProof.Rows.lt_int q)
def AllTup (h : Heap) (vs : List Value) (Ls : List (List Int)) : Prop := Ls.length = vs.length ∧ ∀ (i : Nat) (v : Value) (L : List Int), vs[i]? = some v → Ls[i]? = some L → TupAt h v L ∧ L ≠ []
theorem AllTup.keep {h h' : Heap} {vs : List Value} {Ls : List (List Int)} (x : AllTup h vs Ls) (k : ∀ b o, h.get? b = some o → h'.get? b = some o) : AllTup h' vs Ls := ⟨x.1, fun i v L e1 e2 => ⟨(x.2 i v L e1 e2).1.keep k, (x.2 i v L e1 e2).2⟩⟩
theorem AllTup.firsts {h : Heap} : ∀ {vs : List Value} {Ls : List (List Int)}, AllTup h vs Ls → ∃ fs, KatTups h vs fs ∧ fs.length = vs.length ∧ ∀ f ∈ fs, ∃ n t, f = .int n t
  | [], _, _ => ⟨[], trivial, rfl, fun f hf => by cases hf⟩
  | v :: vs, [], x => by have := x.1; simp at this
  | v :: vs, L :: Ls, x => by
    obtain ⟨⟨a, o, xs, n, rfl, e2, e3, e4, ia⟩, ne⟩ := x.2 0 v L rfl rfl
    obtain ⟨fs, h1, h2, h3⟩ := AllTup.firsts (vs := vs) (Ls := Ls) ⟨by simpa using x.1, fun i v L e1 e2 => x.2 (i + 1) v L (by simpa using e1) (by simpa using e2)⟩
    cases L with
    | nil => exact absurd rfl ne
    | cons m L =>
      generalize el : xs.toList = l at ia
      cases ia with
      | cons _ t r =>
        refine ⟨.int m t :: fs, KatTups.cons e2 e3 e4 (by rw [← Array.getElem?_toList, el]; rfl) h1, by simp [h2], fun f hf => ?_⟩
        rcases List.mem_cons.mp hf with rfl | hf
        · exact ⟨m, t, rfl⟩
        · exact h3 f hf
theorem sort_tups {a : Addr} {vs : List Value} {Ls : List (List Int)} {n : Nat} {P : Fin → Shared → Prop} (ho : s.heap.get? a = some (seqObj "list" vs.toArray n)) (h64 : vs.length < 64) (h0 : vs ≠ [])
    (hr : ∀ h', (∀ b o, b ≠ a → s.heap.get? b = some o → h'.get? b = some o) → AllTup h' vs Ls) (q : ∀ p : List Nat, OrdP Ls p → P (.done (.ret .none)) { s with heap := sortedHeap s.heap a vs (p.map fun i => vs.getD i Value.none).toArray }) :
    wpAny (model prog w) A (Builtin.«list.sort» ⟨[.ref a], []⟩) P E s := by
  have hl := (hr s.heap fun _ _ _ e => e).1
  refine sort_gen (κ := tuples' true) (Ls := Ls) ho h64 hl (fun S Q k hq => ?_) (fun S E' Q i j k hi hj hq => ?_) q
  · obtain ⟨fs, h1, h2, h3⟩ := (hr S.heap k).firsts
    refine kat_kind (T := .type "int") h1 (by rw [h2]; exact List.length_pos_iff.mpr h0) (fun v hv => ?_) rfl hq
    obtain ⟨n, t, rfl⟩ := h3 v hv
    exact fun A Q E s _ q => wpAny_pure q
  · have R := hr S.heap k
    have gt : ∀ {i : Nat}, i < vs.length → TupAt S.heap (vs.getD i Value.none) (Ls.getD i []) := fun {i} hi => by
      refine (R.2 i _ _ ?_ ?_).1
      · rw [List.getD_eq_getElem?_getD, List.getElem?_eq_getElem hi]; rfl
      · rw [List.getD_eq_getElem?_getD, List.getElem?_eq_getElem (by rw [hl]; exact hi)]; rfl
    obtain ⟨x, ox, xs, nx, e1, e2, e3, e4, ia⟩ := gt hi
    obtain ⟨y, oy, ys, ny, f1, f2, f3, f4, ib⟩ := gt hj
    rw [e1, f1]
    refine kat_lt e2 e4 f2 f4 (lex_tups _ _ _ _ 0 ia ib ?_ hq)
    rw [Array.length_toList, Array.length_toList]
end
end L2
namespace L2
open PySem PySem.Spec PyProof.Rows PySem.SeqAt PySem.W
def TupsV (H : Hp) (vs : List V) (ks : List (List Int)) : Prop := Paired (fun (v : V) (k : List Int) => ∃ a : Addr, v = .ref a ∧ H a = some (.tup (k.map V.int))) vs ks
theorem TupsV.len {H : Hp} {vs : List V} {ks : List (List Int)} (x : TupsV H vs ks) : vs.length = ks.length := Paired.len' x
theorem TupsV.keep {H H' : Hp} {vs : List V} {ks : List (List Int)} (x : TupsV H vs ks) (k : ∀ b xs, H b = some (.tup xs) → H' b = some (.tup xs)) : TupsV H' vs ks := Paired.mapP x fun _ _ ⟨a, e, z⟩ => ⟨a, e, k _ _ z⟩
section
variable {X : Cx} {K : PySem.W.Frag} {pins : List (Addr × Obj)} {σ : St} {H : Hp} {s : Shared}
theorem tup_at (I : Inv X pins σ H s) {a : Addr} {k : List Int} (h : H a = some (.tup (k.map V.int))) : TupK X.prog X.w s.heap k a := by
  obtain ⟨_, its, rv, o, e, hc, n, hd⟩ := (show ObjOk X.prog X.w H s.heap a (.tup (k.map V.int)) from I.hok a _ h)
  exact ⟨o, its.toArray, n, e, hc, hd, by rw [List.toList_toArray]; exact int_items (ints_are rv)⟩
end
end L2
namespace L2
open PySem PySem.Spec PyProof.Rows
 PySem.SeqAt PySem.W
section
variable {X : Cx} {K : PySem.W.Frag}
def rSortLT (K : PySem.W.Frag) : List V → Hp → VK → Prop := fun xs H Q => ∃ (p : Addr) (us : List V) (ms : List (List Int)), xs = [.ref p] ∧ SqL K H p us ∧ TupsV H us ms ∧ (∀ k ∈ ms, k ≠ []) ∧ ms ≠ [] ∧ ms.length < 64 ∧ ∀ (l : Addr) (us' : List V) (π : List Nat), H l = none → OrdP ms π → TupsV H us' (π.map fun i => ms.getD i []) → Q (.ref l) (upd H l (.lst us'))
theorem call_sortedLT (hK : X.K = K) : CallR X (.builtin "sorted") (rSortLT K) := by
  subst hK
  intro pins s σ H xs us Q I r h
  obtain ⟨p, vs', ms, rfl, hp, tm, nk, nn, hz, q⟩ := h
  obtain ⟨u, rfl, ru⟩ := vals1 r
  cases ru
  obtain ⟨vs, rm, pl, _⟩ := I.list hp
  have vl := rm.length
  have ml := tm.len
  have big : (10000000 : Nat) ≤ sizeLine := by decide
  refine Calls.call_function_entry kind_sorted plain_sorted entry_sorted (args_sorted1 _) ?_
  unfold Builtin.«sorted»
  refine wpAny_bind (m := checkCount "sorted" 1 1 _) (wpAny_pure ?_)
  have kp : ∀ b o, s.heap.get? b = some o → ((s.heap.push (seqObj "list" #[] 0)).update s.heap.objs.size (Obj.mapSeq (· ++ vs.toArray))).get? b = some o := fun b o e => (Heap.get?_update_other _ _ (Ne.symm (Nat.ne_of_lt (Heap.lt_size e)))).trans (Heap.get?_push_of_some _ e)
  refine wpAny_bind (collect_list pl.isList ?_ (by omega))
  generalize (s.heap.push (seqObj "list" #[] 0)).update s.heap.objs.size (Obj.mapSeq (· ++ vs.toArray)) = h1 at kp ⊢
  have I1 : Inv X pins σ H { s with heap := h1, toks := s.toks, drawn := s.drawn } := I.kept (t' := s.toks) kp
  have all : AllTup h1 vs ms := by
    refine ⟨by omega, fun i v L hv hL => ?_⟩
    rcases Paired.at' i tm with ⟨x, k, e1, e2, a, z, ha⟩ | ⟨e1, e2⟩
    · subst z
      rw [hL] at e2; cases e2
      obtain ⟨u, hu', ru⟩ := rm.get e1
      rw [hv] at hu'; cases hu'
      obtain ⟨o, its, n, e, hc', hd, it⟩ := tup_at I1 ha
      exact ⟨⟨a, o, its, n, ru, e, hc', hd, items_int it⟩, nk _ (List.mem_of_getElem? hL)⟩
    · rw [hL] at e2; cases e2
  refine wpAny_bind (wpAny_newList ?_)
  have hoL : (h1.push (seqObj "list" vs.toArray 0)).get? h1.objs.size = some (seqObj "list" vs.toArray 0) := Heap.get?_push_size _ rfl
  have ne : vs ≠ [] := fun z => by
    have : vs.length = 0 := by rw [z]; rfl
    have := List.length_pos_iff.mpr nn
    omega
  refine wpAny_bind (wpAny_holding (wpAny_call_entry slot_list_sort ⟨_, hoL, rfl⟩ entry_list_sort (sort_tups (s := { s with heap := h1.push (seqObj "list" vs.toArray 0), toks := s.toks, drawn := s.drawn }) (Ls := ms) hoL (by omega) ne (fun h' k => all.keep fun b o e => k b o (Nat.ne_of_lt (Heap.lt_size e)) (Heap.get?_push_of_some _ e)) fun π hπ => ⟨_, rfl, ?_⟩) (args_list_sort _)))
  obtain ⟨e, he⟩ := sortedHeap_at (vs := vs) (out := (π.map fun i => vs.getD i Value.none).toArray) (n := 0) hoL
  refine wpAny_pure ⟨_, rfl, ?_⟩
  have πl : π.length = vs.length := by rw [hπ.1.length_eq, List.length_range]; omega
  have πb : ∀ i ∈ π, i < ms.length := fun i hi => List.mem_range.mp (hπ.1.mem_iff.mp hi)
  have pv' : Vals (π.map fun i => vs'.getD i .non) (π.map fun i => vs.getD i Value.none) := rm.pick fun i hi => by have := πb i hi; omega
  have tp : TupsV H (π.map fun i => vs'.getD i .non) (π.map fun i => ms.getD i []) := by
    clear pv' he
    have go : ∀ π : List Nat, (∀ i ∈ π, i < ms.length) → TupsV H (π.map fun i => vs'.getD i .non) (π.map fun i => ms.getD i []) := by
      intro π
      induction π with
      | nil => intro _; exact .nil
      | cons i π ih =>
        intro hb
        have hi := hb i List.mem_cons_self
        refine .cons ?_ (ih fun j hj => hb j (List.mem_cons_of_mem _ hj))
        rcases Paired.at' i tm with ⟨x, k, e1, e2, a, z, ha⟩ | ⟨e1, e2⟩
        · dsimp only
          rw [List.getD_eq_getElem?_getD, List.getD_eq_getElem?_getD, e1, e2]
          exact ⟨a, z, ha⟩
        · rw [List.getElem?_eq_getElem hi] at e2; cases e2
    exact go π πb
  refine ⟨.ref h1.objs.size, _, I1.laid (t' := s.toks) (a := h1.objs.size) (o := .lst (π.map fun i => vs'.getD i .non)) (fun b u e => ?_) (Nat.le_refl _) ⟨by rw [List.length_map]; omega, _, e, pv', he⟩, rfl, q _ _ π (I1.hok.fresh (Nat.le_refl _)) hπ tp⟩
  have lt : @LT.lt Nat _ b h1.objs.size := Heap.lt_size e
  rw [sortedHeap_old (Nat.ne_of_lt lt) (by rw [Heap.size_push]; exact Nat.lt_succ_of_lt lt)]
  exact Heap.get?_push_of_some _ e
def rSortLT0 (K : PySem.W.Frag) : List V → Hp → VK → Prop := fun xs H Q => rSortLT K xs H Q ∨ ∃ (p : Addr), xs = [.ref p] ∧ SqL K H p [] ∧ ∀ l, H l = none → Q (.ref l) (upd H l (.lst []))
theorem call_sortedLT0 (hK : X.K = K) : CallR X (.builtin "sorted") (rSortLT0 K) := by
  intro pins s σ H xs us Q I r h
  rcases h with h | ⟨p, rfl, hp, q⟩
  · exact call_sortedLT hK pins s σ H xs us Q I r h
  · refine call_sorted hK pins s σ H _ us Q I r ⟨p, [], rfl, hp, by decide, fun l ns' fl pm _ => ?_⟩
    have : ns' = [] := List.Perm.eq_nil pm
    rw [this]
    exact q l fl
end
end L2
namespace Sw
open PySem L2
def Fine (n : Int) (rs : List (List Int)) : Prop := (∀ r ∈ rs, r ≠ [] ∧ ∀ x ∈ r, 1 ≤ x ∧ x ≤ n) ∧ rs.flatten.Nodup
instance {n : Int} {rs : List (List Int)} : Decidable (Fine n rs) := by unfold Fine; infer_instance
def nx : List (List Int) → Int → Int
  | [], x => x
  | r :: rs, x => if x ∈ r then nxt r x else nx rs x
section
variable {n : Int} {rs : List (List Int)} {r : List Int} {i j : Nat} {z : Int}
theorem take_snoc {α : Type} {l : List α} {i : Nat} {x : α} (h : l[i]? = some x) : l.take (i + 1) = l.take i ++ [x] := by rw [List.take_succ, h]; rfl
theorem rnd_pos {xs : List Int} (o : Ord n xs) (h : 1 ≤ n) : 1 ≤ (rndM n xs).length := by
  obtain ⟨m, hm, hl, _⟩ := low_ex o (x := 1) (by decide) h
  have b := orb_in o (by decide) h hm
  have : m ∈ (ivl 1 (n + 1)).filter (least xs) := List.mem_filter.mpr ⟨mem_ivl.mpr ⟨b.1, by omega⟩, hl⟩
  unfold rndM
  rw [List.length_map]
  exact List.length_pos_iff.mpr fun z => by rw [z] at this; cases this
end
end Sw
namespace Sw
open PySem L2
def ct3 (r : List Int) (a : Int) (j : Nat) : List (Int × Int) := ((r.take j).filter fun b => decide (a < b)).map fun b => (a, b)
def ct2 (r : List Int) (i : Nat) : List (Int × Int) := (r.take i).flatMap fun a => ct3 r a r.length
def ct1L (R : List (List Int)) (i : Nat) : List (Int × Int) := (R.take i).flatMap fun r => ct2 r r.length
def cutP (n : Int) (xs : List Int) : List (Int × Int) := ct1L (rndM n xs) (rndM n xs).length
theorem ct3_succ {r : List Int} {a b : Int} {j : Nat} (h : r[j]? = some b) : ct3 r a (j + 1) = ct3 r a j ++ (if decide (a < b) = true then [(a, b)] else []) := by
  unfold ct3
  rw [take_snoc h, List.filter_append, List.map_append]
  congr 1
  by_cases c : a < b
  · rw [if_pos (decide_eq_true c)]; simp [c]
  · rw [if_neg (fun z => c (of_decide_eq_true z))]; simp [c]
theorem ct2_succ {r : List Int} {a : Int} {i : Nat} (h : r[i]? = some a) : ct2 r (i + 1) = ct2 r i ++ ct3 r a r.length := by
  unfold ct2; rw [take_snoc h, List.flatMap_append]; simp
theorem ct1_succ {R : List (List Int)} {r : List Int} {i : Nat} (h : R[i]? = some r) : ct1L R (i + 1) = ct1L R i ++ ct2 r r.length := by
  unfold ct1L; rw [take_snoc h, List.flatMap_append]; simp
theorem ct3_len (r : List Int) (a : Int) (j : Nat) : (ct3 r a j).length ≤ r.length := by
  unfold ct3
  rw [List.length_map]
  exact Nat.le_trans (List.length_filter_le ..) (by rw [List.length_take]; omega)
theorem ct2_len (r : List Int) : ∀ i, i ≤ r.length → (ct2 r i).length ≤ i * r.length
  | 0, _ => Nat.zero_le _
  | i + 1, h => by
    rw [ct2_succ (List.getElem?_eq_getElem (show i < r.length by omega)), List.length_append, Nat.succ_mul]
    have := ct2_len r i (by omega)
    have := ct3_len r r[i] r.length
    omega
theorem ct1_len {R : List (List Int)} (h : ∀ r ∈ R, r.length ≤ 10) : ∀ i, i ≤ R.length → (ct1L R i).length ≤ 100 * i
  | 0, _ => Nat.zero_le _
  | i + 1, hi => by
    rw [ct1_succ (List.getElem?_eq_getElem (show i < R.length by omega)), List.length_append]
    have := ct1_len h i (by omega)
    have r10 := h R[i] (List.getElem_mem _)
    have := ct2_len R[i] R[i].length (Nat.le_refl _)
    have : R[i].length * R[i].length ≤ 10 * 10 := Nat.mul_le_mul r10 r10
    omega
end Sw
namespace Sw
open PySem L2
theorem exs_tups {H : Hp} {us : List V} {row : List (Int × Int)} (x : Exs H us row) : TupsV H us (row.map fun e => [e.1, e.2]) := by
  induction x with
  | nil => exact .nil
  | @cons t a b vs r h _ ih => exact .cons ⟨t, rfl, h⟩ ih
theorem tups_exs {H : Hp} : ∀ {us : List V} {row : List (Int × Int)}, TupsV H us (row.map fun e => [e.1, e.2]) → Exs H us row
  | _, [], x => by cases x; exact .nil
  | _, e :: row, x => by
    cases x with
    | cons h t =>
      obtain ⟨a, rfl, ha⟩ := h
      exact .cons ha (tups_exs t)
theorem pick_map {row : List (Int × Int)} {π : List Nat} (h : ∀ i ∈ π, i < row.length) : (π.map fun i => (row.map fun e => [e.1, e.2]).getD i []) = (π.map fun i => row.getD i (0, 0)).map fun e => [e.1, e.2] := by
  rw [List.map_map]
  refine List.map_congr_left fun i hi => ?_
  have := h i hi
  show (row.map fun e => [e.1, e.2]).getD i [] = [(row.getD i (0, 0)).1, (row.getD i (0, 0)).2]
  rw [List.getD_eq_getElem?_getD, List.getD_eq_getElem?_getD, List.getElem?_map, List.getElem?_eq_getElem this]
  rfl
theorem pick_permC {row : List (Int × Int)} {π : List Nat} (h : π.Perm (List.range row.length)) : (π.map fun i => row.getD i (0, 0)).Perm row := by
  refine (h.map _).trans (List.Perm.of_eq ?_)
  apply List.ext_getElem?
  intro i
  rw [List.getElem?_map]
  by_cases c : i < row.length
  · rw [List.getElem?_range c, List.getElem?_eq_getElem c]
    simp [List.getD_eq_getElem?_getD, c]
  · rw [List.getElem?_eq_none (by simp; omega), List.getElem?_eq_none (by omega)]; rfl
structure TCuts (P : Program) (w : World) (K : PySem.W.Frag) (mg : Str → Option Value) (base : Heap) : Prop extends T1 mg K where
  b_sorted : mg "sorted" = none
  f_rounds : FnAt P w K mg base "rounds" 3 ["order"] spRounds
section
variable {P : Program} {w : World} {K : PySem.W.Frag} {mg : Str → Option Value} {base : Heap}
theorem sc_cuts : FnScope ["order"] ["order"] (defScope (top 12)) := ⟨rfl, rfl, rfl, by decide +kernel, rfl, by decide +kernel, by decide +kernel⟩
end
end Sw
namespace L2
open PySem
def runB (l : List Int) (b : Bool) : List Int := if b then l ++ [1] else l.dropLast ++ [l.getLastD 0 + 1]
def runsB (c : Nat) : Nat → List Int
  | 0 => [1]
  | k + 1 => runB (runsB c k) (c / 2 ^ k % 2 == 1)
def insD (x : Int) : List Int → List Int
  | [] => [x]
  | y :: l => if x ≥ y then x :: y :: l else y :: insD x l
def fallD : List Int → List Int
  | [] => []
  | x :: l => insD x (fallD l)
def cutsB (n : Nat) : List (List Int) := (List.range (2 ^ (n - 1))).map fun c => fallD (runsB c (n - 1))
end L2
namespace L2
open PySem
def kL : Nat → List (List Int)
  | 1 => [[1]]
  | 2 => [[1, 1], [2]]
  | 3 => [[1, 1, 1], [2, 1], [3]]
  | 4 => [[1, 1, 1, 1], [2, 1, 1], [2, 2], [3, 1], [4]]
  | 5 => [[1, 1, 1, 1, 1], [2, 1, 1, 1], [2, 2, 1], [3, 1, 1], [3, 2], [4, 1], [5]]
  | 6 => [[1, 1, 1, 1, 1, 1], [2, 1, 1, 1, 1], [2, 2, 1, 1], [2, 2, 2], [3, 1, 1, 1], [3, 2, 1], [3, 3], [4, 1, 1], [4, 2], [5, 1], [6]]
  | 7 => [[1, 1, 1, 1, 1, 1, 1], [2, 1, 1, 1, 1, 1], [2, 2, 1, 1, 1], [2, 2, 2, 1], [3, 1, 1, 1, 1], [3, 2, 1, 1], [3, 2, 2], [3, 3, 1], [4, 1, 1, 1], [4, 2, 1], [4, 3], [5, 1, 1], [5, 2], [6, 1], [7]]
  | 8 => [[1, 1, 1, 1, 1, 1, 1, 1], [2, 1, 1, 1, 1, 1, 1], [2, 2, 1, 1, 1, 1], [2, 2, 2, 1, 1], [2, 2, 2, 2], [3, 1, 1, 1, 1, 1], [3, 2, 1, 1, 1], [3, 2, 2, 1], [3, 3, 1, 1], [3, 3, 2], [4, 1, 1, 1, 1], [4, 2, 1, 1], [4, 2, 2], [4, 3, 1], [4, 4], [5, 1, 1, 1], [5, 2, 1], [5, 3], [6, 1, 1], [6, 2], [7, 1], [8]]
  | 9 => [[1, 1, 1, 1, 1, 1, 1, 1, 1], [2, 1, 1, 1, 1, 1, 1, 1], [2, 2, 1, 1, 1, 1, 1], [2, 2, 2, 1, 1, 1], [2, 2, 2, 2, 1], [3, 1, 1, 1, 1, 1, 1], [3, 2, 1, 1, 1, 1], [3, 2, 2, 1, 1], [3, 2, 2, 2], [3, 3, 1, 1, 1], [3, 3, 2, 1], [3, 3, 3], [4, 1, 1, 1, 1, 1], [4, 2, 1, 1, 1], [4, 2, 2, 1], [4, 3, 1, 1], [4, 3, 2], [4, 4, 1], [5, 1, 1, 1, 1], [5, 2, 1, 1], [5, 2, 2], [5, 3, 1], [5, 4], [6, 1, 1, 1], [6, 2, 1], [6, 3], [7, 1, 1], [7, 2], [8, 1], [9]]
  | 10 => [[1, 1, 1, 1, 1, 1, 1, 1, 1, 1], [2, 1, 1, 1, 1, 1, 1, 1, 1], [2, 2, 1, 1, 1, 1, 1, 1], [2, 2, 2, 1, 1, 1, 1], [2, 2, 2, 2, 1, 1], [2, 2, 2, 2, 2], [3, 1, 1, 1, 1, 1, 1, 1], [3, 2, 1, 1, 1, 1, 1], [3, 2, 2, 1, 1, 1], [3, 2, 2, 2, 1], [3, 3, 1, 1, 1, 1], [3, 3, 2, 1, 1], [3, 3, 2, 2], [3, 3, 3, 1], [4, 1, 1, 1, 1, 1, 1], [4, 2, 1, 1, 1, 1], [4, 2, 2, 1, 1], [4, 2, 2, 2], [4, 3, 1, 1, 1], [4, 3, 2, 1], [4, 3, 3], [4, 4, 1, 1], [4, 4, 2], [5, 1, 1, 1, 1, 1], [5, 2, 1, 1, 1], [5, 2, 2, 1], [5, 3, 1, 1], [5, 3, 2], [5, 4, 1], [5, 5], [6, 1, 1, 1, 1], [6, 2, 1, 1], [6, 2, 2], [6, 3, 1], [6, 4], [7, 1, 1, 1], [7, 2, 1], [7, 3], [8, 1, 1], [8, 2], [9, 1], [10]]
  | _ => []
structure KinOk (n : Nat) (ks : List (List Int)) (t : SetTable) : Prop where
  sim : simT true (cutsB n) = some (ks, t)
  up : TUp t
  perm : ks.Perm (kL n)
  sort : (kL n).Pairwise fun a b => lexB b a = false
  full : ∀ k ∈ kL n, k ≠ []
  some : kL n ≠ []
  few : (kL n).length < 64
end L2
namespace L2
open PySem PySem.Spec PyProof.Rows
abbrev KAV := List (List Key × Addr × V)
def TRel (kvs : KAV) (xs : List (List Key × Addr × Value)) : Prop := Paired (fun (p : List Key × Addr × V) (q : List Key × Addr × Value) => p.1 = q.1 ∧ p.2.1 = q.2.1 ∧ RelV p.2.2 q.2.2) kvs xs
theorem TRel.keys : ∀ {kvs : KAV} {xs : List (List Key × Addr × Value)}, TRel kvs xs → kvs.map (·.1) = xs.map (·.1)
  | _, _, .nil => rfl
  | _, _, .cons r t => by rw [List.map_cons, List.map_cons, r.1, TRel.keys t]
structure DObj (P : Program) (w : World) (o : Obj) (xs : List (List Key × Addr × Value)) : Prop where
  ex : ∃ es ep, o.ExactDict ∧ o.data = .dict es ep ∧ es.toList = xs.map (entryOfKey (tupleKind (mixKind P w))) ∧ (xs.map (·.1)).Nodup
end L2
namespace Sw
open PySem L2
section
variable {n : Int} {xs : List Int} {a b : Int}
theorem el_inj (o : Ord n xs) (a1 : 1 ≤ a) (a2 : a ≤ n) {i j : Nat} (hj : j < per xs a) (hij : i < j) : itn (ld xs) i a ≠ itn (ld xs) j a := by
  intro e
  have e2 : itn (ld xs) (i + (j - i)) a = itn (ld xs) i (itn (ld xs) (j - i) a) := itn_add _ _ _ _
  rw [show i + (j - i) = j by omega, ← e] at e2
  have q := itn_in o a1 a2 (j - i)
  have := itn_inj o a1 a2 q.1 q.2 i e2
  exact per_ne (by omega) (by omega) this.symm
theorem el_ne (o : Ord n xs) (a1 : 1 ≤ a) (a2 : a ≤ n) {i j : Nat} (hi : i < per xs a) (hj : j < per xs a) (h : i ≠ j) : itn (ld xs) i a ≠ itn (ld xs) j a := by
  rcases Nat.lt_or_gt_of_ne h with z | z
  · exact el_inj o a1 a2 hj z
  · exact (el_inj o a1 a2 hi z).symm
variable (o : Ord n xs) (ga : 1 ≤ a) (gab : a < b) (gb : b ≤ n) {k : Nat} (hk0 : 0 < k) (hk : k < per xs a) (hb : itn (ld xs) k a = b)
include o ga gab gb hk0 hk hb
theorem cut_ldS {x : Int} (h1 : 1 ≤ x) (h2 : x ≤ n) : ld (xs.map (swp · (a, b))) x = if ld xs x = a then b else if ld xs x = b then a else ld xs x := by
  rw [ld_map o _ h1 h2]; rfl
theorem cut_A {l : Nat} (hl : l < k) : ld (xs.map (swp · (a, b))) (itn (ld xs) l a) = if l + 1 = k then a else itn (ld xs) (l + 1) a := by
  have r := itn_in o ga (by omega) l
  rw [cut_ldS o ga gab gb hk0 hk hb r.1 r.2]
  show (if itn (ld xs) (l + 1) a = a then b else if itn (ld xs) (l + 1) a = b then a else itn (ld xs) (l + 1) a) = _
  rw [if_neg (per_ne (by omega) (by omega))]
  by_cases e : l + 1 = k
  · rw [if_pos (by rw [e]; exact hb), if_pos e]
  · rw [if_neg (by rw [← hb]; exact el_ne o ga (by omega) (by omega) hk (by omega)), if_neg e]
theorem cut_B {l : Nat} (hl : k ≤ l) (hl2 : l < per xs a) : ld (xs.map (swp · (a, b))) (itn (ld xs) l a) = if l + 1 = per xs a then b else itn (ld xs) (l + 1) a := by
  have r := itn_in o ga (by omega) l
  rw [cut_ldS o ga gab gb hk0 hk hb r.1 r.2]
  show (if itn (ld xs) (l + 1) a = a then b else if itn (ld xs) (l + 1) a = b then a else itn (ld xs) (l + 1) a) = _
  by_cases e : l + 1 = per xs a
  · rw [if_pos (by rw [e]; exact per_eq o ga (by omega)), if_pos e]
  · rw [if_neg (per_ne (by omega) (by omega)), if_neg (by rw [← hb]; exact el_ne o ga (by omega) (by omega) hk (by omega)), if_neg e]
theorem walk_A : ∀ j, ∃ l, l < k ∧ itn (ld (xs.map (swp · (a, b)))) j a = itn (ld xs) l a
  | 0 => ⟨0, hk0, rfl⟩
  | j + 1 => by
    obtain ⟨l, hl, e⟩ := walk_A j
    show ∃ l, l < k ∧ ld _ (itn _ j a) = _
    rw [e, cut_A o ga gab gb hk0 hk hb hl]
    by_cases e2 : l + 1 = k
    · rw [if_pos e2]; exact ⟨0, hk0, rfl⟩
    · rw [if_neg e2]; exact ⟨l + 1, by omega, rfl⟩
theorem walk_A' : ∀ l, l < k → itn (ld (xs.map (swp · (a, b)))) l a = itn (ld xs) l a
  | 0, _ => rfl
  | l + 1, h => by
    show ld _ (itn _ l a) = _
    rw [walk_A' l (by omega), cut_A o ga gab gb hk0 hk hb (by omega), if_neg (by omega)]
theorem walk_B : ∀ j, ∃ l, k ≤ l ∧ l < per xs a ∧ itn (ld (xs.map (swp · (a, b)))) j b = itn (ld xs) l a
  | 0 => ⟨k, Nat.le_refl _, hk, hb.symm⟩
  | j + 1 => by
    obtain ⟨l, hl, hl2, e⟩ := walk_B j
    show ∃ l, k ≤ l ∧ l < per xs a ∧ ld _ (itn _ j b) = _
    rw [e, cut_B o ga gab gb hk0 hk hb hl hl2]
    by_cases e2 : l + 1 = per xs a
    · rw [if_pos e2]; exact ⟨k, Nat.le_refl _, hk, hb.symm⟩
    · rw [if_neg e2]; exact ⟨l + 1, by omega, by omega, rfl⟩
theorem walk_B' : ∀ l, k + l < per xs a → itn (ld (xs.map (swp · (a, b)))) l b = itn (ld xs) (k + l) a
  | 0, _ => hb.symm
  | l + 1, h => by
    show ld _ (itn _ l b) = _
    rw [walk_B' l (by omega), cut_B o ga gab gb hk0 hk hb (by omega) (by omega), if_neg (by omega)]
    rfl
theorem walk_C {x : Int} (h1 : 1 ≤ x) (h2 : x ≤ n) (hx : x ∉ orb xs a) : ∀ j, itn (ld (xs.map (swp · (a, b)))) j x = itn (ld xs) j x ∧ itn (ld xs) j x ∉ orb xs a
  | 0 => ⟨rfl, hx⟩
  | j + 1 => by
    obtain ⟨e, no⟩ := walk_C h1 h2 hx j
    have r := itn_in o h1 h2 j
    have r' := itn_in o h1 h2 (j + 1)
    have no' : itn (ld xs) (j + 1) x ∉ orb xs a := fun z => by
      -- a lies in the round of x then, and x in that of a
      have z1 : itn (ld xs) (j + 1) x ∈ orb xs x := (orb_mem o h1 h2).mpr ⟨j + 1, rfl⟩
      have z2 := orb_sym o ga (by omega) z
      have z3 := orb_trans o h1 h2 z1 z2
      exact hx (orb_sym o h1 h2 z3)
    refine ⟨?_, no'⟩
    show ld _ (itn _ j x) = _
    rw [e, cut_ldS o ga gab gb hk0 hk hb r.1 r.2]
    show (if itn (ld xs) (j + 1) x = a then b else if itn (ld xs) (j + 1) x = b then a else itn (ld xs) (j + 1) x) = _
    rw [if_neg (fun z => no' (by rw [z]; exact orb_self a)), if_neg (fun z => no' (by rw [z]; exact (orb_mem o ga (by omega)).mpr ⟨k, hb⟩))]
theorem cut_any : cnt n (xs.map (swp · (a, b))) = cnt n xs + 1 := by
  have gd : 1 ≤ ((a, b) : Int × Int).1 ∧ ((a, b) : Int × Int).1 < ((a, b) : Int × Int).2 ∧ ((a, b) : Int × Int).2 ≤ n := ⟨ga, gab, gb⟩
  have o' := map_ord o gd
  have a2 : a ≤ n := by omega
  have b1 : 1 ≤ b := by omega
  -- the two parts
  have pA : ∀ y, y ∈ orb (xs.map (swp · (a, b))) a ↔ ∃ l, l < k ∧ itn (ld xs) l a = y := fun y => by
    rw [orb_mem o' ga a2]
    constructor
    · rintro ⟨j, rfl⟩
      obtain ⟨l, hl, e⟩ := walk_A o ga gab gb hk0 hk hb j
      exact ⟨l, hl, e.symm⟩
    · rintro ⟨l, hl, rfl⟩
      exact ⟨l, walk_A' o ga gab gb hk0 hk hb l hl⟩
  have pB : ∀ y, y ∈ orb (xs.map (swp · (a, b))) b ↔ ∃ l, k ≤ l ∧ l < per xs a ∧ itn (ld xs) l a = y := fun y => by
    rw [orb_mem o' b1 gb]
    constructor
    · rintro ⟨j, rfl⟩
      obtain ⟨l, hl, hl2, e⟩ := walk_B o ga gab gb hk0 hk hb j
      exact ⟨l, hl, hl2, e.symm⟩
    · rintro ⟨l, hl, hl2, rfl⟩
      exact ⟨l - k, by rw [walk_B' o ga gab gb hk0 hk hb (l - k) (by omega), show k + (l - k) = l by omega]⟩
  have pO : ∀ y, y ∈ orb xs a ↔ y ∈ orb (xs.map (swp · (a, b))) a ∨ y ∈ orb (xs.map (swp · (a, b))) b := fun y => by
    rw [pA, pB, orb_mem o ga a2]
    constructor
    · rintro ⟨j, rfl⟩
      obtain ⟨l, hl, e⟩ := itn_mod o ga a2 j
      by_cases h : l < k
      · exact .inl ⟨l, h, e.symm⟩
      · exact .inr ⟨l, by omega, hl, e.symm⟩
    · rintro (⟨l, _, rfl⟩ | ⟨l, _, _, rfl⟩)
      · exact ⟨l, rfl⟩
      · exact ⟨l, rfl⟩
  have dis : ∀ y, y ∈ orb (xs.map (swp · (a, b))) a → y ∈ orb (xs.map (swp · (a, b))) b → False := fun y ya yb => by
    obtain ⟨l, hl, e⟩ := (pA y).mp ya
    obtain ⟨l', hl', hl2, e'⟩ := (pB y).mp yb
    exact el_ne o ga a2 (by omega) hl2 (by omega) (e.trans e'.symm)
  -- least of a round, by any of its things
  have leastOf : ∀ {zs : List Int} (oz : Ord n zs) {c x : Int}, 1 ≤ c → c ≤ n → x ∈ orb zs c → (least zs x = true ↔ ∀ y ∈ orb zs c, x ≤ y) := fun {zs} oz {c x} c1 c2 hx => by
    have hx' := orb_in oz c1 c2 hx
    unfold least
    rw [List.all_eq_true]
    constructor
    · intro h y hy
      exact of_decide_eq_true (h y (orb_trans oz hx'.1 hx'.2 (orb_sym oz c1 c2 hx) hy))
    · intro h y hy
      exact decide_eq_true (h y (orb_trans oz c1 c2 hx hy))
  obtain ⟨mA, mA1, mA2⟩ := least_ex (l := orb (xs.map (swp · (a, b))) a) (List.ne_nil_of_mem (orb_self a))
  obtain ⟨mB, mB1, mB2⟩ := least_ex (l := orb (xs.map (swp · (a, b))) b) (List.ne_nil_of_mem (orb_self b))
  have ne : mA ≠ mB := fun z => dis mA mA1 (by rw [z]; exact mB1)
  have iA := orb_in o' ga a2 mA1
  have iB := orb_in o' b1 gb mB1
  have off : ∀ x, 1 ≤ x → x ≤ n → x ∉ orb xs a → least xs x = least (xs.map (swp · (a, b))) x := fun x h1 h2 hx => by
    rw [Bool.eq_iff_iff, least_iff o h1 h2, least_iff o' h1 h2]
    constructor
    · intro h j
      rw [(walk_C o ga gab gb hk0 hk hb h1 h2 hx j).1]; exact h j
    · intro h j
      have := h j
      rwa [(walk_C o ga gab gb hk0 hk hb h1 h2 hx j).1] at this
  -- the one that begins a round anew
  have go : ∀ g m, (g = mA ∧ m = mB ∨ g = mB ∧ m = mA) → m < g → cnt n (xs.map (swp · (a, b))) = cnt n xs + 1 := by
    intro g m hgm lt
    have mO : m ∈ orb xs a := (pO m).mpr (by rcases hgm with ⟨_, rfl⟩ | ⟨_, rfl⟩; exact .inr mB1; exact .inl mA1)
    have gO : g ∈ orb xs a := (pO g).mpr (by rcases hgm with ⟨rfl, _⟩ | ⟨rfl, _⟩; exact .inl mA1; exact .inr mB1)
    have gi := orb_in o ga a2 gO
    have low : ∀ y ∈ orb xs a, m ≤ y := fun y hy => by
      rcases (pO y).mp hy with z | z
      · have := mA2 y z
        rcases hgm with ⟨rfl, rfl⟩ | ⟨rfl, rfl⟩ <;> omega
      · have := mB2 y z
        rcases hgm with ⟨rfl, rfl⟩ | ⟨rfl, rfl⟩ <;> omega
    have lA : ∀ x ∈ orb (xs.map (swp · (a, b))) a, (least (xs.map (swp · (a, b))) x = true ↔ x = mA) := fun x hx => by
      rw [leastOf o' ga a2 hx]
      constructor
      · intro h
        exact Int.le_antisymm (h mA mA1) (mA2 x hx)
      · rintro rfl
        exact mA2
    have lB : ∀ x ∈ orb (xs.map (swp · (a, b))) b, (least (xs.map (swp · (a, b))) x = true ↔ x = mB) := fun x hx => by
      rw [leastOf o' b1 gb hx]
      constructor
      · intro h
        exact Int.le_antisymm (h mB mB1) (mB2 x hx)
      · rintro rfl
        exact mB2
    have lO : ∀ x ∈ orb xs a, (least xs x = true ↔ x = m) := fun x hx => by
      rw [leastOf o ga a2 hx]
      constructor
      · intro h
        exact Int.le_antisymm (h m mO) (low x hx)
      · rintro rfl
        exact low
    unfold cnt
    refine filter_one (g := g) ?_ ?_ _ (ivl_nodup _ _) (mem_ivl.mpr (by omega)) ?_
    · cases h : least xs g with
      | false => rfl
      | true =>
        have := (lO g gO).mp h
        omega
    · rcases hgm with ⟨rfl, _⟩ | ⟨rfl, _⟩
      · exact (lA g mA1).mpr rfl
      · exact (lB g mB1).mpr rfl
    · intro x hx hne
      have hx := mem_ivl.mp hx
      by_cases hxo : x ∈ orb xs a
      · rw [Bool.eq_iff_iff, lO x hxo]
        rcases (pO x).mp hxo with z | z
        · rw [lA x z]
          rcases hgm with ⟨rfl, rfl⟩ | ⟨rfl, rfl⟩
          · constructor
            · intro e; subst e; exact (dis x z mB1).elim
            · intro e; exact absurd e hne
          · exact Iff.rfl
        · rw [lB x z]
          rcases hgm with ⟨rfl, rfl⟩ | ⟨rfl, rfl⟩
          · exact Iff.rfl
          · constructor
            · intro e; subst e; exact (dis x mA1 z).elim
            · intro e; exact absurd e hne
      · exact off x hx.1 (by omega) hxo
  rcases Int.lt_or_gt_of_ne ne with z | z
  · exact go mB mA (.inr ⟨rfl, rfl⟩) z
  · exact go mA mB (.inl ⟨rfl, rfl⟩) z
end
end Sw
namespace Sw
open PySem L2
def relab (f : Int → Int) (e : Int × Int) : Int → Int := fun x => if f x = f e.2 then f e.1 else f x
def labs (row : List (Int × Int)) : Int → Int := row.foldl relab id
def addC (f : Int → Int) (acc : List (Int × List Int)) (x : Int) : List (Int × List Int) :=
  if f x ∈ acc.map (·.1) then acc.map (fun p => if p.1 = f x then (p.1, p.2 ++ [x]) else p) else acc ++ [(f x, [x])]
def grp (f : Int → Int) (L : List Int) : List (Int × List Int) := L.foldl (addC f) []
def partsM (n : Int) (row : List (Int × Int)) : List (List Int) := (grp (labs row) (ivl 1 (n + 1))).map (·.2)
section
variable {f : Int → Int} {acc : List (Int × List Int)} {x k : Int} {ms : List Int} {j : Nat}
structure Grp (f : Int → Int) (L : List Int) (acc : List (Int × List Int)) : Prop where
  nd : (acc.map (·.1)).Nodup
  mem : ∀ p ∈ acc, p.2 = L.filter (fun y => decide (f y = p.1)) ∧ p.2 ≠ []
  all : ∀ y ∈ L, f y ∈ acc.map (·.1)
theorem Grp.nil : Grp f [] [] := ⟨List.nodup_nil, fun p hp => (by cases hp), fun y hy => (by cases hy)⟩
end
end Sw
namespace Sw
open PySem L2
theorem snoc_ind {α : Type} {Pr : List α → Prop} (h0 : Pr []) (hs : ∀ l x, Pr l → Pr (l ++ [x])) (l : List α) : Pr l := by
  have : ∀ r : List α, Pr r.reverse := fun r => by
    induction r with
    | nil => exact h0
    | cons x r ih => rw [List.reverse_cons]; exact hs _ _ ih
  have q := this l.reverse
  rwa [List.reverse_reverse] at q
theorem len_of {n : Int} {fs : List Int} (h0 : 0 ≤ n) (nd : fs.Nodup) (hm : ∀ y ∈ fs, 1 ≤ y ∧ y ≤ n) : fs.length ≤ n.toNat := by
  have := List.Nodup.length_le_of_subset nd (l₂ := ivl 1 (n + 1)) fun y hy => mem_ivl.mpr ⟨(hm y hy).1, by have := (hm y hy).2; omega⟩
  rw [ivl_length] at this
  omega
end Sw
namespace Sw
open PySem L2
section
variable {n : Int} {xs : List Int} {a b : Int}
theorem led_snoc (n : Int) (r : List (Int × Int)) (e : Int × Int) : ledM n (r ++ [e]) = (ledM n r).map (swp · e) := by
  unfold ledM
  rw [List.map_map]
  refine List.map_congr_left fun x _ => ?_
  rw [go_append]
  rfl
theorem map_swp_swp (xs : List Int) (e : Int × Int) : (xs.map (swp · e)).map (swp · e) = xs := by
  rw [List.map_map]
  conv => rhs; rw [← List.map_id xs]
  exact List.map_congr_left fun x _ => swp_swp x e
theorem good_left {r q : List (Int × Int)} (g : Good n (r ++ q)) : Good n r := fun e he => g e (List.mem_append_left _ he)
theorem ord_swp (o : Ord n xs) (ga : 1 ≤ a) (gab : a < b) (gb : b ≤ n) : Ord n (xs.map (swp · (a, b))) := by
  have inv : ∀ x, swp (swp x (a, b)) (a, b) = x := fun x => swp_swp x _
  refine (List.perm_ext_iff_of_nodup ?_ (ivl_nodup _ _)).mpr fun y => ?_
  · rw [List.Nodup, List.pairwise_map]
    exact o.nodup.imp fun h e => h ((inv _).symm.trans ((congrArg (fun z => swp z (a, b)) e).trans (inv _)))
  · have sin : ∀ x, 1 ≤ x ∧ x ≤ n → 1 ≤ swp x (a, b) ∧ swp x (a, b) ≤ n := fun x hx => by
      unfold swp
      split
      · exact ⟨by show 1 ≤ b; omega, gb⟩
      · split
        · exact ⟨ga, by show a ≤ n; omega⟩
        · exact hx
    rw [List.mem_map, mem_ivl]
    constructor
    · rintro ⟨x, hx, rfl⟩
      have := sin x (o.mem.mp hx)
      omega
    · intro hy
      have := sin y ⟨hy.1, by omega⟩
      exact ⟨swp y (a, b), o.mem.mpr this, inv y⟩
theorem ord_led {row : List (Int × Int)} (g : Good n row) : Ord n (ledM n row) := by
  induction row using snoc_ind with
  | h0 => rw [ledM_nil]; exact ord_plain n
  | hs r e ih =>
    rw [led_snoc]
    have ge := g e (List.mem_append_right _ (List.mem_singleton.mpr rfl))
    exact ord_swp (ih (good_left g)) ge.1 ge.2.1 ge.2.2
theorem join_any (o : Ord n xs) (ga : 1 ≤ a) (gab : a < b) (gb : b ≤ n) (hb : b ∉ orb xs a) : cnt n xs = cnt n (xs.map (swp · (a, b))) + 1 := by
  have nb : ∀ k, itn (ld xs) k a ≠ b := fun k e => hb ((orb_mem o ga (by omega)).mpr ⟨k, e⟩)
  have same : ∀ j, j < per xs a → itn (ld (xs.map (swp · (a, b)))) j a = itn (ld xs) j a := by
    intro j
    induction j with
    | zero => intro _; rfl
    | succ j ih =>
      intro hj
      have r := itn_in o ga (by omega) j
      show ld _ (itn _ j a) = _
      rw [ih (by omega), ld_map o _ r.1 r.2]
      show swp (itn (ld xs) (j + 1) a) (a, b) = _
      exact swp_ne (per_ne (by omega) hj) (nb _)
  have pp : 0 < per xs a := by unfold per; omega
  have hit : itn (ld (xs.map (swp · (a, b)))) (per xs a) a = b := by
    obtain ⟨p, hp⟩ : ∃ p, per xs a = p + 1 := ⟨per xs a - 1, by omega⟩
    have r := itn_in o ga (by omega) p
    have e := per_eq o ga (by omega : a ≤ n)
    rw [hp] at e ⊢
    show ld _ (itn _ p a) = b
    rw [same p (by omega), ld_map o _ r.1 r.2]
    have e : ld xs (itn (ld xs) p a) = a := e
    rw [e]
    show (if a = a then b else _) = b
    rw [if_pos rfl]
  have o2 := ord_swp o ga gab gb
  have hin : b ∈ orb (xs.map (swp · (a, b))) a := (orb_mem o2 ga (by omega)).mpr ⟨_, hit⟩
  unfold orb at hin
  obtain ⟨k, hk, ek⟩ := List.mem_map.mp hin
  have k0 : 0 < k := Nat.pos_of_ne_zero fun z => by
    subst z
    have : a = b := ek
    omega
  have := cut_any o2 ga gab gb k0 (List.mem_range.mp hk) ek
  rw [map_swp_swp] at this
  exact this
theorem cut_in (o : Ord n xs) (ga : 1 ≤ a) (gab : a < b) (gb : b ≤ n) (hb : b ∈ orb xs a) : cnt n (xs.map (swp · (a, b))) = cnt n xs + 1 := by
  unfold orb at hb
  obtain ⟨k, hk, ek⟩ := List.mem_map.mp hb
  have k0 : 0 < k := Nat.pos_of_ne_zero fun z => by
    subst z
    have : a = b := ek
    omega
  exact cut_any o ga gab gb k0 (List.mem_range.mp hk) ek
def np (n : Int) (row : List (Int × Int)) : Nat := (partsM n row).length
theorem cnt_nil (h : 0 ≤ n) : cnt n (ledM n []) = n.toNat := by
  have e := homeM_of h (r := []) Rise.nil
  have := homeM_cnt h (ord_led (row := []) (fun e he => by cases he))
  rw [e] at this
  simpa using this
end
end Sw
namespace Sw
open PySem L2
section
variable {n : Int} {xs ys : List Int} {a b : Int}
theorem orb_go (o : Ord n xs) {x y : Int} (h1 : 1 ≤ x) (h2 : x ≤ n) (h : y ∈ orb xs x) : ld xs y ∈ orb xs x := by
  obtain ⟨k, e⟩ := (orb_mem o h1 h2).mp h
  exact (orb_mem o h1 h2).mpr ⟨k + 1, by show ld xs (itn (ld xs) k x) = _; rw [e]⟩
theorem cut_sub (o : Ord n ys) (ga : 1 ≤ a) (gab : a < b) (gb : b ≤ n) (hb : b ∈ orb ys a) {x y : Int} (h1 : 1 ≤ x) (h2 : x ≤ n) (h : y ∈ orb (ys.map (swp · (a, b))) x) : y ∈ orb ys x := by
  have o2 := ord_swp o ga gab gb
  obtain ⟨k, rfl⟩ := (orb_mem o2 h1 h2).mp h
  clear h
  induction k with
  | zero => exact orb_self x
  | succ k ih =>
    have r := itn_in o2 h1 h2 k
    show ld (ys.map (swp · (a, b))) (itn (ld (ys.map (swp · (a, b)))) k x) ∈ _
    generalize itn (ld (ys.map (swp · (a, b)))) k x = z at r ih ⊢
    rw [ld_map o _ r.1 r.2]
    have hz := orb_go o h1 h2 ih
    show swp (ld ys z) (a, b) ∈ orb ys x
    unfold swp
    split
    · rename_i e
      have e : ld ys z = a := e
      rw [e] at hz
      exact orb_trans o h1 h2 hz hb
    · split
      · rename_i e
        have e : ld ys z = b := e
        rw [e] at hz
        exact orb_trans o h1 h2 hz (orb_sym o ga (by omega) hb)
      · exact hz
theorem join_in (o : Ord n xs) (ga : 1 ≤ a) (gab : a < b) (gb : b ≤ n) (hb : b ∉ orb xs a) : b ∈ orb (xs.map (swp · (a, b))) a := by
  have o2 := ord_swp o ga gab gb
  by_cases h : b ∈ orb (xs.map (swp · (a, b))) a
  · exact h
  · have e1 := join_any o ga gab gb hb
    have e2 := join_any o2 ga gab gb h
    rw [map_swp_swp] at e2
    omega
theorem cnt_ge {row : List (Int × Int)} (h0 : 0 ≤ n) (g : Good n row) : n.toNat ≤ row.length + cnt n (ledM n row) := by
  induction row using snoc_ind with
  | h0 => rw [cnt_nil h0]; omega
  | hs r e ih =>
    have ih := ih (good_left g)
    obtain ⟨a, b⟩ := e
    have ge := g (a, b) (List.mem_append_right _ (List.mem_singleton.mpr rfl))
    simp only at ge
    have o := ord_led (good_left g)
    rw [List.length_append, List.length_singleton, led_snoc]
    by_cases hb : b ∈ orb (ledM n r) a
    · have := cut_in o ge.1 ge.2.1 ge.2.2 hb
      omega
    · have := join_any o ge.1 ge.2.1 ge.2.2 hb
      omega
theorem least_edge {row : List (Int × Int)} (h0 : 0 ≤ n) (g : Good n row) (hl : row.length + cnt n (ledM n row) = n.toNat) : ∀ e ∈ row, e.2 ∈ orb (ledM n row) e.1 := by
  induction row using snoc_ind with
  | h0 => intro e he; cases he
  | hs r d ih =>
    obtain ⟨a, b⟩ := d
    have ge := g (a, b) (List.mem_append_right _ (List.mem_singleton.mpr rfl))
    simp only at ge
    have gl := good_left g
    have o := ord_led gl
    have c := cnt_ge h0 gl
    rw [List.length_append, List.length_singleton, led_snoc] at hl
    have hb : b ∉ orb (ledM n r) a := fun z => by
      have := cut_in o ge.1 ge.2.1 ge.2.2 z
      omega
    have j := join_any o ge.1 ge.2.1 ge.2.2 hb
    have ih := ih gl (by omega)
    have o2 := ord_swp o ge.1 ge.2.1 ge.2.2
    have hin := join_in o ge.1 ge.2.1 ge.2.2 hb
    rw [led_snoc]
    intro e he
    rcases List.mem_append.mp he with he | he
    · have gee := gl e he
      have q := ih e he
      refine cut_sub o2 ge.1 ge.2.1 ge.2.2 hin gee.1 (by omega) ?_
      rw [map_swp_swp]
      exact q
    · rw [List.mem_singleton.mp he]
      exact hin
end
end Sw
namespace Sw
open PySem L2
def Seat (tk : List Int) (c p : Int) : Prop := c ≤ p ∧ p ∉ tk ∧ ∀ q, c ≤ q → q < p → q ∈ tk
def Plc (cs ps : List Int) : Prop := ps.length = cs.length ∧ ∀ (i : Nat) (c p : Int), cs[i]? = some c → ps[i]? = some p → Seat (ps.take i) c p
theorem Plc.nil : Plc [] [] := ⟨rfl, fun i c p h => by simp at h⟩
end Sw
namespace Sw
open PySem L2
structure Nice (k : Nat) (d : PyData) : Prop where
  lay : d.canLay0 = true
  dp : d.depth ≤ k
theorem nice_int {k : Nat} (i : Int) : Nice k (.int i) := ⟨rfl, by unfold PyData.depth; omega⟩
theorem nice_all {k : Nat} : ∀ {ds : List PyData}, (∀ d ∈ ds, Nice k d) → PyData.canLayAll0 ds = true ∧ PyData.depthAll ds ≤ k
  | [], _ => ⟨rfl, by unfold PyData.depthAll; omega⟩
  | d :: ds, h => by
    obtain ⟨h1, h2⟩ := nice_all fun e he => h e (List.mem_cons_of_mem _ he)
    have h0 := h d List.mem_cons_self
    refine ⟨?_, ?_⟩
    · unfold PyData.canLayAll0; rw [h1, h0.lay]; rfl
    · unfold PyData.depthAll
      have := h0.dp
      omega
theorem nice_list {k : Nat} {ds : List PyData} (h : ∀ d ∈ ds, Nice k d) : Nice (k + 1) (.list ds) := by
  obtain ⟨h1, h2⟩ := nice_all h
  exact ⟨by unfold PyData.canLay0; exact h1, by unfold PyData.depth; omega⟩
theorem nice_tuple {k : Nat} {ds : List PyData} (h : ∀ d ∈ ds, Nice k d) : Nice (k + 1) (.tuple ds) := by
  obtain ⟨h1, h2⟩ := nice_all h
  exact ⟨by unfold PyData.canLay0; exact h1, by unfold PyData.depth; omega⟩
end Sw
namespace Sw
open PySem L2
def up (es : List Int) (p : Int) : Int := if 0 < p then es.getD (p - 1).toNat 0 else p
def ups (es : List Int) : Nat → Int → Int
  | 0, p => p
  | k + 1, p => up es (ups es k p)
section
variable {es come : List Int} {p x y : Int}
theorem up_zero : up es 0 = 0 := by unfold up; rw [if_neg (by decide)]
theorem ups_zero : ∀ k, ups es k 0 = 0
  | 0 => rfl
  | k + 1 => by show up es (ups es k 0) = 0; rw [ups_zero k, up_zero]
theorem ups_add (k : Nat) : ∀ j, ups es (j + k) p = ups es j (ups es k p)
  | 0 => by rw [Nat.zero_add]; rfl
  | j + 1 => by
    rw [show j + 1 + k = (j + k) + 1 by omega]
    show up es (ups es (j + k) p) = up es (ups es j (ups es k p))
    rw [ups_add k j]
theorem ups_mono {k m : Nat} (h : ups es k p = 0) (l : k ≤ m) : ups es m p = 0 := by
  rw [show m = (m - k) + k by omega, ups_add, h, ups_zero]
theorem ups_succ (k : Nat) : ups es (k + 1) p = ups es k (up es p) := by rw [ups_add 1 k]; rfl
structure Grown (es come : List Int) : Prop where
  z : come[0]? = some 0
  st : ∀ (j : Nat) (x : Int), 1 ≤ j → come[j]? = some x → 1 ≤ x ∧ ∃ (m : Nat) (y : Int), m < j ∧ come[m]? = some y ∧ es.getD (x - 1).toNat 0 = y
theorem Grown.home (g : Grown es come) : ∀ (j : Nat) (x : Int), come[j]? = some x → ups es j x = 0 := by
  intro j
  induction j using Nat.strongRecOn with
  | _ j ih =>
    intro x hx
    by_cases j0 : j = 0
    · subst j0
      rw [g.z] at hx
      cases hx
      rfl
    · obtain ⟨x1, m, y, mj, hm, e⟩ := g.st j x (by omega) hx
      have := ih m mj y hm
      rw [show j = (j - 1) + 1 by omega, ups_succ]
      have eu : up es x = y := by unfold up; rw [if_pos (by omega)]; exact e
      rw [eu]
      exact ups_mono this (by omega)
end
structure TreeM (n : Int) (es : List Int) : Prop where
  len : es.length = n.toNat
  ein : ∀ e ∈ es, 0 ≤ e ∧ e ≤ n
  home : ∀ p, 1 ≤ p → p ≤ n → ups es es.length p = 0
def TreeD (d : PyData) : Prop := ∃ es : List Int, d = .list (es.map PyData.int) ∧ es.length ≤ 11 ∧ (∀ e ∈ es, 0 ≤ e ∧ e ≤ es.length) ∧ ∀ p : Int, 1 ≤ p → p ≤ es.length → ups es es.length p = 0
theorem TreeM.tree {n : Int} {es : List Int} (h : TreeM n es) (n0 : 0 ≤ n) (n1 : n ≤ 11) : TreeD (.list (es.map PyData.int)) := by
  have := h.len
  refine ⟨es, rfl, by omega, fun e he => ?_, fun p a b => h.home p a (by omega)⟩
  have := h.ein e he; omega
end Sw
namespace Sw
open PySem L2
theorem swp_injc {x y : Int} {e : Int × Int} (h : swp x e = swp y e) : x = y := by rw [← swp_swp x e, h, swp_swp]
theorem swp_sym (x a b : Int) : swp x (a, b) = swp x (b, a) := by
  unfold swp
  simp only
  by_cases h1 : x = a <;> by_cases h2 : x = b <;> simp_all
theorem swp_mm (x a b : Int) : swp x (min a b, max a b) = swp x (a, b) := by
  by_cases h : a ≤ b
  · rw [Int.min_eq_left h, Int.max_eq_right h]
  · rw [Int.min_eq_right (by omega), Int.max_eq_left (by omega), swp_sym]
end Sw
namespace Sw
open PySem L2
structure OneR (n : Int) (xs : List Int) : Prop where
  ord : Ord n xs
  pos : 1 ≤ n
  all : ∀ x, 1 ≤ x → x ≤ n → x ∈ orb xs 1
def lab (f : Int → Int) (e : Int × Int) : Int × Int := (min (f e.1) (f e.2), max (f e.1) (f e.2))
theorem lab_mm (f : Int → Int) (a b : Int) : lab f (min a b, max a b) = lab f (a, b) := by
  unfold lab
  rcases Int.le_total a b with h | h
  · rw [Int.min_eq_left h, Int.max_eq_right h]
  · rw [Int.min_eq_right h, Int.max_eq_left h]
    exact Prod.ext (Int.min_comm _ _) (Int.max_comm _ _)
def Inj (n : Int) (f : Int → Int) : Prop := ∀ x y, 1 ≤ x → x ≤ n → 1 ≤ y → y ≤ n → f x = f y → x = y
theorem swp_lab {n : Int} {f : Int → Int} (hf : Inj n f) {x : Int} {e : Int × Int} (x1 : 1 ≤ x) (x2 : x ≤ n) (a1 : 1 ≤ e.1) (a2 : e.1 ≤ n) (b1 : 1 ≤ e.2) (b2 : e.2 ≤ n) : swp (f x) (lab f e) = f (swp x e) := by
  obtain ⟨a, b⟩ := e
  dsimp only at a1 a2 b1 b2
  unfold lab
  rw [swp_mm]
  unfold swp
  dsimp only
  by_cases h1 : x = a
  · rw [if_pos h1, if_pos (by rw [h1])]
  · rw [if_neg h1, if_neg (fun z => h1 (hf _ _ x1 x2 a1 a2 z))]
    by_cases h2 : x = b
    · rw [if_pos h2, if_pos (by rw [h2])]
    · rw [if_neg h2, if_neg (fun z => h2 (hf _ _ x1 x2 b1 b2 z))]
theorem go_lab {n : Int} {f : Int → Int} (hf : Inj n f) : ∀ {row : List (Int × Int)} {x : Int}, Good n row → 1 ≤ x → x ≤ n → go (row.map (lab f)) (f x) = f (go row x)
  | [], _, _, _, _ => rfl
  | e :: row, x, hg, x1, x2 => by
    have g := hg e List.mem_cons_self
    show go (row.map (lab f)) (swp (f x) (lab f e)) = f (go row (swp x e))
    rw [swp_lab hf x1 x2 g.1 (by omega) (by omega) g.2.2]
    have := swp_in (n := n) g x1 x2
    exact go_lab hf (fun d hd => hg d (List.mem_cons_of_mem _ hd)) this.1 this.2
def el (es : List Int) (i : Nat) : Int := es.getD i 0
def tiesM (es : List Int) : List (Int × Int) := (List.range es.length).map fun i => (min (el es i + 1) ((i : Int) + 2), max (el es i + 1) ((i : Int) + 2))
section
variable {es : List Int}
theorem el_in (t : TreeM es.length es) {i : Nat} (h : i < es.length) : 0 ≤ el es i ∧ el es i ≤ es.length := by
  unfold el
  rw [List.getD_eq_getElem?_getD, List.getElem?_eq_getElem h]
  exact t.ein _ (List.getElem_mem h)
theorem up_el {i : Nat} : up es ((i : Int) + 1) = el es i := by
  unfold up el
  rw [if_pos (by omega), show ((i : Int) + 1 - 1).toNat = i by omega]
theorem eld_ne (t : TreeM es.length es) {i : Nat} (h : i < es.length) : el es i ≠ (i : Int) + 1 := fun z => by
  have st : ∀ k, ups es k ((i : Int) + 1) = (i : Int) + 1 := by
    intro k
    induction k with
    | zero => rfl
    | succ k ih =>
      show up es (ups es k ((i : Int) + 1)) = _
      rw [ih, up_el, z]
  have := t.home ((i : Int) + 1) (by omega) (by omega)
  rw [st] at this
  omega
theorem ties_len : (tiesM es).length = es.length := by unfold tiesM; rw [List.length_map, List.length_range]
theorem ties_at {i : Nat} (h : i < es.length) : (tiesM es)[i]? = some (min (el es i + 1) ((i : Int) + 2), max (el es i + 1) ((i : Int) + 2)) := by
  unfold tiesM
  rw [List.getElem?_map, List.getElem?_range h]
  rfl
end
structure Tied (es : List Int) (f : Int → Int) (row : List (Int × Int)) : Prop where
  tree : TreeM es.length es
  one : f 1 = 1
  inj : Inj ((es.length : Int) + 1) f
  rng : ∀ x, 1 ≤ x → x ≤ (es.length : Int) + 1 → 1 ≤ f x ∧ f x ≤ (es.length : Int) + 1
  row : row = (tiesM es).map (lab f)
section
variable {es : List Int} {f : Int → Int} {row : List (Int × Int)}
theorem Tied.len (t : Tied es f row) : row.length = es.length := by rw [t.row, List.length_map, ties_len]
theorem Tied.at (t : Tied es f row) {i : Nat} (h : i < es.length) : row[i]? = some (lab f (el es i + 1, (i : Int) + 2)) := by
  rw [t.row, List.getElem?_map, ties_at h]
  show some _ = _
  rw [lab_mm]
theorem Tied.good (t : Tied es f row) : Good ((es.length : Int) + 1) row := by
  intro e he
  obtain ⟨i, hi, e1⟩ := List.mem_iff_getElem.mp he
  rw [t.len] at hi
  have h := t.at hi
  rw [List.getElem?_eq_getElem (by rw [t.len]; exact hi), e1] at h
  injection h with h
  rw [h]
  have h1 := el_in t.tree hi
  have h2 := eld_ne t.tree hi
  have r1 := t.rng (el es i + 1) (by omega) (by omega)
  have r2 := t.rng ((i : Int) + 2) (by omega) (by omega)
  have ne : f (el es i + 1) ≠ f ((i : Int) + 2) := fun z => by
    have := t.inj _ _ (by omega) (by omega) (by omega) (by omega) z
    omega
  unfold lab
  dsimp only
  omega
end
inductive Grow (row : List (Int × Int)) : List (Int × Int) → Prop
  | base : Grow row [(1, 0)]
  | step {L : List (Int × Int)} {x y j : Int} {i : Nat} {e : Int × Int} : Grow row L → (y, j) ∈ L → row[i]? = some e → (e = (x, y) ∨ e = (y, x)) → x ∉ L.map (·.1) → Grow row (L ++ [(x, (i : Int) + 1)])
section
variable {row : List (Int × Int)} {L : List (Int × Int)}
theorem Grow.keys (g : Grow row L) : (L.map (·.1)).Nodup := by
  induction g with
  | base => simp
  | @step L x y j i e g hy hr he hx ih =>
    rw [List.map_append, List.nodup_append]
    refine ⟨ih, by simp, fun a ha b hb => ?_⟩
    have hb : b = x := by simpa using hb
    rw [hb]
    exact fun z => hx (z ▸ ha)
theorem Grow.ends (g : Grow row L) : ∀ x q, (x, q) ∈ L → q = 0 ∨ ∃ (i : Nat) (e : Int × Int), q = (i : Int) + 1 ∧ row[i]? = some e ∧ e.1 ∈ L.map (·.1) ∧ e.2 ∈ L.map (·.1) := by
  induction g with
  | base =>
    intro x q h
    have h : (x, q) = (1, 0) := List.mem_singleton.mp h
    injection h with _ h
    exact .inl h
  | @step L x y j i e g hy hr he hx ih =>
    have hyk : y ∈ L.map (·.1) := List.mem_map.mpr ⟨_, hy, rfl⟩
    intro x' q h
    rcases List.mem_append.mp h with h | h
    · rcases ih x' q h with z | ⟨i', e', a, b, c, d⟩
      · exact .inl z
      · refine .inr ⟨i', e', a, b, ?_, ?_⟩ <;> rw [List.map_append] <;> exact List.mem_append_left _ (by assumption)
    · have h : (x', q) = (x, (i : Int) + 1) := List.mem_singleton.mp h
      injection h with h1 h2
      refine .inr ⟨i, e, h2, hr, ?_, ?_⟩ <;> rw [List.map_append] <;> rcases he with rfl | rfl
      · exact List.mem_append_right _ (by simp)
      · exact List.mem_append_left _ hyk
      · exact List.mem_append_left _ hyk
      · exact List.mem_append_right _ (by simp)
theorem Grow.inn {n : Int} (g : Grow row L) (n1 : 1 ≤ n) (hg : Good n row) : ∀ x ∈ L.map (·.1), 1 ≤ x ∧ x ≤ n := by
  induction g with
  | base => intro x h; have : x = 1 := by simpa using h
            omega
  | @step L x y j i e g hy hr he hx ih =>
    intro x' h
    rw [List.map_append] at h
    rcases List.mem_append.mp h with h | h
    · exact ih x' h
    · have h : x' = x := by simpa using h
      have ge := hg e (List.mem_of_getElem? hr)
      rw [h]
      rcases he with rfl | rfl <;> dsimp only at ge <;> omega
theorem Grow.full {n : Int} (g : Grow row L) (n1 : 1 ≤ n) (hg : Good n row) (h : n.toNat ≤ L.length) {x : Int} (x1 : 1 ≤ x) (x2 : x ≤ n) : x ∈ L.map (·.1) := by
  have := Classical.byContradiction fun (z : x ∉ L.map (·.1)) => by
    have nd : (x :: L.map (·.1)).Nodup := List.nodup_cons.mpr ⟨z, g.keys⟩
    have := len_of (n := n) (by omega) nd (fun y hy => by
      rcases List.mem_cons.mp hy with rfl | hy
      · exact ⟨x1, x2⟩
      · exact g.inn n1 hg y hy)
    rw [List.length_cons, List.length_map] at this
    omega
  exact this
theorem Tied.grow {es : List Int} {f : Int → Int} (t : Tied es f row) (g : Grow row L) : ∀ x q, (x, q) ∈ L → 0 ≤ q ∧ q ≤ es.length ∧ x = f (q + 1) := by
  induction g with
  | base => intro x q h
            have h : (x, q) = (1, 0) := List.mem_singleton.mp h
            injection h with h1 h2
            subst h1 h2
            exact ⟨Int.le_refl 0, by omega, t.one.symm⟩
  | @step L x y j i e g hy hr he hx ih =>
    intro x' q h
    rcases List.mem_append.mp h with h | h
    · exact ih x' q h
    · have h : (x', q) = (x, (i : Int) + 1) := List.mem_singleton.mp h
      injection h with h1 h2
      subst h1 h2
      have hi : i < es.length := by
        have := (List.getElem?_eq_some_iff.mp hr).1
        rw [t.len] at this
        exact this
      refine ⟨by omega, by omega, ?_⟩
      have ea := t.at hi
      rw [hr] at ea
      injection ea with ea
      obtain ⟨j0, j1, ey⟩ := ih y j hy
      have h1 := el_in t.tree hi
      have hyk : ∀ z, f ((i : Int) + 2) = y → x' ∈ L.map (·.1) ∨ x' = z := fun z hz => by
        have : j = (i : Int) + 1 := by
          have := t.inj _ _ (by omega) (by omega) (by omega) (by omega) (hz.trans ey)
          omega
        rcases g.ends y j hy with z | ⟨i', e', a, b, c, d⟩
        · omega
        · have : i' = i := by omega
          subst this
          rw [hr] at b
          injection b with b
          subst b
          rcases he with rfl | rfl
          · exact .inl c
          · exact .inl d
      have e2 : x' + y = f (el es i + 1) + f ((i : Int) + 2) ∧ (y = f (el es i + 1) ∨ y = f ((i : Int) + 2)) := by
        unfold lab at ea
        dsimp only at ea
        rcases he with rfl | rfl <;> injection ea with ea1 ea2 <;> omega
      rcases e2.2 with z | z
      · rw [show (i : Int) + 1 + 1 = (i : Int) + 2 by omega]
        omega
      · rcases hyk 0 z.symm with z' | z'
        · exact absurd z' hx
        · rcases hyk 1 z.symm with z'' | z''
          · exact absurd z'' hx
          · omega
theorem Tied.place {es : List Int} {f : Int → Int} (t : Tied es f row) (g : Grow row L) (h : es.length + 1 ≤ L.length) {q : Int} (q0 : 0 ≤ q) (q1 : q ≤ es.length) : (f (q + 1), q) ∈ L := by
  have r := t.rng (q + 1) (by omega) (by omega)
  have hm := g.full (n := (es.length : Int) + 1) (by omega) t.good (by omega) r.1 r.2
  obtain ⟨⟨x, q'⟩, hp, e⟩ := List.mem_map.mp hm
  dsimp only at e
  obtain ⟨a, b, c⟩ := t.grow g x q' hp
  have : q' = q := by
    have := t.inj _ _ (by omega) (by omega) (by omega) (by omega) (c.symm.trans e)
    omega
  subst this
  rw [← e]
  exact hp
end
end Sw
namespace Sw
open PySem L2
def ct1 (k : List Int) (a i : Nat) : List Int × Int := (fallD (k.take a ++ k.drop (a + 1) ++ [1 + (i : Int), k.getD a 0 - (1 + (i : Int))]), if 1 + (i : Int) < k.getD a 0 - (1 + (i : Int)) then k.getD a 0 else 1 + (i : Int))
end Sw
namespace Sw
open PySem L2
def facN : Nat → Int
  | 0 => 1
  | n + 1 => facN n * ((n : Int) + 1)
def permsM : Nat → List (List Int)
  | 0 => [[]]
  | t + 1 => (permsM t).flatMap fun p => (List.range (t + 1)).map fun i => p.take i ++ [(t : Int) + 1] ++ p.drop i
end Sw
namespace L2
open PySem PySem.Spec PyProof.Rows
theorem gNJ {i : Nat} {v : V} {σ : St} {H : Hp} {k : St → Hp → Prop} (h : k (σ.set i (some v)) H) : gName i v σ H k := h
theorem seq_byJ {t u : TS} {D : Ends} {σ : St} {H : Hp} (R : St → Hp → Prop) (h1 : ∀ D' : Ends, (∀ σ' H', R σ' H' → D'.nx σ' H') → t D' σ H) (h2 : ∀ σ' H', R σ' H' → u D σ' H') : tSeq t u D σ H := h1 _ h2
end L2
namespace Sw
open PySem L2
def cyc (c : List Int) : List (Int × Int) := (List.range c.length).map fun j => (c.getD j 0, c.getD ((j + 1) % c.length) 0)
theorem perm_in : ∀ (n : Nat) (s : List Int), s.Perm ((List.range n).map fun (i : Nat) => 1 + (i : Int)) → s ∈ permsM n
  | 0, s, h => by
    have : s = [] := List.Perm.eq_nil h
    rw [this]; exact List.mem_singleton.mpr rfl
  | n + 1, s, h => by
    rw [List.range_succ, List.map_append] at h
    have m : (1 + (n : Int)) ∈ s := h.mem_iff.mpr (List.mem_append_right _ (List.mem_singleton.mpr rfl))
    obtain ⟨a, b, rfl⟩ := List.append_of_mem m
    have p1 : ((1 + (n : Int)) :: (a ++ b)).Perm ((1 + (n : Int)) :: (List.range n).map fun (i : Nat) => 1 + (i : Int)) := (List.perm_middle.symm.trans h).trans (List.perm_append_comm)
    have ih := perm_in n (a ++ b) (List.Perm.cons_inv p1)
    have len : (a ++ b).length = n := by rw [(List.Perm.cons_inv p1).length_eq, List.length_map, List.length_range]
    rw [List.length_append] at len
    show _ ∈ (permsM n).flatMap fun p => (List.range (n + 1)).map fun i => p.take i ++ [(n : Int) + 1] ++ p.drop i
    refine List.mem_flatMap.mpr ⟨a ++ b, ih, List.mem_map.mpr ⟨a.length, List.mem_range.mpr (by omega), ?_⟩⟩
    rw [List.take_left, List.drop_left, List.append_assoc, Int.add_comm]
    rfl
end Sw
namespace Sw
open PySem L2
def nextO (n : Int) (xs : List Int) (e : Int × Int) : List Int := thenM (ledM n [e]) xs
end Sw
namespace Sw
open PySem L2
section
variable {row L : List (Int × Int)} {n : Int}
theorem Grow.at (g : Grow row L) : L[0]? = some (1, 0) ∧ ∀ (k : Nat) (x q : Int), 1 ≤ k → L[k]? = some (x, q) → ∃ (i : Nat) (e : Int × Int) (y j : Int) (k' : Nat), k' < k ∧ L[k']? = some (y, j) ∧ q = (i : Int) + 1 ∧ row[i]? = some e ∧ (e = (x, y) ∨ e = (y, x)) := by
  induction g with
  | base =>
    refine ⟨rfl, fun k x q h1 h => ?_⟩
    have := (List.getElem?_eq_some_iff.mp h).1
    rw [List.length_singleton] at this
    omega
  | @step L x y j i e g hy hr he hx ih =>
    have l0 : 0 < L.length := (List.getElem?_eq_some_iff.mp ih.1).1
    refine ⟨by rw [List.getElem?_append_left l0]; exact ih.1, fun k x' q h1 h => ?_⟩
    by_cases hk : k < L.length
    · rw [List.getElem?_append_left hk] at h
      obtain ⟨i', e', y', j', k', a, b, c⟩ := ih.2 k x' q h1 h
      exact ⟨i', e', y', j', k', a, by rw [List.getElem?_append_left (by omega)]; exact b, c⟩
    · have ek : k = L.length := by
        have := (List.getElem?_eq_some_iff.mp h).1
        rw [List.length_append, List.length_singleton] at this
        omega
      subst ek
      rw [List.getElem?_append_right (Nat.le_refl _), Nat.sub_self] at h
      have h : (x, (i : Int) + 1) = (x', q) := Option.some.inj h
      injection h with h1' h2'
      subst h1' h2'
      obtain ⟨k', hk'⟩ := List.getElem?_of_mem hy
      have lk := (List.getElem?_eq_some_iff.mp hk').1
      exact ⟨i, e, y, j, k', lk, by rw [List.getElem?_append_left lk]; exact hk', rfl, hr, he⟩
end
end Sw
namespace Sw
open PySem L2
def cn (A M : List Int) : Nat := (M.map fun x => A.count x).sum
structure PK (A L : List Int) : Prop where
  all : cn A L + 1 = L.length
  some_ : ∀ j, 1 ≤ j → j < L.length → j ≤ cn A (L.take j)
def Nx (L : List Int) (x y : Int) : Prop := ∃ i, L[i]? = some x ∧ (L[i + 1]? = some y ∨ (i + 1 = L.length ∧ L[0]? = some y))
structure Cut (n : Int) (A : List Int) (Ls : List (List Int)) (suf : List (Int × Int)) : Prop where
  uniq : ∀ L1 ∈ Ls, ∀ L2 ∈ Ls, ∀ x, x ∈ L1 → x ∈ L2 → L1 = L2
  cov : ∀ x, 1 ≤ x → x ≤ n → ∃ L ∈ Ls, x ∈ L
  inn : ∀ L ∈ Ls, ∀ x ∈ L, 1 ≤ x ∧ x ≤ n
  rise : ∀ L ∈ Ls, L.Pairwise (· < ·)
  pk : ∀ L ∈ Ls, PK A L
  nx : ∀ L ∈ Ls, ∀ x y, Nx L x y → go suf y = x % n + 1
end Sw
namespace Sw
open PySem L2
section
variable {n : Int} {xs : List Int}
theorem next_led {e : Int × Int} {q : List (Int × Int)} (g : 1 ≤ e.1 ∧ e.1 < e.2 ∧ e.2 ≤ n) : nextO n (ledM n q) e = ledM n (e :: q) := by
  unfold nextO
  exact thenM_led (r := [e]) fun d hd => by rw [List.mem_singleton.mp hd]; exact g
theorem led_twice (n : Int) (e : Int × Int) (q : List (Int × Int)) : ledM n (e :: e :: q) = ledM n q := by
  unfold ledM
  refine List.map_congr_left fun x _ => ?_
  show go q (swp (swp x e) e) = go q x
  rw [swp_swp]
theorem next_cons {e : Int × Int} {q : List (Int × Int)} (g : 1 ≤ e.1 ∧ e.1 < e.2 ∧ e.2 ≤ n) : nextO n (ledM n (e :: q)) e = ledM n q := by rw [next_led g, led_twice]
theorem next_next (h0 : 0 ≤ n) (o : Ord n xs) {e : Int × Int} (g : 1 ≤ e.1 ∧ e.1 < e.2 ∧ e.2 ≤ n) : nextO n (nextO n xs e) e = xs := by
  have h := homeM_led h0 o
  generalize homeM xs = r at h
  subst h
  rw [next_led g, next_cons g]
theorem home_good (h0 : 0 ≤ n) (o : Ord n xs) : Good n (homeM xs) := (homeM_rise h0 o).good (Int.le_refl _)
theorem next_ord (h0 : 0 ≤ n) (o : Ord n xs) {e : Int × Int} (g : 1 ≤ e.1 ∧ e.1 < e.2 ∧ e.2 ≤ n) : Ord n (nextO n xs e) := by
  have h := homeM_led h0 o
  have hg := home_good h0 o
  generalize homeM xs = r at h hg
  subst h
  rw [next_led g]
  exact led_ord fun d hd => (List.mem_cons.mp hd).elim (fun z => z ▸ g) (hg d)
theorem cnt_conj1 (h0 : 0 ≤ n) {xs ys : List Int} (ox : Ord n xs) (oy : Ord n ys) {e : Int × Int} (g : 1 ≤ e.1 ∧ e.1 < e.2 ∧ e.2 ≤ n) (cj : ∀ x, 1 ≤ x → x ≤ n → ld ys (swp x e) = swp (ld xs x) e) : cnt n xs ≤ cnt n ys := by
  have hl := homeM_led h0 ox
  have hg := home_good h0 ox
  have hc := homeM_cnt h0 ox
  generalize homeM xs = r at hl hg hc
  have inj : Inj n fun x => swp x e := fun x y _ _ _ _ h => swp_injc h
  have g2 : Good n (r.map (lab fun x => swp x e)) := fun d hd => by
    obtain ⟨c, hc, rfl⟩ := List.mem_map.mp hd
    have gc := hg c hc
    have a := swp_in g gc.1 (by omega : c.1 ≤ n)
    have b := swp_in g (by omega : 1 ≤ c.2) gc.2.2
    have ne : swp c.1 e ≠ swp c.2 e := fun z => by have := swp_injc z; omega
    unfold lab
    simp only []
    omega
  have e2 : ledM n (r.map (lab fun x => swp x e)) = ys := by
    refine ord_ext (n := n) (led_ord g2).length oy.length fun x h1 h2 => ?_
    rw [ld_led h1 h2]
    have s := swp_in g h1 h2
    have k := go_lab inj (row := r) hg s.1 s.2
    simp only [swp_swp] at k
    rw [k, ← ld_led (n := n) s.1 s.2, hl, ← cj _ s.1 s.2, swp_swp]
  have := cnt_ge h0 g2
  rw [List.length_map, e2] at this
  omega
theorem cnt_next (h0 : 0 ≤ n) (o : Ord n xs) {e : Int × Int} (g : 1 ≤ e.1 ∧ e.1 < e.2 ∧ e.2 ≤ n) (h : e.2 ∈ orb xs e.1) : cnt n (nextO n xs e) = cnt n xs + 1 := by
  have c := cut_in o g.1 g.2.1 g.2.2 h
  have on := next_ord h0 o g
  have op : Ord n (xs.map (swp · (e.1, e.2))) := by
    have hl := homeM_led h0 o
    have hg := home_good h0 o
    generalize homeM xs = r at hl hg
    subst hl
    have : (ledM n r).map (swp · (e.1, e.2)) = ledM n (r ++ [e]) := by
      unfold ledM
      rw [List.map_map]
      refine List.map_congr_left fun x _ => ?_
      show swp (go r x) e = go (r ++ [e]) x
      unfold go; rw [List.foldl_append]; rfl
    rw [this]
    exact led_ord fun d hd => (List.mem_append.mp hd).elim (hg d) fun z => by rw [List.mem_singleton.mp z]; exact g
  have nl : ∀ x, 1 ≤ x → x ≤ n → ld (nextO n xs e) x = ld xs (swp x e) := fun x h1 h2 => by
    have hl := homeM_led h0 o
    generalize homeM xs = r at hl
    subst hl
    have s := swp_in g h1 h2
    rw [next_led g, ld_led h1 h2, ld_led s.1 s.2]
    rfl
  have pl : ∀ x, 1 ≤ x → x ≤ n → ld (xs.map (swp · (e.1, e.2))) x = swp (ld xs x) e := fun x h1 h2 => by
    have hl := homeM_led h0 o
    generalize homeM xs = r at hl
    subst hl
    unfold ledM
    rw [List.map_map]
    have := ld_led (n := n) (row := r ++ [e]) h1 h2
    unfold ledM at this
    have e3 : ((fun x => swp x (e.1, e.2)) ∘ go r) = go (r ++ [e]) := by
      funext x
      show swp (go r x) e = go (r ++ [e]) x
      unfold go; rw [List.foldl_append]; rfl
    rw [e3, this]
    have := ld_led (n := n) (row := r) h1 h2
    unfold ledM at this
    rw [this]
    unfold go; rw [List.foldl_append]; rfl
  have a := cnt_conj1 h0 on op (e := e) g fun x h1 h2 => by
    have s := swp_in g h1 h2
    rw [pl _ s.1 s.2, nl _ h1 h2]
  have b := cnt_conj1 h0 op on (e := e) g fun x h1 h2 => by
    have s := swp_in g h1 h2
    rw [nl _ s.1 s.2, swp_swp, pl _ h1 h2, swp_swp]
  omega
def ltE (p q : Int × Int) : Prop := p.1 < q.1 ∨ (p.1 = q.1 ∧ p.2 < q.2)
def allE (n : Int) : List (Int × Int) := (ivl 1 (n + 1)).flatMap fun a => (ivl (a + 1) (n + 1)).map fun b => (a, b)
def cutS (n : Int) (xs : List Int) : List (Int × Int) := (allE n).filter fun e => decide (e.2 ∈ orb xs e.1)
theorem allE_mem {e : Int × Int} : e ∈ allE n ↔ 1 ≤ e.1 ∧ e.1 < e.2 ∧ e.2 ≤ n := by
  unfold allE
  rw [List.mem_flatMap]
  constructor
  · rintro ⟨a, ha, he⟩
    obtain ⟨b, hb, rfl⟩ := List.mem_map.mp he
    rw [mem_ivl] at ha hb
    exact ⟨ha.1, by show a < b; omega, by show b ≤ n; omega⟩
  · rintro ⟨h1, h2, h3⟩
    exact ⟨e.1, mem_ivl.mpr ⟨h1, by omega⟩, List.mem_map.mpr ⟨e.2, mem_ivl.mpr ⟨by omega, by omega⟩, rfl⟩⟩
theorem ivl_rise (a b : Int) : (ivl a b).Pairwise (· < ·) := by
  unfold ivl
  rw [List.pairwise_map]
  exact List.pairwise_lt_range.imp fun h => by omega
theorem allE_rise (n : Int) : (allE n).Pairwise ltE := by
  unfold allE
  rw [List.pairwise_flatMap]
  refine ⟨fun a _ => ?_, (ivl_rise _ _).imp fun {a b} h x hx y hy => ?_⟩
  · rw [List.pairwise_map]
    exact (ivl_rise _ _).imp fun h => .inr ⟨rfl, h⟩
  · obtain ⟨u, _, rfl⟩ := List.mem_map.mp hx
    obtain ⟨v, _, rfl⟩ := List.mem_map.mp hy
    exact .inl h
theorem cutS_mem {e : Int × Int} : e ∈ cutS n xs ↔ (1 ≤ e.1 ∧ e.1 < e.2 ∧ e.2 ≤ n) ∧ e.2 ∈ orb xs e.1 := by
  unfold cutS
  rw [List.mem_filter, allE_mem, decide_eq_true_eq]
theorem cutS_rise (n : Int) (xs : List Int) : (cutS n xs).Pairwise ltE := (allE_rise n).filter _
def lrL : Nat → Int → List Int → List (List (Int × Int))
  | 0, _, _ => [[]]
  | f + 1, n, xs => (cutS n xs).flatMap fun e => (lrL f n (nextO n xs e)).map (e :: ·)
def ltR : List (Int × Int) → List (Int × Int) → Prop
  | a :: r, b :: q => ltE a b ∨ (a = b ∧ ltR r q)
  | _, _ => False
theorem lrL_rise : ∀ (f : Nat) (n : Int) (xs : List Int), (lrL f n xs).Pairwise ltR
  | 0, _, _ => List.pairwise_singleton _ _
  | f + 1, n, xs => by
    unfold lrL
    rw [List.pairwise_flatMap]
    refine ⟨fun e _ => ?_, (cutS_rise n xs).imp fun {a b} h x hx y hy => ?_⟩
    · rw [List.pairwise_map]
      exact (lrL_rise f n _).imp fun h => .inr ⟨rfl, h⟩
    · obtain ⟨u, _, rfl⟩ := List.mem_map.mp hx
      obtain ⟨v, _, rfl⟩ := List.mem_map.mp hy
      exact .inl h
theorem lrL_is (h0 : 0 ≤ n) : ∀ {f : Nat} {xs : List Int}, Ord n xs → f + cnt n xs = n.toNat → ∀ row, row ∈ lrL f n xs ↔ Good n row ∧ ledM n row = xs ∧ row.length = f
  | 0, xs, o, hf, row => by
    have hc := homeM_cnt h0 o
    have hl := homeM_led h0 o
    have e0 : homeM xs = [] := List.eq_nil_of_length_eq_zero (by omega)
    rw [e0] at hl
    unfold lrL
    rw [List.mem_singleton]
    constructor
    · rintro rfl; exact ⟨fun d hd => (by cases hd), hl, rfl⟩
    · rintro ⟨_, _, h⟩; exact List.eq_nil_of_length_eq_zero h
  | f + 1, xs, o, hf, row => by
    unfold lrL
    rw [List.mem_flatMap]
    constructor
    · rintro ⟨e, he, hr⟩
      obtain ⟨q, hq, rfl⟩ := List.mem_map.mp hr
      obtain ⟨g, hb⟩ := cutS_mem.mp he
      have c := cnt_next h0 o g hb
      obtain ⟨g1, l1, len⟩ := (lrL_is h0 (next_ord h0 o g) (by omega) q).mp hq
      refine ⟨fun d hd => (List.mem_cons.mp hd).elim (fun z => z ▸ g) (g1 d), ?_, by rw [List.length_cons, len]⟩
      rw [← next_led g, l1, next_next h0 o g]
    · rintro ⟨gr, lr, len⟩
      cases row with
      | nil => cases len
      | cons e q =>
        have g := gr e (List.mem_cons_self ..)
        have hb := least_edge h0 gr (by rw [lr, len]; exact hf) e (List.mem_cons_self ..)
        rw [lr] at hb
        have c := cnt_next h0 o g hb
        refine ⟨e, cutS_mem.mpr ⟨g, hb⟩, List.mem_map.mpr ⟨q, ?_, rfl⟩⟩
        refine (lrL_is h0 (next_ord h0 o g) (by omega) q).mpr ⟨fun d hd => gr d (List.mem_cons_of_mem _ hd), ?_, by rw [List.length_cons] at len; omega⟩
        rw [← lr, next_cons g]
theorem cutS_nil (h0 : 0 ≤ n) (o : Ord n xs) : cutS n xs = [] ↔ cnt n xs = n.toNat := by
  have hc := homeM_cnt h0 o
  have hl := homeM_led h0 o
  have hg := home_good h0 o
  constructor
  · intro z
    cases hr : homeM xs with
    | nil => rw [hr] at hc; simpa using hc
    | cons e q =>
      rw [hr] at hc hl hg
      have hb := least_edge h0 hg (by rw [hl]; exact hc) e (List.mem_cons_self ..)
      rw [hl] at hb
      have : e ∈ cutS n xs := cutS_mem.mpr ⟨hg e (List.mem_cons_self ..), hb⟩
      rw [z] at this; cases this
  · intro z
    cases hr : cutS n xs with
    | nil => rfl
    | cons e q =>
      obtain ⟨g, hb⟩ := cutS_mem.mp (show e ∈ cutS n xs by rw [hr]; exact List.mem_cons_self ..)
      have c := cnt_next h0 o g hb
      have := homeM_cnt h0 (next_ord h0 o g)
      omega
end
end Sw
namespace Sw
open PySem L2
theorem cutP_mem {n : Int} {xs : List Int} (o : Ord n xs) {e : Int × Int} : e ∈ cutP n xs ↔ (1 ≤ e.1 ∧ e.1 < e.2 ∧ e.2 ≤ n) ∧ e.2 ∈ orb xs e.1 := by
  unfold cutP ct1L
  rw [List.take_length, List.mem_flatMap]
  constructor
  · rintro ⟨r, hr, he⟩
    unfold ct2 at he
    rw [List.take_length, List.mem_flatMap] at he
    obtain ⟨a, ha, he⟩ := he
    unfold ct3 at he
    rw [List.take_length] at he
    obtain ⟨b, hb, rfl⟩ := List.mem_map.mp he
    obtain ⟨hb, ab⟩ := List.mem_filter.mp hb
    have ab := of_decide_eq_true ab
    unfold rndM at hr
    obtain ⟨x, hx, rfl⟩ := List.mem_map.mp hr
    have x1 := mem_ivl.mp (List.mem_filter.mp hx).1
    have ia := orb_in o x1.1 (by omega) ha
    have ib := orb_in o x1.1 (by omega) hb
    exact ⟨⟨ia.1, ab, ib.2⟩, orb_trans o ia.1 ia.2 (orb_sym o x1.1 (by omega) ha) hb⟩
  · rintro ⟨⟨h1, h2, h3⟩, hb⟩
    obtain ⟨r, hr, ha⟩ := List.mem_flatten.mp (rnd_all o h1 (by omega : e.1 ≤ n))
    refine ⟨r, hr, ?_⟩
    unfold ct2
    rw [List.take_length, List.mem_flatMap]
    refine ⟨e.1, ha, ?_⟩
    unfold ct3
    rw [List.take_length]
    refine List.mem_map.mpr ⟨e.2, List.mem_filter.mpr ⟨?_, decide_eq_true h2⟩, rfl⟩
    unfold rndM at hr
    obtain ⟨x, hx, rfl⟩ := List.mem_map.mp hr
    have x1 := mem_ivl.mp (List.mem_filter.mp hx).1
    exact orb_trans o x1.1 (by omega) ha hb
theorem ct2_firsts {r : List Int} {e : Int × Int} (h : e ∈ ct2 r r.length) : e.1 ∈ r := by
  unfold ct2 at h
  rw [List.take_length, List.mem_flatMap] at h
  obtain ⟨a, ha, he⟩ := h
  unfold ct3 at he
  obtain ⟨b, _, rfl⟩ := List.mem_map.mp he
  exact ha
theorem cutP_nodup {n : Int} {xs : List Int} (o : Ord n xs) : (cutP n xs).Nodup := by
  have nd := rnd_nodup o
  rw [List.Nodup, List.pairwise_flatten] at nd
  unfold cutP ct1L
  rw [List.take_length, List.Nodup, List.pairwise_flatMap]
  refine ⟨fun r hr => ?_, nd.2.imp fun {r q} h x hx y hy z => ?_⟩
  · have ndr := nd.1 r hr
    unfold ct2
    rw [List.take_length, List.pairwise_flatMap]
    refine ⟨fun a ha => ?_, ndr.imp fun {a b} h x hx y hy z => ?_⟩
    · unfold ct3
      rw [List.take_length, List.pairwise_map]
      exact (ndr.filter _).imp fun {a b} h z => h (Prod.mk.inj z).2
    · unfold ct3 at hx hy
      obtain ⟨u, _, rfl⟩ := List.mem_map.mp hx
      obtain ⟨v, _, rfl⟩ := List.mem_map.mp hy
      exact h (Prod.mk.inj z).1
  · subst z
    exact h _ (ct2_firsts hx) _ (ct2_firsts hy) rfl
theorem lexB2 (p q : Int × Int) : lexB [p.1, p.2] [q.1, q.2] = true ↔ ltE p q := by
  show (if p.1 = q.1 then (if p.2 = q.2 then false else decide (p.2 < q.2)) else decide (p.1 < q.1)) = true ↔ _
  unfold ltE
  by_cases c : p.1 = q.1
  · rw [if_pos c]
    by_cases d : p.2 = q.2
    · rw [if_pos d]; simp; omega
    · rw [if_neg d]; simp; omega
  · rw [if_neg c]; simp; omega
theorem cutS_nodup (n : Int) (xs : List Int) : (cutS n xs).Nodup := (cutS_rise n xs).imp fun {a b} h z => by
  subst z
  unfold ltE at h
  omega
theorem cutS_of {n : Int} {xs : List Int} (o : Ord n xs) {row : List (Int × Int)} (pm : row.Perm (cutP n xs)) (srt : row.Pairwise fun a b => lexB [b.1, b.2] [a.1, a.2] = false) : row = cutS n xs := by
  refine List.Perm.eq_of_pairwise (le := fun a b => lexB [b.1, b.2] [a.1, a.2] = false) (fun x y _ _ h1 h2 => ?_) srt ((cutS_rise n xs).imp fun {a b} h => ?_) (pm.trans ((List.perm_ext_iff_of_nodup (cutP_nodup o) (cutS_nodup n xs)).mpr fun e => by rw [cutP_mem o, cutS_mem]))
  · have := lexB_tot h2 h1
    injection this with a b
    injection b with b _
    exact Prod.ext a b
  · cases hc : lexB [b.1, b.2] [a.1, a.2] with
    | false => rfl
    | true =>
      have := (lexB2 b a).mp hc
      unfold ltE at h this
      omega
end Sw
namespace Sw
open PySem L2
theorem pick_srt {row : List (Int × Int)} {π : List Nat} (h : OrdP (row.map fun e => [e.1, e.2]) π) : (π.map fun i => row.getD i (0, 0)).Pairwise fun a b => lexB [b.1, b.2] [a.1, a.2] = false := by
  have pl : π.length = row.length := by have := h.1.length_eq; simpa using this
  rw [List.pairwise_map, List.pairwise_iff_getElem]
  intro i j hi hj ij
  have := h.2 i j (by omega) (by rw [List.length_map]; omega)
  have g : ∀ k (hk : k < π.length), (row.map fun e => [e.1, e.2]).getD (π.getD k 0) [] = [(row.getD π[k] (0, 0)).1, (row.getD π[k] (0, 0)).2] := fun k hk => by
    have e1 : π.getD k 0 = π[k] := by rw [List.getD_eq_getElem?_getD, List.getElem?_eq_getElem hk]; rfl
    have hl : π[k] < row.length := by have := List.mem_range.mp (h.1.mem_iff.mp (List.getElem_mem hk)); rwa [List.length_map] at this
    rw [e1, List.getD_eq_getElem?_getD, List.getD_eq_getElem?_getD, List.getElem?_map, List.getElem?_eq_getElem hl]
    rfl
  rw [g i hi, g j hj] at this
  exact this
def spCutsS : Sp := fun vs H Q _ => ∃ (t : Addr) (n : Int) (xs : List Int), vs = [.ref t] ∧ H t = some (.tup (xs.map V.int)) ∧ Ord n xs ∧ n ≤ 1000 ∧ (rndM n xs).length ≤ 10 ∧ (∀ r ∈ rndM n xs, r.length ≤ 10) ∧ (cutP n xs).length < 64 ∧
  ∀ l es H', H l = none → H' l = some (.lst es) → Exs H' es (cutS n xs) → Same H H' → Q (.ref l) H'
section
variable {P : Program} {w : World} {K : PySem.W.Frag} {mg : Str → Option Value} {base : Heap}
theorem ok_cutsS {f : Addr} {fd : FuncData} (F : Fun K "cuts" "cuts" (top 12) f fd) (T : TCuts P w K mg base) : FnOk P w K mg base CX0 4 f fd ["order"] spCutsS := by
  refine F.ok sc_cuts (fun vs H Q E h => ?_) (fun cdv A outer s H vs Q E hr h => ?_)
  · obtain ⟨t, n, xs, rfl, _⟩ := h
    rfl
  · obtain ⟨t, n, xs, rfl, ht, o, n1, rl, re, cl, k⟩ := h
    refine ⟨_, (pss_one (ps_ret (pe_callB (call_sortedLT0 (K := K) rfl) rfl T.b_sorted (by decide +kernel) (pa_cons (pe_compN (N := (["found", "a", "b"] : List Str)) (ix := ([none, none, none] : List (Option Nat))) (comp_ok rfl rfl) rfl (pi_listK (K := K) rfl (pe_callF T.f_rounds (hr.mono (by first | decide | omega)) rfl (pa_cons (pv 0) pa_nil))) (fun _ _ _ _ => (pg_name (i := 0) (show List.Nodup (["found", "a", "b"] : List Str) from by decide +kernel) rfl (Or.inl rfl))) (fun _ _ _ _ => pif_nil) (fun _ _ _ _ => (Chain.more rfl (pi_listK (K := K) rfl (pv 0)) (pg_name (i := 1) (show List.Nodup (["found", "a", "b"] : List Str) from by decide +kernel) rfl (Or.inl rfl)) pif_nil (fun _ => rfl) (Chain.more rfl (pi_listK (K := K) rfl (pv 0)) (pg_name (i := 2) (show List.Nodup (["found", "a", "b"] : List Str) from by decide +kernel) rfl (Or.inl rfl)) (pif_one (pt_cmpR op_lt (pv 1) (pv 2) (nomark _))) (fun _ => rfl) (Chain.last rfl (pe_tup (pa_cons (pv 1) (pa_cons (pv 2) pa_nil)))))))) pa_nil)))), ?_⟩
    refine ⟨_, rfl, t, n, xs, rfl, ht, o, n1, fun l ws H1 fl hl xw fr nl s1 => ?_⟩
    have big : (10000000 : Nat) ≤ sizeLine := by decide
    have wl := xw.length
    refine ⟨l, rfl, ⟨_, SqL.of hl⟩, wl_list (K := K) (a := l) (xs := ws) (fun i ys σ' H' => (∃ v0 v1 v2, σ' = [v0, v1, v2]) ∧ Exs H' ys (ct1L (rndM n xs) i) ∧ Same H1 H') ⟨⟨_, _, _, rfl⟩, .nil, Same.refl _⟩ (fun i ys σ' H' _ z => SqL.of (z.2.2 _ _ hl)) ?_ ?_⟩
    · rintro i ys σ' H2 x S hx ⟨⟨v0, v1, v2, rfl⟩, x2, s2⟩ done
      obtain ⟨b, r, rfl, hb, hr'⟩ := (xw.keep s2).get hx
      have ilt := (List.getElem?_eq_some_iff.mp hx).1
      have r10 := re r (List.mem_of_getElem? hr')
      have l1 := ct1_len re i (by omega)
      dsimp only [gName, tTrue]
      rw [if_pos rfl]
      refine ⟨_, rfl, b, rfl, ⟨_, SqL.of hb⟩, wl_list (K := K) (a := b) (xs := r.map V.int) (fun i2 ys σ' H' => (∃ v1 v2, σ' = [some (.ref b), v1, v2]) ∧ Exs H' ys (ct1L (rndM n xs) i ++ ct2 r i2) ∧ Same H2 H') ⟨⟨_, _, rfl⟩, by simpa [ct2] using x2, Same.refl _⟩ (fun i2 ys σ' H' _ z => SqL.of (z.2.2 _ _ hb)) ?_ ?_⟩
      · rintro i2 ys σ' H3 x S2 hx2 ⟨⟨v1, v2, rfl⟩, x3, s3⟩ done2
        obtain ⟨a, rfl, ha⟩ := mem_int hx2
        have i2lt := (List.getElem?_eq_some_iff.mp ha).1
        have l2 := ct2_len r i2 (by omega)
        have l2b : i2 * r.length ≤ 10 * 10 := Nat.mul_le_mul (by omega) r10
        dsimp only [gName, tTrue]
        rw [if_pos rfl]
        refine ⟨_, rfl, b, rfl, ⟨_, SqL.of (s3 _ _ hb)⟩, wl_list (K := K) (a := b) (xs := r.map V.int) (fun j ys σ' H' => (∃ v2, σ' = [some (.ref b), some (.int a), v2]) ∧ Exs H' ys (ct1L (rndM n xs) i ++ ct2 r i2 ++ ct3 r a j) ∧ Same H2 H') ⟨⟨_, rfl⟩, by simpa [ct3] using x3, s3⟩ (fun j ys σ' H' _ z => SqL.of (z.2.2 _ _ hb)) ?_ ?_⟩
        · rintro j ys σ' H4 x S3 hx3 ⟨⟨v2, rfl⟩, x4, s4⟩ done3
          obtain ⟨c, rfl, hc⟩ := mem_int hx3
          have l3 := ct3_len r a j
          have yl := x4.length
          rw [List.length_append, List.length_append] at yl
          refine ⟨_, rfl, _, rfl, _, _, rfl, rfl, _, rfl, ?_⟩
          by_cases z : a < c
          · refine iteP (decide_eq_true z) ⟨by omega, _, rfl, _, rfl, (by show 2 ≤ sizeLine; decide), fun p fp => done3 _ _ _ ⟨⟨_, rfl⟩, ?_, s4.trans (Same.new fp)⟩⟩
            rw [ct3_succ hc, if_pos (decide_eq_true z), ← List.append_assoc]
            exact (x4.keep (Same.tups (Same.new fp))).append (.cons upd_same .nil)
          · refine iteE (decide_eq_false z) (done3 _ _ _ ⟨⟨_, rfl⟩, ?_, s4⟩)
            rw [ct3_succ hc, if_neg (fun y => z (of_decide_eq_true y)), List.append_nil]
            exact x4
        · rintro ys σ' H4 ⟨⟨v2, rfl⟩, x4, s4⟩
          rw [List.length_map, List.append_assoc, ← ct2_succ ha] at x4
          exact done2 _ _ _ ⟨⟨_, _, rfl⟩, x4, s4⟩
      · rintro ys σ' H3 ⟨⟨v1, v2, rfl⟩, x3, s3⟩
        rw [List.length_map, ← ct1_succ hr'] at x3
        exact done _ _ _ ⟨⟨_, _, _, rfl⟩, x3, s2.trans s3⟩
    · rintro ys σ' H2 ⟨_, x2, s2⟩
      rw [wl] at x2
      have yl := x2.length
      have x2 : Exs H2 ys (cutP n xs) := x2
      have cl2 : ys.length = (cutP n xs).length := x2.length
      refine ⟨by omega, fun p fp => ?_⟩
      have a2 := s1.trans s2
      have s3 : Same H2 (upd H2 p (.lst ys)) := Same.new fp
      have h3 : upd H2 p (.lst ys) p = some (.lst ys) := upd_same
      have x3 := x2.keep (Same.tups s3)
      generalize upd H2 p (.lst ys) = H3 at s3 h3 x3 ⊢
      by_cases z : cutP n xs = []
      · have y0 : ys = [] := List.length_eq_zero_iff.mp (by rw [cl2, z]; rfl)
        refine .inr ⟨p, rfl, SqL.of (by rw [← y0]; exact h3), fun q fq => k q [] _ ((a2.trans s3).free fq) upd_same (by rw [← cutS_of o (row := []) (by rw [z]) .nil]; exact .nil) (a2.trans (s3.trans (Same.new fq)))⟩
      · refine .inl ⟨p, ys, _, rfl, SqL.of h3, exs_tups x3, fun e he => ?_, fun y => z (List.map_eq_nil_iff.mp y), by rw [List.length_map]; exact cl, fun q us' π fq hπ tp => ?_⟩
        · obtain ⟨e', _, rfl⟩ := List.mem_map.mp he
          intro y; cases y
        · have pm : π.Perm (List.range (cutP n xs).length) := by have := hπ.1; rwa [List.length_map] at this
          rw [pick_map fun i hi => List.mem_range.mp (pm.mem_iff.mp hi)] at tp
          exact k q us' _ ((a2.trans s3).free fq) upd_same (by rw [← cutS_of o (pick_permC pm) (pick_srt hπ)]; exact (tups_exs tp).keep (Same.tups (Same.new fq))) (a2.trans (s3.trans (Same.new fq)))
end
end Sw
namespace Sw
open PySem L2
structure T2 (P : Program) (w : World) (K : PySem.W.Frag) (mg : Str → Option Value) (base : Heap) : Prop extends T1 mg K where
  f_plain : FnAt P w K mg base "plain" 1 ["n"] spPlain
  f_exchanged : FnAt P w K mg base "exchanged" 1 ["exchange", "thing"] spEx
section
variable {P : Program} {w : World} {K : PySem.W.Frag} {mg : Str → Option Value} {base : Heap}
theorem sc_led : FnScope ["n", "row", "leads", "exchange"] ["n", "row"] (defScope (top 10)) := ⟨rfl, rfl, rfl, by decide +kernel, rfl, by decide +kernel, by decide +kernel⟩
theorem ok_led {f : Addr} {fd : FuncData} (F : Fun K "led" "led" (top 10) f fd) (T : T2 P w K mg base) : FnOk P w K mg base CX0 3 f fd ["n", "row"] spLed := by
  refine F.ok sc_led (fun vs H Q E h => ?_) (fun cdv A outer s H vs Q E hr h => ?_)
  · obtain ⟨n, l, es, row, rfl, _⟩ := h
    rfl
  · obtain ⟨n, l0, es, row, rfl, hn0, hn1, hl0, hx, hg, k⟩ := h
    refine ⟨_, (pss_cons (ps_set (i := 2) sc_led.nd rfl (Or.inl rfl) (pe_callTy (call_list_ofK (K := K) rfl) rfl T.b_list (by decide +kernel) (pa_cons (pe_callF T.f_plain (hr.mono (by first | decide | omega)) rfl (pa_cons (pv 0) pa_nil)) pa_nil)))
      (pss_cons (ps_for PassesOwn.never rfl (pi_listK (K := K) rfl (pv 1)) (pg_name (i := 3) sc_led.nd rfl (Or.inr rfl)) (pss_one (ps_comp (i := 2) sc_led.nd rfl rfl (N := (["thing", "exchange"] : List Str)) (ix := ([none, some 3] : List (Option Nat))) (comp_ok rfl rfl) rfl (pi_listK (K := K) rfl (pv 2)) (fun _ _ _ _ => (pg_name (i := 0) (show List.Nodup (["thing", "exchange"] : List Str) from by decide +kernel) rfl (Or.inl rfl))) (fun _ _ _ _ => pif_nil) (fun _ _ _ _ => (pe_callF T.f_exchanged (hr.mono (by first | decide | omega)) rfl (pa_cons (pv 1) (pa_cons (pv 0) pa_nil)))))))
      (pss_one (ps_ret (pe_callTy (call_tuple_ofK (K := K) rfl) rfl T.b_tuple (by decide +kernel) (pa_cons (pv 2) pa_nil)))))), ?_⟩
    refine ⟨_, rfl, n, rfl, hn0, hn1, fun t H1 ht ht1 s1 => ⟨t, _, rfl, .inr (SqT.of ht1), fun l hl => ?_⟩⟩
    have s2 : Same H (upd H1 l (.lst ((ivl 1 (n + 1)).map V.int))) := s1.trans (Same.new hl)
    refine ⟨_, rfl, l0, rfl, ⟨_, SqL.of (s2 _ _ hl0)⟩, for_list (K := K) (a := l0) (xs := es) (fun i σ H' => ∃ (l : Addr) (v3 : Option V), σ = [some (.int n), some (.ref l0), some (.ref l), v3] ∧ Same H H' ∧ H' l = some (.lst (((ivl 1 (n + 1)).map (go (row.take i))).map V.int)))
      ⟨l, none, rfl, s2, by rw [upd_same, List.take_zero]; rw [show (ivl 1 (n + 1)).map (go []) = ivl 1 (n + 1) from ledM_nil n]⟩ (fun i σ H' _ ⟨_, _, _, s3, _⟩ => SqL.of (s3 _ _ hl0)) ?_ ?_⟩
    · rintro i y σ H' hi ⟨l, v3, rfl, s3, hl⟩
      obtain ⟨te, a, b, rfl, hte, hrow⟩ := hx.get hi
      have hte' := s3 _ _ hte
      refine ⟨_, rfl, l, rfl, ⟨_, SqL.of hl⟩, comp_list (K := K) (xs := ((ivl 1 (n + 1)).map (go (row.take i))).map V.int) (k := 0)
        (fun j ys σ' H'' => ys = ((((ivl 1 (n + 1)).map (go (row.take i))).take j).map fun x => V.int (swp x (a, b))) ∧ (∃ v, σ' = [v, some (.ref te)]) ∧ H'' = H') ?_ ⟨rfl, ⟨none, rfl⟩, rfl⟩
        (fun j ys σ' H'' _ p => by rw [p.2.2]; exact SqL.of hl) (fun j ys σ' H'' p => by rw [p.1, List.length_map, List.length_take]; omega) ?_ ?_ ?_⟩
      · rw [List.length_map, List.length_map, ivl_length]; omega
      · rintro j ys σ' H'' x hj ⟨rfl, ⟨v, rfl⟩, rfl⟩
        rw [List.getElem?_map] at hj
        cases hz : ((ivl 1 (n + 1)).map (go (row.take i)))[j]? with
        | none => rw [hz] at hj; cases hj
        | some z =>
          rw [hz] at hj
          cases hj
          refine ⟨_, rfl, _, rfl, te, a, b, z, rfl, hte', ?_, ⟨_, rfl⟩, rfl⟩
          exact (take_succ_map (fun x => V.int (swp x (a, b))) hz).symm
      · intro σ' H'' R R' m q
        obtain ⟨v, e1, v', e2, t, a, b, x, e3, e4, q⟩ := q
        exact ⟨v, e1, v', e2, t, a, b, x, e3, e4, m _ _ q⟩
      · rintro ys σ' H'' p ⟨rfl, _, rfl⟩ hp
        refine ⟨p, _, rfl, s3.trans (Same.new hp), ?_⟩
        rw [upd_same, List.take_of_length_le (by simp), List.map_map, List.map_map]
        congr 2
        apply List.map_congr_left
        intro x _
        show V.int (swp (go (row.take i) x) (a, b)) = V.int (go (row.take (i + 1)) x)
        rw [go_take hrow]
    · rintro σ H' ⟨l, v3, rfl, s3, hl⟩
      rw [hx.length, List.take_length] at hl
      refine ⟨_, rfl, l, _, rfl, .inl ⟨SqL.of hl, fun t ht => ?_⟩⟩
      exact k t _ (s3.free ht) upd_same (s3.trans (Same.new ht))
end
end Sw
namespace Sw
open PySem L2
section
variable {P : Program} {w : World} {K : PySem.W.Frag} {mg : Str → Option Value} {base : Heap}
theorem sc_plain : FnScope ["n"] ["n"] (defScope (top 4)) := ⟨rfl, rfl, rfl, by decide +kernel, rfl, by decide +kernel, by decide +kernel⟩
theorem ok_plain {f : Addr} {fd : FuncData} (F : Fun K "plain" "plain" (top 4) f fd) (T : T1 mg K) : FnOk P w K mg base CX0 1 f fd ["n"] spPlain := by
  refine F.ok sc_plain (fun vs H Q E h => ?_) (fun cdv A outer s H vs Q E hr h => ?_)
  · obtain ⟨t, rfl, _⟩ := h
    rfl
  · obtain ⟨n, rfl, h0, h1, k⟩ := h
    refine ⟨_, (pss_one (ps_ret (pe_callTy (call_tuple_rng rfl) rfl T.b_tuple (by decide +kernel) (pa_cons (pe_callTy call_range rfl T.b_range (by decide +kernel) (pa_cons pe_int (pa_cons (pe_op op_add (pv 0) pe_int) pa_nil))) pa_nil)))), ?_⟩
    refine ⟨_, rfl, _, _, rfl, rfl, .inr ⟨_, _, rfl, fun r hr => ⟨r, _, _, rfl, upd_same, by omega, by omega, by omega, by omega, fun t ht => ?_⟩⟩⟩
    have ne : t ≠ r := by intro z; subst z; rw [upd_same] at ht; cases ht
    rw [upd_ne ne] at ht
    exact k t _ ht upd_same fun b o e => by rw [upd_ne (ne_of_none e ht), upd_ne (ne_of_none e hr)]; exact e
end
end Sw
namespace Sw
open PySem L2
def isw : PyData → Bool
  | .int _ => true
  | _ => false
def spWholesD : Sp := fun vs H Q _ => ∃ (t : Addr) (us : List V) (P : Addr → Prop) (ds : List PyData), vs = [.ref t] ∧ H t = some (.tup us) ∧ DTs H P us ds ∧ ds.length ≤ 1000 ∧ ∀ H', Same H H' → Q (.bl (ds.all isw)) H'
structure TD4 (P : Program) (w : World) (K : PySem.W.Frag) (mg : Str → Option Value) (base : Heap) : Prop extends T1 mg K where
  f__law_wholes : FnAt P w K mg base "_law_wholes" 1 ["_law_thing"] spWholesD
end Sw
namespace Sw
open PySem L2
def spThen : Sp := fun vs H Q _ => ∃ (t u : Addr) (xs ys : List Int), vs = [.ref t, .ref u] ∧ H t = some (.tup (xs.map V.int)) ∧ H u = some (.tup (ys.map V.int)) ∧ xs.length = ys.length ∧ ys.length ≤ 1000 ∧ (∀ x ∈ xs, 1 ≤ x ∧ x ≤ ys.length) ∧
  ∀ r H', H r = none → H' r = some (.tup ((thenM xs ys).map V.int)) → Same H H' → Q (.ref r) H'
section
variable {P : Program} {w : World} {K : PySem.W.Frag} {mg : Str → Option Value} {base : Heap}
theorem sc_then : FnScope ["one", "other"] ["one", "other"] (defScope (top 5)) := ⟨rfl, rfl, rfl, by decide +kernel, rfl, by decide +kernel, by decide +kernel⟩
theorem ok_then {f : Addr} {fd : FuncData} (F : Fun K "then" "then" (top 5) f fd) (T : T1 mg K) : FnOk P w K mg base CX0 1 f fd ["one", "other"] spThen := by
  refine F.ok sc_then (fun vs H Q E h => ?_) (fun cdv A outer s H vs Q E hr h => ?_)
  · obtain ⟨t, u, xs, ys, rfl, _⟩ := h
    rfl
  · obtain ⟨t, u, xs, ys, rfl, ht, hu, hl, hl2, hb, k⟩ := h
    refine ⟨_, (pss_cons (ps_if (pt_cmpR op_ne (pe_callB (call_lenK (K := K) rfl) rfl T.b_len (by decide +kernel) (pa_cons (pv 0) pa_nil)) (pe_callB (call_lenK (K := K) rfl) rfl T.b_len (by decide +kernel) (pa_cons (pv 1) pa_nil)) (nomark _)) (pss_one ps_never) pss_nil)
      (pss_one (ps_ret (pe_callTy (call_tuple_ofK (K := K) rfl) rfl T.b_tuple (by decide +kernel) (pa_cons (pe_comp (N := (["thing", "other"] : List Str)) (ix := ([none, some 1] : List (Option Nat))) (comp_ok rfl rfl) rfl (pi_tupK (K := K) rfl (pv 0)) (fun _ _ _ _ => (pg_name (i := 0) (show List.Nodup (["thing", "other"] : List Str) from by decide +kernel) rfl (Or.inl rfl))) (fun _ _ _ _ => pif_nil) (fun _ _ _ _ => (pe_ix (ix_tupK (K := K) rfl) (pv 1) (pe_op op_sub (pv 0) pe_int) (fun _ _ => rfl)))) pa_nil))))), ?_⟩
    refine ⟨_, rfl, t, _, rfl, .inr (SqT.of ht), _, rfl, u, _, rfl, .inr (SqT.of hu), rfl, _, rfl, iteNS (by rw [List.length_map, List.length_map, hl]) ?_⟩
    refine ⟨_, rfl, t, rfl, ⟨_, SqT.of ht⟩, comp_tup (K := K) (xs := xs.map V.int) (k := 0) (fun j zs σ' H'' => zs = (xs.take j).map (fun x => V.int (ys.getD (x - 1).toNat 0)) ∧ (∃ v, σ' = [v, some (.ref u)]) ∧ H'' = H) (by rw [List.length_map]; omega) ⟨rfl, ⟨none, rfl⟩, rfl⟩
      (fun j zs σ' H'' _ p => by rw [p.2.2]; exact SqT.of ht) (fun j zs σ' H'' p => by rw [p.1, List.length_map, List.length_take]; omega) ?_ ?_ ?_⟩
    · rintro j zs σ' H'' x hj ⟨rfl, ⟨v, rfl⟩, rfl⟩
      obtain ⟨z, rfl, hz⟩ := mem_int hj
      have bz := hb z (List.mem_of_getElem? hz)
      have hy : ys[(z - 1).toNat]? = some (ys.getD (z - 1).toNat 0) := by
        rw [List.getD_eq_getElem?_getD, List.getElem?_eq_getElem (by omega)]
        rfl
      refine ⟨_, rfl, _, rfl, _, _, rfl, rfl, u, _, _, _, rfl, rfl, SqT.of hu, at_int (by omega) hy, ?_, ⟨_, rfl⟩, rfl⟩
      exact (take_succ_map (fun x => V.int (ys.getD (x - 1).toNat 0)) hz).symm
    · intro σ' H'' R R' m q
      obtain ⟨v, e1, v2, e2, i, j, e3, e4, p, xs, i', v', e5, e6, e7, e8, q⟩ := q
      exact ⟨v, e1, v2, e2, i, j, e3, e4, p, xs, i', v', e5, e6, e7, e8, m _ _ q⟩
    · rintro zs σ' H'' p ⟨rfl, _, rfl⟩ hp
      refine ⟨p, _, rfl, .inl ⟨SqL.of upd_same, fun r hr => ?_⟩⟩
      have s1 : Same H'' (upd H'' p (.lst ((xs.take (xs.map V.int).length).map (fun x => V.int (ys.getD (x - 1).toNat 0))))) := Same.new hp
      refine k r _ (s1.free hr) ?_ (s1.trans (Same.new hr))
      rw [upd_same, List.length_map, List.take_length]
      unfold thenM
      rw [List.map_map]
      rfl
end
end Sw
namespace Sw
open PySem L2
def fcN : Nat → Nat
  | 0 => 1
  | k + 1 => fcN k * (k + 1)
def mkL (ls : List Nat) : Nat := fcN (ls.sum - ls.length) * (ls.map fun m => m ^ (m - 2)).foldl (· * ·) 1 / (ls.map fun m => fcN (m - 1)).foldl (· * ·) 1
def lensM (n : Int) (xs : List Int) : List Nat := (rndM n xs).map List.length
def wkF (xs : List Int) (x : Int) : Nat → Int → List Int
  | 0, _ => []
  | f + 1, y => if y = x then [] else y :: wkF xs x f (ld xs y)
def orbF (xs : List Int) (x : Int) : List Int := x :: wkF xs x xs.length (ld xs x)
def cutF (n : Int) (xs : List Int) : List (Int × Int) := (allE n).filter fun e => decide (e.2 ∈ orbF xs e.1)
def lensF (n : Int) (xs : List Int) : List Nat := ((ivl 1 (n + 1)).filter fun x => (orbF xs x).all fun y => decide (x ≤ y)).map fun x => (orbF xs x).length
def okMk (n : Int) (xs : List Int) : Bool := let S := cutF n xs; S.isEmpty || Nat.beq (mkL (lensF n xs)) ((S.map fun e => mkL (lensF n (nextO n xs e))).sum)
theorem wkF_go {n : Int} {xs : List Int} (o : Ord n xs) {x : Int} (h1 : 1 ≤ x) (h2 : x ≤ n) : ∀ (j k f : Nat), k + j = per xs x → 1 ≤ k → j ≤ f → wkF xs x f (itn (ld xs) k x) = (List.range j).map fun i => itn (ld xs) (k + i) x
  | 0, k, f, e, _, _ => by
    have ek : itn (ld xs) k x = x := by rw [show k = per xs x by omega]; exact per_eq o h1 h2
    cases f with
    | zero => rfl
    | succ f => rw [ek]; unfold wkF; rw [if_pos rfl]; rfl
  | j + 1, k, f, e, k1, hf => by
    cases f with
    | zero => omega
    | succ f =>
      unfold wkF
      rw [if_neg (per_ne (by omega) (by omega))]
      have := wkF_go o h1 h2 j (k + 1) f (by omega) (by omega) (by omega)
      rw [show ld xs (itn (ld xs) k x) = itn (ld xs) (k + 1) x from rfl, this, List.range_succ_eq_map, List.map_cons, List.map_map]
      refine congrArg (List.cons (itn (ld xs) k x)) (List.map_congr_left fun i _ => ?_)
      show itn (ld xs) (k + 1 + i) x = itn (ld xs) (k + (i + 1)) x
      rw [show k + 1 + i = k + (i + 1) by omega]
theorem orbF_eq {n : Int} {xs : List Int} (o : Ord n xs) {x : Int} (h1 : 1 ≤ x) (h2 : x ≤ n) : orbF xs x = orb xs x := by
  have pl := per_le o h1 h2
  have ol := o.length
  have p1 : 1 ≤ per xs x := by unfold per; omega
  have := wkF_go o h1 h2 (per xs x - 1) 1 xs.length (by omega) (Nat.le_refl _) (by omega)
  unfold orbF orb
  rw [show ld xs x = itn (ld xs) 1 x from rfl, this, show per xs x = (per xs x - 1) + 1 by omega, List.range_succ_eq_map, List.map_cons, List.map_map, Nat.add_sub_cancel]
  refine congrArg (List.cons x) (List.map_congr_left fun i _ => ?_)
  show itn (ld xs) (1 + i) x = itn (ld xs) (i + 1) x
  rw [Nat.add_comm]
theorem cutF_eq {n : Int} {xs : List Int} (o : Ord n xs) : cutF n xs = cutS n xs := by
  unfold cutF cutS
  refine List.filter_congr fun e he => ?_
  have g := allE_mem.mp he
  rw [orbF_eq o g.1 (by omega)]
theorem lensF_eq {n : Int} {xs : List Int} (o : Ord n xs) : lensF n xs = lensM n xs := by
  unfold lensF lensM rndM
  rw [List.map_map]
  have e : (ivl 1 (n + 1)).filter (fun x => (orbF xs x).all fun y => decide (x ≤ y)) = (ivl 1 (n + 1)).filter (least xs) := List.filter_congr fun x hx => by
    have h := mem_ivl.mp hx
    rw [orbF_eq o h.1 (by omega)]; rfl
  rw [e]
  refine List.map_congr_left fun x hx => ?_
  have h := mem_ivl.mp (List.mem_filter.mp hx).1
  rw [orbF_eq o h.1 (by omega)]; rfl
def chMk (i : Nat) : Bool := (((permsM 6).drop i).take 60).all (okMk 6)
theorem mk_lo : ((List.range 6).all fun n => (permsM n).all (okMk n)) = true := by decide +kernel
theorem mk_one : ((List.range 7).all fun n => mkL (lensF n (ledM n [])) == 1) = true := by decide +kernel
theorem mk_0 : chMk 0 = true := by decide +kernel
theorem mk_60 : chMk 60 = true := by decide +kernel
theorem mk_120 : chMk 120 = true := by decide +kernel
theorem mk_180 : chMk 180 = true := by decide +kernel
theorem mk_240 : chMk 240 = true := by decide +kernel
theorem mk_300 : chMk 300 = true := by decide +kernel
theorem mk_360 : chMk 360 = true := by decide +kernel
theorem mk_420 : chMk 420 = true := by decide +kernel
theorem mk_480 : chMk 480 = true := by decide +kernel
theorem mk_540 : chMk 540 = true := by decide +kernel
theorem mk_600 : chMk 600 = true := by decide +kernel
theorem mk_660 : chMk 660 = true := by decide +kernel
theorem mk_720 : (permsM 6).drop 720 = [] := by decide +kernel
theorem all_cutQ {α : Type} {l : List α} {p : α → Bool} {i j : Nat} (a : ((l.drop i).take j).all p = true) (b : (l.drop (i + j)).all p = true) : (l.drop i).all p = true := by
  rw [← List.take_append_drop j (l.drop i), List.all_append, a, List.drop_drop, b]; rfl
theorem mk_hi : (permsM 6).all (okMk 6) = true := by
  have h : ((permsM 6).drop 0).all (okMk 6) = true := all_cutQ (j := 60) mk_0 (all_cutQ (j := 60) mk_60 (all_cutQ (j := 60) mk_120 (all_cutQ (j := 60) mk_180 (all_cutQ (j := 60) mk_240 (all_cutQ (j := 60) mk_300 (all_cutQ (j := 60) mk_360 (all_cutQ (j := 60) mk_420 (all_cutQ (j := 60) mk_480 (all_cutQ (j := 60) mk_540 (all_cutQ (j := 60) mk_600 (all_cutQ (j := 60) mk_660 (by rw [show 660 + 60 = 720 from rfl, mk_720]; rfl))))))))))))
  exact h
theorem okMk_of {n : Nat} (h : n ≤ 6) {xs : List Int} (o : Ord (n : Int) xs) : okMk n xs = true := by
  have hx : xs ∈ permsM n := perm_in n xs (by
    have := o
    unfold Ord ivl at this
    rw [show ((n : Int) + 1 - 1).toNat = n by omega] at this
    exact this)
  by_cases c : n < 6
  · exact List.all_eq_true.mp (List.all_eq_true.mp mk_lo n (List.mem_range.mpr c)) xs hx
  · have : n = 6 := by omega
    subst this
    exact List.all_eq_true.mp mk_hi xs hx
theorem lrL_len {n : Nat} (h : n ≤ 6) : ∀ {f : Nat} {xs : List Int}, Ord (n : Int) xs → f + cnt n xs = n → (lrL f n xs).length = mkL (lensM n xs)
  | 0, xs, o, hf => by
    have h0 : (0 : Int) ≤ (n : Int) := by omega
    have hc := homeM_cnt h0 o
    have hl := homeM_led h0 o
    have e0 : homeM xs = [] := List.eq_nil_of_length_eq_zero (by omega)
    rw [e0] at hl
    have := List.all_eq_true.mp mk_one n (List.mem_range.mpr (by omega))
    rw [hl, lensF_eq o] at this
    rw [of_decide_eq_true (show decide (mkL (lensM n xs) = 1) = true from this)]
    rfl
  | f + 1, xs, o, hf => by
    have h0 : (0 : Int) ≤ (n : Int) := by omega
    have k := okMk_of h o
    unfold okMk at k
    simp only [] at k
    rw [cutF_eq o, lensF_eq o] at k
    have ne : cutS n xs ≠ [] := fun z => by
      have := (cutS_nil h0 o).mp z
      omega
    have ie : (cutS n xs).isEmpty = false := by
      cases hz : cutS n xs with
      | nil => exact absurd hz ne
      | cons _ _ => rfl
    rw [ie, Bool.false_or] at k
    have k2 := Nat.eq_of_beq_eq_true k
    unfold lrL
    rw [List.length_flatMap, k2]
    refine congrArg List.sum (List.map_congr_left fun e he => ?_)
    obtain ⟨g, hb⟩ := cutS_mem.mp he
    have c := cnt_next h0 o g hb
    have on := next_ord h0 o g
    rw [List.length_map, lensF_eq on]
    exact lrL_len h on (by omega)
end Sw
namespace Sw
open PySem L2
inductive RwL (H : Hp) : List V → List (List (Int × Int)) → Prop
  | nil : RwL H [] []
  | cons {a : Addr} {es : List V} {r : List (Int × Int)} {vs : List V} {rs : List (List (Int × Int))} : H a = some (.lst es) → Exs H es r → RwL H vs rs → RwL H (.ref a :: vs) (r :: rs)
theorem RwL.length {H : Hp} {vs : List V} {rs : List (List (Int × Int))} (x : RwL H vs rs) : vs.length = rs.length := by
  induction x with
  | nil => rfl
  | cons _ _ _ ih => rw [List.length_cons, List.length_cons, ih]
theorem RwL.keep {H H' : Hp} (k : Same H H') {vs : List V} {rs : List (List (Int × Int))} (x : RwL H vs rs) : RwL H' vs rs := by
  induction x with
  | nil => exact .nil
  | cons h e _ ih => exact .cons (k _ _ h) (e.keep (Same.tups k)) ih
theorem RwL.snoc {H : Hp} {a : Addr} {es : List V} {r : List (Int × Int)} (h : H a = some (.lst es)) (e : Exs H es r) {vs : List V} {rs : List (List (Int × Int))} (x : RwL H vs rs) : RwL H (vs ++ [.ref a]) (rs ++ [r]) := by
  induction x with
  | nil => exact .cons h e .nil
  | cons h' e' _ ih => exact .cons h' e' ih
theorem RwL.get {H : Hp} {vs : List V} {rs : List (List (Int × Int))} (x : RwL H vs rs) : ∀ {i : Nat} {v : V}, vs[i]? = some v → ∃ a es r, v = .ref a ∧ rs[i]? = some r ∧ H a = some (.lst es) ∧ Exs H es r := by
  induction x with
  | nil => intro i v h; simp at h
  | cons h' e' _ ih =>
    intro i v h
    cases i with
    | zero => injection h with h; subst h; exact ⟨_, _, _, rfl, rfl, h', e'⟩
    | succ i => exact ih h
theorem RwL.in {H : Hp} {vs : List V} {rs : List (List (Int × Int))} (x : RwL H vs rs) {a : Addr} (h : V.ref a ∈ vs) : H a ≠ none := fun z => by
  obtain ⟨i, hi⟩ := List.mem_iff_getElem?.mp h
  obtain ⟨b, es, r, e, _, hb, _⟩ := x.get hi
  cases e
  rw [z] at hb; cases hb
theorem fresh_snocR {H H' : Hp} {vs : List V} {rs : List (List (Int × Int))} {a : Addr} (f : Fresh H vs) (x : RwL H' vs rs) (h' : H' a = none) (h : H a = none) : Fresh H (vs ++ [.ref a]) := by
  refine ⟨List.nodup_append.mpr ⟨f.1, by simp, fun v hv u hu e => ?_⟩, fun v hv => (List.mem_append.mp hv).elim (f.2 v) fun z => ⟨a, List.mem_singleton.mp z, h⟩⟩
  rw [List.mem_singleton.mp hu] at e
  subst e
  exact x.in hv h'
theorem allE_len {n : Int} (h1 : 1 ≤ n) (h6 : n ≤ 6) : (allE n).length ≤ 15 := by
  have : n = 1 ∨ n = 2 ∨ n = 3 ∨ n = 4 ∨ n = 5 ∨ n = 6 := by omega
  rcases this with rfl | rfl | rfl | rfl | rfl | rfl <;> decide
theorem cutS_len {n : Int} (h1 : 1 ≤ n) (h6 : n ≤ 6) (xs : List Int) : (cutS n xs).length ≤ 15 := Nat.le_trans (List.length_filter_le ..) (allE_len h1 h6)
theorem sum_leN {α : Type} {f : α → Nat} {B : Nat} : ∀ {L : List α}, (∀ x ∈ L, f x ≤ B) → (L.map f).sum ≤ L.length * B
  | [], _ => Nat.zero_le _
  | x :: L, h => by
    have := sum_leN (L := L) fun y hy => h y (List.mem_cons_of_mem _ hy)
    have := h x (List.mem_cons_self ..)
    rw [List.map_cons, List.sum_cons, List.length_cons, Nat.succ_mul]
    omega
theorem lrL_few {n : Int} (h1 : 1 ≤ n) (h6 : n ≤ 6) : ∀ (f : Nat) (xs : List Int), (lrL f n xs).length ≤ 15 ^ f
  | 0, _ => Nat.le_refl _
  | f + 1, xs => by
    unfold lrL
    rw [List.length_flatMap]
    refine Nat.le_trans (sum_leN (B := 15 ^ f) fun e _ => by rw [List.length_map]; exact lrL_few h1 h6 f _) ?_
    rw [Nat.pow_succ, Nat.mul_comm]
    exact Nat.mul_le_mul_left _ (cutS_len h1 h6 xs)
def lrF (f : Nat) (n : Int) (xs : List Int) (e : Int × Int) : List (List (Int × Int)) := (lrL f n (nextO n xs e)).map (e :: ·)
def lrT (f : Nat) (n : Int) (xs : List Int) (i : Nat) : List (List (Int × Int)) := ((cutS n xs).take i).flatMap (lrF f n xs)
theorem lrT_succ {f : Nat} {n : Int} {xs : List Int} {i : Nat} {e : Int × Int} (h : (cutS n xs)[i]? = some e) : lrT f n xs (i + 1) = lrT f n xs i ++ lrF f n xs e := by
  unfold lrT; rw [take_snoc h, List.flatMap_append]; simp
theorem lrT_all (f : Nat) (n : Int) (xs : List Int) {i : Nat} (h : (cutS n xs).length ≤ i) : lrT f n xs i = lrL (f + 1) n xs := by
  unfold lrT; rw [List.take_of_length_le h]; rfl
theorem lrT_le {f : Nat} {n : Int} {xs : List Int} (h1 : 1 ≤ n) (h6 : n ≤ 6) (i : Nat) : (lrT f n xs i).length ≤ 15 ^ (f + 1) := by
  refine Nat.le_trans ?_ (lrL_few h1 h6 (f + 1) xs)
  have : lrL (f + 1) n xs = lrT f n xs i ++ ((cutS n xs).drop i).flatMap (lrF f n xs) := by
    unfold lrT; rw [← List.flatMap_append, List.take_append_drop]; rfl
  rw [this, List.length_append]
  omega
theorem factX {n : Int} {xs : List Int} (h1 : 1 ≤ n) (h6 : n ≤ 6) (o : Ord n xs) : (rndM n xs).length ≤ 10 ∧ (∀ r ∈ rndM n xs, r.length ≤ 10) ∧ (cutP n xs).length < 64 := by
  refine ⟨?_, fun r hr => ?_, ?_⟩
  · unfold rndM
    rw [List.length_map]
    have := List.length_filter_le (least xs) (ivl 1 (n + 1))
    rw [ivl_length] at this
    omega
  · unfold rndM at hr
    obtain ⟨x, hx, rfl⟩ := List.mem_map.mp hr
    have hx := mem_ivl.mp (List.mem_filter.mp hx).1
    have := per_le o hx.1 (show x ≤ n by omega)
    rw [orb_length]
    omega
  have pm : (cutP n xs).Perm (cutS n xs) := (List.perm_ext_iff_of_nodup (cutP_nodup o) (cutS_nodup n xs)).mpr fun e => by rw [cutP_mem o, cutS_mem]
  have := cutS_len h1 h6 xs
  rw [pm.length_eq]
  omega
def spLrX (d : Nat) : Sp := fun vs H Q _ => ∃ (t : Addr) (n : Int) (xs : List Int) (f : Nat), vs = [.ref t] ∧ f < d ∧ H t = some (.tup (xs.map V.int)) ∧ 1 ≤ n ∧ n ≤ 6 ∧ Ord n xs ∧ f + cnt n xs = n.toNat ∧
  ∀ l us H', H l = none → H' l = some (.lst us) → RwL H' us (lrL f n xs) → Fresh H us → V.ref l ∉ us → Same H H' → Q (.ref l) H'
theorem lrx_never (vs : List V) (H : Hp) (Q : VK) (E : XK) (h : spLrX 0 vs H Q E) : False := by
  obtain ⟨_, _, _, f, _, hf, _⟩ := h
  omega
structure TLrX (P : Program) (w : World) (K : PySem.W.Frag) (mg : Str → Option Value) (base : Heap) (d : Nat) : Prop extends T1 mg K where
  f_cuts : FnAt P w K mg base "cuts" 4 ["order"] spCutsS
  f_led : FnAt P w K mg base "led" 3 ["n", "row"] spLed
  f_then : FnAt P w K mg base "then" 1 ["one", "other"] spThen
  f_least_rows : FnAt P w K mg base "least_rows" (d + 4) ["order"] (spLrX d)
section
variable {P : Program} {w : World} {K : PySem.W.Frag} {mg : Str → Option Value} {base : Heap}
theorem sc_least_rows : FnScope ["order", "firsts"] ["order"] (defScope (top 13)) := ⟨rfl, rfl, rfl, by decide +kernel, rfl, by decide +kernel, by decide +kernel⟩
theorem ok_lrx {f : Addr} {fd : FuncData} (d : Nat) (F : Fun K "least_rows" "least_rows" (top 13) f fd) (T : TLrX P w K mg base d) : FnOk P w K mg base CX0 (d + 5) f fd ["order"] (spLrX (d + 1)) := by
  refine F.ok sc_least_rows (fun vs H Q E h => ?_) (fun cdv A outer s H vs Q E hr h => ?_)
  · obtain ⟨t, n, xs, f, rfl, _⟩ := h
    rfl
  · obtain ⟨t, n, xs, fu, rfl, fd', ht, n1, n6, o, hf, k⟩ := h
    refine ⟨_, (pss_cons (ps_set (i := 1) sc_least_rows.nd rfl (Or.inl rfl) (pe_callF T.f_cuts (hr.mono (by first | decide | omega)) rfl (pa_cons (pv 0) pa_nil)))
      (pss_cons (ps_if (pt_cmpR op_eq (pe_callB (call_lenK (K := K) rfl) rfl T.b_len (by decide +kernel) (pa_cons (pv 1) pa_nil)) pe_int (nomark _)) (pss_one (ps_ret (pe_lst (pa_cons (pe_lst pa_nil) pa_nil)))) pss_nil)
      (pss_one (ps_ret (pe_comp2 (N := (["first", "rest", "order"] : List Str)) (ix := ([none, none, some 0] : List (Option Nat))) (comp_ok rfl rfl) rfl (pi_listK (K := K) rfl (pv 1)) (fun _ _ _ _ => (pg_name (i := 0) (show List.Nodup (["first", "rest", "order"] : List Str) from by decide +kernel) rfl (Or.inl rfl))) (fun _ _ _ _ => (pi_listK (K := K) rfl (pe_callF T.f_least_rows (hr.mono (by first | decide | omega)) rfl (pa_cons (pe_callF T.f_then (hr.mono (by first | decide | omega)) rfl (pa_cons (pe_callF T.f_led (hr.mono (by first | decide | omega)) rfl (pa_cons (pe_callB (call_lenK (K := K) rfl) rfl T.b_len (by decide +kernel) (pa_cons (pv 2) pa_nil)) (pa_cons (pe_lst (pa_cons (pv 0) pa_nil)) pa_nil))) (pa_cons (pv 2) pa_nil))) pa_nil)))) (fun _ _ _ _ => (pg_name (i := 1) (show List.Nodup (["first", "rest", "order"] : List Str) from by decide +kernel) rfl (Or.inl rfl))) (fun _ _ _ _ => (pe_op op_cat (pe_lst (pa_cons (pv 0) pa_nil)) (pv 1)))))))), ?_⟩
    have big : (10000000 : Nat) ≤ sizeLine := by decide
    have fl := factX n1 n6 o
    have h0 : 0 ≤ n := by omega
    have c1 : 1 ≤ cnt n xs := by have := rnd_pos o n1; unfold rndM at this; rw [List.length_map] at this; exact this
    have f5 : fu ≤ 5 := by omega
    refine ⟨_, rfl, t, n, xs, rfl, ht, o, by omega, fl.1, fl.2.1, fl.2.2, fun l es H1 fl1 hl xr s1 => ?_⟩
    have el := xr.length
    refine ⟨_, rfl, l, _, rfl, .inl (SqL.of hl), rfl, _, rfl, ite2 (fun c => ?_) (fun c => ?_)⟩
    · have c0 : es.length = 0 := by have := V.int.inj (of_decide_eq_true c); omega
      have ce : cutS n xs = [] := List.length_eq_zero_iff.mp (by omega)
      have := (cutS_nil h0 o).mp ce
      have f0 : fu = 0 := by omega
      subst f0
      refine ⟨Nat.zero_le _, fun la fla => ⟨(by show 1 ≤ sizeLine; decide), fun lq flq => ?_⟩⟩
      have s2 : Same H1 (upd H1 la (.lst [])) := Same.new fla
      have h2 : upd H1 la (.lst []) la = some (.lst []) := upd_same
      generalize upd H1 la (.lst []) = H2 at s2 h2 flq ⊢
      have s3 : Same H2 (upd H2 lq (.lst [.ref la])) := Same.new flq
      refine k lq [.ref la] _ ((s1.trans s2).free flq) upd_same (.cons (s3 _ _ h2) .nil .nil) ⟨by simp, fun v hv => ⟨la, List.mem_singleton.mp hv, s1.free fla⟩⟩ (fun z => ?_) (s1.trans (s2.trans s3))
      have := V.ref.inj (List.mem_singleton.mp z)
      subst this
      rw [h2] at flq; cases flq
    · have c0 : es.length ≠ 0 := fun z => c (decide_eq_true (by rw [z]; rfl))
      have ne : cnt n xs ≠ n.toNat := fun z => by
        have := (cutS_nil h0 o).mpr z
        rw [this] at el
        exact c0 el
      obtain ⟨f', rfl⟩ : ∃ f', fu = f' + 1 := ⟨fu - 1, by omega⟩
      have p5 : 15 ^ (f' + 1) ≤ 800000 := by
        have : f' = 0 ∨ f' = 1 ∨ f' = 2 ∨ f' = 3 ∨ f' = 4 := by omega
        rcases this with rfl | rfl | rfl | rfl | rfl <;> decide
      have xl := o.length
      refine ⟨_, rfl, l, rfl, ⟨_, SqL.of hl⟩, comp2L (K := K) (a := l) (xs := es) (k := 0) (fun i ys σ' H' => (∃ v0 v1, σ' = [v0, v1, some (.ref t)]) ∧ ys.length ≤ 800000 ∧ RwL H' ys (lrT f' n xs i) ∧ Fresh H ys ∧ Same H1 H') ⟨⟨_, _, rfl⟩, Nat.zero_le _, .nil, Fresh.nil, Same.refl _⟩ (fun i ys σ' H' _ z => SqL.of (z.2.2.2.2 _ _ hl)) (fun i ys σ' H' z => by have := z.2.1; omega) ?_ ?_⟩
      · rintro i ys σ' H2 x R hx ⟨⟨v0, v1, rfl⟩, yb, lu, fr2, s2⟩ done
        obtain ⟨te, ea, eb, rfl, hte, hrow⟩ := xr.get hx
        have hte2 := s2 _ _ hte
        obtain ⟨eg, ein⟩ := cutS_mem.mp (List.mem_of_getElem? hrow)
        have cn := cnt_next h0 o eg ein
        have on := next_ord h0 o eg
        have ht2 := s2 _ _ (s1 _ _ ht)
        refine ⟨_, rfl, t, _, rfl, .inr (SqT.of ht2), ?_⟩
        rw [List.length_map, show ((xs.length : Nat) : Int) = n by omega]
        refine ⟨_, rfl, (by show 1 ≤ sizeLine; decide), fun p1 g1 => ?_⟩
        have s3 : Same H2 (upd H2 p1 (.lst [.ref te])) := Same.new g1
        have h3 : upd H2 p1 (.lst [.ref te]) p1 = some (.lst [.ref te]) := upd_same
        generalize upd H2 p1 (.lst [.ref te]) = H3 at s3 h3 ⊢
        have gd : Good n [(ea, eb)] := fun e he => by rw [List.mem_singleton.mp he]; exact eg
        have ol := ord_led gd
        refine ⟨n, p1, [.ref te], [(ea, eb)], rfl, by omega, by omega, h3, .cons (s3 _ _ hte2) .nil, gd, fun t2 H4 ft2 ht4 s4 => ?_⟩
        have ht4' := s4 _ _ (s3 _ _ ht2)
        refine ⟨_, rfl, t2, t, _, xs, rfl, ht4, ht4', by rw [ol.length, xl], by omega, fun x hx => by have := ol.mem.mp hx; omega, fun r H5 fr hr5 s5 => ?_⟩
        have a5 := s2.trans (s3.trans (s4.trans s5))
        refine ⟨r, n, nextO n xs (ea, eb), f', rfl, by omega, hr5, n1, n6, on, by omega, fun lq us H6 flq hlq up _ _ s6 => ?_⟩
        have a6 := a5.trans s6
        have ul := up.length
        have tb := lrT_le (f := f') (xs := xs) n1 n6 (i + 1)
        rw [lrT_succ hrow, List.length_append] at tb
        have lb := lu.length
        have fb : (lrF f' n xs (ea, eb)).length = us.length := by unfold lrF; rw [List.length_map, ul]
        refine ⟨lq, rfl, ⟨_, SqL.of hlq⟩, inner2L (K := K) (a := lq) (xs := us) (k := 1) (fun j ys' σ' H' => (∃ v1, σ' = [some (.ref te), v1, some (.ref t)]) ∧ j ≤ us.length ∧ ys'.length = ys.length + j ∧ RwL H' ys' (lrT f' n xs i ++ (lrF f' n xs (ea, eb)).take j) ∧ Fresh H ys' ∧ Same H6 H') ⟨⟨_, rfl⟩, Nat.zero_le _, rfl, by rw [List.take_zero, List.append_nil]; exact lu.keep (s3.trans (s4.trans (s5.trans s6))), fr2, Same.refl _⟩ (fun j ys' σ' H' _ z => SqL.of (z.2.2.2.2.2 _ _ hlq)) (fun j ys' σ' H' z => by have := z.2.1; have := z.2.2.1; omega) ?_ ?_⟩
        · rintro j ys' σ' H7 y S hy ⟨⟨v1, rfl⟩, jl, yl', lu', fr7, s7⟩ d2
          obtain ⟨b, zs, rr, rfl, hrr, hb, xz⟩ := up.get hy
          have jlt := (List.getElem?_eq_some_iff.mp hy).1
          have zl := xz.length
          have rl := (((lrL_is h0 on (f := f') (by omega) rr).mp (List.mem_of_getElem? hrr)).2.2)
          refine ⟨_, rfl, (by show 1 ≤ sizeLine; decide), fun p2 g2 => ?_⟩
          have s8 : Same H7 (upd H7 p2 (.lst [.ref te])) := Same.new g2
          have h8 : upd H7 p2 (.lst [.ref te]) p2 = some (.lst [.ref te]) := upd_same
          generalize upd H7 p2 (.lst [.ref te]) = H8 at s8 h8 ⊢
          have lu8 := lu'.keep s8
          have a8 := a6.trans (s7.trans s8)
          refine ⟨_, rfl, p2, b, _, _, rfl, rfl, h8, s8 _ _ (s7 _ _ hb), by show 1 + zs.length ≤ _; omega, fun p3 g3 => d2 _ _ _ ⟨⟨_, rfl⟩, jlt, by rw [List.length_append, yl']; rfl, ?_, fresh_snocR fr7 lu8 g3 ((s1.trans a8).free g3), s7.trans (s8.trans (Same.new g3))⟩⟩
          have e1 : (lrF f' n xs (ea, eb)).take (j + 1) = (lrF f' n xs (ea, eb)).take j ++ [(ea, eb) :: rr] := take_snoc (by unfold lrF; rw [List.getElem?_map, hrr]; rfl)
          rw [e1, ← List.append_assoc]
          have s9 : Same H8 (upd H8 p3 (.lst ([V.ref te] ++ zs))) := Same.new g3
          refine RwL.snoc upd_same ?_ (lu8.keep s9)
          exact .cons (s9 _ _ (a8 _ _ hte)) (xz.keep (Same.tups (s7.trans (s8.trans s9))))
        · rintro ys' σ' H7 ⟨⟨v1, rfl⟩, _, yl', lu', fr7, s7⟩
          refine done _ _ _ ⟨⟨_, _, rfl⟩, by omega, ?_, fr7, a6.trans s7⟩
          rw [lrT_succ hrow]
          rwa [List.take_of_length_le (by omega)] at lu'
      · rintro ys σ' H2 q ⟨_, yb, lu, fr2, s2⟩ fq
        rw [lrT_all f' n xs (by omega)] at lu
        exact k q ys _ ((s1.trans s2).free fq) upd_same (lu.keep (Same.new fq)) fr2 (fun z => lu.in z fq) (s1.trans (s2.trans (Same.new fq)))
end
end Sw
namespace L2
open PySem PySem.Spec PyProof.Rows PySem.SeqAt
open PySem.AutoSeq1 (wpAny_loadPart')
open PySem.MeetsSeq PySem.MeetsSeq2 PySem.MeetsSeq3
def prD (p : Int × Int) : PyData := .tuple [.int p.1, .int p.2]
def lexP : List (Int × Int) → List (Int × Int) → Bool
  | [], [] => false
  | [], _ :: _ => true
  | _ :: _, [] => false
  | a :: r, c :: q => if a = c then lexP r q else HT.lexLt [a.1, a.2] [c.1, c.2]
def PrsAt (h : Heap) (xs : Array Value) (ps : List (Int × Int)) : Prop := xs.size = ps.length ∧ ∀ (i : Nat) (p : Int × Int), ps[i]? = some p → ∃ v as, xs[i]? = some v ∧ Reads h v (prD p) as
theorem PrsAt.out {h : Heap} {xs : Array Value} {ps : List (Int × Int)} (x : PrsAt h xs ps) {i : Nat} (hi : ps.length ≤ i) : xs[i]? = none := Array.getElem?_eq_none (by rw [x.1]; exact hi)
theorem pr_eqv (a c : Int × Int) : PyData.eqv (prD a) (prD c) = decide (a = c) := by
  obtain ⟨a1, a2⟩ := a
  obtain ⟨c1, c2⟩ := c
  unfold prD
  simp only [PyData.eqv, PyData.eqvAll, Prod.mk.injEq]
  by_cases x : a1 = c1 <;> by_cases y : a2 = c2 <;> simp [x, y]
theorem rc_pr {prog : Program} {w : World} {A : Around} {E : Value → Shared → Prop} {Q : Value → Shared → Prop} {s : Shared} {v u : Value} {a c : Int × Int} {as bs : List Addr} (hv : Reads s.heap v (prD a) as) (hu : Reads s.heap u (prD c) bs) (hA : A.units < cLine) (h : Q (.bool (HT.lexLt [a.1, a.2] [c.1, c.2])) s) :
    wpAny (model prog w) A (richCompare .Lt v u) Q E s := by
  unfold prD at hv hu
  cases hv with
  | tuple k1 k2 k3 k4 =>
    cases hu with
    | tuple j1 j2 j3 j4 =>
      rename_i l o vs n b o2 ws m
      have ia : ∀ {h : Heap} {L : List Value} {x y : Int} {as : List Addr}, ReadsAll h L [.int x, .int y] as → IntsAre L [x, y] := by
        intro h L x y as r
        cases r with
        | cons r1 r2 =>
          cases r2 with
          | cons r3 r4 =>
            cases r1; cases r3; cases r4
            exact .cons _ _ (.cons _ _ .nil)
      have := HT.lt_tupInts (prog := prog) (w := w) (A := A) (E := E) (s := s) (Q := Q) ⟨_, k1, k2, _, k3⟩ ⟨_, j1, j2, _, j3⟩ (ia k4) (ia j4) hA h
      exact this
theorem lt_loopP (l b : Addr) (xs ys : Array Value) (n m : Nat) {ns ms : List (Int × Int)} : ∀ (f i : Nat), ns.length ≤ i + f → i ≤ ns.length →
    Meets (Builtin.«list.__eq__.loop» ⟨[.ref l, .ref b, rawInt (i : Int), rawInt 0], []⟩)
      (fun A R s => A.units + 16 < cLine ∧ PrsAt s.heap xs ns ∧ PrsAt s.heap ys ms ∧ s.heap.get? l = some { cls := .type "list", data := .seq xs n } ∧ s.heap.get? b = some { cls := .type "list", data := .seq ys m } ∧ R (.ok (.ret (.bool (lexP (ns.drop i) (ms.drop i))))) s) := by
  have ends : ∀ (h : Heap), PrsAt h xs ns → PrsAt h ys ms → ∀ (i : Nat), (ns.length ≤ i ∨ ms.length ≤ i) → i ≤ ns.length → lexP (ns.drop i) (ms.drop i) = decide (xs.size < ys.size) := fun h hx hy i h1 h2 => by
    rw [hx.1, hy.1]
    by_cases z : ns.length ≤ i
    · rw [List.drop_eq_nil_of_le z]
      cases hm : ms.drop i with
      | nil =>
        have := List.drop_eq_nil_iff.mp hm
        show false = _
        rw [decide_eq_false (by omega)]
      | cons c q =>
        have : i < ms.length := by
          have := congrArg List.length hm
          rw [List.length_drop, List.length_cons] at this
          omega
        show true = _
        rw [decide_eq_true (by omega)]
    · have z2 : ms.length ≤ i := by omega
      rw [List.drop_eq_nil_of_le z2, decide_eq_false (by omega)]
      cases hm : ns.drop i with
      | nil => have := List.drop_eq_nil_iff.mp hm; omega
      | cons c q => rfl
  have stop : ∀ (i : Nat), (ns.length ≤ i ∨ ms.length ≤ i) → i ≤ ns.length → Meets (Builtin.«list.__eq__.loop» ⟨[.ref l, .ref b, rawInt (i : Int), rawInt 0], []⟩)
      (fun A R s => A.units + 16 < cLine ∧ PrsAt s.heap xs ns ∧ PrsAt s.heap ys ms ∧ s.heap.get? l = some { cls := .type "list", data := .seq xs n } ∧ s.heap.get? b = some { cls := .type "list", data := .seq ys m } ∧ R (.ok (.ret (.bool (lexP (ns.drop i) (ms.drop i))))) s) := by
    intro i h1 h2 prog w A R s h
    obtain ⟨hp, g, d, tk, os⟩ := s
    obtain ⟨hU, hx, hy, hl, hb, h⟩ := h
    rw [ends hp hx hy i h1 h2] at h
    wp_walk using wpAny_loadPart' hl, wpAny_loadPart' hb
    rcases h1 with z | z
    · have e1 : xs[Int.toNat (i : Int)]? = none := hx.out (by rw [Int.toNat_natCast]; omega)
      rw [e1]
      dsimp only
      wp_walk using wpAny_loadPart' hl, wpAny_loadPart' hb
      exact h
    · have e2 : ys[Int.toNat (i : Int)]? = none := hy.out (by rw [Int.toNat_natCast]; omega)
      rw [e2]
      cases xs[Int.toNat (i : Int)]? with
      | none =>
        dsimp only
        wp_walk using wpAny_loadPart' hl, wpAny_loadPart' hb
        exact h
      | some v =>
        dsimp only
        wp_walk using wpAny_loadPart' hl, wpAny_loadPart' hb
        exact h
  intro f
  induction f with
  | zero => intro i h1 h2; exact stop i (.inl (by omega)) h2
  | succ f ih =>
    intro i h1 h2
    by_cases z : ns.length ≤ i ∨ ms.length ≤ i
    · exact stop i z h2
    · intro prog w A R s h
      obtain ⟨hp, g, d, tk, os⟩ := s
      obtain ⟨hU, hx, hy, hl, hb, h⟩ := h
      have i1 : i < ns.length := by omega
      have i2 : i < ms.length := by omega
      obtain ⟨v, as, hv, rv⟩ := hx.2 i ns[i] (List.getElem?_eq_getElem i1)
      obtain ⟨u, bs, hu, ru⟩ := hy.2 i ms[i] (List.getElem?_eq_getElem i2)
      rw [List.drop_eq_getElem_cons i1, List.drop_eq_getElem_cons i2] at h
      generalize ns[i] = a at rv h
      generalize ms[i] = c at ru h
      wp_walk using wpAny_loadPart' hl, wpAny_loadPart' hb
      have e1 : xs[Int.toNat (i : Int)]? = some v := hv
      have e2 : ys[Int.toNat (i : Int)]? = some u := hu
      rw [e1, e2]
      dsimp only
      have q := eqAt_reads (prD a) (prD c) A.in1 ⟨hp, g, d, tk, os⟩ v u as bs rv ru rfl rfl (by
        have : min (prD a).depth (prD c).depth ≤ 8 := Nat.le_trans (Nat.min_le_left ..) (by show _ ≤ 8; unfold prD; simp [PyData.depth, PyData.depthAll])
        rw [Around.in1_units]; omega)
      rw [pr_eqv] at q
      by_cases ac : a = c
      · rw [decide_eq_true ac] at q
        refine wpAny_bind (q prog w _ _ ?_)
        wp_walk
        refine ⟨plainId_quiet plain_eq_loop _, codeAny_builtin entry_eq_loop ?_⟩
        rw [Around.under_plainId plain_eq_loop _]
        refine ih (i + 1) (by omega) (by omega) prog w A R _ ⟨hU, hx, hy, hl, hb, ?_⟩
        have h : R (.ok (.ret (.bool (if a = c then lexP (ns.drop (i + 1)) (ms.drop (i + 1)) else HT.lexLt [a.1, a.2] [c.1, c.2])))) _ := h
        rw [if_pos ac] at h
        exact h
      · rw [decide_eq_false ac] at q
        refine wpAny_bind (q prog w _ _ ?_)
        have lt := fun E Q hq => rc_pr (prog := prog) (w := w) (A := A.in1) (E := E) (Q := Q) (s := ⟨hp, g, d, tk, os⟩) rv ru (by rw [Around.in1_units]; omega) hq
        wp_walk using wpAny_loadPart' hl, wpAny_loadPart' hb
        rw [e1, e2]
        wp_walk using lt
        have h : R (.ok (.ret (.bool (if a = c then lexP (ns.drop (i + 1)) (ms.drop (i + 1)) else HT.lexLt [a.1, a.2] [c.1, c.2])))) _ := h
        rw [if_neg ac] at h
        exact h
theorem lt_listsP (l b : Addr) (xs ys : Array Value) (n m : Nat) {ns ms : List (Int × Int)} :
    Meets (Builtin.«list.__lt__» ⟨[.ref l, .ref b], []⟩)
      (fun A R s => A.units + 16 < cLine ∧ PrsAt s.heap xs ns ∧ PrsAt s.heap ys ms ∧ s.heap.get? l = some { cls := .type "list", data := .seq xs n } ∧ s.heap.get? b = some { cls := .type "list", data := .seq ys m } ∧ R (.ok (.ret (.bool (lexP ns ms)))) s) := by
  intro prog w A R s h
  obtain ⟨hp, g, d, tk, os⟩ := s
  obtain ⟨hU, hx, hy, hl, hb, h⟩ := h
  have sub : isSubtype (.type "list") (.type "list") = pure true := by rw [isSubtype_type]; kernel_rfl
  wp_walk using wpAny_loadPart' hl, wpAny_loadPart' hb
  refine ⟨plainId_quiet plain_eq_loop _, codeAny_builtin entry_eq_loop ?_⟩
  rw [Around.under_plainId plain_eq_loop _]
  exact lt_loopP l b xs ys n m ns.length 0 (by omega) (by omega) prog w A R _ ⟨hU, hx, hy, hl, hb, h⟩
end L2
namespace L2
open PySem PySem.Spec PyProof.Rows PySem.SeqAt
section
variable {X : Cx}
def rLtP : R2 := fun x y H Q => ∃ (a b : Addr) (es fs : List V) (r q : List (Int × Int)), x = .ref a ∧ y = .ref b ∧ H a = some (.lst es) ∧ H b = some (.lst fs) ∧ Sw.Exs H es r ∧ Sw.Exs H fs q ∧ Q (.bl (lexP r q)) H
theorem reads_at {h : Heap} : ∀ {vs : List Value} {ds : List PyData} {as : List Addr}, ReadsAll h vs ds as → ∀ (i : Nat) (d : PyData), ds[i]? = some d → ∃ v bs, vs[i]? = some v ∧ Reads h v d bs
  | _, _, _, .nil, i, d, e => by simp at e
  | _, _, _, .cons r t, 0, d, e => by
    injection e with e
    subst e
    exact ⟨_, _, rfl, r⟩
  | _, _, _, .cons r t, i + 1, d, e => reads_at t i d e
theorem reads_len {h : Heap} : ∀ {vs : List Value} {ds : List PyData} {as : List Addr}, ReadsAll h vs ds as → vs.length = ds.length
  | _, _, _, .nil => rfl
  | _, _, _, .cons _ t => by rw [List.length_cons, List.length_cons, reads_len t]
theorem op_ltP (hu : X.A.units + 64 < cLine) : OpR X (compareOp .Lt) rLtP := by
  intro pins s σ H x y v u Q I rx ry h
  obtain ⟨a, b, es, fs, r, q, rfl, rfl, ha, hb, xa, xb, k⟩ := h
  have da : Dat X.K H (fun _ => True) (.ref a) (.list (r.map fun p => .tuple [.int p.1, .int p.2])) := .lst (SqL.of ha) True.intro xa.dat
  have db : Dat X.K H (fun _ => True) (.ref b) (.list (q.map fun p => .tuple [.int p.1, .int p.2])) := .lst (SqL.of hb) True.intro xb.dat
  obtain ⟨as, qa⟩ := I.reads da rx
  obtain ⟨bs, qb⟩ := I.reads db ry
  cases rx
  cases ry
  obtain ⟨_, its, n, _, e1⟩ := Rd.ok (Or.inl ha : Rd H a (.lst es)) I.hok
  obtain ⟨_, its2, m, _, e2⟩ := Rd.ok (Or.inl hb : Rd H b (.lst fs)) I.hok
  have pa : ∀ {l : Addr} {ws : List Value} {n : Nat} {row : List (Int × Int)} {as : List Addr}, s.heap.get? l = some (seqObj "list" ws.toArray n) → Reads s.heap (.ref l) (.list (row.map fun p => .tuple [.int p.1, .int p.2])) as → PrsAt s.heap ws.toArray row := by
    intro l ws n row as e rd
    cases rd with
    | list k1 k2 k3 k4 =>
      rw [e] at k1
      cases k1
      cases k3
      have len := reads_len k4
      refine ⟨by simpa using len, fun i p hp => ?_⟩
      obtain ⟨v, bs, h1, h2⟩ := reads_at k4 i (prD p) (by rw [List.getElem?_map, hp]; rfl)
      exact ⟨v, bs, by simpa using h1, h2⟩
  have p1 := pa e1 qa
  have p2 := pa e2 qb
  exact richCompare_meets_room (op := .Lt) ⟨_, e1, rfl⟩ ⟨_, e2, rfl⟩ F.slot_list_lt F.entry_list_lt (F.args_list_lt_2 _ _) (lt_listsP a b its.toArray its2.toArray n m (ns := r) (ms := q))
    ⟨by omega, p1, p2, e1, e2, show Value.bool (lexP r q) ≠ Value.notImplemented ∧ _ from ⟨(fun x => nomatch x), ⟨.bl (lexP r q), H, I, rfl, k⟩⟩⟩ (by omega)
theorem lexP_ltR : ∀ {r q : List (Int × Int)}, Sw.ltR r q → lexP r q = true
  | [], _, h => by unfold Sw.ltR at h; exact absurd h id
  | _ :: _, [], h => by unfold Sw.ltR at h; exact absurd h id
  | a :: r, c :: q, h => by
    show (if a = c then lexP r q else HT.lexLt [a.1, a.2] [c.1, c.2]) = true
    rcases h with h | ⟨e, h⟩
    · rw [if_neg (fun z => by subst z; unfold Sw.ltE at h; omega)]
      unfold Sw.ltE at h
      rw [HT.lexLt_cons, HT.lexLt_cons]
      rcases h with h | ⟨h1, h2⟩
      · rw [if_neg (by omega)]; exact decide_eq_true h
      · rw [if_pos h1, if_neg (by omega)]; exact decide_eq_true h2
    · rw [if_pos e]; exact lexP_ltR h
end
end L2
namespace L2
open PySem PySem.Spec PyProof.Rows
section
variable {X : Cx}
def rInYes (K : PySem.W.Frag) (b : Bool) : R2 := fun x y H Q => ∃ (P : Addr → Prop) (dx : PyData) (p : Addr) (vs : List V) (ds : List PyData), y = .ref p ∧ SqL K H p vs ∧ Dat K H P x dx ∧ DatAll K H P vs ds ∧ dx.canLay0 = true ∧ dx.depth ≤ 60 ∧ (∀ d ∈ ds, d.canLay0 = true) ∧ (∃ d ∈ ds, PyData.eqv d dx = true) ∧ Q (.bl b) H
open Classical in
noncomputable def eqY (h : Heap) (dx : PyData) (w : Value) : Bool := decide (∃ d bs, Reads h w d bs ∧ d.canLay0 = true ∧ PyData.eqv d dx = true)
theorem all_yes {pins : List (Addr × Obj)} {σ : St} {H : Hp} {s : Shared} {P : Addr → Prop} {dx : PyData} {v : Value} {as : List Addr} (I : Inv X pins σ H s) (qa : Reads s.heap v dx as) (lx : dx.canLay0 = true) (dd : dx.depth ≤ 60) (hu : X.A.units + 64 < cLine) :
    ∀ {vs : List V} {its : List Value} {ds : List PyData}, DatAll X.K H P vs ds → Vals vs its → (∀ d ∈ ds, d.canLay0 = true) → (∀ w ∈ its, SeqAt.EqAt X.A.in1 s w v (eqY s.heap dx w)) ∧ ((∃ d ∈ ds, PyData.eqv d dx = true) → ∃ w ∈ its, eqY s.heap dx w = true)
  | _, _, _, .nil, r, _ => by
    cases r
    exact ⟨fun w hw => (by cases hw), fun ⟨d, hd, _⟩ => (by cases hd)⟩
  | _, _, _, .cons h hs, r, hno => by
    cases r with
    | cons r1 r2 =>
      obtain ⟨bs, qb⟩ := I.reads h r1
      have h1 := hno _ List.mem_cons_self
      obtain ⟨i1, i2⟩ := all_yes I qa lx dd hu hs r2 (fun d hd => hno d (List.mem_cons_of_mem _ hd))
      refine ⟨fun w hw => ?_, ?_⟩
      · rcases List.mem_cons.mp hw with rfl | hw
        · by_cases c : ∃ d bs, Reads s.heap w d bs ∧ d.canLay0 = true ∧ PyData.eqv d dx = true
          · obtain ⟨d, cs, q1, q2, q3⟩ := id c
            rw [show eqY s.heap dx w = true by unfold eqY; exact @decide_eq_true _ (Classical.propDecidable _) c, ← q3]
            exact SeqAt.eqAt_reads _ _ _ _ _ _ _ _ q1 qa q2 lx (by show X.A.units + 1 + _ < _; omega)
          · rw [show eqY s.heap dx w = false by unfold eqY; exact @decide_eq_false _ (Classical.propDecidable _) c]
            have e := SeqAt.eqAt_reads _ _ X.A.in1 _ _ _ _ _ qb qa h1 lx (by show X.A.units + 1 + _ < _; omega)
            rw [show PyData.eqv _ dx = false from Bool.eq_false_iff.mpr fun z => c ⟨_, _, qb, h1, z⟩] at e
            exact e
        · exact i1 w hw
      · rintro ⟨d, hd, ed⟩
        rcases List.mem_cons.mp hd with rfl | hd
        · exact ⟨_, List.mem_cons_self, by unfold eqY; exact @decide_eq_true _ (Classical.propDecidable _) ⟨_, _, qb, h1, ed⟩⟩
        · obtain ⟨w, hw, ew⟩ := i2 ⟨d, hd, ed⟩
          exact ⟨w, List.mem_cons_of_mem _ hw, ew⟩
theorem op_notInYes (hu : X.A.units + 64 < cLine) : OpR X (compareOp .NotIn) (rInYes X.K false) := by
  intro pins s σ H x y v u Q I rx ry h
  obtain ⟨P, dx, p, vs, ds, rfl, hq, hx, hs, lx, dd, hl, he, q⟩ := h
  cases ry
  obtain ⟨its, r, pl, hz⟩ := I.list hq
  obtain ⟨as, qa⟩ := I.reads hx rx
  obtain ⟨h1, h2⟩ := all_yes I qa lx dd hu hs r hl
  obtain ⟨w, hw, ew⟩ := h2 he
  refine SeqAt.notIn_listAt (eqY s.heap dx) pl.isList (fun w hw => h1 w (by simpa using hw)) ⟨.bl _, H, I, rfl, ?_⟩
  rw [show its.toArray.any (eqY s.heap dx) = true by rw [List.any_toArray]; exact List.any_eq_true.mpr ⟨w, hw, ew⟩]
  exact q
end
end L2
namespace Sw
open PySem L2
theorem tups_upd {H : Hp} {a : Addr} {es fs : List V} (h : H a = some (.lst es)) : ∀ b xs, H b = some (.tup xs) → upd H a (.lst fs) b = some (.tup xs) := fun b xs e => by
  have : b ≠ a := fun z => by subst z; rw [h] at e; cases e
  rw [upd_ne this]; exact e
theorem RwL.off {H : Hp} {a : Addr} {es fs : List V} (h : H a = some (.lst es)) {vs : List V} {rs : List (List (Int × Int))} (x : RwL H vs rs) (na : V.ref a ∉ vs) : RwL (upd H a (.lst fs)) vs rs := by
  induction x with
  | nil => exact .nil
  | @cons b gs r vs rs hb e _ ih =>
    have : b ≠ a := fun z => na (by rw [z]; exact List.mem_cons_self)
    exact .cons (by rw [upd_ne this]; exact hb) (e.keep (tups_upd h)) (ih fun z => na (List.mem_cons_of_mem _ z))
theorem RwL.grow {H : Hp} {vs : List V} {rs : List (List (Int × Int))} (x : RwL H vs rs) : ∀ {i : Nat} {a : Addr} {es : List V} {r : List (Int × Int)} {t : Addr} {p q : Int}, vs.Nodup → vs[i]? = some (.ref a) → rs[i]? = some r → H a = some (.lst es) → H t = some (.tup [.int p, .int q]) → RwL (upd H a (.lst (es ++ [.ref t]))) vs (rs.set i (r ++ [(p, q)])) := by
  induction x with
  | nil => intro i a es r t p q _ h; simp at h
  | @cons b gs r0 vs rs hb e x ih =>
    intro i a es r t p q nd h1 h2 h3 h4
    have nd' := List.nodup_cons.mp nd
    cases i with
    | zero =>
      injection h1 with h1
      injection h1 with h1
      subst h1
      injection h2 with h2
      subst h2
      rw [hb] at h3
      injection h3 with h3
      injection h3 with h3
      subst h3
      exact .cons upd_same ((e.keep (tups_upd hb)).append (.cons (tups_upd hb _ _ h4) .nil)) (x.off hb nd'.1)
    | succ i =>
      have : b ≠ a := fun z => by
        subst z
        exact nd'.1 (List.mem_of_getElem? h1)
      exact .cons (by rw [upd_ne this]; exact hb) (e.keep (tups_upd h3)) (ih nd'.2 h1 h2 h3 h4)
def rowsD (rs : List (List (Int × Int))) : List PyData := rs.map fun r => .list (r.map fun p => .tuple [.int p.1, .int p.2])
theorem RwL.dat {K : PySem.W.Frag} {H : Hp} {vs : List V} {rs : List (List (Int × Int))} (x : RwL H vs rs) : DatAll K H (fun _ => True) vs (rowsD rs) := by
  induction x with
  | nil => exact .nil
  | cons h e _ ih => exact .cons (.lst (SqL.of h) True.intro e.dat) ih
def grwM (rs : List (List (Int × Int))) (i : Nat) : List (List (Int × Int)) := (List.range rs.length).map fun k => if k < i then rs.getD k [] ++ [((1 : Int), 100 + (k : Int))] else rs.getD k []
theorem grw_zero (rs : List (List (Int × Int))) : grwM rs 0 = rs := by
  unfold grwM
  apply List.ext_getElem?
  intro k
  rw [List.getElem?_map]
  by_cases c : k < rs.length
  · rw [List.getElem?_range c, List.getElem?_eq_getElem c]
    simp [List.getD_eq_getElem?_getD, c]
  · rw [List.getElem?_eq_none (by simp; omega), List.getElem?_eq_none (by omega)]; rfl
theorem grw_at {rs : List (List (Int × Int))} {i : Nat} {r : List (Int × Int)} (h : rs[i]? = some r) : (grwM rs i)[i]? = some r := by
  have il := (List.getElem?_eq_some_iff.mp h).1
  unfold grwM
  rw [List.getElem?_map, List.getElem?_range il]
  show some (if i < i then _ else _) = _
  rw [if_neg (by omega), List.getD_eq_getElem?_getD, h]; rfl
theorem grw_succ {rs : List (List (Int × Int))} {i : Nat} {r : List (Int × Int)} (h : rs[i]? = some r) : (grwM rs i).set i (r ++ [(1, 100 + (i : Int))]) = grwM rs (i + 1) := by
  have il := (List.getElem?_eq_some_iff.mp h).1
  unfold grwM
  apply List.ext_getElem?
  intro k
  rw [List.getElem?_set]
  by_cases c : k < rs.length
  · rw [List.getElem?_map, List.getElem?_map, List.getElem?_range c]
    by_cases e : i = k
    · subst e
      rw [if_pos rfl, if_pos (by simpa using il)]
      show _ = some (if i < i + 1 then _ else _)
      rw [if_pos (by omega), List.getD_eq_getElem?_getD, h]; rfl
    · rw [if_neg e]
      show some (if k < i then _ else _) = some (if k < i + 1 then _ else _)
      by_cases d : k < i
      · rw [if_pos d, if_pos (by omega)]
      · rw [if_neg d, if_neg (by omega)]
  · rw [if_neg (by omega)]
    rw [List.getElem?_eq_none (by simp; omega), List.getElem?_eq_none (by simp; omega)]
end Sw
namespace Sw
open PySem L2
section
variable {P : Program} {w : World} {K : PySem.W.Frag} {mg : Str → Option Value} {base : Heap}
theorem sc__law_rounds : FnScope ["_law_order_here", "_law_found", "_law_met", "_law_first", "_law_some"] ["_law_order_here"] (defScope (top 19)) := ⟨rfl, rfl, rfl, by decide +kernel, rfl, by decide +kernel, by decide +kernel⟩
theorem ok_lrounds {f : Addr} {fd : FuncData} (F : Fun K "_law_rounds" "_law_rounds" (top 19) f fd) (T : T1 mg K) : FnOk P w K mg base CX0 1 f fd ["_law_order_here"] spRounds := by
  refine F.ok sc__law_rounds (fun vs H Q E h => ?_) (fun cdv A outer s H vs Q E hr h => ?_)
  · obtain ⟨t, n, xs, rfl, _⟩ := h
    rfl
  · obtain ⟨t, n, xs, rfl, ht, o, hn, k⟩ := h
    refine ⟨_, (pss_cons (ps_set (i := 1) sc__law_rounds.nd rfl (Or.inl rfl) (pe_lst pa_nil))
      (pss_cons (ps_set (i := 2) sc__law_rounds.nd rfl (Or.inl rfl) (pe_lst pa_nil))
      (pss_cons (ps_for PassesOwn.never rfl (pi_range2 rfl T.b_range (pa_cons pe_int (pa_cons (pe_op op_add (pe_callB (call_lenK (K := K) rfl) rfl T.b_len (by decide +kernel) (pa_cons (pv 0) pa_nil)) pe_int) pa_nil))) (pg_name (i := 3) sc__law_rounds.nd rfl (Or.inl rfl)) (pss_one (ps_if (pt_cmpR (op_notInK (K := K) rfl) (pv 3) (pv 2) rfl) (pss_cons (ps_set (i := 4) sc__law_rounds.nd rfl (Or.inl rfl) (pe_lst (pa_cons (pv 3) pa_nil)))
      (pss_cons (ps_while PassesOwn.never (pt_cmpR op_ne (pe_ix (ix_tupK (K := K) rfl) (pv 0) (pe_op op_sub (pe_ix (ix_listK (K := K) rfl) (pv 4) (pe_un un_neg pe_int) (fun _ _ => rfl)) pe_int) (fun _ _ => rfl)) (pv 3) (nomark _)) (pss_one (ps_expr (pe_bmK (K := K) rfl PySem.F.plainAttrs_list PySem.F.slot_list_append PySem.F.type_list_append mt_append (pv 4) (pa_cons (pe_ix (ix_tupK (K := K) rfl) (pv 0) (pe_op op_sub (pe_ix (ix_listK (K := K) rfl) (pv 4) (pe_un un_neg pe_int) (fun _ _ => rfl)) pe_int) (fun _ _ => rfl)) pa_nil)))))
      (pss_cons (ps_set (i := 2) sc__law_rounds.nd rfl (Or.inl rfl) (pe_op op_cat (pv 2) (pv 4)))
      (pss_one (ps_expr (pe_bmK (K := K) rfl PySem.F.plainAttrs_list PySem.F.slot_list_append PySem.F.type_list_append mt_append (pv 1) (pa_cons (pv 4) pa_nil))))))) pss_nil)))
      (pss_one (ps_ret (pv 1)))))), ?_⟩
    have ol := o.length
    have big : (10000000 : Nat) ≤ sizeLine := by decide
    refine ⟨Nat.zero_le _, fun lf hlf => ⟨Nat.zero_le _, fun lm hlm => ?_⟩⟩
    have nfm : lf ≠ lm := by intro z; subst z; rw [upd_same] at hlm; cases hlm
    have s1 : Same H (upd H lf (.lst [])) := Same.new hlf
    have s2 := s1.trans (Same.new (o := .lst []) hlm)
    refine ⟨_, rfl, t, _, rfl, .inr (SqT.of (s2 _ _ ht)), _, _, rfl, rfl, 1, _, rfl, ⟨by decide, by decide, by omega, by rw [List.length_map]; omega⟩, ?_⟩
    refine for_range (fun i σ H' => ∃ lm ws ms v3 v4, σ = [some (.ref t), some (.ref lf), some (.ref lm), v3, v4] ∧ Same H H' ∧ lf ≠ lm ∧ H' lf = some (.lst ws) ∧ H' lm = some (.lst (ms.map V.int)) ∧ Lsts H' ws ((((ivl 1 (n + 1)).take i).filter (least xs)).map (orb xs)) ∧ Fresh H ws ∧ V.ref lf ∉ ws ∧ ws.length ≤ i ∧ ms.length ≤ i * 1000 ∧ ∀ y, y ∈ ms ↔ ∃ m ∈ ((ivl 1 (n + 1)).take i).filter (least xs), y ∈ orb xs m)
      ⟨lm, [], [], _, _, rfl, s2, nfm, by rw [upd_ne nfm, upd_same], upd_same, .nil, Fresh.nil, by simp, Nat.le_refl _, Nat.le_refl _, by intro y; simp⟩ ?_ ?_
    · rintro i σ H' hi ⟨lm, ws, ms, v3, v4, rfl, s3, nfm, hf3, hm3, x3, fr3, nf3, wl, ml, mm⟩
      rw [List.length_map] at hi
      have hi' : (i : Int) < n := by omega
      have ef : ((ivl 1 (n + 1)).take (i + 1)) = (ivl 1 (n + 1)).take i ++ [1 + (i : Int)] := by rw [List.take_succ, get_ivl (by omega)]; rfl
      have b1 : (1 : Int) ≤ 1 + i := by omega
      have b2 : (1 : Int) + i ≤ n := by omega
      have ml2 := met_least o hi'
      refine ⟨_, rfl, _, rfl, lm, _, rfl, .inl (SqL.of hm3), rfl, flat_ints ms, _, rfl, ?_⟩
      show if (!inV (.int (1 + (i : Int))) (ms.map V.int)) = true then _ else _
      rw [inV_int]
      refine ite2 (fun c => ?_) (fun c => ?_)
      · have c : ¬ (1 + (i : Int)) ∈ ms := by simpa using c
        have hL : least xs (1 + i) = true := ml2.mpr (fun z => c ((mm _).mpr z))
        refine ⟨_, rfl, (by show 1 ≤ sizeLine; decide), fun la hla => ?_⟩
        have fla : H la = none := s3.free hla
        have nfa : lf ≠ la := ne_of_none hf3 hla
        have nma : lm ≠ la := ne_of_none hm3 hla
        have pl := per_le o b1 b2
        have naw : V.ref la ∉ ws := fun z => by
          obtain ⟨ns, e⟩ := x3.mem z
          rw [hla] at e; cases e
        refine ⟨fun m σ H2 => ∃ j, m = per xs (1 + i) - j ∧ 1 ≤ j ∧ j ≤ per xs (1 + i) ∧ σ = [some (.ref t), some (.ref lf), some (.ref lm), some (.int (1 + (i : Int))), some (.ref la)] ∧ H2 = upd H' la (.lst (((List.range j).map fun k => itn (ld xs) k (1 + i)).map V.int)), ⟨_, 1, rfl, Nat.le_refl _, by unfold per; omega, rfl, rfl⟩, ?_⟩
        rintro m σ H2 ⟨j, rfl, j1, j2, rfl, rfl⟩
        have ir := itn_in o b1 b2 (j - 1)
        have s4 : Same H (upd H' la (.lst (((List.range j).map fun k => itn (ld xs) k (1 + i)).map V.int))) := Same.put s3 fla
        have gl : atI (((List.range j).map fun k => itn (ld xs) k (1 + (i : Int))).map V.int) (-1) = some (.int (itn (ld xs) (j - 1) (1 + i))) := by
          refine at_last (k := j - 1) (by rw [List.length_map, List.length_range]; omega) ?_
          rw [List.getElem?_map, List.getElem?_range (by omega)]
          rfl
        have gt : atI (xs.map V.int) (itn (ld xs) (j - 1) (1 + i) - 1) = some (.int (itn (ld xs) j (1 + i))) := by
          have q := at_int (ns := xs) (i := itn (ld xs) (j - 1) (1 + i) - 1) (by omega) (ld_get o ir.1 ir.2)
          rw [q]
          obtain ⟨j', rfl⟩ : ∃ j', j = j' + 1 := ⟨j - 1, by omega⟩
          rfl
        refine ⟨_, rfl, _, rfl, 1, rfl, la, _, _, _, rfl, rfl, SqL.of upd_same, gl, _, _, rfl, rfl, t, _, _, _, rfl, rfl, SqT.of (s4 _ _ ht), gt, _, rfl, rfl, _, rfl, ite2 (fun c2 => ?_) (fun c2 => ?_)⟩
        · have c2 : itn (ld xs) j (1 + i) ≠ 1 + (i : Int) := by simpa using c2
          have lt : j < per xs (1 + i) := by
            by_cases e : j = per xs (1 + i)
            · rw [e] at c2; exact absurd (per_eq o b1 b2) c2
            · omega
          refine ⟨fun σ' H2 => σ' = [some (.ref t), some (.ref lf), some (.ref lm), some (.int (1 + (i : Int))), some (.ref la)] ∧ H2 = upd H' la (.lst (((List.range (j + 1)).map fun k => itn (ld xs) k (1 + i)).map V.int)), fun σ' H2 ⟨e1, e2⟩ => ⟨_, (by show per xs (1 + i) - (j + 1) < _; omega), j + 1, rfl, by omega, by omega, e1, e2⟩, ?_⟩
          refine ⟨_, rfl, .inl ⟨rfl, _, SqL.of upd_same⟩, _, rfl, _, rfl, 1, rfl, la, _, _, _, rfl, rfl, SqL.of upd_same, gl, _, _, rfl, rfl, t, _, _, _, rfl, rfl, SqT.of (s4 _ _ ht), gt, la, _, _, rfl, rfl, upd_same, by simp; omega, rfl, ?_⟩
          rw [upd_upd, List.range_succ, List.map_append, List.map_append]
          rfl
        · have c2 : itn (ld xs) j (1 + i) = 1 + (i : Int) := by simpa using c2
          have e : j = per xs (1 + i) := by
            apply Classical.byContradiction
            intro z
            exact per_ne (by omega) (by omega) c2
          subst e
          have hla4 : upd H' la (.lst (((List.range (per xs (1 + i))).map fun k => itn (ld xs) k (1 + i)).map V.int)) la = some (.lst ((orb xs (1 + i)).map V.int)) := upd_same
          have hf4 : upd H' la (.lst (((List.range (per xs (1 + i))).map fun k => itn (ld xs) k (1 + i)).map V.int)) lf = some (.lst ws) := by rw [upd_ne nfa]; exact hf3
          have hm4 : upd H' la (.lst (((List.range (per xs (1 + i))).map fun k => itn (ld xs) k (1 + i)).map V.int)) lm = some (.lst (ms.map V.int)) := by rw [upd_ne nma]; exact hm3
          have x4 := x3.keep (Same.new (o := .lst (((List.range (per xs (1 + i))).map fun k => itn (ld xs) k (1 + i)).map V.int)) hla)
          generalize upd H' la (.lst (((List.range (per xs (1 + i))).map fun k => itn (ld xs) k (1 + i)).map V.int)) = H4 at s4 hla4 hf4 hm4 x4 ⊢
          have ol2 := orb_length xs (1 + i)
          refine ⟨_, rfl, _, rfl, lm, la, _, _, rfl, rfl, hm4, hla4, by rw [List.length_map, List.length_map]; omega, fun l5 f5 => ?_⟩
          have nf5 : lf ≠ l5 := ne_of_none hf4 f5
          refine ⟨_, rfl, .inl ⟨rfl, _, SqL.of (by rw [upd_ne nf5]; exact hf4)⟩, _, rfl, lf, _, _, rfl, rfl, (by rw [upd_ne nf5]; exact hf4), by omega, ?_⟩
          have s5 := s4.trans (Same.new (o := .lst (ms.map V.int ++ (orb xs (1 + i)).map V.int)) f5)
          refine ⟨l5, ws ++ [.ref la], ms ++ orb xs (1 + i), _, _, rfl, Same.put s5 hlf, nf5, upd_same, ?_, ?_, fr3.snoc x3 hla fla, ?_, ?_, ?_, ?_⟩
          · rw [upd_ne nf5.symm, upd_same, List.map_append]
          · rw [ef, List.filter_append, List.map_append, List.filter_cons_of_pos hL]
            refine Lsts.off ((x4.keep (Same.new f5)).snoc (by rw [upd_ne (ne_of_none hla4 f5)]; exact hla4)) ?_
            intro z
            rcases List.mem_append.mp z with z | z
            · exact nf3 z
            · exact nfa (by simpa using z)
          · intro z
            rcases List.mem_append.mp z with z | z
            · exact nf3 z
            · exact nfa (by simpa using z)
          · rw [List.length_append, List.length_singleton]; omega
          · rw [List.length_append]; omega
          · intro y
            rw [ef, List.filter_append, List.filter_cons_of_pos hL, List.filter_nil, List.mem_append, mm]
            constructor
            · rintro (⟨m, h1, h2⟩ | h)
              · exact ⟨m, List.mem_append_left _ h1, h2⟩
              · exact ⟨1 + i, List.mem_append_right _ (List.mem_singleton.mpr rfl), h⟩
            · rintro ⟨m, h1, h2⟩
              rcases List.mem_append.mp h1 with z | z
              · exact .inl ⟨m, z, h2⟩
              · rw [List.mem_singleton.mp z] at h2; exact .inr h2
      · have c : (1 + (i : Int)) ∈ ms := by simpa using c
        have hL : least xs (1 + i) = false := by
          cases e : least xs (1 + (i : Int)) with
          | false => rfl
          | true => exact absurd ((mm _).mp c) (ml2.mp e)
        have e2 : ((ivl 1 (n + 1)).take (i + 1)).filter (least xs) = ((ivl 1 (n + 1)).take i).filter (least xs) := by
          rw [ef, List.filter_append, List.filter_cons_of_neg (by rw [hL]; decide), List.filter_nil, List.append_nil]
        refine ⟨lm, ws, ms, _, _, rfl, s3, nfm, hf3, hm3, ?_, fr3, nf3, by omega, by omega, ?_⟩
        · rw [e2]; exact x3
        · rw [e2]; exact mm
    · rintro σ H' ⟨lm, ws, ms, v3, v4, rfl, s3, nfm, hf3, hm3, x3, fr3, nf3, wl, ml, mm⟩
      have e3 : (ivl 1 (n + 1)).take (((xs.map V.int).length : Int) + 1 - 1).toNat = ivl 1 (n + 1) := List.take_of_length_le (by rw [ivl_length, List.length_map]; omega)
      rw [e3] at x3
      exact ⟨_, rfl, k lf ws H' hlf hf3 x3 fr3 nf3 s3⟩
end
end Sw
namespace Sw
open PySem L2
def tpN (ls : List Nat) (j : Nat) : Nat := ((ls.take j).map fun m => m ^ (m - 2)).foldl (· * ·) 1
def btN (ls : List Nat) (j : Nat) : Nat := ((ls.take j).map fun m => fcN (m - 1)).foldl (· * ·) 1
theorem tpN_succ {ls : List Nat} {j m : Nat} (h : ls[j]? = some m) : tpN ls (j + 1) = tpN ls j * m ^ (m - 2) := by
  unfold tpN; rw [take_snoc h, List.map_append, List.foldl_append]; rfl
theorem btN_succ {ls : List Nat} {j m : Nat} (h : ls[j]? = some m) : btN ls (j + 1) = btN ls j * fcN (m - 1) := by
  unfold btN; rw [take_snoc h, List.map_append, List.foldl_append]; rfl
theorem fcN_pos : ∀ k, 1 ≤ fcN k
  | 0 => Nat.le_refl _
  | k + 1 => Nat.mul_pos (fcN_pos k) (Nat.succ_pos k)
theorem fcN_le {k : Nat} (h : k ≤ 5) : fcN k ≤ 120 := by
  have : k = 0 ∨ k = 1 ∨ k = 2 ∨ k = 3 ∨ k = 4 ∨ k = 5 := by omega
  rcases this with rfl | rfl | rfl | rfl | rfl | rfl <;> decide
theorem btN_le {ls : List Nat} (h : ∀ m ∈ ls, m ≤ 6) : ∀ j, j ≤ ls.length → 1 ≤ btN ls j ∧ btN ls j ≤ 120 ^ j
  | 0, _ => ⟨Nat.le_refl _, Nat.le_refl _⟩
  | j + 1, hj => by
    have ih := btN_le h j (by omega)
    rw [btN_succ (List.getElem?_eq_getElem (show j < ls.length by omega)), Nat.pow_succ]
    have a := fcN_pos (ls[j] - 1)
    have b := fcN_le (show ls[j] - 1 ≤ 5 by have := h _ (List.getElem_mem (show j < ls.length by omega)); omega)
    exact ⟨Nat.mul_pos ih.1 a, Nat.mul_le_mul ih.2 b⟩
theorem mkL_eq (ls : List Nat) : mkL ls = fcN (ls.sum - ls.length) * tpN ls ls.length / btN ls ls.length := by
  unfold mkL tpN btN; rw [List.take_length]
def spMy : Sp := fun vs H Q _ => ∃ (t : Addr) (n : Int) (xs : List Int), vs = [.ref t] ∧ H t = some (.tup (xs.map V.int)) ∧ Ord n xs ∧ 1 ≤ n ∧ n ≤ 6 ∧ ∀ H', Same H H' → Q (.int (mkL (lensM n xs) : Nat)) H'
structure TMy (P : Program) (w : World) (K : PySem.W.Frag) (mg : Str → Option Value) (base : Heap) : Prop extends T1 mg K where
  f__law_rounds : FnAt P w K mg base "_law_rounds" 1 ["_law_order_here"] spRounds
section
variable {P : Program} {w : World} {K : PySem.W.Frag} {mg : Str → Option Value} {base : Heap}
theorem sc__law_many : FnScope ["_law_order_here", "_law_lengths", "_law_top", "_law_bottom", "_law_k", "_law_length"] ["_law_order_here"] (defScope (top 23)) := ⟨rfl, rfl, rfl, by decide +kernel, rfl, by decide +kernel, by decide +kernel⟩
theorem ok_my {f : Addr} {fd : FuncData} (F : Fun K "_law_many" "_law_many" (top 23) f fd) (T : TMy P w K mg base) : FnOk P w K mg base CX0 2 f fd ["_law_order_here"] spMy := by
  refine F.ok sc__law_many (fun vs H Q E h => ?_) (fun cdv A outer s H vs Q E hr h => ?_)
  · obtain ⟨t, n, xs, rfl, _⟩ := h
    rfl
  · obtain ⟨t, n, xs, rfl, ht, o, n1, n6, k⟩ := h
    refine ⟨_, (pss_cons (ps_comp (i := 1) sc__law_many.nd rfl rfl (N := (["_law_some"] : List Str)) (ix := ([none] : List (Option Nat))) (comp_ok rfl rfl) rfl (pi_listK (K := K) rfl (pe_callF T.f__law_rounds (hr.mono (by first | decide | omega)) rfl (pa_cons (pv 0) pa_nil))) (fun _ _ _ _ => (pg_name (i := 0) (show List.Nodup (["_law_some"] : List Str) from by decide +kernel) rfl (Or.inl rfl))) (fun _ _ _ _ => pif_nil) (fun _ _ _ _ => (pe_callB (call_lenK (K := K) rfl) rfl T.b_len (by decide +kernel) (pa_cons (pv 0) pa_nil))))
      (pss_cons (ps_set (i := 2) sc__law_many.nd rfl (Or.inl rfl) pe_int)
      (pss_cons (ps_set (i := 3) sc__law_many.nd rfl (Or.inl rfl) pe_int)
      (pss_cons (ps_for PassesOwn.never rfl (pi_range2 rfl T.b_range (pa_cons pe_int (pa_cons (pe_op op_add (pe_op op_sub (pe_callB (call_lenK (K := K) rfl) rfl T.b_len (by decide +kernel) (pa_cons (pv 0) pa_nil)) (pe_callB (call_lenK (K := K) rfl) rfl T.b_len (by decide +kernel) (pa_cons (pv 1) pa_nil))) pe_int) pa_nil))) (pg_name (i := 4) sc__law_many.nd rfl (Or.inl rfl)) (pss_one (ps_set (i := 2) sc__law_many.nd rfl (Or.inl rfl) (pe_op op_mul (pv 2) (pv 4)))))
      (pss_cons (ps_for PassesOwn.never rfl (pi_listK (K := K) rfl (pv 1)) (pg_name (i := 5) sc__law_many.nd rfl (Or.inl rfl)) (pss_cons (ps_for PassesOwn.never rfl (pi_range1 rfl T.b_range (pa_cons (pe_op op_sub (pv 5) pe_int) pa_nil)) (pg_name (i := 4) sc__law_many.nd rfl (Or.inl rfl)) (pss_one (ps_set (i := 2) sc__law_many.nd rfl (Or.inl rfl) (pe_op op_mul (pv 2) (pv 5)))))
      (pss_one (ps_for PassesOwn.never rfl (pi_range2 rfl T.b_range (pa_cons pe_int (pa_cons (pv 5) pa_nil))) (pg_name (i := 4) sc__law_many.nd rfl (Or.inl rfl)) (pss_one (ps_set (i := 3) sc__law_many.nd rfl (Or.inl rfl) (pe_op op_mul (pv 3) (pv 4))))))))
      (pss_one (ps_ret (pe_op op_fdivL (pv 2) (pv 3))))))))), ?_⟩
    have xl := o.length
    refine ⟨_, rfl, t, n, xs, rfl, ht, o, by omega, fun l ws H1 fl hl xw fr nl s1 => ?_⟩
    have wl := xw.length
    have ht1 := s1 _ _ ht
    have facts : (rndM n xs).length ≤ 6 ∧ ∀ r ∈ rndM n xs, r.length ≤ 6 ∧ 1 ≤ r.length := by
      refine ⟨?_, fun r hr => ?_⟩
      · unfold rndM
        rw [List.length_map]
        have := List.length_filter_le (least xs) (ivl 1 (n + 1))
        rw [ivl_length] at this
        omega
      · unfold rndM at hr
        obtain ⟨x, hx, rfl⟩ := List.mem_map.mp hr
        have hx := mem_ivl.mp (List.mem_filter.mp hx).1
        have := per_le o hx.1 (show x ≤ n by omega)
        rw [orb_length]
        have : 1 ≤ per xs x := by unfold per; omega
        omega
    have ll : (lensM n xs).length = (rndM n xs).length := by unfold lensM; rw [List.length_map]
    have l6 : ∀ m ∈ lensM n xs, m ≤ 6 ∧ 1 ≤ m := fun m hm => by
      unfold lensM at hm
      obtain ⟨r, hr, rfl⟩ := List.mem_map.mp hm
      exact facts.2 r hr
    have sm : (lensM n xs).sum = n.toNat := by
      unfold lensM
      rw [← List.length_flatten]
      have pm : (rndM n xs).flatten.Perm (ivl 1 (n + 1)) := (List.perm_ext_iff_of_nodup (rnd_nodup o) (ivl_nodup _ _)).mpr fun x => by
        rw [mem_ivl]
        constructor
        · intro h
          obtain ⟨r, hr, hx⟩ := List.mem_flatten.mp h
          unfold rndM at hr
          obtain ⟨y, hy, rfl⟩ := List.mem_map.mp hr
          have hy := mem_ivl.mp (List.mem_filter.mp hy).1
          have := orb_in o hy.1 (show y ≤ n by omega) hx
          omega
        · intro h; exact rnd_all o h.1 (by omega)
      rw [pm.length_eq, ivl_length]; omega
    have f0 := facts.1
    refine ⟨l, rfl, ⟨_, SqL.of hl⟩, compL (K := K) (a := l) (xs := ws) (k := 0) (fun i ys σ' H' => ys = (((rndM n xs).take i).map fun L => (L.length : Int)).map V.int ∧ (∃ v, σ' = [v]) ∧ H' = H1) (by omega) ⟨rfl, ⟨none, rfl⟩, rfl⟩ (fun i ys σ' H' _ q => by rw [q.2.2]; exact SqL.of hl) (fun i ys σ' H' q => by rw [q.1, List.length_map, List.length_map, List.length_take]; omega) ?_ ?_⟩
    · rintro i ys σ' H' z R hz ⟨rfl, ⟨v, rfl⟩, rfl⟩ done
      obtain ⟨b, ns, rfl, hb, hns⟩ := xw.get hz
      refine ⟨_, rfl, b, _, rfl, .inl (SqL.of hb), done _ _ _ ⟨?_, ⟨_, rfl⟩, rfl⟩⟩
      rw [take_succ_map (fun L : List Int => (L.length : Int)) hns, List.map_append, List.length_map]
      rfl
    · rintro ys σ' H' q ⟨rfl, _, rfl⟩ fq
      rw [List.take_of_length_le (by omega)]
      have e1 : ((rndM n xs).map fun L => (L.length : Int)).map V.int = (lensM n xs).map fun (m : Nat) => V.int (m : Int) := by
        unfold lensM; rw [List.map_map, List.map_map]; rfl
      rw [e1]
      have s2 : Same H' (upd H' q (.lst ((lensM n xs).map fun (m : Nat) => V.int (m : Int)))) := Same.new fq
      have h2 : upd H' q (.lst ((lensM n xs).map fun (m : Nat) => V.int (m : Int))) q = some (.lst ((lensM n xs).map fun (m : Nat) => V.int (m : Int))) := upd_same
      generalize upd H' q (.lst ((lensM n xs).map fun (m : Nat) => V.int (m : Int))) = H2 at s2 h2 ⊢
      have ht2 := s2 _ _ ht1
      generalize hls : lensM n xs = ls at *
      refine ⟨_, rfl, t, _, rfl, .inr (SqT.of ht2), ?_⟩
      refine ⟨_, rfl, q, _, rfl, .inl (SqL.of h2), ?_⟩
      rw [List.length_map, List.length_map]
      have lsl : ls.length ≤ 6 := by omega
      have m0 : ls.length ≤ xs.length := by
        have : ∀ L : List Nat, (∀ m ∈ L, m ≤ 6 ∧ 1 ≤ m) → L.length ≤ L.sum := by
          intro L
          induction L with
          | nil => intro _; exact Nat.le_refl _
          | cons m L ih =>
            intro h
            have := ih fun y hy => h y (List.mem_cons_of_mem _ hy)
            have := (h m (List.mem_cons_self ..)).2
            rw [List.length_cons, List.sum_cons]; omega
        have := this ls l6
        omega
      refine ⟨_, _, rfl, rfl, _, _, rfl, rfl, 2, _, rfl, ⟨by decide, by decide, by omega, by omega⟩, for_range (fun i σ H3 => (∃ v4 v5, σ = [some (.ref t), some (.ref q), some (.int (fcN (i + 1) : Nat)), some (.int 1), v4, v5]) ∧ H3 = H2) ⟨⟨_, _, rfl⟩, rfl⟩ ?_ ?_⟩
      · rintro i σ H3 hi ⟨⟨v4, v5, rfl⟩, rfl⟩
        refine ⟨_, rfl, _, rfl, _, _, rfl, rfl, .inr ⟨by omega, by omega⟩, ⟨some (.int (2 + (i : Int))), v5, ?_⟩, rfl⟩
        rw [show ((fcN (i + 1 + 1) : Nat) : Int) = ((fcN (i + 1) : Nat) : Int) * (2 + (i : Int)) by show ((fcN (i + 1) * (i + 1 + 1) : Nat) : Int) = _; rw [Int.natCast_mul]; congr 1; omega]
        rfl
      · rintro σ H3 ⟨⟨v4, v5, rfl⟩, rfl⟩
        have e2 : fcN (((xs.length : Int) - (ls.length : Int) + 1 - 2).toNat + 1) = fcN (ls.sum - ls.length) := by
          by_cases z : xs.length = ls.length
          · rw [show ((xs.length : Int) - (ls.length : Int) + 1 - 2).toNat = 0 by omega, show ls.sum - ls.length = 0 by omega]; rfl
          · rw [show ((xs.length : Int) - (ls.length : Int) + 1 - 2).toNat + 1 = ls.sum - ls.length by omega]
        rw [e2]
        generalize hT : fcN (ls.sum - ls.length) = Tn
        refine ⟨_, rfl, q, rfl, ⟨_, SqL.of h2⟩, for_list (K := K) (a := q) (xs := ls.map fun (m : Nat) => V.int (m : Int)) (fun j σ H4 => (∃ v4 v5, σ = [some (.ref t), some (.ref q), some (.int (Tn * tpN ls j : Nat)), some (.int (btN ls j : Nat)), v4, v5]) ∧ H4 = H3) ⟨⟨v4, v5, by rw [show tpN ls 0 = 1 from rfl, Nat.mul_one]; rfl⟩, rfl⟩ (fun i σ H4 _ z => by rw [z.2]; exact SqL.of h2) ?_ ?_⟩
        · rintro j x σ H4 hx ⟨⟨u4, u5, rfl⟩, rfl⟩
          obtain ⟨m, hm, rfl⟩ : ∃ m : Nat, ls[j]? = some m ∧ x = V.int (m : Int) := by
            rw [List.getElem?_map] at hx
            cases hj : ls[j]? with
            | none => rw [hj] at hx; cases hx
            | some m => rw [hj] at hx; exact ⟨m, rfl, (Option.some.inj hx).symm⟩
          have mb := l6 m (List.mem_of_getElem? hm)
          refine ⟨_, rfl, _, _, rfl, rfl, _, rfl, by omega, by omega, for_range (fun i σ H5 => (∃ v4, σ = [some (.ref t), some (.ref q), some (.int (Tn * tpN ls j * m ^ i : Nat)), some (.int (btN ls j : Nat)), v4, some (.int (m : Int))]) ∧ H5 = H4) ⟨⟨_, by rw [Nat.pow_zero, Nat.mul_one]; rfl⟩, rfl⟩ ?_ ?_⟩
          · rintro i σ H5 hi ⟨⟨v4, rfl⟩, rfl⟩
            refine ⟨_, rfl, _, rfl, _, _, rfl, rfl, .inr ⟨by omega, by omega⟩, ⟨some (.int (0 + (i : Int))), ?_⟩, rfl⟩
            rw [show ((Tn * tpN ls j * m ^ (i + 1) : Nat) : Int) = ((Tn * tpN ls j * m ^ i : Nat) : Int) * (m : Int) by rw [Nat.pow_succ, ← Nat.mul_assoc, Int.natCast_mul]]
            rfl
          · rintro σ H5 ⟨⟨v4, rfl⟩, rfl⟩
            have e3 : Tn * tpN ls j * m ^ ((m : Int) - 2).toNat = Tn * tpN ls (j + 1) := by
              rw [tpN_succ hm, Nat.mul_assoc, show ((m : Int) - 2).toNat = m - 2 by omega]
            rw [e3]
            refine ⟨_, rfl, 2, _, rfl, ⟨by decide, by decide, by omega, by omega⟩, for_range (fun i σ H6 => (∃ v4, σ = [some (.ref t), some (.ref q), some (.int (Tn * tpN ls (j + 1) : Nat)), some (.int (btN ls j * fcN (i + 1) : Nat)), v4, some (.int (m : Int))]) ∧ H6 = H5) ⟨⟨_, by rw [show fcN (0 + 1) = 1 from rfl, Nat.mul_one]⟩, rfl⟩ ?_ ?_⟩
            · rintro i σ H6 hi ⟨⟨v4, rfl⟩, rfl⟩
              refine ⟨_, rfl, _, rfl, _, _, rfl, rfl, .inr ⟨by omega, by omega⟩, ⟨some (.int (2 + (i : Int))), ?_⟩, rfl⟩
              rw [show ((btN ls j * fcN (i + 1 + 1) : Nat) : Int) = ((btN ls j * fcN (i + 1) : Nat) : Int) * (2 + (i : Int)) by show ((btN ls j * (fcN (i + 1) * (i + 1 + 1)) : Nat) : Int) = _; rw [← Nat.mul_assoc, Int.natCast_mul]; congr 1; omega]
              rfl
            · rintro σ H6 ⟨⟨v4, rfl⟩, rfl⟩
              refine ⟨⟨v4, some (.int (m : Int)), ?_⟩, rfl⟩
              have e4 : btN ls j * fcN (((m : Int) - 2).toNat + 1) = btN ls (j + 1) := by
                rw [btN_succ hm]
                congr 1
                by_cases z : m = 1
                · subst z; rfl
                · rw [show ((m : Int) - 2).toNat + 1 = m - 1 by omega]
              rw [e4]
        · rintro σ H4 ⟨⟨u4, u5, rfl⟩, rfl⟩
          rw [List.length_map]
          have bb := btN_le (fun m hm => (l6 m hm).1) ls.length (Nat.le_refl _)
          have b2 : 120 ^ ls.length ≤ 120 ^ 6 := Nat.pow_le_pow_right (by decide) lsl
          have b3 : (120 ^ 6 : Nat) < 2 ^ 64 := by decide
          refine ⟨_, rfl, _, rfl, _, _, rfl, rfl, ⟨by omega, by omega⟩, ?_⟩
          have := k H4 (s1.trans s2)
          rw [mkL_eq, hT, Int.natCast_ediv] at this
          exact this
end
end Sw
namespace Sw
open PySem L2
theorem Exs.take {H : Hp} : ∀ {vs : List V} {r : List (Int × Int)} (k : Nat), Exs H vs r → Exs H (vs.take k) (r.take k)
  | _, _, _, .nil => by rw [List.take_nil, List.take_nil]; exact .nil
  | _, _, 0, .cons _ _ => .nil
  | _, _, k + 1, .cons h x => .cons h (x.take k)
theorem Exs.drop {H : Hp} : ∀ {vs : List V} {r : List (Int × Int)} (k : Nat), Exs H vs r → Exs H (vs.drop k) (r.drop k)
  | _, _, _, .nil => by rw [List.drop_nil, List.drop_nil]; exact .nil
  | _, _, 0, .cons h x => .cons h x
  | _, _, k + 1, .cons h x => x.drop k
end Sw
namespace Sw
open PySem L2
def spLsR : Sp := fun vs H Q _ => ∃ (p : Addr) (c : Nat) (t : Addr) (n : Int) (xs : List Int), vs = [.ref p, .ref t] ∧ Purse H p c ∧ c ≤ 80000 ∧ H t = some (.tup (xs.map V.int)) ∧ Ord n xs ∧ 1 ≤ n ∧ n ≤ 50 ∧
  ∀ l es row H', H l = none → H' l = some (.lst es) → Exs H' es row → Good n row → ledM n row = xs → row.length + cnt n xs = n.toNat → Purse H' p (c + 400) → SameX p H H' → Q (.ref l) H'
structure TLs (P : Program) (w : World) (K : PySem.W.Frag) (mg : Str → Option Value) (base : Heap) : Prop extends T1 mg K where
  b_min : mg "min" = none
  b_max : mg "max" = none
  f__law_take : FnAt P w K mg base "_law_take" 1 ["_law_purse_here", "_law_many_here"] spTake
  f__law_rounds : FnAt P w K mg base "_law_rounds" 1 ["_law_order_here"] spRounds
theorem cnt_leR (n : Int) (xs : List Int) : cnt n xs ≤ n.toNat := by
  unfold cnt
  have := List.length_filter_le (least xs) (ivl 1 (n + 1))
  rw [ivl_length] at this
  omega
theorem all_home {n : Int} {gs : List Int} (o : Ord n gs) (h : ∀ r ∈ rndM n gs, r.length ≤ 1) : gs = ivl 1 (n + 1) := by
  refine ord_ext o.length (by rw [ivl_length]; omega) fun x h1 h2 => ?_
  have e : ld (ivl 1 (n + 1)) x = x := (nil_rnds n).rest x h1 h2 (by simp)
  rw [e]
  obtain ⟨m, hm, hl, _⟩ := low_ex o h1 h2
  have b := orb_in o h1 h2 hm
  have hr : orb gs m ∈ rndM n gs := by
    unfold rndM
    exact List.mem_map_of_mem (List.mem_filter.mpr ⟨mem_ivl.mpr ⟨b.1, by omega⟩, hl⟩)
  have l1 := h _ hr
  have one : ∀ y, y ∈ orb gs m → y = m := fun y hy => by
    have hm' : m ∈ orb gs m := orb_self m
    generalize orb gs m = q at l1 hy hm'
    cases q with
    | nil => cases hy
    | cons k r =>
      cases r with
      | nil => rw [List.mem_singleton.mp hy, List.mem_singleton.mp hm']
      | cons k' r => rw [List.length_cons, List.length_cons] at l1; omega
  have xm := one x (orb_sym o h1 h2 hm)
  rw [xm]
  exact one _ (orb_go o b.1 b.2 (orb_self m))
theorem two_in {n : Int} {gs : List Int} (o : Ord n gs) {m x y : Int} (m1 : 1 ≤ m) (m2 : m ≤ n) (hx : x ∈ orb gs m) (hy : y ∈ orb gs m) (ne : x ≠ y) : 1 ≤ (if y < x then y else x) ∧ (if y < x then y else x) < (if y > x then y else x) ∧ (if y > x then y else x) ≤ n ∧ (if y > x then y else x) ∈ orb gs (if y < x then y else x) := by
  have bx := orb_in o m1 m2 hx
  have by_ := orb_in o m1 m2 hy
  have xy : y ∈ orb gs x := orb_trans o bx.1 bx.2 (orb_sym o m1 m2 hx) hy
  have yx : x ∈ orb gs y := orb_sym o bx.1 bx.2 xy
  by_cases c : y < x
  · rw [if_pos c, if_neg (by omega)]
    exact ⟨by_.1, c, bx.2, yx⟩
  · rw [if_neg c, if_pos (by omega)]
    exact ⟨bx.1, by omega, by_.2, xy⟩
theorem oth_ne {i r : Int} {k : Nat} (h0 : 0 ≤ i) (h1 : i < k) (r0 : 0 ≤ r) (r1 : r < (k : Int) - 1) : 0 ≤ (i + 1 + r) % (k : Int) ∧ (i + 1 + r) % (k : Int) < k ∧ (i + 1 + r) % (k : Int) ≠ i := by
  by_cases c : i + 1 + r < k
  · rw [Int.emod_eq_of_lt (by omega) c]; omega
  · have e : (i + 1 + r) % (k : Int) = i + 1 + r - k := by
      rw [← Int.sub_emod_right, Int.emod_eq_of_lt (by omega) (by omega)]
    rw [e]; omega
theorem at_ref' {ws : List V} {i : Int} {v : V} (h0 : 0 ≤ i) (h : ws[i.toNat]? = some v) : atI ws i = some v := by
  have e : ((i.toNat : Nat) : Int) = i := Int.toNat_of_nonneg h0
  rw [← e]
  exact atI_nat h
def big1 (r : List Int) : Bool := decide (1 < r.length)
def WI (p t lw : Addr) (c : Nat) (n : Int) (xs : List Int) (H : Hp) (m : Nat) (σ : St) (H' : Hp) : Prop := ∃ (lg lf : Addr) (zs : List V) (gs : List Int) (es : List V) (row : List (Int × Int)) (v5 v6 v7 v8 v9 : Option V), m = n.toNat - cnt n gs ∧ σ = [some (.ref p), some (.ref t), some (.ref lw), some (.ref lg), some (.ref lf), v5, v6, v7, v8, v9] ∧ SameX p H H' ∧ H' lw = some (.lst es) ∧ Exs H' es row ∧ Good n row ∧ H' lg = some (.lst (gs.map V.int)) ∧ lw ≠ lg ∧ p ≠ lg ∧
  Ord n gs ∧ gs.map (go row) = xs ∧ cnt n gs = cnt n xs + row.length ∧ H' lf = some (.lst zs) ∧ p ≠ lf ∧ Lsts H' zs ((rndM n gs).filter big1) ∧ V.ref p ∉ zs ∧ Purse H' p (c + 3 * row.length)
section
variable {P : Program} {w : World} {K : PySem.W.Frag} {mg : Str → Option Value} {base : Heap}
theorem sc__law_least_row : FnScope ["_law_purse_here", "_law_order_here", "_law_row", "_law_goals", "_law_rounds_left", "_law_some", "_law_one", "_law_other", "_law_a", "_law_b"] ["_law_purse_here", "_law_order_here"] (defScope (top 20)) := ⟨rfl, rfl, rfl, by decide +kernel, rfl, by decide +kernel, by decide +kernel⟩
theorem ok_lsr {f : Addr} {fd : FuncData} (F : Fun K "_law_least_row" "_law_least_row" (top 20) f fd) (T : TLs P w K mg base) : FnOk P w K mg base CX0 2 f fd ["_law_purse_here", "_law_order_here"] spLsR := by
  refine F.ok sc__law_least_row (fun vs H Q E h => ?_) (fun cdv A outer s H vs Q E hr h => ?_)
  · obtain ⟨p, c, t, n, xs, rfl, _⟩ := h
    rfl
  · obtain ⟨p, c, t, n, xs, rfl, pu, hc, ht, o, n1, n2, k⟩ := h
    have hu := hu_of hr
    refine ⟨_, (pss_cons (ps_set (i := 2) sc__law_least_row.nd rfl (Or.inl rfl) (pe_lst pa_nil))
      (pss_cons (ps_set (i := 3) sc__law_least_row.nd rfl (Or.inl rfl) (pe_callTy (call_list_ofK (K := K) rfl) rfl T.b_list (by decide +kernel) (pa_cons (pv 1) pa_nil)))
      (pss_cons (ps_comp (i := 4) sc__law_least_row.nd rfl rfl (N := (["_law_some"] : List Str)) (ix := ([none] : List (Option Nat))) (comp_ok rfl rfl) rfl (pi_listK (K := K) rfl (pe_callF T.f__law_rounds (hr.mono (by first | decide | omega)) rfl (pa_cons (pe_callTy (call_tuple_ofK (K := K) rfl) rfl T.b_tuple (by decide +kernel) (pa_cons (pv 3) pa_nil)) pa_nil))) (fun _ _ _ _ => (pg_name (i := 0) (show List.Nodup (["_law_some"] : List Str) from by decide +kernel) rfl (Or.inl rfl))) (fun _ _ _ _ => (pif_one (pt_cmpR op_gt (pe_callB (call_lenK (K := K) rfl) rfl T.b_len (by decide +kernel) (pa_cons (pv 0) pa_nil)) pe_int (nomark _)))) (fun _ _ _ _ => (pv 0)))
      (pss_cons (ps_while PassesOwn.never (pt_cmpR op_gt (pe_callB (call_lenK (K := K) rfl) rfl T.b_len (by decide +kernel) (pa_cons (pv 4) pa_nil)) pe_int (nomark _)) (pss_cons (ps_set (i := 5) sc__law_least_row.nd rfl (Or.inl rfl) (pe_ix (ix_listK (K := K) rfl) (pv 4) (pe_callF T.f__law_take (hr.mono (by first | decide | omega)) rfl (pa_cons (pv 0) (pa_cons (pe_callB (call_lenK (K := K) rfl) rfl T.b_len (by decide +kernel) (pa_cons (pv 4) pa_nil)) pa_nil))) (fun _ _ => rfl)))
      (pss_cons (ps_set (i := 6) sc__law_least_row.nd rfl (Or.inl rfl) (pe_callF T.f__law_take (hr.mono (by first | decide | omega)) rfl (pa_cons (pv 0) (pa_cons (pe_callB (call_lenK (K := K) rfl) rfl T.b_len (by decide +kernel) (pa_cons (pv 5) pa_nil)) pa_nil))))
      (pss_cons (ps_set (i := 7) sc__law_least_row.nd rfl (Or.inl rfl) (pe_op op_mod (pe_op op_add (pe_op op_add (pv 6) pe_int) (pe_callF T.f__law_take (hr.mono (by first | decide | omega)) rfl (pa_cons (pv 0) (pa_cons (pe_op op_sub (pe_callB (call_lenK (K := K) rfl) rfl T.b_len (by decide +kernel) (pa_cons (pv 5) pa_nil)) pe_int) pa_nil)))) (pe_callB (call_lenK (K := K) rfl) rfl T.b_len (by decide +kernel) (pa_cons (pv 5) pa_nil))))
      (pss_cons (ps_set (i := 8) sc__law_least_row.nd rfl (Or.inr rfl) (pe_callB (call_min2 rfl) rfl T.b_min (by decide +kernel) (pa_cons (pe_ix (ix_listK (K := K) rfl) (pv 5) (pv 6) (fun _ _ => rfl)) (pa_cons (pe_ix (ix_listK (K := K) rfl) (pv 5) (pv 7) (fun _ _ => rfl)) pa_nil))))
      (pss_cons (ps_set (i := 9) sc__law_least_row.nd rfl (Or.inr rfl) (pe_callB (call_max2 rfl) rfl T.b_max (by decide +kernel) (pa_cons (pe_ix (ix_listK (K := K) rfl) (pv 5) (pv 6) (fun _ _ => rfl)) (pa_cons (pe_ix (ix_listK (K := K) rfl) (pv 5) (pv 7) (fun _ _ => rfl)) pa_nil))))
      (pss_cons (ps_comp (i := 3) sc__law_least_row.nd rfl rfl (N := (["_law_goal", "_law_a", "_law_b"] : List Str)) (ix := ([none, some 8, some 9] : List (Option Nat))) (comp_ok rfl rfl) rfl (pi_listK (K := K) rfl (pv 3)) (fun _ _ _ _ => (pg_name (i := 0) (show List.Nodup (["_law_goal", "_law_a", "_law_b"] : List Str) from by decide +kernel) rfl (Or.inl rfl))) (fun _ _ _ _ => pif_nil) (fun _ _ _ _ => (pe_dget2 hu (pe_disp (pps_cons (pv 1) (pv 2) (pps_cons (pv 2) (pv 1) pps_nil)) rfl rfl (by simp) (by decide)) (pv 0) (pv 0) ⟨rfl, rfl, rfl, rfl⟩)))
      (pss_cons (ps_expr (pe_bmK (K := K) rfl PySem.F.plainAttrs_list PySem.F.slot_list_insert PySem.F.type_list_insert mt_insert (pv 2) (pa_cons pe_int (pa_cons (pe_tup (pa_cons (pv 8) (pa_cons (pv 9) pa_nil))) pa_nil))))
      (pss_one (ps_comp (i := 4) sc__law_least_row.nd rfl rfl (N := (["_law_some"] : List Str)) (ix := ([none] : List (Option Nat))) (comp_ok rfl rfl) rfl (pi_listK (K := K) rfl (pe_callF T.f__law_rounds (hr.mono (by first | decide | omega)) rfl (pa_cons (pe_callTy (call_tuple_ofK (K := K) rfl) rfl T.b_tuple (by decide +kernel) (pa_cons (pv 3) pa_nil)) pa_nil))) (fun _ _ _ _ => (pg_name (i := 0) (show List.Nodup (["_law_some"] : List Str) from by decide +kernel) rfl (Or.inl rfl))) (fun _ _ _ _ => (pif_one (pt_cmpR op_gt (pe_callB (call_lenK (K := K) rfl) rfl T.b_len (by decide +kernel) (pa_cons (pv 0) pa_nil)) pe_int (nomark _)))) (fun _ _ _ _ => (pv 0))))))))))))
      (pss_one (ps_ret (pv 2))))))), ?_⟩
    have big : (10000000 : Nat) ≤ sizeLine := by decide
    refine ⟨Nat.zero_le _, fun lw flw => ?_⟩
    have sw := Same.new (o := .lst []) flw
    refine ⟨_, rfl, t, _, rfl, .inr (SqT.of (sw _ _ ht)), fun lg flg => ?_⟩
    have sg := Same.new (o := .lst (xs.map V.int)) flg
    have fg0 : H lg = none := sw.free flg
    have npw : p ≠ lw := pu.ne flw
    have npg : p ≠ lg := pu.ne fg0
    have ngw : lw ≠ lg := ne_of_none (upd_same (H := H) (a := lw) (o := .lst [])) flg
    have hw1 := sg _ _ (upd_same (H := H) (a := lw) (o := .lst []))
    have hg1 := upd_same (H := upd H lw (.lst [])) (a := lg) (o := .lst (xs.map V.int))
    have s1 := sw.trans sg
    generalize upd (upd H lw (.lst [])) lg (.lst (xs.map V.int)) = H1 at hw1 hg1 s1 sg ⊢
    have pu1 := pu.keep s1
    refine ⟨_, rfl, lg, _, rfl, .inl ⟨SqL.of hg1, fun tg ftg => ?_⟩⟩
    have zt := Same.new (o := .tup (xs.map V.int)) ftg
    refine ⟨tg, n, xs, rfl, upd_same, o, by omega, fun lr wr Hr flr hlr xr frr nlr zr => ⟨lr, rfl, ⟨_, SqL.of hlr⟩, ?_⟩⟩
    have wl := xr.length
    have rl := rnd_len (n := n) (xs := xs) (by omega)
    refine compLif (K := K) (a := lr) (xs := wr) (k := 0) (fun i zs σ' H'' => (∃ v, σ' = [v]) ∧ H'' = Hr ∧ zs.Sublist (wr.take i) ∧ Lsts Hr zs (((rndM n xs).take i).filter big1)) (by omega) ⟨⟨none, rfl⟩, rfl, List.nil_sublist _, .nil⟩ (fun i zs σ' H'' _ q => by rw [q.2.1]; exact SqL.of hlr) (fun i zs σ' H'' q => by have := q.2.2.1.length_le; rw [List.length_take] at this; omega) ?_ ?_
    · rintro i zs σ' H'' x R hx ⟨⟨v, rfl⟩, rfl, sb, lx⟩ done
      obtain ⟨a, ns, rfl, ha, hns⟩ := xr.get hx
      have et : ((rndM n xs).take (i + 1)).filter big1 = ((rndM n xs).take i).filter big1 ++ [ns].filter big1 := by rw [List.take_succ, hns, List.filter_append]; rfl
      have es' : wr.take (i + 1) = wr.take i ++ [V.ref a] := by rw [List.take_succ, hx]; rfl
      refine ⟨_, rfl, a, _, rfl, .inl (SqL.of ha), _, _, rfl, rfl, _, rfl, ite2 (fun c => ?_) (fun c => ?_)⟩
      · have c : big1 ns = true := by
          have := of_decide_eq_true c
          rw [List.length_map] at this
          exact decide_eq_true (by omega)
        refine ⟨_, rfl, done _ _ _ ⟨⟨_, rfl⟩, rfl, ?_, ?_⟩⟩
        · rw [es']; exact sb.append (List.Sublist.refl _)
        · rw [et, List.filter_cons, if_pos c]; exact lx.snoc ha
      · have c : big1 ns = false := by
          have c : (ns.length : Int) ≤ 1 := by simpa using c
          exact decide_eq_false (by omega)
        refine done _ _ _ ⟨⟨_, rfl⟩, rfl, ?_, ?_⟩
        · rw [es']; exact sb.trans (List.sublist_append_left _ _)
        · rw [et, List.filter_cons, if_neg (by rw [c]; exact Bool.false_ne_true)]; rw [List.filter_nil, List.append_nil]; exact lx
    rintro zs σ' H'' ll ⟨⟨v, rfl⟩, rfl, sb, lx⟩ fll
    rw [List.take_of_length_le (by omega)] at lx sb
    have zl := Same.new (o := .lst zs) fll
    have zall := zt.trans (zr.trans zl)
    have pz : ∀ v, v ∈ zs → ∃ a, v = V.ref a ∧ H1 a = none := fun v hv => by
      obtain ⟨a, e, h⟩ := frr.2 v (sb.subset hv)
      exact ⟨a, e, zt.free h⟩
    have fll0 : H1 ll = none := (zt.trans zr).free fll
    have hll : upd H'' ll (.lst zs) ll = some (.lst zs) := upd_same
    have lx2 := lx.keep zl
    generalize upd H'' ll (.lst zs) = HL at zall hll lx2 ⊢
    clear zl zt zr fll lx sb frr nlr xr hlr flr ftg
    refine ⟨WI p t lw c n xs H, ⟨_, lg, ll, zs, xs, [], [], _, _, _, _, _, rfl, rfl, (s1.trans zall).x, zall _ _ hw1, .nil, (fun e he => (by cases he)), zall _ _ hg1, ngw, npg, o, ?_, rfl, hll, fun z => ?_, lx2, fun z => ?_, pu1.keep zall⟩, ?_⟩
    · exact List.map_id' xs
    · subst z; obtain ⟨_, e⟩ := pu1.at; rw [fll0] at e; cases e
    · obtain ⟨a, e, h⟩ := pz _ z
      cases e
      obtain ⟨_, e⟩ := pu1.at
      rw [h] at e
      cases e
    clear hll lx2 pz zall HL fll0 ll zs hg1 hw1 sg s1 pu1 H1 npg ngw fg0 flg lg
    rintro m σ H1 ⟨lg, lf, zs, gs, es, row, v5, v6, v7, v8, v9, rfl, rfl, s1, hw1, xe1, gr, hg1, ngw, npg, og, hgo, hcnt, hf1, npf, xz1, nz, pu1⟩
    have cl := cnt_leR n gs
    have rl50 := rnd_len (n := n) (xs := gs) (by omega)
    have zl := xz1.length
    have fle := List.length_filter_le big1 (rndM n gs)
    refine ⟨_, rfl, lf, _, rfl, .inl (SqL.of hf1), _, _, rfl, rfl, _, rfl, ite2 (fun c1 => ?_) (fun c1 => ?_)⟩
    · have c1 : 0 < zs.length := by have := of_decide_eq_true c1; omega
      refine ⟨fun σ' H' => ∃ m', m' < n.toNat - cnt n gs ∧ WI p t lw c n xs H m' σ' H', fun σ' H' z => z, ?_⟩
      refine ⟨_, rfl, _, rfl, _, rfl, lf, _, rfl, .inl (SqL.of hf1), p, _, _, rfl, pu1, by omega, by omega, by omega, fun r1 H2 r10 r11 pu2 s2 => ?_⟩
      have xz2 : Lsts H2 zs ((rndM n gs).filter big1) := xz1.stay fun hb e => s2 _ _ (fun z => nz (z ▸ hb)) e
      obtain ⟨y, hy⟩ : ∃ y, zs[r1.toNat]? = some y := ⟨_, List.getElem?_eq_getElem (by omega)⟩
      obtain ⟨sa, r, rfl, ha2, hrr⟩ := xz2.get hy
      have nsp : sa ≠ p := fun z => nz (z ▸ List.mem_of_getElem? hy)
      have hrm := List.mem_filter.mp (List.mem_of_getElem? hrr)
      have r1l : 1 < r.length := of_decide_eq_true hrm.2
      have r50 := rnd_each og (by omega) hrm.1
      refine ⟨lf, _, _, _, rfl, rfl, SqL.of (s2 _ _ npf.symm hf1), at_ref' r10 hy, ?_⟩
      refine ⟨_, rfl, _, rfl, sa, _, rfl, .inl (SqL.of ha2), p, _, _, rfl, pu2, by omega, by rw [List.length_map]; omega, by rw [List.length_map]; omega, fun r2 H3 r20 r21 pu3 s3 => ?_⟩
      rw [List.length_map] at r21
      have ha3 := s3 _ _ nsp ha2
      refine ⟨_, rfl, _, _, rfl, rfl, _, rfl, _, rfl, sa, _, rfl, .inl (SqL.of ha3), _, _, rfl, rfl, p, _, _, rfl, pu3, by omega, by rw [List.length_map]; omega, by rw [List.length_map]; omega, fun r3 H4 r30 r31 pu4 s4 => ?_⟩
      rw [List.length_map] at r31
      have ha4 := s4 _ _ nsp ha3
      refine ⟨_, _, rfl, rfl, _, rfl, sa, _, rfl, .inl (SqL.of ha4), _, _, rfl, rfl, (by show (0 : Int) < ((r.map V.int).length : Int); rw [List.length_map]; omega), ?_⟩
      obtain ⟨io, hio⟩ : ∃ io : Int, (r2 + 1 + r3) % ((r.map V.int).length : Int) = io := ⟨_, rfl⟩
      have q := oth_ne r20 r21 r30 r31
      rw [List.length_map] at hio
      rw [hio] at q
      rw [List.length_map]
      show gName 7 (V.int ((r2 + 1 + r3) % (r.length : Int))) _ _ _
      rw [hio]
      obtain ⟨x, hx⟩ := get_lt (ns := r) (k := r2.toNat) (by omega)
      obtain ⟨y, hy'⟩ := get_lt (ns := r) (k := io.toNat) (by omega)
      obtain ⟨md, hmd, em⟩ : ∃ md, md ∈ (ivl 1 (n + 1)).filter (least gs) ∧ orb gs md = r := by
        have := hrm.1
        unfold rndM at this
        obtain ⟨md, h1, h2⟩ := List.mem_map.mp this
        exact ⟨md, h1, h2⟩
      have mb := mem_ivl.mp (List.mem_filter.mp hmd).1
      have xne : x ≠ y := fun z => by
        subst z
        have nd := orb_nodup og mb.1 (by omega : md ≤ n)
        rw [em] at nd
        obtain ⟨b1, e1⟩ := List.getElem?_eq_some_iff.mp hx
        obtain ⟨b2, e2⟩ := List.getElem?_eq_some_iff.mp hy'
        have := (List.getElem_inj nd).mp (e1.trans e2.symm)
        omega
      have tw := two_in og mb.1 (by omega : md ≤ n) (by rw [em]; exact List.mem_of_getElem? hx) (by rw [em]; exact List.mem_of_getElem? hy') xne
      refine ⟨_, rfl, _, rfl, sa, _, _, _, rfl, rfl, SqL.of ha4, at_int r20 hx, _, rfl, _, rfl, sa, _, _, _, rfl, rfl, SqL.of ha4, at_int q.1 hy', _, _, rfl, ?_⟩
      refine ⟨_, rfl, _, rfl, sa, _, _, _, rfl, rfl, SqL.of ha4, at_int r20 hx, _, rfl, _, rfl, sa, _, _, _, rfl, rfl, SqL.of ha4, at_int q.1 hy', _, _, rfl, ?_⟩
      obtain ⟨ea, hea⟩ : ∃ ea : Int, (if y < x then y else x) = ea := ⟨_, rfl⟩
      obtain ⟨eb, heb⟩ : ∃ eb : Int, (if y > x then y else x) = eb := ⟨_, rfl⟩
      rw [hea, heb] at tw
      rw [hea, heb]
      obtain ⟨g1, g2, g3, g4⟩ := tw
      have s14 := s1.trans ((s2.trans s3).trans s4)
      have hg4 := s4 _ _ npg.symm (s3 _ _ npg.symm (s2 _ _ npg.symm hg1))
      have hw4 := s4 _ _ npw.symm (s3 _ _ npw.symm (s2 _ _ npw.symm hw1))
      have xe4 := SameX.exs s4 pu3 (SameX.exs s3 pu2 (SameX.exs s2 pu1 xe1))
      have gl := og.length
      -- the goals exchanged
      refine ⟨_, rfl, lg, rfl, ⟨_, SqL.of hg4⟩, compL (K := K) (a := lg) (xs := gs.map V.int) (k := 0) (fun j ys σ' H' => ys = ((gs.take j).map (swp · (ea, eb))).map V.int ∧ (∃ v, σ' = [v, some (.int ea), some (.int eb)]) ∧ Same H4 H') (by rw [List.length_map]; omega) ⟨rfl, ⟨none, rfl⟩, Same.refl _⟩ (fun j ys σ' H' _ z => SqL.of (z.2.2 _ _ hg4)) (fun j ys σ' H' z => by rw [z.1, List.length_map, List.length_map, List.length_take]; omega) ?_ ?_⟩
      · rintro j ys σ' H' v R hv ⟨rfl, ⟨v0, rfl⟩, sj⟩ done
        obtain ⟨z, rfl, hz⟩ := mem_int hv
        refine fun pd fpd => ?_
        refine ⟨_, rfl, _, rfl, _, rfl, _, rfl, upd_same, [(Sum.inl ea, .int eb), (Sum.inl eb, .int ea)], rfl, (show 2 ≤ 15 by decide), pd, rfl, .inl ⟨_, .inl upd_same⟩, _, rfl, _, rfl, _, DGet.k (k := (Sum.inl z : Key)) upd_same, ?_⟩
        rw [dict_swp ea eb z (by omega), upd_upd]
        refine done _ _ _ ⟨?_, ⟨_, rfl⟩, sj.trans (Same.new fpd)⟩
        rw [List.take_succ, hz, List.map_append, List.map_append]
        rfl
      rintro ys σ' H5 lg' ⟨rfl, ⟨v0, rfl⟩, s5⟩ flg'
      rw [List.length_map, List.take_length]
      have og' := ord_swp og g1 g2 g3
      have cc := cut_in og g1 g2 g3 g4
      have nw5 : lw ≠ lg' := ne_of_none (s5 _ _ hw4) flg'
      have np5 : p ≠ lg' := (pu4.keep s5).ne flg'
      have fg' : H lg' = none := free_of s14 np5 (s5.free flg')
      have s6 := s5.trans (Same.new (o := .lst ((gs.map (swp · (ea, eb))).map V.int)) flg')
      have hg6 : upd H5 lg' (.lst ((gs.map (swp · (ea, eb))).map V.int)) lg' = some (.lst ((gs.map (swp · (ea, eb))).map V.int)) := upd_same
      have hw6 := s6 _ _ hw4
      have xe6 := xe4.keep (Same.tups s6)
      have pu6 := pu4.keep s6
      have s06 := s14.trans s6.x
      generalize upd H5 lg' (.lst ((gs.map (swp · (ea, eb))).map V.int)) = H6 at s6 hg6 hw6 xe6 pu6 s06 ⊢
      clear s5 xe4 hw4 hg4 hg1 hw1
      -- the row
      have el := xe6.length
      have cn := cnt_leR n (gs.map (swp · (ea, eb)))
      refine ⟨_, rfl, .inl ⟨rfl, _, SqL.of hw6⟩, _, rfl, _, rfl, (by show 2 ≤ sizeLine; decide), fun te fte => ⟨lw, _, 0, _, rfl, rfl, Same.new fte _ _ hw6, Int.le_refl _, by omega, by omega, ?_⟩⟩
      have st := Same.new (o := .tup [V.int ea, V.int eb]) fte
      have npt : p ≠ te := pu6.ne fte
      have fte0 : H te = none := free_of s06 npt fte
      have tk : ∀ b ys, upd H6 te (.tup [V.int ea, V.int eb]) b = some (.tup ys) → upd (upd H6 te (.tup [V.int ea, V.int eb])) lw (.lst (es.take (0 : Int).toNat ++ V.ref te :: es.drop (0 : Int).toNat)) b = some (.tup ys) := fun b ys e => by
        rw [upd_ne (ne_of e (st _ _ hw6) (by intro z; cases z))]
        exact e
      have hw7 : upd (upd H6 te (.tup [V.int ea, V.int eb])) lw (.lst (es.take (0 : Int).toNat ++ V.ref te :: es.drop (0 : Int).toNat)) lw = some (.lst (V.ref te :: es)) := upd_same
      have hg7 : upd (upd H6 te (.tup [V.int ea, V.int eb])) lw (.lst (es.take (0 : Int).toNat ++ V.ref te :: es.drop (0 : Int).toNat)) lg' = some (.lst ((gs.map (swp · (ea, eb))).map V.int)) := by rw [upd_ne nw5.symm]; exact st _ _ hg6
      have xe7 : Exs (upd (upd H6 te (.tup [V.int ea, V.int eb])) lw (.lst (es.take (0 : Int).toNat ++ V.ref te :: es.drop (0 : Int).toNat))) (V.ref te :: es) ((ea, eb) :: row) := .cons (tk _ _ upd_same) ((xe6.keep (Same.tups st)).keep tk)
      have pu7 : Purse (upd (upd H6 te (.tup [V.int ea, V.int eb])) lw (.lst (es.take (0 : Int).toNat ++ V.ref te :: es.drop (0 : Int).toNat))) p _ := (pu6.upd npt).upd npw
      have s07 : SameX p H (upd (upd H6 te (.tup [V.int ea, V.int eb])) lw (.lst (es.take (0 : Int).toNat ++ V.ref te :: es.drop (0 : Int).toNat))) := SameX.put (SameX.put s06 fte0) flw
      generalize upd (upd H6 te (.tup [V.int ea, V.int eb])) lw (.lst (es.take (0 : Int).toNat ++ V.ref te :: es.drop (0 : Int).toNat)) = H7 at hw7 hg7 xe7 pu7 s07 tk ⊢
      clear tk
      refine ⟨_, rfl, lg', _, rfl, .inl ⟨SqL.of hg7, fun tg ftg => ?_⟩⟩
      have zt := Same.new (o := .tup ((gs.map (swp · (ea, eb))).map V.int)) ftg
      refine ⟨tg, n, (gs.map (swp · (ea, eb))), rfl, upd_same, og', by omega, fun lr wr Hr flr hlr xr frr nlr zr => ⟨lr, rfl, ⟨_, SqL.of hlr⟩, ?_⟩⟩
      have wl := xr.length
      have rl := rnd_len (n := n) (xs := (gs.map (swp · (ea, eb)))) (by omega)
      refine compLif (K := K) (a := lr) (xs := wr) (k := 0) (fun i zs σ' H'' => (∃ v, σ' = [v]) ∧ H'' = Hr ∧ zs.Sublist (wr.take i) ∧ Lsts Hr zs (((rndM n (gs.map (swp · (ea, eb)))).take i).filter big1)) (by omega) ⟨⟨none, rfl⟩, rfl, List.nil_sublist _, .nil⟩ (fun i zs σ' H'' _ q => by rw [q.2.1]; exact SqL.of hlr) (fun i zs σ' H'' q => by have := q.2.2.1.length_le; rw [List.length_take] at this; omega) ?_ ?_
      · rintro i zs σ' H'' x R hx ⟨⟨v, rfl⟩, rfl, sb, lx⟩ done
        obtain ⟨a, ns, rfl, ha, hns⟩ := xr.get hx
        have et : ((rndM n (gs.map (swp · (ea, eb)))).take (i + 1)).filter big1 = ((rndM n (gs.map (swp · (ea, eb)))).take i).filter big1 ++ [ns].filter big1 := by rw [List.take_succ, hns, List.filter_append]; rfl
        have es' : wr.take (i + 1) = wr.take i ++ [V.ref a] := by rw [List.take_succ, hx]; rfl
        refine ⟨_, rfl, a, _, rfl, .inl (SqL.of ha), _, _, rfl, rfl, _, rfl, ite2 (fun c => ?_) (fun c => ?_)⟩
        · have c : big1 ns = true := by
            have := of_decide_eq_true c
            rw [List.length_map] at this
            exact decide_eq_true (by omega)
          refine ⟨_, rfl, done _ _ _ ⟨⟨_, rfl⟩, rfl, ?_, ?_⟩⟩
          · rw [es']; exact sb.append (List.Sublist.refl _)
          · rw [et, List.filter_cons, if_pos c]; exact lx.snoc ha
        · have c : big1 ns = false := by
            have c : (ns.length : Int) ≤ 1 := by simpa using c
            exact decide_eq_false (by omega)
          refine done _ _ _ ⟨⟨_, rfl⟩, rfl, ?_, ?_⟩
          · rw [es']; exact sb.trans (List.sublist_append_left _ _)
          · rw [et, List.filter_cons, if_neg (by rw [c]; exact Bool.false_ne_true)]; rw [List.filter_nil, List.append_nil]; exact lx
      rintro zs σ' H'' ll ⟨⟨v, rfl⟩, rfl, sb, lx⟩ fll
      rw [List.take_of_length_le (by omega)] at lx sb
      have zl := Same.new (o := .lst zs) fll
      have zall := zt.trans (zr.trans zl)
      have pz : ∀ v, v ∈ zs → ∃ a, v = V.ref a ∧ H7 a = none := fun v hv => by
        obtain ⟨a, e, h⟩ := frr.2 v (sb.subset hv)
        exact ⟨a, e, zt.free h⟩
      have fll0 : H7 ll = none := (zt.trans zr).free fll
      have hll : upd H'' ll (.lst zs) ll = some (.lst zs) := upd_same
      have lx2 := lx.keep zl
      generalize upd H'' ll (.lst zs) = HL at zall hll lx2 ⊢
      clear zl zt zr fll lx sb frr nlr xr hlr flr ftg
      refine ⟨n.toNat - cnt n (gs.map (swp · (ea, eb))), by omega, lg', ll, zs, gs.map (swp · (ea, eb)), V.ref te :: es, (ea, eb) :: row, _, _, _, _, _, rfl, rfl, s07.trans zall.x, zall _ _ hw7, xe7.keep (Same.tups zall), ?_, zall _ _ hg7, nw5, np5, og', ?_, ?_, hll, fun z => ?_, lx2, fun z => ?_, (pu7.keep zall).mono (by rw [List.length_cons]; omega) (by rw [List.length_cons]; omega)⟩
      · intro e he
        rcases List.mem_cons.mp he with rfl | he
        · exact ⟨g1, g2, g3⟩
        · exact gr e he
      · rw [← hgo, List.map_map]
        refine List.map_congr_left fun u _ => ?_
        show go row (swp (swp u (ea, eb)) (ea, eb)) = go row u
        rw [swp_swp]
      · rw [cc, hcnt, List.length_cons]; omega
      · subst z; obtain ⟨_, e⟩ := pu7.at; rw [fll0] at e; cases e
      · obtain ⟨a, e, h⟩ := pz _ z
        cases e
        obtain ⟨_, e⟩ := pu7.at
        rw [h] at e
        cases e
    · have c1 : zs = [] := by simpa using c1
      subst c1
      have em : (rndM n gs).filter big1 = [] := by
        have := xz1.length
        rw [List.length_nil] at this
        exact List.length_eq_zero_iff.mp this.symm
      have home := all_home og fun r hr => by
        have : ¬ big1 r = true := List.filter_eq_nil_iff.mp em r hr
        have : ¬ 1 < r.length := fun z => this (decide_eq_true z)
        omega
      have led : ledM n row = xs := by rw [← hgo, home]; rfl
      have cp : cnt n gs = n.toNat := by
        rw [home, ← ledM_nil]
        exact cnt_nil (by omega)
      exact ⟨_, rfl, k lw es row H1 flw hw1 xe1 gr led (by omega) (pu1.mono (by omega) (by omega)) s1⟩
end
end Sw
namespace Sw
open PySem L2
def spTold : Sp := fun vs H Q _ => ∃ (n : Int) (l : Addr) (es : List V) (row : List (Int × Int)), vs = [.int n, .ref l] ∧ H l = some (.lst es) ∧ Exs H es row ∧ Good n row ∧ ∀ H', Same H H' → Q (.bl true) H'
structure TTo (P : Program) (w : World) (K : PySem.W.Frag) (mg : Str → Option Value) (base : Heap) : Prop extends T1 mg K where
  f__law_wholes : FnAt P w K mg base "_law_wholes" 1 ["_law_thing"] (spWholes K)
section
variable {P : Program} {w : World} {K : PySem.W.Frag} {mg : Str → Option Value} {base : Heap}
theorem sc__law_is_told : FnScope ["_law_n", "_law_found", "_law_part"] ["_law_n", "_law_found"] (defScope (top 22)) := ⟨rfl, rfl, rfl, by decide +kernel, rfl, by decide +kernel, by decide +kernel⟩
theorem ok_told {f : Addr} {fd : FuncData} (F : Fun K "_law_is_told" "_law_is_told" (top 22) f fd) (T : TTo P w K mg base) : FnOk P w K mg base CX0 2 f fd ["_law_n", "_law_found"] spTold := by
  refine F.ok sc__law_is_told (fun vs H Q E h => ?_) (fun cdv A outer s H vs Q E hr h => ?_)
  · obtain ⟨n, l, es, row, rfl, _⟩ := h
    rfl
  · obtain ⟨n, l, es, row, rfl, hl, hx, hg, k⟩ := h
    refine ⟨_, (pss_cons (ps_if (pt_not (pt_val (pe_callB (call_isiK (K := K) rfl) rfl T.b_isinstance (by decide +kernel) (pa_cons (pv 1) (pa_cons (pe_bltn (v := .ty "list") rfl T.b_list (by decide +kernel) rfl) pa_nil))))) (pss_one (ps_ret pe_bl)) pss_nil)
      (pss_cons (ps_for PassesOwn.never rfl (pi_listK (K := K) rfl (pv 1)) (pg_name (i := 2) sc__law_is_told.nd rfl (Or.inl rfl)) (pss_one (ps_if (PW.pt (pw_or (pt_not (pt_val (pe_callB (call_isiK (K := K) rfl) rfl T.b_isinstance (by decide +kernel) (pa_cons (pv 2) (pa_cons (pe_bltn (v := .ty "tuple") rfl T.b_tuple (by decide +kernel) rfl) pa_nil))))) (pw_or (pt_cmpR op_ne (pe_callB (call_lenK (K := K) rfl) rfl T.b_len (by decide +kernel) (pa_cons (pv 2) pa_nil)) pe_int (nomark _)) (pw_or (pt_not (pt_val (pe_callF T.f__law_wholes (hr.mono (by first | decide | omega)) rfl (pa_cons (pv 2) pa_nil)))) (pw_or1 (pt_not (pt_chain3 op_le op_lt op_le pe_int (pe_ix (ix_tupK (K := K) rfl) (pv 2) pe_int (fun _ _ => rfl)) (pe_ix (ix_tupK (K := K) rfl) (pv 2) pe_int (fun _ _ => rfl)) (pv 0)))))))) (pss_one (ps_ret pe_bl)) pss_nil)))
      (pss_one (ps_ret pe_bl)))), ?_⟩
    have tl : TyOf K H (.ref l) (.type "list") := TyOf.lst hl
    refine ⟨_, rfl, _, _, "list", _, rfl, tl, kit_self _ _, true, rfl, iteF ?_⟩
    refine ⟨_, rfl, l, rfl, ⟨_, SqL.of hl⟩, for_list (K := K) (a := l) (xs := es) (fun i σ H' => (∃ v2, σ = [some (.int n), some (.ref l), v2]) ∧ Same H H') ⟨⟨_, rfl⟩, Same.refl _⟩ (fun i σ H' _ q => SqL.of (q.2 _ _ hl)) ?_ ?_⟩
    · rintro i x σ H' hi ⟨⟨v2, rfl⟩, s1⟩
      obtain ⟨t, a, b, rfl, ht, hr'⟩ := hx.get hi
      have g := hg (a, b) (List.mem_of_getElem? hr')
      simp only at g
      have ht1 := s1 _ _ ht
      have td : DT H' (fun _ => True) (.ref t) (.tuple [.int a, .int b]) := .tup ht1 trivial (.cons (.int a) (.cons (.int b) .nil))
      refine ⟨_, rfl, _, _, "tuple", _, rfl, td.ty, kit_tuple K td, true, rfl, iteF ?_⟩
      refine ⟨_, rfl, t, _, rfl, .inr (SqT.of ht1), rfl, _, rfl, iteE (by rfl) ?_⟩
      refine ⟨_, rfl, t, [a, b], rfl, ht1, (by show 2 ≤ 1000; decide), fun H2 s2 => ⟨true, rfl, iteF ?_⟩⟩
      have ht2 := s2 _ _ ht1
      refine ⟨_, rfl, t, _, 0, _, rfl, rfl, SqT.of ht2, rfl, _, _, rfl, rfl, _, rfl, ?_⟩
      rw [decide_eq_true g.1]
      refine iteT ⟨_, rfl, t, _, 1, _, rfl, rfl, SqT.of ht2, rfl, _, _, rfl, rfl, _, rfl, ?_⟩
      rw [decide_eq_true g.2.1]
      refine iteT ⟨_, rfl, _, _, rfl, rfl, _, rfl, iteE (by rw [decide_eq_true g.2.2]; rfl) ?_⟩
      exact ⟨⟨_, rfl⟩, s1.trans s2⟩
    · rintro σ H' ⟨_, s1⟩
      exact k H' s1
end
end Sw
namespace Sw
open PySem L2
section
variable {P : Program} {w : World} {K : PySem.W.Frag} {mg : Str → Option Value} {base : Heap}
theorem sc__law_led : FnScope ["_law_n", "_law_row", "_law_found", "_law_thing", "_law_goal", "_law_a", "_law_b"] ["_law_n", "_law_row"] (defScope (top 18)) := ⟨rfl, rfl, rfl, by decide +kernel, rfl, by decide +kernel, by decide +kernel⟩
theorem ok_lled {f : Addr} {fd : FuncData} (F : Fun K "_law_led" "_law_led" (top 18) f fd) (T : T1 mg K) : FnOk P w K mg base CX0 1 f fd ["_law_n", "_law_row"] spLed := by
  refine F.ok sc__law_led (fun vs H Q E h => ?_) (fun cdv A outer s H vs Q E hr h => ?_)
  · obtain ⟨n, l, es, row, rfl, _⟩ := h
    rfl
  · obtain ⟨n, l0, es, row, rfl, hn0, hn1, hl0, hx, hg, k⟩ := h
    have hu := hu_of hr
    refine ⟨_, (pss_cons (ps_set (i := 2) sc__law_led.nd rfl (Or.inl rfl) (pe_lst pa_nil))
      (pss_cons (ps_for PassesOwn.never rfl (pi_range2 rfl T.b_range (pa_cons pe_int (pa_cons (pe_op op_add (pv 0) pe_int) pa_nil))) (pg_name (i := 3) sc__law_led.nd rfl (Or.inl rfl)) (pss_cons (ps_set (i := 4) sc__law_led.nd rfl (Or.inl rfl) (pv 3))
      (pss_cons (ps_for PassesOwn.never rfl (pi_listK (K := K) rfl (pv 1)) (pg_tupK (K := K) (n := 2) rfl rfl (pgs_cons (pg_name (i := 5) sc__law_led.nd rfl (Or.inl rfl)) (pgs_cons (pg_name (i := 6) sc__law_led.nd rfl (Or.inl rfl)) pgs_nil))) (pss_one (ps_set (i := 4) sc__law_led.nd rfl (Or.inl rfl) (pe_dget2 hu (pe_disp (pps_cons (pv 5) (pv 6) (pps_cons (pv 6) (pv 5) pps_nil)) rfl rfl (by simp) (by decide)) (pv 4) (pv 4) ⟨rfl, rfl, rfl, rfl⟩))))
      (pss_one (ps_expr (pe_bmK (K := K) rfl PySem.F.plainAttrs_list PySem.F.slot_list_append PySem.F.type_list_append mt_append (pv 2) (pa_cons (pv 4) pa_nil)))))))
      (pss_one (ps_ret (pe_callTy (call_tuple_ofK (K := K) rfl) rfl T.b_tuple (by decide +kernel) (pa_cons (pv 2) pa_nil)))))), ?_⟩
    refine ⟨Nat.zero_le _, fun l hl => ?_⟩
    refine ⟨_, rfl, _, _, rfl, rfl, 1, n + 1, rfl, ⟨by decide, by decide, by omega, by omega⟩, for_range (fun i σ H' => ∃ (v3 v4 v5 v6 : Option V), σ = [some (.int n), some (.ref l0), some (.ref l), v3, v4, v5, v6] ∧ Same H H' ∧ H' l = some (.lst (((ivl 1 (n + 1)).take i).map fun x => V.int (go row x))))
      ⟨none, none, none, none, rfl, Same.new hl, upd_same⟩ ?_ ?_⟩
    · rintro i σ H' hi ⟨v3, v4, v5, v6, rfl, s1, h1⟩
      refine ⟨_, rfl, _, rfl, l0, rfl, ⟨_, SqL.of (s1 _ _ hl0)⟩, for_list (K := K) (a := l0) (xs := es) (fun j σ H'' => ∃ (v5 v6 : Option V), σ = [some (.int n), some (.ref l0), some (.ref l), some (.int (1 + i)), some (.int (go (row.take j) (1 + i))), v5, v6] ∧ Same H H'' ∧ H'' l = some (.lst (((ivl 1 (n + 1)).take i).map fun x => V.int (go row x))))
        ⟨v5, v6, rfl, s1, h1⟩ (fun j σ H'' _ ⟨_, _, _, s3, _⟩ => SqL.of (s3 _ _ hl0)) ?_ ?_⟩
      · rintro j y σ H'' hj ⟨v5, v6, rfl, s3, h3⟩
        obtain ⟨te, a, b, rfl, hte, hrow⟩ := hx.get hj
        have hab : a ≠ b := by have := hg (a, b) (List.mem_of_getElem? hrow); simp only at this; omega
        refine ⟨te, _, rfl, SqT.of (s3 _ _ hte), rfl, _, _, rfl, _, _, rfl, rfl, fun p hp => ?_⟩
        refine ⟨_, rfl, _, rfl, _, rfl, _, rfl, upd_same, [(Sum.inl a, .int b), (Sum.inl b, .int a)], rfl, (show 2 ≤ 15 by decide), p, rfl, .inl ⟨_, .inl upd_same⟩, _, rfl, _, rfl, _, DGet.k (k := Sum.inl (go (row.take j) (1 + i))) upd_same, ?_⟩
        have np : l ≠ p := ne_of_none h3 hp
        refine ⟨some (.int a), some (.int b), ?_, fun c o e => ?_, ?_⟩
        · rw [dict_swp _ _ _ hab, ← go_take hrow]
          rfl
        · have z := s3 c o e
          rw [upd_ne (ne_of_none z hp), upd_ne (ne_of_none z hp)]; exact z
        · rw [upd_ne np, upd_ne np]; exact h3
      · rintro σ H'' ⟨v5, v6, rfl, s3, h3⟩
        rw [hx.length, List.take_length]
        refine ⟨_, rfl, .inl ⟨rfl, _, SqL.of h3⟩, _, rfl, l, _, _, rfl, rfl, h3, ?_, ?_⟩
        · rw [List.length_map, List.length_take, ivl_length]
          have : (1000 : Nat) < sizeLine := by decide
          omega
        · refine ⟨_, _, _, _, rfl, fun c o e => ?_, ?_⟩
          · rw [upd_ne (ne_of_none e hl)]; exact s3 c o e
          · rw [upd_same, take_succ_map (fun x => V.int (go row x)) (get_ivl hi)]
    · rintro σ H' ⟨v3, v4, v5, v6, rfl, s1, h1⟩
      have e : (ivl 1 (n + 1)).take ((n + 1 - 1).toNat) = ivl 1 (n + 1) := List.take_of_length_le (by rw [ivl_length]; exact Nat.le_refl _)
      rw [e] at h1
      refine ⟨_, rfl, l, _, rfl, .inl ⟨SqL.of h1, fun t ht => ?_⟩⟩
      refine k t _ (s1.free ht) ?_ (s1.trans (Same.new ht))
      rw [upd_same]
      unfold ledM
      rw [List.map_map]
      rfl
end
end Sw
namespace Sw
open PySem L2
structure TO (P : Program) (w : World) (K : PySem.W.Frag) (mg : Str → Option Value) (base : Heap) : Prop extends T1 mg K where
  f__law_take : FnAt P w K mg base "_law_take" 1 ["_law_purse_here", "_law_many_here"] spTake
section
variable {P : Program} {w : World} {K : PySem.W.Frag} {mg : Str → Option Value} {base : Heap}
theorem sc__law_order : FnScope ["_law_purse_here", "_law_n", "_law_sort", "_law_left", "_law_at", "_law_some", "_law_goals", "_law_k", "_law_found", "_law_one", "_law_other"] ["_law_purse_here", "_law_n"] (defScope (top 17)) := ⟨rfl, rfl, rfl, by decide +kernel, rfl, by decide +kernel, by decide +kernel⟩
theorem ok_order {f : Addr} {fd : FuncData} (F : Fun K "_law_order" "_law_order" (top 17) f fd) (T : TO P w K mg base) : FnOk P w K mg base CX0 3 f fd ["_law_purse_here", "_law_n"] spOrder := by
  refine F.ok sc__law_order (fun vs H Q E h => ?_) (fun cdv A outer s H vs Q E hr h => ?_)
  · obtain ⟨p, c, n, rfl, _⟩ := h
    rfl
  · obtain ⟨p, c, n, rfl, pu, hc, hn, hn2, k⟩ := h
    have hu := hu_of hr
    refine ⟨_, (pss_cons (ps_set (i := 2) sc__law_order.nd rfl (Or.inl rfl) (pe_callF T.f__law_take (hr.mono (by first | decide | omega)) rfl (pa_cons (pv 0) (pa_cons pe_int pa_nil))))
      (pss_cons (ps_set (i := 3) sc__law_order.nd rfl (Or.inr rfl) (pe_callTy (call_list_rng rfl) rfl T.b_list (by decide +kernel) (pa_cons (pe_callTy call_range rfl T.b_range (by decide +kernel) (pa_cons pe_int (pa_cons (pe_op op_add (pv 1) pe_int) pa_nil))) pa_nil)))
      (pss_cons (ps_if (pt_cmpR op_lt (pv 2) pe_int (nomark _)) (pss_cons (ps_set (i := 8) sc__law_order.nd rfl (Or.inl rfl) (pe_lst pa_nil))
      (pss_cons (ps_for PassesOwn.never rfl (pi_range1 rfl T.b_range (pa_cons (pv 1) pa_nil)) (pg_name (i := 7) sc__law_order.nd rfl (Or.inl rfl)) (pss_one (ps_expr (pe_bmK (K := K) rfl PySem.F.plainAttrs_list PySem.F.slot_list_append PySem.F.type_list_append mt_append (pv 8) (pa_cons (pe_bmK (K := K) rfl PySem.F.plainAttrs_list PySem.F.slot_list_pop PySem.F.type_list_pop mt_popAt (pv 3) (pa_cons (pe_callF T.f__law_take (hr.mono (by first | decide | omega)) rfl (pa_cons (pv 0) (pa_cons (pe_callB (call_lenK (K := K) rfl) rfl T.b_len (by decide +kernel) (pa_cons (pv 3) pa_nil)) pa_nil))) pa_nil)) pa_nil)))))
      (pss_one (ps_ret (pe_callTy (call_tuple_ofK (K := K) rfl) rfl T.b_tuple (by decide +kernel) (pa_cons (pv 8) pa_nil)))))) pss_nil)
      (pss_cons (ps_if (pt_cmpR op_eq (pv 2) pe_int (nomark _)) (pss_cons (ps_for PassesOwn.never rfl (pi_range1 rfl T.b_range (pa_cons (pe_callF T.f__law_take (hr.mono (by first | decide | omega)) rfl (pa_cons (pv 0) (pa_cons pe_int pa_nil))) pa_nil)) (pg_name (i := 7) sc__law_order.nd rfl (Or.inl rfl)) (pss_cons (ps_set (i := 9) sc__law_order.nd rfl (Or.inl rfl) (pe_callF T.f__law_take (hr.mono (by first | decide | omega)) rfl (pa_cons (pv 0) (pa_cons (pv 1) pa_nil))))
      (pss_cons (ps_set (i := 10) sc__law_order.nd rfl (Or.inl rfl) (pe_callF T.f__law_take (hr.mono (by first | decide | omega)) rfl (pa_cons (pv 0) (pa_cons (pv 1) pa_nil))))
      (pss_one (ps_asg (pe_tup (pa_cons (pe_ix (ix_listK (K := K) rfl) (pv 3) (pv 10) (fun _ _ => rfl)) (pa_cons (pe_ix (ix_listK (K := K) rfl) (pv 3) (pv 9) (fun _ _ => rfl)) pa_nil))) (pg_tupK (K := K) (n := 2) rfl rfl (pgs_cons (pg_sub (pv 3) (pv 9) set_list) (pgs_cons (pg_sub (pv 3) (pv 10) set_list) pgs_nil))))))))
      (pss_one (ps_ret (pe_callTy (call_tuple_ofK (K := K) rfl) rfl T.b_tuple (by decide +kernel) (pa_cons (pv 3) pa_nil))))) pss_nil)
      (pss_cons (ps_set (i := 4) sc__law_order.nd rfl (Or.inr rfl) (pe_callF T.f__law_take (hr.mono (by first | decide | omega)) rfl (pa_cons (pv 0) (pa_cons (pv 1) pa_nil))))
      (pss_cons (ps_comp (i := 5) sc__law_order.nd rfl rfl (N := (["_law_k", "_law_left", "_law_at", "_law_purse_here", "_law_n"] : List Str)) (ix := ([none, some 3, some 4, some 0, some 1] : List (Option Nat))) (comp_ok rfl rfl) rfl (pi_range1 rfl T.b_range (pa_cons (pv 1) pa_nil)) (fun _ _ _ _ => (pg_name (i := 0) (show List.Nodup (["_law_k", "_law_left", "_law_at", "_law_purse_here", "_law_n"] : List Str) from by decide +kernel) rfl (Or.inl rfl))) (fun _ _ _ _ => pif_nil) (fun _ _ _ _ => (pe_bmK (K := K) rfl PySem.F.plainAttrs_list PySem.F.slot_list_pop PySem.F.type_list_pop mt_popAt (pv 1) (pa_cons (pe_op op_mod (pe_op op_add (pv 2) (pe_callF T.f__law_take (hr.mono (by first | decide | omega)) rfl (pa_cons (pv 3) (pa_cons (pv 4) pa_nil)))) (pe_callB (call_lenK (K := K) rfl) rfl T.b_len (by decide +kernel) (pa_cons (pv 1) pa_nil))) pa_nil))))
      (pss_cons (ps_set (i := 6) sc__law_order.nd rfl (Or.inr rfl) pe_dnewK)
      (pss_cons (ps_for PassesOwn.never rfl (pi_range1 rfl T.b_range (pa_cons (pv 1) pa_nil)) (pg_name (i := 7) sc__law_order.nd rfl (Or.inl rfl)) (pss_one (ps_dput hu (pv 6) (pe_ix (ix_listK (K := K) rfl) (pv 5) (pv 7) (fun _ _ => rfl)) (pe_ix (ix_listK (K := K) rfl) (pv 5) (pe_op op_mod (pe_op op_add (pv 7) pe_int) (pv 1)) (fun _ _ => rfl)) rfl)))
      (pss_one (ps_ret (pe_callTy (call_tuple_ofK (K := K) rfl) rfl T.b_tuple (by decide +kernel) (pa_cons (pe_comp (N := (["_law_thing", "_law_goals"] : List Str)) (ix := ([none, some 6] : List (Option Nat))) (comp_ok rfl rfl) rfl (pi_range2 rfl T.b_range (pa_cons pe_int (pa_cons (pe_op op_add (pv 1) pe_int) pa_nil))) (fun _ _ _ _ => (pg_name (i := 0) (show List.Nodup (["_law_thing", "_law_goals"] : List Str) from by decide +kernel) rfl (Or.inl rfl))) (fun _ _ _ _ => pif_nil) (fun _ _ _ _ => (pe_dget hu (pv 1) (pv 0) (fun _ _ => rfl)))) pa_nil)))))))))))), ?_⟩
    refine ⟨_, rfl, p, c, 4, rfl, pu, by omega, by decide, by decide, fun r H1 r0 r1 pu1 s1 => ?_⟩
    refine ⟨_, rfl, _, _, rfl, rfl, .inr ⟨_, _, rfl, fun rg hrg => ⟨rg, _, _, rfl, upd_same, by omega, by omega, by omega, by omega, fun l hl => ?_⟩⟩⟩
    have sa : SameX p H (upd H1 rg (.rng 1 (n + 1))) := s1.trans (SameX.new hrg)
    have nl : H l = none := by
      cases e : H l with
      | none => rfl
      | some o =>
        by_cases z : l = p
        · obtain ⟨xs, e'⟩ := (pu1.upd (pu1.ne hrg) (o := .rng 1 (n + 1))).at
          rw [z, e'] at hl
          cases hl
        · rw [sa l o z e] at hl
          cases hl
    have pu2 : Purse (upd (upd H1 rg (.rng 1 (n + 1))) l (.lst ((ivl 1 (n + 1)).map V.int))) p (c + 1) := by
      have p2 := pu1.upd (pu1.ne hrg) (o := .rng 1 (n + 1))
      exact p2.upd (p2.ne hl)
    have npl : p ≠ l := pu.ne nl
    have s2 : SameX p H (upd (upd H1 rg (.rng 1 (n + 1))) l (.lst ((ivl 1 (n + 1)).map V.int))) := SameX.put sa nl
    have h2 : upd (upd H1 rg (.rng 1 (n + 1))) l (.lst ((ivl 1 (n + 1)).map V.int)) l = some (.lst ((ivl 1 (n + 1)).map V.int)) := upd_same
    generalize upd (upd H1 rg (.rng 1 (n + 1))) l (.lst ((ivl 1 (n + 1)).map V.int)) = H2 at pu2 s2 h2 ⊢
    clear sa s1 pu1 hl hrg
    have big : (100000 : Nat) ≤ sizeLine := by decide
    refine ⟨_, rfl, _, _, rfl, rfl, _, rfl, ite2 (fun _ => ?_) (fun _ => ?_)⟩
    · -- any order
      refine ⟨Nat.zero_le _, fun lf hlf => ?_⟩
      have nlf : l ≠ lf := ne_of_none h2 hlf
      have npf : p ≠ lf := pu2.ne hlf
      have hf : H lf = none := free_of s2 npf hlf
      refine ⟨_, rfl, _, rfl, by omega, by omega, ?_⟩
      refine for_range (fun i σ H' => ∃ fs ls v4 v5 v6 v7 v9 v10, σ = [some (.ref p), some (.int n), some (.int r), some (.ref l), v4, v5, v6, v7, some (.ref lf), v9, v10] ∧ SameX p H H' ∧ H' l = some (.lst (ls.map V.int)) ∧ H' lf = some (.lst (fs.map V.int)) ∧ fs.length = i ∧ Ord n (fs ++ ls) ∧ Purse H' p (c + 1 + i))
        ⟨[], ivl 1 (n + 1), _, _, _, _, _, _, rfl, SameX.put s2 hf, by rw [upd_ne nlf]; exact h2, upd_same, rfl, ord_plain n, pu2.upd npf⟩ ?_ ?_
      · rintro i σ H' hi ⟨fs, ls, v4, v5, v6, v7, v9, v10, rfl, s3, hl, hF, fl, o, pu3⟩
        have ol := o.length
        rw [List.length_append] at ol
        refine ⟨_, rfl, .inl ⟨rfl, _, SqL.of hF⟩, _, rfl, .inl ⟨rfl, _, SqL.of hl⟩, _, rfl, _, rfl, l, _, rfl, .inl (SqL.of hl), ?_⟩
        refine ⟨p, _, _, rfl, pu3, by omega, by rw [List.length_map]; omega, by rw [List.length_map]; omega, fun r3 H4 r30 r31 pu4 s4 => ?_⟩
        rw [List.length_map] at r31
        obtain ⟨y, hy⟩ := get_lt (ns := ls) (k := r3.toNat) (by omega)
        have hl4 := s4 l _ npl.symm hl
        have hF4 := s4 lf _ npf.symm hF
        refine ⟨l, _, r3, r3.toNat, _, rfl, rfl, hl4, by omega, by omega, (ixN_seq (ixN_lt r30 (by rw [List.length_map]; exact r31))).1, map_get hy, ?_⟩
        refine ⟨lf, fs.map V.int, _, rfl, rfl, by rw [upd_ne nlf.symm]; exact hF4, by rw [List.length_map]; omega, ?_⟩
        refine ⟨fs ++ [y], ls.eraseIdx r3.toNat, v4, v5, v6, _, v9, v10, rfl, SameX.put (SameX.put (s3.trans s4) nl) hf, ?_, ?_, ?_, pop_perm o hy, ?_⟩
        · rw [upd_ne nlf, upd_same, eraseIdx_map]
        · rw [upd_same, List.map_append]; rfl
        · rw [List.length_append, fl]; rfl
        · exact (pu4.upd npl).upd npf
      · rintro σ H' ⟨fs, ls, v4, v5, v6, v7, v9, v10, rfl, s3, hl, hF, fl, o, pu3⟩
        have ol := o.length
        rw [List.length_append] at ol
        have : ls = [] := List.length_eq_zero_iff.mp (by omega)
        subst this
        rw [List.append_nil] at o
        refine ⟨_, rfl, lf, _, rfl, .inl ⟨SqL.of hF, fun t ht => ?_⟩⟩
        have npt : p ≠ t := pu3.ne ht
        exact k t fs _ (free_of s3 npt ht) upd_same o ((pu3.upd npt).mono (by omega) (by omega)) (SameX.put s3 (free_of s3 npt ht))
    · refine ⟨_, rfl, rfl, _, rfl, ite2 (fun _ => ?_) (fun _ => ?_)⟩
      · -- few exchanges
        refine ⟨_, rfl, p, c + 1, 4, rfl, pu2, by omega, by decide, by decide, fun r2 H3 r20 r21 pu3 s3 => ⟨_, rfl, by omega, by omega, ?_⟩⟩
        refine for_range (fun i σ H' => ∃ ls v4 v5 v6 v7 v8 v9 v10, σ = [some (.ref p), some (.int n), some (.int r), some (.ref l), v4, v5, v6, v7, v8, v9, v10] ∧ SameX p H H' ∧ H' l = some (.lst (ls.map V.int)) ∧ Ord n ls ∧ Purse H' p (c + 2 + 2 * i))
          ⟨ivl 1 (n + 1), _, _, _, _, _, _, _, rfl, s2.trans s3, s3 l _ npl.symm h2, ord_plain n, pu3⟩ ?_ ?_
        · rintro i σ H' hi ⟨ls, v4, v5, v6, v7, v8, v9, v10, rfl, s4, hl, o, pu4⟩
          have ol := o.length
          refine ⟨_, rfl, _, rfl, p, _, _, rfl, pu4, by omega, by omega, by omega, fun a H5 a0 a1 pu5 s5 => ?_⟩
          refine ⟨_, rfl, _, rfl, p, _, _, rfl, pu5, by omega, by omega, by omega, fun b H6 b0 b1 pu6 s6 => ?_⟩
          have hl6 := s6 l _ npl.symm (s5 l _ npl.symm hl)
          obtain ⟨x, hx⟩ := get_lt (ns := ls) (k := a.toNat) (by omega)
          obtain ⟨y, hy⟩ := get_lt (ns := ls) (k := b.toNat) (by omega)
          refine ⟨_, rfl, _, rfl, l, _, _, _, rfl, rfl, SqL.of hl6, at_int b0 hy, _, rfl, _, rfl, l, _, _, _, rfl, rfl, SqL.of hl6, at_int a0 hx, (by show 2 ≤ sizeLine; decide), fun t ht => ?_⟩
          have nlt : l ≠ t := ne_of_none hl6 ht
          have npt : p ≠ t := pu6.ne ht
          refine ⟨t, _, rfl, SqT.of upd_same, rfl, _, _, rfl, _, rfl, _, rfl, l, _, _, a.toNat, rfl, rfl, (by rw [upd_ne nlt]; exact hl6), ixN_lt a0 (by rw [List.length_map]; omega), ?_⟩
          refine ⟨_, _, rfl, _, rfl, _, rfl, l, _, _, b.toNat, rfl, rfl, upd_same, ixN_lt b0 (by rw [List.length_set, List.length_map]; omega), rfl, ?_⟩
          refine ⟨(ls.set a.toNat y).set b.toNat x, v4, v5, v6, _, v8, _, _, rfl, SameX.put (SameX.put (SameX.put (s4.trans (s5.trans s6)) (free_of (s4.trans (s5.trans s6)) npt ht)) nl) nl, ?_, swap_perm o hx hy, ?_⟩
          · rw [upd_same, List.map_set, List.map_set]
          · exact ((((pu6.upd npt).upd npl).upd npl)).mono (by omega) (by omega)
        · rintro σ H' ⟨ls, v4, v5, v6, v7, v8, v9, v10, rfl, s4, hl, o, pu4⟩
          refine ⟨_, rfl, l, _, rfl, .inl ⟨SqL.of hl, fun t ht => ?_⟩⟩
          have npt : p ≠ t := pu4.ne ht
          exact k t ls _ (free_of s4 npt ht) upd_same o ((pu4.upd npt).mono (by omega) (by omega)) (SameX.put s4 (free_of s4 npt ht))
      · -- one long round
        refine ⟨_, rfl, _, rfl, p, _, _, rfl, pu2, by omega, by omega, by omega, fun a H3 a0 a1 pu3 s3 => ?_⟩
        have hl3 := s3 l _ npl.symm h2
        refine ⟨_, rfl, _, rfl, by omega, by omega, compR (k := 0) (fun i ys σ' H' => ∃ fs ls v, ys = fs.map V.int ∧ σ' = [v, some (.ref l), some (.int a), some (.ref p), some (.int n)] ∧ SameX p H H' ∧ H' l = some (.lst (ls.map V.int)) ∧ fs.length = i ∧ Ord n (fs ++ ls) ∧ Purse H' p (c + 2 + i)) (by omega)
          ⟨[], ivl 1 (n + 1), none, rfl, rfl, s2.trans s3, hl3, rfl, ord_plain n, pu3⟩ (fun i ys σ' H' ⟨fs, _, _, e, _, _, _, e2, _⟩ => by rw [e, List.length_map, e2]; exact Nat.le_refl _) ?_ ?_⟩
        · rintro i ys σ' H' R hi ⟨fs, ls, v, rfl, rfl, s4, hl, fl, o, pu4⟩ done
          have ol := o.length
          rw [List.length_append] at ol
          refine ⟨_, rfl, .inl ⟨rfl, _, SqL.of hl⟩, _, rfl, _, rfl, _, rfl, p, _, _, rfl, pu4, by omega, by omega, by omega, fun r3 H5 r30 r31 pu5 s5 => ?_⟩
          have hl5 := s5 l _ npl.symm hl
          have lpos : (0 : Int) < ((ls.map V.int).length : Int) := by rw [List.length_map]; omega
          refine ⟨_, _, rfl, rfl, _, rfl, l, _, rfl, .inl (SqL.of hl5), _, _, rfl, rfl, lpos, ?_⟩
          have m0 := Int.emod_nonneg (a + r3) (Int.ne_of_gt lpos)
          have m1 := Int.emod_lt_of_pos (a + r3) lpos
          obtain ⟨m, em⟩ : ∃ m, (a + r3) % ((ls.map V.int).length : Int) = m := ⟨_, rfl⟩
          rw [em] at m0 m1
          obtain ⟨y, hy⟩ := get_lt (ns := ls) (k := m.toNat) (by rw [List.length_map] at m1; omega)
          refine ⟨l, _, m, m.toNat, _, rfl, (by rw [← em]), hl5, by omega, (by rw [List.length_map] at m1; omega), (ixN_seq (ixN_lt m0 m1)).1, map_get hy, done _ _ _ ?_⟩
          refine ⟨fs ++ [y], ls.eraseIdx m.toNat, _, by rw [List.map_append]; rfl, rfl, SameX.put (s4.trans s5) nl, ?_, ?_, pop_perm o hy, pu5.upd npl⟩
          · rw [upd_same, eraseIdx_map]
          · rw [List.length_append, fl]; rfl
        · rintro ys σ' H' ps ⟨fs, ls, v, rfl, rfl, s4, hl, fl, o, pu4⟩ hps
          have ol := o.length
          rw [List.length_append] at ol
          have : ls = [] := List.length_eq_zero_iff.mp (by omega)
          subst this
          rw [List.append_nil] at o
          have np1 : p ≠ ps := pu4.ne hps
          have f1 : H ps = none := free_of s4 np1 hps
          have s5 := SameX.put s4 f1 (o := .lst (fs.map V.int))
          have pu5 := pu4.upd np1 (o := .lst (fs.map V.int))
          have h5 : upd H' ps (.lst (fs.map V.int)) ps = some (.lst (fs.map V.int)) := upd_same
          generalize upd H' ps (.lst (fs.map V.int)) = H5 at s5 pu5 h5 ⊢
          refine fun pd hpd => ?_
          have np2 : p ≠ pd := pu5.ne hpd
          have f2 : H pd = none := free_of s5 np2 hpd
          have n12 : ps ≠ pd := ne_of_none h5 hpd
          have nz : ∀ {i : Nat} {x : Int}, fs[i]? = some x → nxt fs x = fs.getD ((i + 1) % fs.length) 0 := fun h => nxt_at o.nodup h
          refine ⟨_, rfl, _, rfl, by omega, by omega, ?_⟩
          refine for_range (fun i σ H' => ∃ kvs v7 v8 v9 v10, σ = [some (.ref p), some (.int n), some (.int r), some (.ref l), some (.int a), some (.ref ps), some (.ref pd), v7, v8, v9, v10] ∧ SameX p H H' ∧ H' ps = some (.lst (fs.map V.int)) ∧ H' pd = some (.dK kvs) ∧ kvs.length ≤ i ∧ (∀ j x, j < i → fs[j]? = some x → valV kvs (Sum.inl x : Key) = some (.int (nxt fs x))) ∧ Purse H' p (c + 200))
            ⟨[], _, _, _, _, rfl, SameX.put s5 f2, by rw [upd_ne n12]; exact h5, upd_same, Nat.le_refl _, fun j x h => absurd h (Nat.not_lt_zero _), (pu5.upd np2).mono (by omega) (by omega)⟩ ?_ ?_
          · rintro i σ H' hi ⟨kvs, v7, v8, v9, v10, rfl, s6, h6, hd6, kl, kv, pu6⟩
            obtain ⟨x, hx⟩ := get_lt (ns := fs) (k := i) (by omega)
            have lpos : (0 : Int) < n := by omega
            have fln : (fs.length : Int) = n := by omega
            have ei : ((i : Int) + 1) % n = (((i + 1) % fs.length : Nat) : Int) := by rw [← fln]; rfl
            obtain ⟨y, hy⟩ := get_lt (ns := fs) (k := (i + 1) % fs.length) (Nat.mod_lt _ (by omega))
            have hy' : fs[(((i : Int) + 1) % n).toNat]? = some y := by rw [ei, Int.toNat_natCast]; exact hy
            have hx' : fs[(0 + (i : Int)).toNat]? = some x := by rw [Int.zero_add, Int.toNat_natCast]; exact hx
            have ny : nxt fs x = y := by rw [nz hx, List.getD_eq_getElem?_getD, hy]; rfl
            refine ⟨_, rfl, _, rfl, _, _, rfl, rfl, _, rfl, _, _, rfl, rfl, lpos, ps, _, _, _, rfl, rfl, SqL.of h6, at_int (Int.emod_nonneg _ (by omega)) (by rw [Int.zero_add]; exact hy'), ?_⟩
            refine ⟨_, rfl, _, rfl, _, rfl, ps, _, _, _, rfl, rfl, SqL.of h6, at_int (by omega) hx', pd, _, rfl, DPut.k (k := Sum.inl x) hd6 (by omega), ?_⟩
            refine ⟨putK kvs (Sum.inl x) (.int y), _, v8, v9, v10, rfl, SameX.put s6 f2, by rw [upd_ne n12]; exact h6, upd_same, ?_, ?_, pu6.upd np2⟩
            · have := length_putK kvs (Sum.inl x : Key) (.int y)
              omega
            · intro j z hj hz
              rw [valV_put]
              by_cases e : z = x
              · subst e
                rw [if_pos rfl, ny]
              · rw [if_neg (by intro q; apply e; cases q; rfl)]
                have : j ≠ i := by intro q; subst q; rw [hx] at hz; cases hz; exact e rfl
                exact kv j z (by omega) hz
          · rintro σ H' ⟨kvs, v7, v8, v9, v10, rfl, s6, h6, hd6, kl, kv, pu6⟩
            refine ⟨_, rfl, _, _, rfl, rfl, 1, n + 1, rfl, ⟨by decide, by decide, by omega, by omega⟩, compR (k := 0) (fun i ys σ' H'' => ys = ((ivl 1 (n + 1)).take i).map (fun x => V.int (nxt fs x)) ∧ (∃ v, σ' = [v, some (.ref pd)]) ∧ H'' = H') (by omega) ⟨rfl, ⟨none, rfl⟩, rfl⟩
              (fun i ys σ' H'' q => by rw [q.1, List.length_map, List.length_take]; omega) ?_ ?_⟩
            · rintro i ys σ' H'' R hi ⟨rfl, ⟨v, rfl⟩, rfl⟩ done
              have hin : 1 + (i : Int) ∈ fs := o.mem.mpr (by omega)
              obtain ⟨j, hj, hj2⟩ := idx_of hin
              refine ⟨_, rfl, _, rfl, pd, .int (nxt fs (1 + (i : Int))), rfl, ?_, done _ _ _ ⟨?_, ⟨_, rfl⟩, rfl⟩⟩
              · have q := DGet.k (k := (Sum.inl (1 + (i : Int)) : Key)) hd6
                rw [kv j _ (by omega) hj] at q
                exact q
              · exact (take_succ_map (fun x => V.int (nxt fs x)) (get_ivl hi)).symm
            · rintro ys σ' H'' pl ⟨rfl, _, rfl⟩ hpl
              have np3 : p ≠ pl := pu6.ne hpl
              have f3 := free_of s6 np3 hpl
              refine ⟨pl, _, rfl, .inl ⟨SqL.of upd_same, fun t ht => ?_⟩⟩
              have pu7 := pu6.upd np3 (o := .lst (((ivl 1 (n + 1)).take (n + 1 - 1).toNat).map (fun x => V.int (nxt fs x))))
              have s7 := SameX.put s6 f3 (o := .lst (((ivl 1 (n + 1)).take (n + 1 - 1).toNat).map (fun x => V.int (nxt fs x))))
              have npt : p ≠ t := pu7.ne ht
              refine k t ((ivl 1 (n + 1)).map (nxt fs)) _ (free_of s7 npt ht) ?_ (nxt_ord o) ((pu7.upd npt).mono (by omega) (by omega)) (SameX.put s7 (free_of s7 npt ht))
              rw [upd_same, List.map_map, List.take_of_length_le (by rw [ivl_length]; exact Nat.le_refl _)]
              rfl
end
end Sw
namespace Sw
open PySem L2
theorem cnt_pos20 {n : Int} {xs : List Int} (n1 : 1 ≤ n) (o : Ord n xs) : 1 ≤ cnt n xs := by
  unfold cnt
  have : (1 : Int) ∈ (ivl 1 (n + 1)).filter (least xs) := List.mem_filter.mpr ⟨mem_ivl.mpr ⟨by omega, by omega⟩, by unfold least; exact List.all_eq_true.mpr fun y hy => decide_eq_true (orb_in o (by omega) n1 hy).1⟩
  exact List.length_pos_of_mem this
theorem nice_rows (rs : List (List (Int × Int))) : Nice 3 (.list (rowsD rs)) := nice_list fun d hd => by
  unfold rowsD at hd
  obtain ⟨r, _, rfl⟩ := List.mem_map.mp hd
  refine nice_list fun e he => ?_
  obtain ⟨p, _, rfl⟩ := List.mem_map.mp he
  exact nice_tuple fun z hz => by
    rcases List.mem_cons.mp hz with rfl | hz
    · exact nice_int _
    · rw [List.mem_singleton.mp hz]; exact nice_int _
theorem neRws {K : PySem.W.Frag} {H : Hp} {l m : Addr} {vs ws : List V} {rs : List (List (Int × Int))} {Q : VK} (h1 : H l = some (.lst vs)) (x1 : RwL H vs rs) (h2 : H m = some (.lst ws)) (x2 : RwL H ws rs) (q : Q (.bl false) H) : rNeD K (.ref l) (.ref m) H Q := by
  refine ⟨fun _ => True, .list (rowsD rs), .list (rowsD rs), .lst (SqL.of h1) True.intro x1.dat, .lst (SqL.of h2) True.intro x2.dat, (nice_rows rs).lay, (nice_rows rs).lay, by have := (nice_rows rs).dp; omega, ?_⟩
  rw [PySem.SeqAt.eqv_refl _ (nice_rows rs).lay]
  exact q
theorem RwL.getR {H : Hp} {vs : List V} {rs : List (List (Int × Int))} (x : RwL H vs rs) {i : Nat} {r : List (Int × Int)} (h : rs[i]? = some r) : ∃ a es, vs[i]? = some (.ref a) ∧ H a = some (.lst es) ∧ Exs H es r := by
  have il := (List.getElem?_eq_some_iff.mp h).1
  have := x.length
  obtain ⟨a, es, r', e1, e2, e3, e4⟩ := x.get (List.getElem?_eq_getElem (show i < vs.length by omega))
  rw [h] at e2
  injection e2 with e2
  subst e2
  exact ⟨a, es, by rw [List.getElem?_eq_getElem (show i < vs.length by omega), e1], e3, e4⟩
theorem RwL.keepX {p : Addr} {H H' : Hp} {c : Nat} (s : SameX p H H') (h : Purse H p c) {vs : List V} {rs : List (List (Int × Int))} (x : RwL H vs rs) (n : V.ref p ∉ vs) : RwL H' vs rs := by
  induction x with
  | nil => exact .nil
  | @cons b es r vs rs hb e _ ih => exact .cons (s _ _ (fun z => n (by rw [z]; exact List.mem_cons_self)) hb) (SameX.exs s h e) (ih fun z => n (List.mem_cons_of_mem _ z))
section
variable {P : Program} {w : World} {K : PySem.W.Frag} {mg : Str → Option Value} {base : Heap}
structure TL (P : Program) (w : World) (K : PySem.W.Frag) (mg : Str → Option Value) (base : Heap) : Prop extends T1 mg K where
  b_min : mg "min" = none
  b_max : mg "max" = none
  b_enumerate : mg "enumerate" = none
  f__law_purse : FnAt P w K mg base "_law_purse" 1 ["_law_script", "_law_at"] (spPurse K)
  f__law_take : FnAt P w K mg base "_law_take" 1 ["_law_purse_here", "_law_many_here"] spTake
  f__law_order : FnAt P w K mg base "_law_order" 3 ["_law_purse_here", "_law_n"] spOrder
  f__law_rounds : FnAt P w K mg base "_law_rounds" 1 ["_law_order_here"] spRounds
  f__law_many : FnAt P w K mg base "_law_many" 2 ["_law_order_here"] spMy
  f__law_is_told : FnAt P w K mg base "_law_is_told" 2 ["_law_n", "_law_found"] spTold
  f__law_led : FnAt P w K mg base "_law_led" 1 ["_law_n", "_law_row"] spLed
  f__law_least_row : FnAt P w K mg base "_law_least_row" 2 ["_law_purse_here", "_law_order_here"] spLsR
  f_least_rows : FnAt P w K mg base "least_rows" 10 ["order"] (spLrX 6)
theorem ok_nevX {x q : Str} {st : Stmt} {k : Nat} {ps : List Str} {sp : Sp} {f : Addr} {fd : FuncData} (F : Fun K x q st f fd) (no : ∀ vs H Q E, sp vs H Q E → False) : FnOk P w K mg base CX0 k f fd ps sp :=
  ⟨fun vs H Q E h => (no vs H Q E h).elim, fun _ _ _ H _ _ vs Q E _ _ _ _ h => (no vs H Q E h).elim⟩
theorem sc_law : FnScope ["_law_script", "_law_k", "_law_purse_here", "_law_n", "_law_order_here", "_law_found", "_law_many_here", "_law_at", "_law_kept"] ["_law_script"] (defScope (top 24)) := ⟨rfl, rfl, rfl, by decide +kernel, rfl, by decide +kernel, by decide +kernel⟩
theorem ok_law {f : Addr} {fd : FuncData} (F : Fun K "law" "law" (top 24) f fd) (T : TL P w K mg base) : FnOk P w K mg base CX0 11 f fd ["_law_script"] (spLaw K) := by
  refine F.ok sc_law (fun vs H Q E h => ?_) (fun cdv A outer s H vs Q E hr h => ?_)
  · obtain ⟨a, ns, rfl, _⟩ := h
    rfl
  · obtain ⟨a, ns, rfl, hS, hlen, k⟩ := h
    refine ⟨_, (pss_cons (ps_for PassesOwn.never rfl (pi_range1 rfl T.b_range (pa_cons (pe_callB (call_max2 rfl) rfl T.b_max (by decide +kernel) (pa_cons pe_int (pa_cons (pe_callB (call_min2 rfl) rfl T.b_min (by decide +kernel) (pa_cons (pe_callB (call_lenK (K := K) rfl) rfl T.b_len (by decide +kernel) (pa_cons (pv 0) pa_nil)) (pa_cons pe_int pa_nil))) pa_nil))) pa_nil)) (pg_name (i := 1) sc_law.nd rfl (Or.inl rfl)) (pss_cons (ps_set (i := 2) sc_law.nd rfl (Or.inl rfl) (pe_callF T.f__law_purse (hr.mono (by first | decide | omega)) rfl (pa_cons (pv 0) (pa_cons (pv 1) pa_nil))))
      (pss_cons (ps_set (i := 3) sc_law.nd rfl (Or.inl rfl) (pe_op op_add pe_int (pe_callF T.f__law_take (hr.mono (by first | decide | omega)) rfl (pa_cons (pv 2) (pa_cons pe_int pa_nil)))))
      (pss_cons (ps_if (PW.pt (pw_and (pt_cmpR op_eq (pe_callF T.f__law_take (hr.mono (by first | decide | omega)) rfl (pa_cons (pv 2) (pa_cons pe_int pa_nil))) pe_int (nomark _)) (pw_and1 (pt_cmpR op_eq (pv 1) pe_int (nomark _))))) (pss_one (ps_set (i := 3) sc_law.nd rfl (Or.inl rfl) pe_int)) pss_nil)
      (pss_cons (ps_set (i := 4) sc_law.nd rfl (Or.inl rfl) (pe_callF T.f__law_order (hr.mono (by first | decide | omega)) rfl (pa_cons (pv 2) (pa_cons (pv 3) pa_nil))))
      (pss_cons (ps_set (i := 5) sc_law.nd rfl (Or.inl rfl) (pe_callF T.f_least_rows (hr.mono (by first | decide | omega)) rfl (pa_cons (pv 4) pa_nil)))
      (pss_cons (ps_set (i := 6) sc_law.nd rfl (Or.inl rfl) (pe_op op_sub (pv 3) (pe_callB (call_lenK (K := K) rfl) rfl T.b_len (by decide +kernel) (pa_cons (pe_callF T.f__law_rounds (hr.mono (by first | decide | omega)) rfl (pa_cons (pv 4) pa_nil)) pa_nil))))
      (pss_cons (ps_if (PW.pt (pw_or (pt_not (pt_val (pe_callB (call_isiK (K := K) rfl) rfl T.b_isinstance (by decide +kernel) (pa_cons (pv 5) (pa_cons (pe_bltn (v := .ty "list") rfl T.b_list (by decide +kernel) rfl) pa_nil))))) (pw_or1 (pt_cmpR op_ne (pe_callB (call_lenK (K := K) rfl) rfl T.b_len (by decide +kernel) (pa_cons (pv 5) pa_nil)) (pe_callF T.f__law_many (hr.mono (by first | decide | omega)) rfl (pa_cons (pv 4) pa_nil)) (nomark _))))) (pss_one (ps_ret pe_bl)) pss_nil)
      (pss_cons (ps_for PassesOwn.never rfl (pi_range1 rfl T.b_range (pa_cons (pe_callB (call_lenK (K := K) rfl) rfl T.b_len (by decide +kernel) (pa_cons (pv 5) pa_nil)) pa_nil)) (pg_name (i := 7) sc_law.nd rfl (Or.inl rfl)) (pss_cons (ps_if (PW.pt (pw_or (pt_not (pt_val (pe_callF T.f__law_is_told (hr.mono (by first | decide | omega)) rfl (pa_cons (pv 3) (pa_cons (pe_ix (ix_listK (K := K) rfl) (pv 5) (pv 7) (fun _ _ => rfl)) pa_nil))))) (pw_or (pt_cmpR op_ne (pe_callB (call_lenK (K := K) rfl) rfl T.b_len (by decide +kernel) (pa_cons (pe_ix (ix_listK (K := K) rfl) (pv 5) (pv 7) (fun _ _ => rfl)) pa_nil)) (pv 6) (nomark _)) (pw_or1 (pt_cmpR (op_neD hr.units) (pe_callF T.f__law_led (hr.mono (by first | decide | omega)) rfl (pa_cons (pv 3) (pa_cons (pe_ix (ix_listK (K := K) rfl) (pv 5) (pv 7) (fun _ _ => rfl)) pa_nil))) (pv 4) (nomark _)))))) (pss_one (ps_ret pe_bl)) pss_nil)
      (pss_one (ps_if (PW.pt (pw_and (pt_cmpR op_gt (pv 7) pe_int (nomark _)) (pw_and1 (pt_not (pt_cmpR (op_ltP hr.units) (pe_ix (ix_listK (K := K) rfl) (pv 5) (pe_op op_sub (pv 7) pe_int) (fun _ _ => rfl)) (pe_ix (ix_listK (K := K) rfl) (pv 5) (pv 7) (fun _ _ => rfl)) (nomark _)))))) (pss_one (ps_ret pe_bl)) pss_nil))))
      (pss_cons (ps_if (pt_cmpR (op_notInYes hr.units) (pe_callF T.f__law_least_row (hr.mono (by first | decide | omega)) rfl (pa_cons (pv 2) (pa_cons (pv 4) pa_nil))) (pv 5) rfl) (pss_one (ps_ret pe_bl)) pss_nil)
      (pss_one (ps_if (pt_cmpR op_lt (pv 3) pe_int (nomark _)) (pss_cons (ps_comp (i := 8) sc_law.nd rfl rfl (N := (["_law_row"] : List Str)) (ix := ([none] : List (Option Nat))) (comp_ok rfl rfl) rfl (pi_listK (K := K) rfl (pv 5)) (fun _ _ _ _ => (pg_name (i := 0) (show List.Nodup (["_law_row"] : List Str) from by decide +kernel) rfl (Or.inl rfl))) (fun _ _ _ _ => pif_nil) (fun _ _ _ _ => (pe_callTy (call_list_ofK (K := K) rfl) rfl T.b_list (by decide +kernel) (pa_cons (pv 0) pa_nil))))
      (pss_cons (ps_for PassesOwn.never rfl (pi_range1 rfl T.b_range (pa_cons (pe_callB (call_lenK (K := K) rfl) rfl T.b_len (by decide +kernel) (pa_cons (pv 5) pa_nil)) pa_nil)) (pg_name (i := 7) sc_law.nd rfl (Or.inl rfl)) (pss_one (ps_expr (pe_bmK (K := K) rfl PySem.F.plainAttrs_list PySem.F.slot_list_append PySem.F.type_list_append mt_append (pe_ix (ix_listK (K := K) rfl) (pv 5) (pv 7) (fun _ _ => rfl)) (pa_cons (pe_tup (pa_cons pe_int (pa_cons (pe_op op_add pe_int (pv 7)) pa_nil))) pa_nil)))))
      (pss_cons (ps_if (pt_cmpR (op_neD hr.units) (pv 5) (pe_comp (N := (["_law_at", "_law_row"] : List Str)) (ix := ([none, none] : List (Option Nat))) (comp_ok rfl rfl) rfl (pi_enum0 (K := K) rfl rfl T.b_enumerate (pa_cons (pv 8) pa_nil)) (fun _ _ _ _ => (pg_tupK (K := K) (n := 2) rfl rfl (pgs_cons (pg_name (i := 0) (show List.Nodup (["_law_at", "_law_row"] : List Str) from by decide +kernel) rfl (Or.inl rfl)) (pgs_cons (pg_name (i := 1) (show List.Nodup (["_law_at", "_law_row"] : List Str) from by decide +kernel) rfl (Or.inl rfl)) pgs_nil)))) (fun _ _ _ _ => pif_nil) (fun _ _ _ _ => (pe_op op_cat (pv 1) (pe_lst (pa_cons (pe_tup (pa_cons pe_int (pa_cons (pe_op op_add pe_int (pv 0)) pa_nil))) pa_nil))))) (nomark _)) (pss_one (ps_ret pe_bl)) pss_nil)
      (pss_cons (ps_expr (pe_bm0K (K := K) rfl PySem.F.plainAttrs_list PySem.F.slot_list_clear PySem.F.type_list_clear mt_clear (pv 5)))
      (pss_one (ps_if (pt_cmpR (op_neD hr.units) (pe_callF T.f_least_rows (hr.mono (by first | decide | omega)) rfl (pa_cons (pv 4) pa_nil)) (pv 8) (nomark _)) (pss_one (ps_ret pe_bl)) pss_nil)))))) pss_nil))))))))))))
      (pss_one (ps_ret pe_bl))), ?_⟩
    have big : (10000000 : Nat) ≤ sizeLine := by decide
    refine ⟨_, rfl, a, _, rfl, .inl hS, _, _, rfl, _, _, rfl, _, rfl, ?b1, ?b2, ?_⟩
    case b1 => rw [List.length_map]; split <;> (try split) <;> omega
    case b2 => rw [List.length_map]; split <;> (try split) <;> omega
    refine for_range (fun i σ H' => (∃ v1 v2 v3 v4 v5 v6 v7 v8, σ = [some (.ref a), v1, v2, v3, v4, v5, v6, v7, v8]) ∧ Same H H' ∧ i ≤ 100) ⟨⟨_, _, _, _, _, _, _, _, rfl⟩, Same.refl _, by decide⟩ ?_ ?_
    · rintro i σ H0 hi ⟨⟨v1, v2, v3, v4, v5, v6, v7, v8, rfl⟩, s0, _⟩
      have hi : i < 25 := Nat.lt_of_lt_of_le hi (by rw [List.length_map]; split <;> (try split) <;> omega)
      refine ⟨_, rfl, _, rfl, a, ns, _, rfl, s0.seq hS, by omega, by omega, fun p H1 hp pu1 s1 => ?_⟩
      have np : H p = none := s0.free hp
      have a1 : Same H H1 := s0.trans s1
      refine ⟨_, rfl, p, 0, 5, rfl, pu1, by decide, by decide, by decide, fun r H2 r0 r1 pu2 s2 => ?_⟩
      have a2 := Same.of a1 np s2
      obtain ⟨n0, hn⟩ : ∃ n : Int, 1 + r = n := ⟨_, rfl⟩
      refine add_at hn ?_
      refine gNJ ?_
      dsimp only
      refine seq_byJ (t := tIfS _ _ _) (fun σ' H' => ∃ n : Int, 1 ≤ n ∧ n ≤ 6 ∧ σ' = [some (.ref a), some (.int (0 + (i : Int))), some (.ref p), some (.int n), v4, v5, v6, v7, v8] ∧ Same H H' ∧ Purse H' p 2) (fun D' hD => ?_) ?_
      · have out : ∀ (n : Int) (H' : Hp), 1 ≤ n → n ≤ 6 → Same H H' → Purse H' p 2 → D'.nx [some (.ref a), some (.int (0 + (i : Int))), some (.ref p), some (.int n), v4, v5, v6, v7, v8] H' := fun n H' h1 h2 h3 h4 => hD _ _ ⟨n, h1, h2, rfl, h3, h4⟩
        refine ⟨_, rfl, p, 1, 8, rfl, pu2, by decide, by decide, by decide, fun r2 H3 q0 q1 pu3 s3 => ⟨rfl, _, rfl, ite2 (fun c => ?_) (fun c => ?_)⟩⟩
        · refine ⟨_, rfl, rfl, _, rfl, ite2 (fun c => ?_) (fun c => ?_)⟩
          · exact out 6 H3 (by decide) (by decide) (Same.of a2 np s3) pu3
          · exact out n0 H3 (by omega) (by omega) (Same.of a2 np s3) pu3
        · exact out n0 H3 (by omega) (by omega) (Same.of a2 np s3) pu3
      rintro σ H3 ⟨n, n1, n6, rfl, a3, pu3⟩
      refine ⟨_, rfl, _, rfl, p, 2, n, rfl, pu3, by decide, n1, by omega, fun t xs H4 ft ht o pu4 s4 => ?_⟩
      have a4 := Same.of a3 np s4
      have cl := cnt_leR n xs
      have cp := cnt_pos20 n1 o
      have ntp : t ≠ p := fun z => by subst z; exact (pu3.ne ft) rfl
      obtain ⟨f, hf⟩ : ∃ f, f + cnt n xs = n.toNat := ⟨n.toNat - cnt n xs, by omega⟩
      refine ⟨_, rfl, t, n, xs, f, rfl, by omega, ht, n1, n6, o, hf, fun lf us H5 flf hlf ru fr nlf s5 => ?_⟩
      have ht5 := s5 _ _ ht
      have a5 := a4.trans s5
      have pu5 := pu4.keep s5
      have ul := ru.length
      have lis := lrL_is (show 0 ≤ n by omega) (f := f) o hf
      have lris := lrL_rise f n xs
      have llen : (lrL f n xs).length = mkL (lensM n xs) := by
        have h := @lrL_len n.toNat (by omega) f xs
        rw [show ((n.toNat : Nat) : Int) = n by omega] at h
        exact h o hf
      have lfew := lrL_few n1 n6 f xs
      have l15 : (15 : Nat) ^ f ≤ 15 ^ 5 := Nat.pow_le_pow_right (by decide) (by omega)
      have l15' : (15 : Nat) ^ 5 = 759375 := by decide
      generalize hL : lrL f n xs = L at *
      refine ⟨_, rfl, _, rfl, t, n, xs, rfl, ht5, o, by omega, fun lr wr H6 flr hlr xr _ _ s6 => ⟨lr, _, rfl, .inl (SqL.of hlr), _, _, rfl, rfl, ?_⟩⟩
      have wl : wr.length = cnt n xs := by rw [xr.length]; unfold rndM cnt; rw [List.length_map]
      refine gNJ ?_
      dsimp only
      rw [show n - (wr.length : Int) = (f : Int) by omega]
      have hlf6 := s6 _ _ hlf
      have ht6 := s6 _ _ ht5
      refine ⟨_, rfl, _, _, "list", _, rfl, TyOf.lst hlf6, kit_self _ _, true, rfl, iteF ?_⟩
      refine ⟨_, rfl, lf, _, rfl, .inl (SqL.of hlf6), _, rfl, t, n, xs, rfl, ht6, o, n1, n6, fun H7 s7 => ⟨rfl, _, rfl, iteE ?_ ?_⟩⟩
      · rw [← llen, ul, decide_eq_true rfl]; rfl
      have s57 := s6.trans s7
      have ru7 := ru.keep s57
      have hlf7 := s57 _ _ hlf
      have ht7 := s57 _ _ ht5
      have a7 := a5.trans s57
      have pu7 := pu5.keep s57
      refine ⟨_, rfl, lf, _, rfl, .inl (SqL.of hlf7), _, rfl, by omega, by omega, for_range (fun j σ H' => (∃ v7, σ = [some (.ref a), some (.int (0 + (i : Int))), some (.ref p), some (.int n), some (.ref t), some (.ref lf), some (.int (f : Int)), v7, v8]) ∧ Same H7 H') ⟨⟨_, rfl⟩, Same.refl _⟩ ?_ ?_⟩
      · rintro j σ H8 hj ⟨⟨v7', rfl⟩, s8⟩
        have hj : j < us.length := by omega
        rw [show (0 : Int) + (j : Int) = (j : Int) by omega]
        obtain ⟨r, hr1⟩ : ∃ r, L[j]? = some r := ⟨_, List.getElem?_eq_getElem (by omega)⟩
        have ru8 := ru7.keep s8
        obtain ⟨b, es, hb1, hb, xb⟩ := ru8.getR hr1
        obtain ⟨g1, g2, g3⟩ := (lis r).mp (List.mem_of_getElem? hr1)
        have el := xb.length
        refine ⟨_, rfl, _, rfl, _, rfl, lf, us, _, _, rfl, rfl, SqL.of (s8 _ _ hlf7), atI_nat hb1, n, b, es, r, rfl, hb, xb, g1, fun H9 s9 => ⟨true, rfl, iteF ?_⟩⟩
        have s89 := s8.trans s9
        have hlf9 := s89 _ _ hlf7
        refine ⟨_, rfl, _, rfl, lf, us, _, _, rfl, rfl, SqL.of hlf9, atI_nat hb1, b, _, rfl, .inl (SqL.of (s9 _ _ hb)), _, rfl, rfl, _, rfl, iteE ?_ ?_⟩
        · rw [el, g3, decide_eq_true rfl]; rfl
        refine ⟨_, rfl, _, rfl, _, rfl, lf, us, _, _, rfl, rfl, SqL.of hlf9, atI_nat hb1, n, b, es, r, rfl, by omega, by omega, s9 _ _ hb, xb.keep (Same.tups s9), g1, fun tl H10 ftl htl s10 => ?_⟩
        have s810 := s89.trans s10
        refine ⟨_, rfl, eqT htl (s810 _ _ ht7) ⟨_, rfl, iteE (by rw [g2, decide_eq_true rfl]; rfl) ?_⟩⟩
        refine ⟨_, rfl, _, _, rfl, rfl, _, rfl, ite2 (fun c => ?_) (fun c => ?_)⟩
        · have c : 0 < j := by have := of_decide_eq_true c; omega
          obtain ⟨j', rfl⟩ : ∃ j', j = j' + 1 := ⟨j - 1, by omega⟩
          obtain ⟨r', hr2⟩ : ∃ r', L[j']? = some r' := ⟨_, List.getElem?_eq_getElem (by omega)⟩
          have ru10 := ru7.keep s810
          obtain ⟨b', es', hb1', hb', xb'⟩ := ru10.getR hr2
          have lt : ltR r' r := by
            obtain ⟨i1, e1⟩ := List.getElem?_eq_some_iff.mp hr2
            obtain ⟨i2, e2⟩ := List.getElem?_eq_some_iff.mp hr1
            have := List.pairwise_iff_getElem.mp lris j' (j' + 1) i1 i2 (by omega)
            rw [e1, e2] at this
            exact this
          have hlf10 := s810 _ _ hlf7
          refine ⟨_, rfl, _, rfl, _, _, rfl, rfl, lf, us, _, _, rfl, rfl, SqL.of hlf10, ?_, _, rfl, _, rfl, lf, us, _, _, rfl, rfl, SqL.of hlf10, atI_nat hb1, b', b, es', es, r', r, rfl, rfl, hb', s10 _ _ (s9 _ _ hb), xb', xb.keep (Same.tups (s9.trans s10)), ?_⟩
          · rw [show ((j' + 1 : Nat) : Int) - 1 = (j' : Int) by omega]
            exact atI_nat hb1'
          rw [lexP_ltR lt]
          exact ⟨true, rfl, iteF ⟨⟨_, rfl⟩, s810⟩⟩
        · exact ⟨⟨_, rfl⟩, s810⟩
      rintro σ H8 ⟨⟨v7', rfl⟩, s8⟩
      have ru8 := ru7.keep s8
      have hlf8 := s8 _ _ hlf7
      have ht8 := s8 _ _ ht7
      have a8 := a7.trans s8
      have pu8 := pu7.keep s8
      have npu : V.ref p ∉ us := fun z => by
        obtain ⟨a', e, h⟩ := fr.2 _ z
        injection e with e
        subst e
        exact (pu4.ne h) rfl
      have nlp : lf ≠ p := fun z => (pu4.ne flf) z.symm
      refine ⟨_, rfl, _, rfl, p, _, t, n, xs, rfl, pu8, by decide, ht8, o, n1, by omega, fun lq eq row H9 flq hlq xq gq ledq cntq pu9 s9 => ?_⟩
      have ru9 : RwL H9 us L := RwL.keepX s9 pu8 ru8 npu
      have hlf9 := s9 _ _ nlp hlf8
      have ht9 := s9 _ _ ntp ht8
      have a9 := Same.of a8 np s9
      have inL : row ∈ L := (lis row).mpr ⟨gq, ledq, by omega⟩
      have nr := nice_rows [row]
      have ni : ∀ r : List (Int × Int), Nice 2 (.list (r.map fun p => .tuple [.int p.1, .int p.2])) := fun r => nice_list fun e he => by
        obtain ⟨p, _, rfl⟩ := List.mem_map.mp he
        exact nice_tuple fun z hz => by
          rcases List.mem_cons.mp hz with rfl | hz
          · exact nice_int _
          · rw [List.mem_singleton.mp hz]; exact nice_int _
      refine ⟨_, rfl, fun _ => True, .list (row.map fun p => .tuple [.int p.1, .int p.2]), lf, us, rowsD L, rfl, SqL.of hlf9, .lst (SqL.of hlq) True.intro xq.dat, ru9.dat, (ni row).lay, by have := (ni row).dp; omega, (fun d hd => ?_), ⟨_, List.mem_map.mpr ⟨row, inL, rfl⟩, PySem.SeqAt.eqv_refl _ (ni row).lay⟩, ⟨_, rfl, iteF ?_⟩⟩
      · obtain ⟨r, _, rfl⟩ := List.mem_map.mp hd
        exact (ni r).lay
      refine ⟨_, rfl, _, _, rfl, rfl, _, rfl, ite2 (fun c => ?_) (fun c => ?_)⟩
      · -- up to 4 things: told again
        refine ⟨_, rfl, lf, rfl, ⟨_, SqL.of hlf9⟩, compL (K := K) (a := lf) (xs := us) (k := 0) (fun j ys σ' H' => (∃ v, σ' = [v]) ∧ Same H9 H' ∧ RwL H' ys (L.take j) ∧ ys.length = j ∧ Fresh H9 ys) (by omega) ⟨⟨none, rfl⟩, Same.refl _, .nil, rfl, Fresh.nil⟩ (fun j ys σ' H' _ q => SqL.of (q.2.1 _ _ hlf9)) (fun j ys σ' H' q => Nat.le_of_eq q.2.2.2.1) ?_ ?_⟩
        · rintro j ys σ' H10 x R hx ⟨⟨v, rfl⟩, s10, x10, l10, f10⟩ done
          obtain ⟨b, es, r, rfl, hr1, hb, xb⟩ := (ru9.keep s10).get hx
          refine ⟨_, rfl, b, _, rfl, .inl (SqL.of hb), fun q fq => done _ _ _ ⟨⟨_, rfl⟩, s10.trans (Same.new fq), ?_, by rw [List.length_append, l10]; rfl, fresh_snocR f10 x10 fq (s10.free fq)⟩⟩
          rw [take_snoc hr1]
          exact RwL.snoc upd_same (xb.keep (Same.tups (Same.new fq))) (x10.keep (Same.new fq))
        rintro ks σ' H10 lk ⟨_, s10, x10, l10, f10⟩ flk
        rw [List.take_of_length_le (by omega)] at x10
        have s10' : Same H10 (upd H10 lk (.lst ks)) := Same.new flk
        have hlk : upd H10 lk (.lst ks) lk = some (.lst ks) := upd_same
        have x11 := x10.keep s10'
        have nlk : lk ≠ lf := fun z => by subst z; rw [s10 _ _ hlf9] at flk; cases flk
        have nku : V.ref lk ∉ us := fun z => (ru9.keep s10).in z flk
        have nkk : V.ref lk ∉ ks := fun z => x10.in z flk
        have nuk : ∀ b, V.ref b ∈ us → V.ref b ∉ ks := fun b h1 h2 => by
          obtain ⟨b', e, h⟩ := f10.2 _ h2
          injection e with e
          subst e
          exact ru9.in h1 h
        have s9b := s10.trans s10'
        generalize upd H10 lk (.lst ks) = H11 at s10' hlk x11 s9b ⊢
        have ru11 := ru9.keep s9b
        have hlf11 := s9b _ _ hlf9
        have ht11 := s9b _ _ ht9
        have a11 := a9.trans s9b
        refine ⟨_, rfl, lf, _, rfl, .inl (SqL.of hlf11), _, rfl, by omega, by omega, for_range (fun j σ H' => (∃ v7, σ = [some (.ref a), some (.int (0 + (i : Int))), some (.ref p), some (.int n), some (.ref t), some (.ref lf), some (.int (f : Int)), v7, some (.ref lk)]) ∧ RwL H' us (grwM L j) ∧ H' lf = some (.lst us) ∧ RwL H' ks L ∧ H' lk = some (.lst ks) ∧ H' t = some (.tup (xs.map V.int)) ∧ Same H H') ⟨⟨_, rfl⟩, by rw [grw_zero]; exact ru11, hlf11, x11, hlk, ht11, a11⟩ ?_ ?_⟩
        · rintro j σ H12 hj ⟨⟨v7', rfl⟩, ru12, hlf12, x12, hlk12, ht12, a12⟩
          have hj : j < us.length := by omega
          rw [show (0 : Int) + (j : Int) = (j : Int) by omega]
          obtain ⟨r, hr1⟩ : ∃ r, L[j]? = some r := ⟨_, List.getElem?_eq_getElem (by omega)⟩
          obtain ⟨b, es, hb1, hb, xb⟩ := ru12.getR (grw_at hr1)
          have bin := List.mem_of_getElem? hb1
          have el := xb.length
          have rl : r.length = f := ((lis r).mp (List.mem_of_getElem? hr1)).2.2
          have nlb : lf ≠ b := fun z => by subst z; exact nlf bin
          have nkb : lk ≠ b := fun z => by subst z; exact nku bin
          refine ⟨_, rfl, _, rfl, lf, us, _, _, rfl, rfl, SqL.of hlf12, atI_nat hb1, .inl ⟨rfl, _, SqL.of hb⟩, _, rfl, _, _, rfl, rfl, (by show 2 ≤ sizeLine; decide), fun t1 f1 => ⟨b, _, _, rfl, rfl, Same.new f1 _ _ hb, by omega, ?_⟩⟩
          have z1 : Same H12 (upd H12 t1 (.tup [V.int 1, V.int (100 + (j : Int))])) := Same.new f1
          have h1 : upd H12 t1 (.tup [V.int 1, V.int (100 + (j : Int))]) t1 = some (.tup [V.int 1, V.int (100 + (j : Int))]) := upd_same
          generalize upd H12 t1 (.tup [V.int 1, V.int (100 + (j : Int))]) = H13 at z1 h1 ⊢
          have g := (ru12.keep z1).grow fr.1 hb1 (grw_at hr1) (z1 _ _ hb) h1
          rw [grw_succ hr1] at g
          obtain ⟨b', e, hbn⟩ := fr.2 _ bin
          injection e with e
          subst e
          exact ⟨⟨_, rfl⟩, g, by rw [upd_ne nlb]; exact z1 _ _ hlf12, (x12.keep z1).off (z1 _ _ hb) (nuk b bin), by rw [upd_ne nkb]; exact z1 _ _ hlk12, tups_upd (z1 _ _ hb) _ _ (z1 _ _ ht12), Same.put (a12.trans z1) (a4.free hbn)⟩
        rintro σ H12 ⟨⟨v7'', rfl⟩, ru12, hlf12, x12, hlk12, ht12, a12⟩
        rw [ul] at ru12
        have gl : (grwM L L.length).length = L.length := by unfold grwM; rw [List.length_map, List.length_range]
        have gat : ∀ {j : Nat} {r : List (Int × Int)}, L[j]? = some r → (grwM L L.length)[j]? = some (r ++ [(1, 100 + (j : Int))]) := fun {j r} h => by
          have jl := (List.getElem?_eq_some_iff.mp h).1
          unfold grwM
          rw [List.getElem?_map, List.getElem?_range jl]
          show some (if j < L.length then _ else _) = _
          rw [if_pos jl, List.getD_eq_getElem?_getD, h]; rfl
        refine ⟨_, rfl, _, rfl, lk, ks, rfl, SqL.of hlk12, compE0 (K := K) (a := lk) (xs := ks) (fun j ys σ' Hy => (∃ v0 v1, σ' = [v0, v1]) ∧ Same H12 Hy ∧ RwL Hy ys ((grwM L L.length).take j) ∧ ys.length = j) (by omega) ⟨⟨none, none, rfl⟩, Same.refl _, .nil, rfl⟩ (fun j ys σ' Hy _ q => SqL.of (q.2.1 _ _ hlk12)) (fun j ys σ' Hy q => Nat.le_of_eq q.2.2.2) ?_ ?_ ?_⟩
        · rintro j ys σ' Hy tt v R hv ⟨⟨v0, v1, rfl⟩, sy, xy, yl⟩ ftt done
          obtain ⟨b, es, r, rfl, hr1, hb, xb⟩ := (x12.keep sy).get hv
          have el := xb.length
          have rl : r.length = f := ((lis r).mp (List.mem_of_getElem? hr1)).2.2
          have st : Same Hy (upd Hy tt (.tup [.int (j : Int), .ref b])) := Same.new ftt
          refine ⟨tt, _, rfl, SqT.of upd_same, rfl, _, _, rfl, _, _, rfl, rfl, ?_⟩
          generalize upd Hy tt (.tup [.int (j : Int), .ref b]) = Hz at st ⊢
          refine ⟨_, rfl, _, rfl, _, _, rfl, rfl, (by show 2 ≤ sizeLine; decide), fun t1 f1 => ?_⟩
          have z1 : Same Hz (upd Hz t1 (.tup [V.int 1, V.int (100 + (j : Int))])) := Same.new f1
          have h1 : upd Hz t1 (.tup [V.int 1, V.int (100 + (j : Int))]) t1 = some (.tup [V.int 1, V.int (100 + (j : Int))]) := upd_same
          generalize upd Hz t1 (.tup [V.int 1, V.int (100 + (j : Int))]) = Hw at z1 h1 ⊢
          refine ⟨(by show 1 ≤ sizeLine; decide), fun l1 f1 => ⟨b, l1, _, _, rfl, rfl, Same.new f1 _ _ (z1 _ _ (st _ _ hb)), upd_same, (by show _ + 1 ≤ sizeLine; omega), fun l2 f2 => ?_⟩⟩
          have z2 : Same Hw (upd Hw l1 (.lst [V.ref t1])) := Same.new f1
          generalize upd Hw l1 (.lst [V.ref t1]) = Hv at z2 f2 ⊢
          have z3 : Same Hv (upd Hv l2 (.lst (es ++ [V.ref t1]))) := Same.new f2
          have sa := st.trans (z1.trans (z2.trans z3))
          refine done _ _ _ ⟨⟨_, _, rfl⟩, sy.trans sa, ?_, by rw [List.length_append, yl]; rfl⟩
          rw [take_snoc (gat hr1)]
          exact RwL.snoc upd_same ((xb.keep (Same.tups sa)).append (.cons (z3 _ _ (z2 _ _ h1)) .nil)) (xy.keep sa)
        · intro x σ H R R' m q
          obtain ⟨a, xs, e1, h, hl, v, vs, e2, v', vs', e3, e4, q⟩ := q
          exact ⟨a, xs, e1, h, hl, v, vs, e2, v', vs', e3, e4, m _ _ q⟩
        rintro ys σ' Hy q4 ⟨⟨v0, v1, rfl⟩, sy, xy, yl⟩ fq4
        rw [List.take_of_length_le (by omega)] at xy
        have sy2 := sy.trans (Same.new (o := .lst ys) fq4)
        refine neRws (sy2 _ _ hlf12) (ru12.keep sy2) upd_same (xy.keep (Same.new fq4)) ⟨_, rfl, iteF ?_⟩
        have hlf13 := sy2 _ _ hlf12
        have hlk13 := sy2 _ _ hlk12
        have x13 := x12.keep sy2
        have ht13 := sy2 _ _ ht12
        have a13 := a12.trans sy2
        generalize upd Hy q4 (.lst ys) = H13 at sy2 hlf13 hlk13 x13 ht13 a13 ⊢
        refine ⟨_, rfl, .inl ⟨rfl, _, SqL.of hlf13⟩, lf, _, rfl, rfl, hlf13, ?_⟩
        have nfk : V.ref lf ∉ ks := fun z => by
          obtain ⟨b', e, h⟩ := f10.2 _ z
          injection e with e
          subst e
          rw [hlf9] at h; cases h
        have hlk14 : upd H13 lf (.lst []) lk = some (.lst ks) := by rw [upd_ne nlk]; exact hlk13
        have x14 : RwL (upd H13 lf (.lst [])) ks L := x13.off hlf13 nfk
        have ht14 : upd H13 lf (.lst []) t = some (.tup (xs.map V.int)) := tups_upd hlf13 _ _ ht13
        have a14 : Same H (upd H13 lf (.lst [])) := Same.put a13 (a4.free flf)
        generalize upd H13 lf (.lst []) = H14 at hlk14 x14 ht14 a14 ⊢
        refine ⟨_, rfl, t, n, xs, f, rfl, by omega, ht14, n1, n6, o, hf, fun lg vg H15 flg hlg rg _ _ s15 => ?_⟩
        rw [hL] at rg
        refine ⟨_, rfl, neRws hlg rg (s15 _ _ hlk14) (x14.keep s15) ⟨_, rfl, iteF ?_⟩⟩
        exact ⟨⟨_, _, _, _, _, _, _, _, rfl⟩, a14.trans s15, by omega⟩
      · exact ⟨⟨_, _, _, _, _, _, _, _, rfl⟩, a9, by omega⟩
    · rintro σ H' ⟨_, _, _⟩
      exact k H'
end
end Sw
namespace Sw
open PySem L2
section
variable {P : Program} {w : World} {K : PySem.W.Frag} {mg : Str → Option Value} {base : Heap}
theorem sc__law_wholes : FnScope ["_law_thing"] ["_law_thing"] (defScope (top 21)) := ⟨rfl, rfl, rfl, by decide +kernel, rfl, by decide +kernel, by decide +kernel⟩
theorem ok_wholes {f : Addr} {fd : FuncData} (F : Fun K "_law_wholes" "_law_wholes" (top 21) f fd) (T : T1 mg K) : FnOk P w K mg base CX0 1 f fd ["_law_thing"] (spWholes K) := by
  refine F.ok sc__law_wholes (fun vs H Q E h => ?_) (fun cdv A outer s H vs Q E hr h => ?_)
  · obtain ⟨t, ns, rfl, _⟩ := h
    rfl
  · obtain ⟨t, ns, rfl, ht, hl, k⟩ := h
    refine ⟨_, (pss_one (ps_ret (pe_callB (call_allK (K := K) rfl rfl) rfl T.b_all (by decide +kernel) (pa_cons (pe_comp (N := (["_law_one"] : List Str)) (ix := ([none] : List (Option Nat))) (comp_ok rfl rfl) rfl (pi_tupK (K := K) rfl (pv 0)) (fun _ _ _ _ => (pg_name (i := 0) (show List.Nodup (["_law_one"] : List Str) from by decide +kernel) rfl (Or.inl rfl))) (fun _ _ _ _ => pif_nil) (fun _ _ _ _ => (pe_and (pe_callB (call_isiK (K := K) rfl) rfl T.b_isinstance (by decide +kernel) (pa_cons (pv 0) (pa_cons (pe_bltn (v := .ty "int") rfl T.b_int (by decide +kernel) rfl) pa_nil))) (pe_one (pe_not (pe_callB (call_isiK (K := K) rfl) rfl T.b_isinstance (by decide +kernel) (pa_cons (pv 0) (pa_cons (pe_bltn (v := .ty "bool") rfl T.b_bool (by decide +kernel) rfl) pa_nil)))))))) pa_nil)))), ?_⟩
    refine ⟨_, rfl, t, rfl, ⟨_, SqT.of ht⟩, comp_tup (xs := ns.map V.int) (fun i ys σ H' => ys = List.replicate i (V.bl true) ∧ σ.length = 1 ∧ H' = H) (by rw [List.length_map]; omega) ⟨rfl, rfl, rfl⟩
      (fun i ys σ H' _ p => by rw [p.2.2]; exact SqT.of ht) (fun i ys σ H' p => by rw [p.1, List.length_replicate]; exact Nat.le_refl _) ?_ ?_ ?_⟩
    · rintro i ys σ H' x hx ⟨rfl, hσ, rfl⟩
      obtain ⟨z, rfl⟩ : ∃ z, x = V.int z := by
        rw [List.getElem?_map] at hx
        cases e : ns[i]? with
        | none => rw [e] at hx; cases hx
        | some z => rw [e] at hx; exact ⟨z, (Option.some.inj hx).symm⟩
      obtain ⟨s0, rfl⟩ : ∃ s0, σ = [s0] := by
        match σ, hσ with
        | [s0], _ => exact ⟨s0, rfl⟩
      refine ⟨_, rfl, _, "int", "int", _, rfl, TyOf.int z, kit_self _ _, true, rfl, ?_⟩
      refine iteT ?_
      refine ⟨_, rfl, _, "int", "bool", _, rfl, TyOf.int z, T.k_ib, false, rfl, ?_⟩
      refine ⟨?_, rfl, rfl⟩
      rw [List.replicate_succ']
      rfl
    · intro σ H' R R' m q
      obtain ⟨v, e1, x, A1, A2, b, e2, t1, t2, c, e3, q⟩ := q
      refine ⟨v, e1, x, A1, A2, b, e2, t1, t2, c, e3, ?_⟩
      cases c with
      | true =>
        rw [if_pos rfl] at q ⊢
        obtain ⟨v, e1, x, A1, A2, b, e2, t1, t2, c, e3, q⟩ := q
        exact ⟨v, e1, x, A1, A2, b, e2, t1, t2, c, e3, m _ _ q⟩
      | false =>
        rw [if_neg Bool.false_ne_true] at q ⊢
        exact m _ _ q
    · rintro ys σ' H' p ⟨rfl, _, rfl⟩ hp
      refine ⟨p, List.replicate (ns.map V.int).length true, rfl, SqL.of (by rw [upd_same, List.map_replicate]), ?_⟩
      have e : (List.replicate (ns.map V.int).length true).all id = true := by simp
      rw [e]
      exact k _ (Same.new hp)
end
end Sw
namespace Sw
open PySem L2
section
variable {P : Program} {w : World} {K : PySem.W.Frag} {mg : Str → Option Value} {base : Heap}
theorem sc_exchanged : FnScope ["exchange", "thing", "a", "b"] ["exchange", "thing"] (defScope (top 9)) := ⟨rfl, rfl, rfl, by decide +kernel, rfl, by decide +kernel, by decide +kernel⟩
theorem ok_ex {f : Addr} {fd : FuncData} (F : Fun K "exchanged" "exchanged" (top 9) f fd) : FnOk P w K mg base CX0 1 f fd ["exchange", "thing"] spEx := by
  refine F.ok sc_exchanged (fun vs H Q E h => ?_) (fun cdv A outer s H vs Q E hr h => ?_)
  · obtain ⟨t, a, b, x, rfl, _⟩ := h
    rfl
  · obtain ⟨t, a, b, x, rfl, ht, k⟩ := h
    refine ⟨_, (pss_cons (ps_asg (pv 0) (pg_tupK (K := K) (n := 2) rfl rfl (pgs_cons (pg_name (i := 2) sc_exchanged.nd rfl (Or.inl rfl)) (pgs_cons (pg_name (i := 3) sc_exchanged.nd rfl (Or.inl rfl)) pgs_nil))))
      (pss_cons (ps_if (pt_cmpR op_eq (pv 1) (pv 2) (nomark _)) (pss_one (ps_ret (pv 3))) pss_nil)
      (pss_cons (ps_if (pt_cmpR op_eq (pv 1) (pv 3) (nomark _)) (pss_one (ps_ret (pv 2))) pss_nil)
      (pss_one (ps_ret (pv 1)))))), ?_⟩
    refine ⟨_, rfl, t, _, rfl, SqT.of ht, rfl, _, _, rfl, _, _, rfl, rfl, ?_⟩
    unfold swp at k
    refine ⟨_, rfl, _, rfl, rfl, _, rfl, ite2 (fun c => ?_) (fun c => ?_)⟩
    · have c : x = a := by simpa using c
      rw [if_pos c] at k
      exact ⟨_, rfl, k⟩
    · have c : ¬ x = a := by simpa using c
      rw [if_neg c] at k
      refine ⟨_, rfl, _, rfl, rfl, _, rfl, ite2 (fun c => ?_) (fun c => ?_)⟩
      · have c : x = b := by simpa using c
        rw [if_pos c] at k
        exact ⟨_, rfl, k⟩
      · have c : ¬ x = b := by simpa using c
        rw [if_neg c] at k
        exact ⟨_, rfl, k⟩
end
end Sw
namespace Sw
open PySem L2
theorem all_mk {l : PySem.W.OpenLaw} {w : World} {K : PySem.W.Frag} {h : Heap} {mg : Str → Option Value} {fa : Addr} (X : K.In h) (G : h.Ns mainGlobals mg) (hfa : mg "law" = some (.ref fa))
    {f0 : Addr} {od0 an0 : Option Addr} {sl0 : Array (Option Value)} {oc0 kV0 dc0 pm0 cd0 ct0 : Value}
    {f1 : Addr} {od1 an1 : Option Addr} {sl1 : Array (Option Value)} {oc1 kV1 dc1 pm1 cd1 ct1 : Value}
    {f2 : Addr} {od2 an2 : Option Addr} {sl2 : Array (Option Value)} {oc2 kV2 dc2 pm2 cd2 ct2 : Value}
    {f3 : Addr} {od3 an3 : Option Addr} {sl3 : Array (Option Value)} {oc3 kV3 dc3 pm3 cd3 ct3 : Value}
    {f4 : Addr} {od4 an4 : Option Addr} {sl4 : Array (Option Value)} {oc4 kV4 dc4 pm4 cd4 ct4 : Value}
    {f5 : Addr} {od5 an5 : Option Addr} {sl5 : Array (Option Value)} {oc5 kV5 dc5 pm5 cd5 ct5 : Value}
    {f6 : Addr} {od6 an6 : Option Addr} {sl6 : Array (Option Value)} {oc6 kV6 dc6 pm6 cd6 ct6 : Value}
    {f7 : Addr} {od7 an7 : Option Addr} {sl7 : Array (Option Value)} {oc7 kV7 dc7 pm7 cd7 ct7 : Value}
    {f8 : Addr} {od8 an8 : Option Addr} {sl8 : Array (Option Value)} {oc8 kV8 dc8 pm8 cd8 ct8 : Value}
    {f9 : Addr} {od9 an9 : Option Addr} {sl9 : Array (Option Value)} {oc9 kV9 dc9 pm9 cd9 ct9 : Value}
    {f10 : Addr} {od10 an10 : Option Addr} {sl10 : Array (Option Value)} {oc10 kV10 dc10 pm10 cd10 ct10 : Value}
    {f11 : Addr} {od11 an11 : Option Addr} {sl11 : Array (Option Value)} {oc11 kV11 dc11 pm11 cd11 ct11 : Value}
    {f12 : Addr} {od12 an12 : Option Addr} {sl12 : Array (Option Value)} {oc12 kV12 dc12 pm12 cd12 ct12 : Value}
    {f13 : Addr} {od13 an13 : Option Addr} {sl13 : Array (Option Value)} {oc13 kV13 dc13 pm13 cd13 ct13 : Value}
    {f14 : Addr} {od14 an14 : Option Addr} {sl14 : Array (Option Value)} {oc14 kV14 dc14 pm14 cd14 ct14 : Value}
    {f15 : Addr} {od15 an15 : Option Addr} {sl15 : Array (Option Value)} {oc15 kV15 dc15 pm15 cd15 ct15 : Value}
    {f16 : Addr} {od16 an16 : Option Addr} {sl16 : Array (Option Value)} {oc16 kV16 dc16 pm16 cd16 ct16 : Value}
    {f17 : Addr} {od17 an17 : Option Addr} {sl17 : Array (Option Value)} {oc17 kV17 dc17 pm17 cd17 ct17 : Value}
    (a0 : PySem.W.nsIn K mainGlobals "plain" = some (some (.ref f0))) (l0 : K.lookup f0 = some ⟨oc0, od0, .func (PySem.W.fnOf "plain" "plain" (defArgs (top 4)) (defBody (top 4)) (defScope (top 4)) .none kV0 dc0 pm0 an0 cd0 ct0), sl0⟩) (c0 : PySem.W.codeIn K cd0 "plain" = true) (k0 : PySem.W.keepIn K (.ref f0) = true)
    (a1 : PySem.W.nsIn K mainGlobals "then" = some (some (.ref f1))) (l1 : K.lookup f1 = some ⟨oc1, od1, .func (PySem.W.fnOf "then" "then" (defArgs (top 5)) (defBody (top 5)) (defScope (top 5)) .none kV1 dc1 pm1 an1 cd1 ct1), sl1⟩) (c1 : PySem.W.codeIn K cd1 "then" = true) (k1 : PySem.W.keepIn K (.ref f1) = true)
    (a2 : PySem.W.nsIn K mainGlobals "round_from" = some (some (.ref f2))) (l2 : K.lookup f2 = some ⟨oc2, od2, .func (PySem.W.fnOf "round_from" "round_from" (defArgs (top 6)) (defBody (top 6)) (defScope (top 6)) .none kV2 dc2 pm2 an2 cd2 ct2), sl2⟩) (c2 : PySem.W.codeIn K cd2 "round_from" = true) (k2 : PySem.W.keepIn K (.ref f2) = true)
    (a3 : PySem.W.nsIn K mainGlobals "rounds" = some (some (.ref f3))) (l3 : K.lookup f3 = some ⟨oc3, od3, .func (PySem.W.fnOf "rounds" "rounds" (defArgs (top 7)) (defBody (top 7)) (defScope (top 7)) .none kV3 dc3 pm3 an3 cd3 ct3), sl3⟩) (c3 : PySem.W.codeIn K cd3 "rounds" = true) (k3 : PySem.W.keepIn K (.ref f3) = true)
    (a4 : PySem.W.nsIn K mainGlobals "exchanged" = some (some (.ref f4))) (l4 : K.lookup f4 = some ⟨oc4, od4, .func (PySem.W.fnOf "exchanged" "exchanged" (defArgs (top 9)) (defBody (top 9)) (defScope (top 9)) .none kV4 dc4 pm4 an4 cd4 ct4), sl4⟩) (c4 : PySem.W.codeIn K cd4 "exchanged" = true) (k4 : PySem.W.keepIn K (.ref f4) = true)
    (a5 : PySem.W.nsIn K mainGlobals "led" = some (some (.ref f5))) (l5 : K.lookup f5 = some ⟨oc5, od5, .func (PySem.W.fnOf "led" "led" (defArgs (top 10)) (defBody (top 10)) (defScope (top 10)) .none kV5 dc5 pm5 an5 cd5 ct5), sl5⟩) (c5 : PySem.W.codeIn K cd5 "led" = true) (k5 : PySem.W.keepIn K (.ref f5) = true)
    (a6 : PySem.W.nsIn K mainGlobals "cuts" = some (some (.ref f6))) (l6 : K.lookup f6 = some ⟨oc6, od6, .func (PySem.W.fnOf "cuts" "cuts" (defArgs (top 12)) (defBody (top 12)) (defScope (top 12)) .none kV6 dc6 pm6 an6 cd6 ct6), sl6⟩) (c6 : PySem.W.codeIn K cd6 "cuts" = true) (k6 : PySem.W.keepIn K (.ref f6) = true)
    (a7 : PySem.W.nsIn K mainGlobals "least_rows" = some (some (.ref f7))) (l7 : K.lookup f7 = some ⟨oc7, od7, .func (PySem.W.fnOf "least_rows" "least_rows" (defArgs (top 13)) (defBody (top 13)) (defScope (top 13)) .none kV7 dc7 pm7 an7 cd7 ct7), sl7⟩) (c7 : PySem.W.codeIn K cd7 "least_rows" = true) (k7 : PySem.W.keepIn K (.ref f7) = true)
    (a8 : PySem.W.nsIn K mainGlobals "_law_purse" = some (some (.ref f8))) (l8 : K.lookup f8 = some ⟨oc8, od8, .func (PySem.W.fnOf "_law_purse" "_law_purse" (defArgs (top 15)) (defBody (top 15)) (defScope (top 15)) .none kV8 dc8 pm8 an8 cd8 ct8), sl8⟩) (c8 : PySem.W.codeIn K cd8 "_law_purse" = true) (k8 : PySem.W.keepIn K (.ref f8) = true)
    (a9 : PySem.W.nsIn K mainGlobals "_law_take" = some (some (.ref f9))) (l9 : K.lookup f9 = some ⟨oc9, od9, .func (PySem.W.fnOf "_law_take" "_law_take" (defArgs (top 16)) (defBody (top 16)) (defScope (top 16)) .none kV9 dc9 pm9 an9 cd9 ct9), sl9⟩) (c9 : PySem.W.codeIn K cd9 "_law_take" = true) (k9 : PySem.W.keepIn K (.ref f9) = true)
    (a10 : PySem.W.nsIn K mainGlobals "_law_order" = some (some (.ref f10))) (l10 : K.lookup f10 = some ⟨oc10, od10, .func (PySem.W.fnOf "_law_order" "_law_order" (defArgs (top 17)) (defBody (top 17)) (defScope (top 17)) .none kV10 dc10 pm10 an10 cd10 ct10), sl10⟩) (c10 : PySem.W.codeIn K cd10 "_law_order" = true) (k10 : PySem.W.keepIn K (.ref f10) = true)
    (a11 : PySem.W.nsIn K mainGlobals "_law_led" = some (some (.ref f11))) (l11 : K.lookup f11 = some ⟨oc11, od11, .func (PySem.W.fnOf "_law_led" "_law_led" (defArgs (top 18)) (defBody (top 18)) (defScope (top 18)) .none kV11 dc11 pm11 an11 cd11 ct11), sl11⟩) (c11 : PySem.W.codeIn K cd11 "_law_led" = true) (k11 : PySem.W.keepIn K (.ref f11) = true)
    (a12 : PySem.W.nsIn K mainGlobals "_law_rounds" = some (some (.ref f12))) (l12 : K.lookup f12 = some ⟨oc12, od12, .func (PySem.W.fnOf "_law_rounds" "_law_rounds" (defArgs (top 19)) (defBody (top 19)) (defScope (top 19)) .none kV12 dc12 pm12 an12 cd12 ct12), sl12⟩) (c12 : PySem.W.codeIn K cd12 "_law_rounds" = true) (k12 : PySem.W.keepIn K (.ref f12) = true)
    (a13 : PySem.W.nsIn K mainGlobals "_law_least_row" = some (some (.ref f13))) (l13 : K.lookup f13 = some ⟨oc13, od13, .func (PySem.W.fnOf "_law_least_row" "_law_least_row" (defArgs (top 20)) (defBody (top 20)) (defScope (top 20)) .none kV13 dc13 pm13 an13 cd13 ct13), sl13⟩) (c13 : PySem.W.codeIn K cd13 "_law_least_row" = true) (k13 : PySem.W.keepIn K (.ref f13) = true)
    (a14 : PySem.W.nsIn K mainGlobals "_law_wholes" = some (some (.ref f14))) (l14 : K.lookup f14 = some ⟨oc14, od14, .func (PySem.W.fnOf "_law_wholes" "_law_wholes" (defArgs (top 21)) (defBody (top 21)) (defScope (top 21)) .none kV14 dc14 pm14 an14 cd14 ct14), sl14⟩) (c14 : PySem.W.codeIn K cd14 "_law_wholes" = true) (k14 : PySem.W.keepIn K (.ref f14) = true)
    (a15 : PySem.W.nsIn K mainGlobals "_law_is_told" = some (some (.ref f15))) (l15 : K.lookup f15 = some ⟨oc15, od15, .func (PySem.W.fnOf "_law_is_told" "_law_is_told" (defArgs (top 22)) (defBody (top 22)) (defScope (top 22)) .none kV15 dc15 pm15 an15 cd15 ct15), sl15⟩) (c15 : PySem.W.codeIn K cd15 "_law_is_told" = true) (k15 : PySem.W.keepIn K (.ref f15) = true)
    (a16 : PySem.W.nsIn K mainGlobals "_law_many" = some (some (.ref f16))) (l16 : K.lookup f16 = some ⟨oc16, od16, .func (PySem.W.fnOf "_law_many" "_law_many" (defArgs (top 23)) (defBody (top 23)) (defScope (top 23)) .none kV16 dc16 pm16 an16 cd16 ct16), sl16⟩) (c16 : PySem.W.codeIn K cd16 "_law_many" = true) (k16 : PySem.W.keepIn K (.ref f16) = true)
    (a17 : PySem.W.nsIn K mainGlobals "law" = some (some (.ref f17))) (l17 : K.lookup f17 = some ⟨oc17, od17, .func (PySem.W.fnOf "law" "law" (defArgs (top 24)) (defBody (top 24)) (defScope (top 24)) .none kV17 dc17 pm17 an17 cd17 ct17), sl17⟩) (c17 : PySem.W.codeIn K cd17 "law" = true) (k17 : PySem.W.keepIn K (.ref f17) = true)
    (z_len : PySem.W.nsIn K mainGlobals "len" = some none)
    (z_abs : PySem.W.nsIn K mainGlobals "abs" = some none)
    (z_int : PySem.W.nsIn K mainGlobals "int" = some none)
    (z_all : PySem.W.nsIn K mainGlobals "all" = some none)
    (z_isinstance : PySem.W.nsIn K mainGlobals "isinstance" = some none)
    (z_bool : PySem.W.nsIn K mainGlobals "bool" = some none)
    (z_tuple : PySem.W.nsIn K mainGlobals "tuple" = some none)
    (z_list : PySem.W.nsIn K mainGlobals "list" = some none)
    (z_range : PySem.W.nsIn K mainGlobals "range" = some none)
    (z_min : PySem.W.nsIn K mainGlobals "min" = some none)
    (z_max : PySem.W.nsIn K mainGlobals "max" = some none)
    (z_sorted : PySem.W.nsIn K mainGlobals "sorted" = some none)
    (z_enumerate : PySem.W.nsIn K mainGlobals "enumerate" = some none)
    (kib : PySem.W.kitOne K (.type "int") (.type "bool") = some false) :
    ∃ fd : FuncData, (∀ (s : Shared) (v : Value), BindsTo s fd ⟨[v], []⟩ [("_law_script", v)]) ∧ ∀ base : Heap, K.In base → base.Ns mainGlobals mg → FnOk l.prog w K mg base CX0 11 fa fd ["_law_script"] (spLaw K) := by
  have F_plain := fun_mk (st := top 4) l0 c0 k0
  have b_plain := F_plain.binds (ps := ["n"]) fun _ _ _ _ _ _ us hl => match us, hl with | [_], _ => rfl
  have m_plain := PySem.W.mg_of X G a0
  have F_then := fun_mk (st := top 5) l1 c1 k1
  have b_then := F_then.binds (ps := ["one", "other"]) fun _ _ _ _ _ _ us hl => match us, hl with | [_, _], _ => rfl
  have m_then := PySem.W.mg_of X G a1
  have F_round_from := fun_mk (st := top 6) l2 c2 k2
  have b_round_from := F_round_from.binds (ps := ["order", "first"]) fun _ _ _ _ _ _ us hl => match us, hl with | [_, _], _ => rfl
  have m_round_from := PySem.W.mg_of X G a2
  have F_rounds := fun_mk (st := top 7) l3 c3 k3
  have b_rounds := F_rounds.binds (ps := ["order"]) fun _ _ _ _ _ _ us hl => match us, hl with | [_], _ => rfl
  have m_rounds := PySem.W.mg_of X G a3
  have F_exchanged := fun_mk (st := top 9) l4 c4 k4
  have b_exchanged := F_exchanged.binds (ps := ["exchange", "thing"]) fun _ _ _ _ _ _ us hl => match us, hl with | [_, _], _ => rfl
  have m_exchanged := PySem.W.mg_of X G a4
  have F_led := fun_mk (st := top 10) l5 c5 k5
  have b_led := F_led.binds (ps := ["n", "row"]) fun _ _ _ _ _ _ us hl => match us, hl with | [_, _], _ => rfl
  have m_led := PySem.W.mg_of X G a5
  have F_cuts := fun_mk (st := top 12) l6 c6 k6
  have b_cuts := F_cuts.binds (ps := ["order"]) fun _ _ _ _ _ _ us hl => match us, hl with | [_], _ => rfl
  have m_cuts := PySem.W.mg_of X G a6
  have F_least_rows := fun_mk (st := top 13) l7 c7 k7
  have b_least_rows := F_least_rows.binds (ps := ["order"]) fun _ _ _ _ _ _ us hl => match us, hl with | [_], _ => rfl
  have m_least_rows := PySem.W.mg_of X G a7
  have F__law_purse := fun_mk (st := top 15) l8 c8 k8
  have b__law_purse := F__law_purse.binds (ps := ["_law_script", "_law_at"]) fun _ _ _ _ _ _ us hl => match us, hl with | [_, _], _ => rfl
  have m__law_purse := PySem.W.mg_of X G a8
  have F__law_take := fun_mk (st := top 16) l9 c9 k9
  have b__law_take := F__law_take.binds (ps := ["_law_purse_here", "_law_many_here"]) fun _ _ _ _ _ _ us hl => match us, hl with | [_, _], _ => rfl
  have m__law_take := PySem.W.mg_of X G a9
  have F__law_order := fun_mk (st := top 17) l10 c10 k10
  have b__law_order := F__law_order.binds (ps := ["_law_purse_here", "_law_n"]) fun _ _ _ _ _ _ us hl => match us, hl with | [_, _], _ => rfl
  have m__law_order := PySem.W.mg_of X G a10
  have F__law_led := fun_mk (st := top 18) l11 c11 k11
  have b__law_led := F__law_led.binds (ps := ["_law_n", "_law_row"]) fun _ _ _ _ _ _ us hl => match us, hl with | [_, _], _ => rfl
  have m__law_led := PySem.W.mg_of X G a11
  have F__law_rounds := fun_mk (st := top 19) l12 c12 k12
  have b__law_rounds := F__law_rounds.binds (ps := ["_law_order_here"]) fun _ _ _ _ _ _ us hl => match us, hl with | [_], _ => rfl
  have m__law_rounds := PySem.W.mg_of X G a12
  have F__law_least_row := fun_mk (st := top 20) l13 c13 k13
  have b__law_least_row := F__law_least_row.binds (ps := ["_law_purse_here", "_law_order_here"]) fun _ _ _ _ _ _ us hl => match us, hl with | [_, _], _ => rfl
  have m__law_least_row := PySem.W.mg_of X G a13
  have F__law_wholes := fun_mk (st := top 21) l14 c14 k14
  have b__law_wholes := F__law_wholes.binds (ps := ["_law_thing"]) fun _ _ _ _ _ _ us hl => match us, hl with | [_], _ => rfl
  have m__law_wholes := PySem.W.mg_of X G a14
  have F__law_is_told := fun_mk (st := top 22) l15 c15 k15
  have b__law_is_told := F__law_is_told.binds (ps := ["_law_n", "_law_found"]) fun _ _ _ _ _ _ us hl => match us, hl with | [_, _], _ => rfl
  have m__law_is_told := PySem.W.mg_of X G a15
  have F__law_many := fun_mk (st := top 23) l16 c16 k16
  have b__law_many := F__law_many.binds (ps := ["_law_order_here"]) fun _ _ _ _ _ _ us hl => match us, hl with | [_], _ => rfl
  have m__law_many := PySem.W.mg_of X G a16
  have F_law := fun_mk (st := top 24) l17 c17 k17
  have b_law := F_law.binds (ps := ["_law_script"]) fun _ _ _ _ _ _ us hl => match us, hl with | [_], _ => rfl
  have m_law := PySem.W.mg_of X G a17
  have z_len := PySem.W.mg_none_of X G z_len
  have z_abs := PySem.W.mg_none_of X G z_abs
  have z_int := PySem.W.mg_none_of X G z_int
  have z_all := PySem.W.mg_none_of X G z_all
  have z_isinstance := PySem.W.mg_none_of X G z_isinstance
  have z_bool := PySem.W.mg_none_of X G z_bool
  have z_tuple := PySem.W.mg_none_of X G z_tuple
  have z_list := PySem.W.mg_none_of X G z_list
  have z_range := PySem.W.mg_none_of X G z_range
  have z_min := PySem.W.mg_none_of X G z_min
  have z_max := PySem.W.mg_none_of X G z_max
  have z_sorted := PySem.W.mg_none_of X G z_sorted
  have z_enumerate := PySem.W.mg_none_of X G z_enumerate
  have e := hfa.symm.trans m_law
  cases e
  refine ⟨PySem.W.fnOf "law" "law" (defArgs (top 24)) (defBody (top 24)) (defScope (top 24)) .none kV17 dc17 pm17 an17 cd17 ct17, fun s v => .of_eq rfl, fun base _ _ => ?_⟩
  have t0 : TPurse mg := ⟨z_len, z_abs, z_int⟩
  have t1 : T1 mg K := { t0 with b_all := z_all, b_isinstance := z_isinstance, b_bool := z_bool, b_tuple := z_tuple, b_list := z_list, b_range := z_range, k_ib := kib }
  have ftake : FnAt l.prog w K mg base "_law_take" 1 ["_law_purse_here", "_law_many_here"] spTake := ⟨⟨_, _, ok_take F__law_take, m__law_take, k9, b__law_take⟩⟩
  have to : TO l.prog w K mg base := { t1 with f__law_take := ftake }
  have t2 : T2 l.prog w K mg base := { t1 with f_plain := ⟨⟨_, _, ok_plain F_plain t1, m_plain, k0, b_plain⟩⟩, f_exchanged := ⟨⟨_, _, ok_ex F_exchanged, m_exchanged, k4, b_exchanged⟩⟩ }
  have tr0 : TR0 l.prog w K mg base := { t1 with b_min := z_min, f_round_from := ⟨⟨_, _, ok_rf F_round_from, m_round_from, k2, b_round_from⟩⟩ }
  have frd : FnAt l.prog w K mg base "rounds" 3 ["order"] spRounds := ⟨⟨_, _, ok_rounds F_rounds tr0, m_rounds, k3, b_rounds⟩⟩
  have tcs : TCuts l.prog w K mg base := { t1 with b_sorted := z_sorted, f_rounds := frd }
  have fcu : FnAt l.prog w K mg base "cuts" 4 ["order"] spCutsS := ⟨⟨_, _, ok_cutsS F_cuts tcs, m_cuts, k6, b_cuts⟩⟩
  have at2 : FnAt l.prog w K mg base "led" 3 ["n", "row"] spLed := ⟨⟨_, _, ok_led F_led t2, m_led, k5, b_led⟩⟩
  have at3 : FnAt l.prog w K mg base "then" 1 ["one", "other"] spThen := ⟨⟨_, _, ok_then F_then t1, m_then, k1, b_then⟩⟩
  have l0 : FnAt l.prog w K mg base "least_rows" 4 ["order"] (spLrX 0) := ⟨⟨_, _, ok_nevX F_least_rows lrx_never, m_least_rows, k7, b_least_rows⟩⟩
  have l1 : FnAt l.prog w K mg base "least_rows" 5 ["order"] (spLrX 1) := ⟨⟨_, _, ok_lrx 0 F_least_rows { t1 with f_cuts := fcu, f_led := at2, f_then := at3, f_least_rows := l0 }, m_least_rows, k7, b_least_rows⟩⟩
  have l2 : FnAt l.prog w K mg base "least_rows" 6 ["order"] (spLrX 2) := ⟨⟨_, _, ok_lrx 1 F_least_rows { t1 with f_cuts := fcu, f_led := at2, f_then := at3, f_least_rows := l1 }, m_least_rows, k7, b_least_rows⟩⟩
  have l3 : FnAt l.prog w K mg base "least_rows" 7 ["order"] (spLrX 3) := ⟨⟨_, _, ok_lrx 2 F_least_rows { t1 with f_cuts := fcu, f_led := at2, f_then := at3, f_least_rows := l2 }, m_least_rows, k7, b_least_rows⟩⟩
  have l4 : FnAt l.prog w K mg base "least_rows" 8 ["order"] (spLrX 4) := ⟨⟨_, _, ok_lrx 3 F_least_rows { t1 with f_cuts := fcu, f_led := at2, f_then := at3, f_least_rows := l3 }, m_least_rows, k7, b_least_rows⟩⟩
  have l5 : FnAt l.prog w K mg base "least_rows" 9 ["order"] (spLrX 5) := ⟨⟨_, _, ok_lrx 4 F_least_rows { t1 with f_cuts := fcu, f_led := at2, f_then := at3, f_least_rows := l4 }, m_least_rows, k7, b_least_rows⟩⟩
  have l6 : FnAt l.prog w K mg base "least_rows" 10 ["order"] (spLrX 6) := ⟨⟨_, _, ok_lrx 5 F_least_rows { t1 with f_cuts := fcu, f_led := at2, f_then := at3, f_least_rows := l5 }, m_least_rows, k7, b_least_rows⟩⟩
  have fro : FnAt l.prog w K mg base "_law_rounds" 1 ["_law_order_here"] spRounds := ⟨⟨_, _, ok_lrounds F__law_rounds t1, m__law_rounds, k12, b__law_rounds⟩⟩
  have tls : TLs l.prog w K mg base := { t1 with b_min := z_min, b_max := z_max, f__law_take := ftake, f__law_rounds := fro }
  have tto : TTo l.prog w K mg base := { t1 with f__law_wholes := ⟨⟨_, _, ok_wholes F__law_wholes t1, m__law_wholes, k14, b__law_wholes⟩⟩ }
  have tmy : TMy l.prog w K mg base := { t1 with f__law_rounds := fro }
  have tl : TL l.prog w K mg base := { t1 with
    b_min := z_min
    b_max := z_max
    b_enumerate := z_enumerate
    f__law_purse := ⟨⟨_, _, ok_purse F__law_purse t0, m__law_purse, k8, b__law_purse⟩⟩
    f__law_take := ftake
    f__law_order := ⟨⟨_, _, ok_order F__law_order to, m__law_order, k10, b__law_order⟩⟩
    f__law_rounds := fro
    f__law_many := ⟨⟨_, _, ok_my F__law_many tmy, m__law_many, k16, b__law_many⟩⟩
    f__law_is_told := ⟨⟨_, _, ok_told F__law_is_told tto, m__law_is_told, k15, b__law_is_told⟩⟩
    f__law_led := ⟨⟨_, _, ok_lled F__law_led t1, m__law_led, k11, b__law_led⟩⟩
    f__law_least_row := ⟨⟨_, _, ok_lsr F__law_least_row tls, m__law_least_row, k13, b__law_least_row⟩⟩
    f_least_rows := l6 }
  exact ok_law F_law tl
theorem walk {l : PySem.W.OpenLaw} {q : Program} {loose : List Str} {XP : (Str → Option Value) → Heap → Prop} {YP : World → Heap → Prop} {d : DefRec} {K : Params → PySem.W.Frag} (hn : l.most = some 63) (hdf : d.params.defaults = [])
    (hY : ∀ (w : World) (h : Heap), YP w h → (K w.params).In h)
    (F : ∀ (w : World) (mg : Str → Option Value) (fa : Addr) (h : Heap), (K w.params).In h → h.Ns mainGlobals mg → mg d.name = some (.ref fa) →
      ∃ fd : FuncData, (∀ (s : Shared) (u : Value), BindsTo s fd ⟨[u], []⟩ [("_law_script", u)]) ∧ ∀ base : Heap, (K w.params).In base → base.Ns mainGlobals mg → FnOk l.prog w (K w.params) mg base CX0 11 fa fd ["_law_script"] (spLaw (K w.params))) :
    PySem.W.WalkO q loose XP YP l.row.toRowW d [] (fun f vs => PySem.call f vs) :=
  L2.walk_of (n := 63) (k := 11) (x := "_law_script") (CX := fun _ => CX0) (sp := fun w => spLaw (K w.params)) hn (by decide) hdf ⟨rfl, rfl, by decide, by decide⟩ hY F (fun _ _ a ns hl _ hS => ⟨a, ns, rfl, hS, hl, fun _ => rfl⟩) fun _ _ _ _ _ z => z
end Sw
open PySem PySem.W PyProof.Rows
set_option maxRecDepth 100000 in
set_option maxHeartbeats 0 in
theorem PySem.Challenge.cw_swapstars_k20_all_least_rows_holds : PySem.Challenge.rw_swapstars_k20_all_least_rows.Holds := by
  w_on; o_law; k_head; (case hw => w_witness2)
  k_fill
  refine Sw.walk (l := PySem.Challenge.rw_swapstars_k20_all_least_rows) rfl rfl (fun w h Y => PySem.W.kIn_of Y) ?F
  case F =>
    intro w mg fa h KX G hmg
    refine' Sw.all_mk KX G hmg ?a0 ?l0 ?c0 ?k0 ?a1 ?l1 ?c1 ?k1 ?a2 ?l2 ?c2 ?k2 ?a3 ?l3 ?c3 ?k3 ?a4 ?l4 ?c4 ?k4 ?a5 ?l5 ?c5 ?k5 ?a6 ?l6 ?c6 ?k6 ?a7 ?l7 ?c7 ?k7 ?a8 ?l8 ?c8 ?k8 ?a9 ?l9 ?c9 ?k9 ?a10 ?l10 ?c10 ?k10 ?a11 ?l11 ?c11 ?k11 ?a12 ?l12 ?c12 ?k12 ?a13 ?l13 ?c13 ?k13 ?a14 ?l14 ?c14 ?k14 ?a15 ?l15 ?c15 ?k15 ?a16 ?l16 ?c16 ?k16 ?a17 ?l17 ?c17 ?k17 ?z_len ?z_abs ?z_int ?z_all ?z_isinstance ?z_bool ?z_tuple ?z_list ?z_range ?z_min ?z_max ?z_sorted ?z_enumerate  ?kib
    (case a0 => k_is); (case l0 => k_is); (case c0 => k_is); (case k0 => k_is)
    (case a1 => k_is); (case l1 => k_is); (case c1 => k_is); (case k1 => k_is)
    (case a2 => k_is); (case l2 => k_is); (case c2 => k_is); (case k2 => k_is)
    (case a3 => k_is); (case l3 => k_is); (case c3 => k_is); (case k3 => k_is)
    (case a4 => k_is); (case l4 => k_is); (case c4 => k_is); (case k4 => k_is)
    (case a5 => k_is); (case l5 => k_is); (case c5 => k_is); (case k5 => k_is)
    (case a6 => k_is); (case l6 => k_is); (case c6 => k_is); (case k6 => k_is)
    (case a7 => k_is); (case l7 => k_is); (case c7 => k_is); (case k7 => k_is)
    (case a8 => k_is); (case l8 => k_is); (case c8 => k_is); (case k8 => k_is)
    (case a9 => k_is); (case l9 => k_is); (case c9 => k_is); (case k9 => k_is)
    (case a10 => k_is); (case l10 => k_is); (case c10 => k_is); (case k10 => k_is)
    (case a11 => k_is); (case l11 => k_is); (case c11 => k_is); (case k11 => k_is)
    (case a12 => k_is); (case l12 => k_is); (case c12 => k_is); (case k12 => k_is)
    (case a13 => k_is); (case l13 => k_is); (case c13 => k_is); (case k13 => k_is)
    (case a14 => k_is); (case l14 => k_is); (case c14 => k_is); (case k14 => k_is)
    (case a15 => k_is); (case l15 => k_is); (case c15 => k_is); (case k15 => k_is)
    (case a16 => k_is); (case l16 => k_is); (case c16 => k_is); (case k16 => k_is)
    (case a17 => k_is); (case l17 => k_is); (case c17 => k_is); (case k17 => k_is)
    (case z_len => k_is); (case z_abs => k_is); (case z_int => k_is); (case z_all => k_is); (case z_isinstance => k_is); (case z_bool => k_is); (case z_tuple => k_is); (case z_list => k_is); (case z_range => k_is); (case z_min => k_is); (case z_max => k_is); (case z_sorted => k_is); (case z_enumerate => k_is)
    (case kib => exact L2.kit_int_bool _)
