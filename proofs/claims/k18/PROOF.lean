import PyProof.Rows.All
import Wide.All
import OpenK.AllK
import Wide.FinOn
import Lean
import PyProof.EqAt
import PyProof.EqKinds
import PyProof.TupleCall
import KE.KSortAsk
import KE.KIntText
import PyProof.StrBlockH
import PyProof.StrLawsTight
import PyProof.StrLawsReplace
import PyProof.StrLawsJoin
import PyProof.StrLawsNeg
import KE.LcSums
import PyProof.DictCompW
import KE.KItemsList
import KE.KRevIter
import PySem.Challenge.RW_swapstars_k18_whole_least_rows_walk
set_option Elab.async false
set_option linter.all false
set_option maxRecDepth 100000
set_option maxHeartbeats 8000000
namespace L2
open PySem PySem.Spec PyProof.Rows
abbrev Key := Sum Int Str
def keyIs : Key → Value → Bool
  | .inl k, v => Value.isInt k v
  | .inr x, v => Value.isStrOf x v
def keyH (w : World) : Key → Int
  | .inl k => hashInt k
  | .inr x => hashStr w x
theorem keyIs_shape : ∀ {k : Key} {v : Value}, keyIs k v = true → (∃ i t, k = Sum.inl i ∧ v = Value.int i t) ∨ (∃ x t, k = Sum.inr x ∧ v = Value.str x t)
  | .inl i, v, h => by
    obtain ⟨t, e⟩ := Value.isInt_shape (k := i) (v := v) h
    exact .inl ⟨i, t, rfl, e⟩
  | .inr x, v, h => by
    obtain ⟨t, e⟩ := Value.isStrOf_shape (x := x) (v := v) h
    exact .inr ⟨x, t, rfl, e⟩
theorem keyIs_int (i : Int) (t : Tok) : keyIs (.inl i) (.int i t) = true := by simp [keyIs, Value.isInt]
theorem keyIs_str (x : Str) (t : Tok) : keyIs (.inr x) (.str x t) = true := by simp [keyIs, Value.isStrOf]
theorem key_ll (a b : Int) : decide ((Sum.inl a : Key) = Sum.inl b) = (a == b) := by
  by_cases e : a = b
  · subst e; simp
  · have h : ¬ (Sum.inl a : Key) = Sum.inl b := fun q => e (Sum.inl.inj q)
    rw [decide_eq_false h]
    exact (beq_eq_false_iff_ne.mpr e).symm
theorem key_rr (a b : Str) : decide ((Sum.inr a : Key) = Sum.inr b) = decide (a = b) := by
  by_cases e : a = b
  · subst e; simp
  · have h : ¬ (Sum.inr a : Key) = Sum.inr b := fun q => e (Sum.inr.inj q)
    rw [decide_eq_false h, decide_eq_false e]
theorem key_lr (a : Int) (b : Str) : decide ((Sum.inl a : Key) = Sum.inr b) = false := decide_eq_false (fun q => nomatch q)
theorem key_rl (a : Str) (b : Int) : decide ((Sum.inr a : Key) = Sum.inl b) = false := decide_eq_false (fun q => nomatch q)
def mixKind (prog : Program) (w : World) : PySem.KeyKind prog w Key where
  is := keyIs
  hash := keyH w
  inj := fun v a b ha hb => by
    rcases keyIs_shape ha with ⟨i, t, rfl, rfl⟩ | ⟨x, t, rfl, rfl⟩
    · rcases keyIs_shape hb with ⟨j, u, rfl, e⟩ | ⟨y, u, rfl, e⟩
      · injection e with e1 _; rw [e1]
      · exact nomatch e
    · rcases keyIs_shape hb with ⟨j, u, rfl, e⟩ | ⟨y, u, rfl, e⟩
      · exact nomatch e
      · injection e with e1 _; rw [e1]
  byValue := fun k v h => by
    rcases keyIs_shape h with ⟨i, t, rfl, rfl⟩ | ⟨x, t, rfl, rfl⟩ <;> rfl
  pyHash := fun hv h => by
    rcases keyIs_shape hv with ⟨i, t, rfl, rfl⟩ | ⟨x, t, rfl, rfl⟩
    · exact wpAny_pyHash_int h
    · exact wpAny_pyHash_str h
  eqBool := fun hu hv h => by
    rcases keyIs_shape hu with ⟨i, t, rfl, rfl⟩ | ⟨x, t, rfl, rfl⟩
    · rcases keyIs_shape hv with ⟨j, u, rfl, rfl⟩ | ⟨y, u, rfl, rfl⟩
      · rw [key_ll] at h; exact wpAny_eqBool_int h
      · rw [key_lr] at h; exact SeqAt.EqAt.int_str i t y u _ _ _ _ h
    · rcases keyIs_shape hv with ⟨j, u, rfl, rfl⟩ | ⟨y, u, rfl, rfl⟩
      · rw [key_rl] at h; exact SeqAt.EqAt.str_int x t j u _ _ _ _ h
      · rw [key_rr] at h; exact wpAny_eqBool_str h
  «strs» := fun k x t v h => by
    rcases keyIs_shape h with ⟨i, u, rfl, e⟩ | ⟨y, u, rfl, e⟩
    · exact nomatch e
    · injection e with e1 _
      subst e1
      cases v <;> rfl
theorem mixKind_int (prog : Program) (w : World) (i : Int) (t : Tok) : (mixKind prog w).is (.inl i) (.int i t) = true := keyIs_int i t
theorem mixKind_str (prog : Program) (w : World) (x : Str) (t : Tok) : (mixKind prog w).is (.inr x) (.str x t) = true := keyIs_str x t
end L2
namespace L2
open PySem PySem.Spec PyProof.Rows
inductive V where
  | non | bl (b : Bool) | int (i : Int) | str (x : Str) | byt (b : Array UInt8) | flt (b : UInt64) | ref (a : Addr) | ty (n : String)
  deriving DecidableEq
def RelV : V → Value → Prop
  | .non, u => u = Value.none
  | .bl b, u => u = Value.bool b
  | .int i, u => ∃ t, u = Value.int i t
  | .str x, u => ∃ t, u = Value.str x t
  | .byt b, u => ∃ t, u = Value.bytes b t
  | .flt b, u => ∃ t, u = Value.float b t
  | .ref a, u => u = Value.ref a
  | .ty n, u => u = Value.type n
abbrev Vals : List V → List Value → Prop := Paired RelV
theorem Vals.length {xs : List V} {us : List Value} (r : Vals xs us) : xs.length = us.length := Paired.length r
theorem Vals.get : ∀ {xs : List V} {us : List Value} {i : Nat} {x : V}, Vals xs us → xs[i]? = some x → ∃ u, us[i]? = some u ∧ RelV x u
  | _, _, _, _, .nil, e => by simp at e
  | _, _, 0, _, .cons r _, e => by simp at e; subst e; exact ⟨_, rfl, r⟩
  | _, _, i + 1, x, .cons _ t, e => by
    obtain ⟨u, h1, h2⟩ := Vals.get (i := i) (x := x) t (by simpa using e)
    exact ⟨u, by simpa using h1, h2⟩
theorem Vals.set {x : V} {u : Value} (r : RelV x u) : ∀ {xs : List V} {us : List Value} (i : Nat), Vals xs us → Vals (xs.set i x) (us.set i u)
  | _, _, _, .nil => .nil
  | _, _, 0, .cons _ t => .cons r t
  | _, _, i + 1, .cons q t => .cons q (Vals.set r i t)
theorem Vals.append : ∀ {xs ys : List V} {us ws : List Value}, Vals xs us → Vals ys ws → Vals (xs ++ ys) (us ++ ws)
  | _, _, _, _, .nil, s => s
  | _, _, _, _, .cons r t, s => .cons r (Vals.append t s)
theorem Vals.take : ∀ {xs : List V} {us : List Value} (n : Nat), Vals xs us → Vals (xs.take n) (us.take n)
  | _, _, 0, _ => .nil
  | _, _, _ + 1, .nil => .nil
  | _, _, n + 1, .cons r t => .cons r (Vals.take n t)
theorem Vals.drop : ∀ {xs : List V} {us : List Value} (n : Nat), Vals xs us → Vals (xs.drop n) (us.drop n)
  | _, _, 0, r => r
  | _, _, _ + 1, .nil => .nil
  | _, _, n + 1, .cons _ t => Vals.drop n t
def RelO : Option V → Option Value → Prop
  | some v, some u => RelV v u
  | none, none => True
  | _, _ => False
def KV {κ : Type} : List (κ × V) → List (κ × Value) → Prop := Paired fun (p : κ × V) (q : κ × Value) => p.1 = q.1 ∧ RelV p.2 q.2
def kV : Key → V
  | .inl i => .int i
  | .inr x => .str x
inductive HO where
  | lst (xs : List V)
  | tup (xs : List V)
  | dK (kvs : List (Key × V)) | dT (kvs : List (List Key × V))
  | set (S : Int → Bool) (n : Nat)
  | ins (C dx : Addr) (fs : List (Str × V))
  | own (x : Addr)
  | xd (fs : List (Str × V))
  | met (f x : Addr)
  | rng (lo hi : Int)
  | frz (o : Obj) (u : HO)
  | tbl (ps : Array Value)
  | ext (φ : Heap → Prop)
abbrev Hp := Addr → Option HO
def upd (H : Hp) (a : Addr) (o : HO) : Hp := fun b => if b = a then some o else H b
theorem upd_same {H : Hp} {a : Addr} {o : HO} : upd H a o a = some o := by unfold upd; rw [if_pos rfl]
theorem upd_ne {H : Hp} {a b : Addr} {o : HO} (h : b ≠ a) : upd H a o b = H b := by unfold upd; rw [if_neg h]
theorem upd_upd {H : Hp} {a : Addr} {o u : HO} : upd (upd H a o) a u = upd H a u := by
  funext b; unfold upd; split <;> rfl
theorem ne_of {H : Hp} {a b : Addr} {o u : HO} (h : H a = some o) (h' : H b = some u) (d : o ≠ u) : a ≠ b := by
  intro e; subst e; rw [h] at h'; exact d (Option.some.inj h')
theorem ne_of_none {H : Hp} {a b : Addr} {o : HO} (h : H a = some o) (h' : H b = none) : a ≠ b := by
  intro e; subst e; rw [h] at h'; cases h'
section
variable (P : Program) (w : World)
def ObjOk (H : Hp) (h : Heap) (a : Addr) : HO → Prop
  | .lst xs => xs.length ≤ sizeLine ∧ ∃ (its : List Value) (n : Nat), Vals xs its ∧ h.get? a = some { cls := .type "list", data := .seq its.toArray n }
  | .tup xs => xs.length ≤ sizeLine ∧ ∃ its : List Value, Vals xs its ∧ IsTup h a its.toArray
  | .dK kvs => kvs.length ≤ sizeLine ∧ (a == sysModules) = false ∧ ∃ vs, KV kvs vs ∧ h.DictOf (mixKind P w) a vs
  | .dT kvs => kvs.length ≤ sizeLine ∧ (a == sysModules) = false ∧ ∃ xs : List (List Key × Addr × Value),
      Paired (fun (p : List Key × V) (q : List Key × Addr × Value) => p.1 = q.1 ∧ H q.2.1 = some (.tup (p.1.map kV)) ∧ RelV p.2 q.2.2) kvs xs ∧
      ∃ o es ep, h.get? a = some o ∧ o.ExactDict ∧ o.data = .dict es ep ∧ es.toList = xs.map (entryOfKey (tupleKind (mixKind P w))) ∧ (xs.map (·.1)).Nodup
  | .set S n => h.SetOf (intKind P w) a S n
  | .ins C dx fs => H dx = some (.own a) ∧ fs.length ≤ 1000 ∧ dx ≠ a ∧ h.get? a = some (PySem.W.instObj C dx) ∧
      ∃ mA, h.Ns1 dx mA ∧ (∀ f, RelO (fs.lookup f) (mA f)) ∧ PySem.Within mA (fs.map (·.1))
  | .own _ => ∃ o, h.get? a = some o
  | .xd fs => ∃ mA, h.Ns1 a mA ∧ ∀ f, RelO (fs.lookup f) (mA f)
  | .rng lo hi => ∃ t u v, h.get? a = some { cls := .type "range", data := .fields #[.int lo t, .int hi u, .int 1 v] }
  | .frz o u => h.get? a = some o ∧ ObjOk H h a u
  | .tbl ps => h.get? a = some { cls := .none, data := .fields ps }
  | .met f x => h.get? a = some (PySem.W.methodObj (.ref f) (.ref x))
  | .ext φ => φ h ∧ (∃ o, h.get? a = some o) ∧ ∀ h1 h2 : Heap, φ h1 → (∀ o, h1.get? a = some o → h2.get? a = some o) → φ h2
def HOk (H : Hp) (h : Heap) : Prop := ∀ a o, H a = some o → ObjOk P w H h a o
end
section
variable {P : Program} {w : World} {H H' : Hp} {h h' : Heap} {a : Addr} {o : HO}
theorem ObjOk.lt (x : ObjOk P w H h a o) : a < h.objs.size := by
  cases o with
  | lst xs => obtain ⟨_, _, _, _, e⟩ := x; exact Heap.lt_size e
  | tup xs => obtain ⟨_, _, _, p⟩ := x; exact p.lt
  | dK kvs => obtain ⟨_, _, _, _, o, _, _, e, _⟩ := x; exact Heap.lt_size e
  | dT kvs => obtain ⟨_, _, _, _, o, _, _, e, _⟩ := x; exact Heap.lt_size e
  | set S n => obtain ⟨o, _, _, _, e, _⟩ := x; exact Heap.lt_size e
  | ins C dx fs => obtain ⟨_, _, _, e, _⟩ := x; exact Heap.lt_size e
  | own y => obtain ⟨_, e⟩ := x; exact Heap.lt_size e
  | xd fs => obtain ⟨_, ⟨_, _, _, e, _⟩, _⟩ := x; exact Heap.lt_size e
  | rng lo hi => obtain ⟨_, _, _, e⟩ := x; exact Heap.lt_size e
  | frz ob u => obtain ⟨e, _⟩ := x; exact Heap.lt_size e
  | tbl ps => exact Heap.lt_size (show h.get? a = some _ from x)
  | met f y => exact Heap.lt_size (show h.get? a = some _ from x)
  | ext φ => obtain ⟨_, ⟨_, e⟩, _⟩ := x; exact Heap.lt_size e
theorem Paired.mapP {α β : Type} {F G : α → β → Prop} : ∀ {l₁ : List α} {l₂ : List β}, Paired F l₁ l₂ → (∀ a b, F a b → G a b) → Paired G l₁ l₂
  | _, _, .nil, _ => .nil
  | _, _, .cons r t, f => .cons (f _ _ r) (Paired.mapP t f)
theorem ObjOk.stay (x : ObjOk P w H h a o) (k : ∀ b u, (b = a ∨ H b = some (.own a)) → h.get? b = some u → h'.get? b = some u)
    (ho : ∀ b, H b = some (.own a) → H' b = some (.own a)) (ht : ∀ b xs, H b = some (.tup xs) → H' b = some (.tup xs)) : ObjOk P w H' h' a o := by
  induction o with
  | lst xs => obtain ⟨z, its, n, r, e⟩ := x; exact ⟨z, its, n, r, k _ _ (.inl rfl) e⟩
  | tup xs => obtain ⟨z, its, r, ob, e, c⟩ := x; exact ⟨z, its, r, ob, k _ _ (.inl rfl) e, c⟩
  | dK kvs => obtain ⟨z, y, vs, r, ob, es, ep, e, c⟩ := x; exact ⟨z, y, vs, r, ob, es, ep, k _ _ (.inl rfl) e, c⟩
  | dT kvs =>
    obtain ⟨z, y, xs, r, ob, es, ep, e, c⟩ := x
    exact ⟨z, y, xs, Paired.mapP r fun p q z => ⟨z.1, ht _ _ z.2.1, z.2.2⟩, ob, es, ep, k _ _ (.inl rfl) e, c⟩
  | set S n => obtain ⟨ob, es, ep, t, e, c⟩ := x; exact ⟨ob, es, ep, t, k _ _ (.inl rfl) e, c⟩
  | ins C dx fs =>
    obtain ⟨d, z, ne, e, mA, ⟨od, es, ep, e2, c⟩, r⟩ := x
    exact ⟨ho _ d, z, ne, k _ _ (.inl rfl) e, mA, ⟨od, es, ep, k _ _ (.inr d) e2, c⟩, r⟩
  | own y => obtain ⟨ob, e⟩ := x; exact ⟨ob, k _ _ (.inl rfl) e⟩
  | xd fs => obtain ⟨mA, ⟨od, es, ep, e, c⟩, r⟩ := x; exact ⟨mA, ⟨od, es, ep, k _ _ (.inl rfl) e, c⟩, r⟩
  | rng lo hi => obtain ⟨t, u, v, e⟩ := x; exact ⟨t, u, v, k _ _ (.inl rfl) e⟩
  | frz ob u ih => obtain ⟨e, q⟩ := x; exact ⟨k _ _ (.inl rfl) e, ih q⟩
  | tbl ps =>
    have e : h.get? a = some { cls := .none, data := .fields ps } := x
    show h'.get? a = some { cls := .none, data := .fields ps }
    exact k a _ (.inl rfl) e
  | met f y =>
    have e : h.get? a = some (PySem.W.methodObj (.ref f) (.ref y)) := x
    show h'.get? a = some (PySem.W.methodObj (.ref f) (.ref y))
    exact k a _ (.inl rfl) e
  | ext φ => obtain ⟨p, ⟨o, e⟩, st⟩ := x; exact ⟨st _ _ p fun o q => k _ _ (.inl rfl) q, ⟨o, k _ _ (.inl rfl) e⟩, st⟩
theorem HOk.lt (x : HOk P w H h) (e : H a = some o) : a < h.objs.size := (x a o e).lt
theorem HOk.fresh (x : HOk P w H h) (e : h.objs.size ≤ a) : H a = none := by
  cases q : H a with
  | none => rfl
  | some u => exact absurd (Nat.lt_of_lt_of_le (x.lt q) e) (Nat.lt_irrefl _)
theorem HOk.kept (x : HOk P w H h) (k : ∀ b u, h.get? b = some u → h'.get? b = some u) : HOk P w H h' := fun a o e =>
  (x a o e).stay (fun b u _ q => k b u q) (fun _ q => q) fun _ _ q => q
theorem HOk.laid (x : HOk P w H h) (k : ∀ b u, h.get? b = some u → h'.get? b = some u) (hp : h.objs.size ≤ a) (new : ObjOk P w (upd H a o) h' a o) : HOk P w (upd H a o) h' := fun b u e => by
  have hn := x.fresh hp
  by_cases hb : b = a
  · subst hb; rw [upd_same] at e; cases e; exact new
  · rw [upd_ne hb] at e
    exact (x b u e).stay (fun c v _ q => k c v q) (fun c q => by rw [upd_ne (ne_of_none q hn)]; exact q) fun c xs q => by rw [upd_ne (ne_of_none q hn)]; exact q
end
def Rd (H : Hp) (a : Addr) (u : HO) : Prop := H a = some u ∨ ∃ o, H a = some (.frz o u)
theorem Rd.ok {P : Program} {w : World} {H : Hp} {h : Heap} {a : Addr} {u : HO} (r : Rd H a u) (x : HOk P w H h) : ObjOk P w H h a u := by
  rcases r with r | ⟨o, r⟩
  · exact x a u r
  · obtain ⟨_, q⟩ := x a _ r
    exact q
def Mut : Option HO → Prop
  | some (.lst _) => True
  | some (.dK _) => True
  | some (.dT _) => True
  | some (.set _ _) => True
  | some (.ins _ _ _) => True
  | some (.ext _) => True
  | _ => False
section
variable {P : Program} {w : World} {H : Hp} {h h' : Heap} {x e : Addr} {o' : HO}
theorem HOk.write (ok : HOk P w H h) (mu : Mut (H x)) (he : e = x ∨ H e = some (.own x)) (k : ∀ b u, b ≠ e → h.get? b = some u → h'.get? b = some u) (heo : ∃ u, h'.get? e = some u)
    (new : ObjOk P w (upd H x o') h' x o') : HOk P w (upd H x o') h' := fun b u q => by
  have nown : ∀ c y, H c = some (.own y) → c ≠ x := fun c y r z => by subst z; rw [r] at mu; exact mu
  have ntup : ∀ c xs, H c = some (.tup xs) → c ≠ x := fun c xs r z => by subst z; rw [r] at mu; exact mu
  by_cases hb : b = x
  · subst hb; rw [upd_same] at q; cases q; exact new
  · rw [upd_ne hb] at q
    by_cases hbe : b = e
    · have q' : H b = some (.own x) := by
        rcases he with z | z
        · exact absurd (hbe.trans z) hb
        · rw [hbe]; exact z
      rw [q] at q'; cases q'
      obtain ⟨v, hv⟩ := heo
      exact ⟨v, by rw [hbe]; exact hv⟩
    · refine (ok b u q).stay (fun c v hc r => k c v ?_ r) (fun c r => by rw [upd_ne (nown c b r)]; exact r) fun c xs r => by rw [upd_ne (ntup c xs r)]; exact r
      rcases hc with rfl | hc
      · exact hbe
      · rintro rfl
        rcases he with z | z
        · exact nown c b hc z
        · rw [hc] at z; cases z; exact hb rfl
end
structure Un (fs ex : List Addr) (H H' : Hp) (h h' : Heap) : Prop where
  keep : ∀ b o, h.get? b = some o → H b = none → b ∉ fs → b ∉ ex → h'.get? b = some o
  slot : ∀ b o, h.get? b = some o → H b = none → b ∈ fs → b ∉ ex → ∃ sl, h'.get? b = some { o with slots := sl }
  free : ∀ b o, h.get? b = some o → H b = none → b ∉ ex → H' b = none
  there : ∀ b o, h.get? b = some o → b ∉ ex → ∃ o', h'.get? b = some o'
  tups : ∀ b xs, H b = some (.tup xs) → H' b = some (.tup xs)
  frzs : ∀ b o u, H b = some (.frz o u) → H' b = some (.frz o u)
  tbls : ∀ b ps, H b = some (.tbl ps) → ∃ more, H' b = some (.tbl (ps ++ more))
section
variable {fs fs' ex ex' : List Addr} {H H1 H2 : Hp} {h h1 h2 h' : Heap} {a x e : Addr} {o : HO}
theorem Un.any (u : Un fs ex H H1 h h1) {b : Addr} {ob : Obj} (q : h.get? b = some ob) (n : H b = none) (hx : b ∉ ex) : ∃ sl, h1.get? b = some { ob with slots := sl } := by
  by_cases hb : b ∈ fs
  · exact u.slot b ob q n hb hx
  · exact ⟨ob.slots, u.keep b ob q n hb hx⟩
theorem Un.kept (k : ∀ b u, h.get? b = some u → h'.get? b = some u) : Un fs ex H H h h' :=
  ⟨fun b ob q _ _ _ => k b ob q, fun b ob q _ _ _ => ⟨ob.slots, k b ob q⟩, fun _ _ _ n _ => n, fun b ob q _ => ⟨ob, k b ob q⟩, fun _ _ q => q, fun _ _ _ q => q, fun _ ps q => ⟨#[], by rw [q]; simp⟩⟩
theorem Un.refl : Un fs ex H H h h := Un.kept fun _ _ q => q
theorem Un.laid (k : ∀ b u, h.get? b = some u → h'.get? b = some u) (hp : h.objs.size ≤ a) (hn : H a = none) : Un fs ex H (upd H a o) h h' where
  keep := fun b u q _ _ _ => k b u q
  slot := fun b u q _ _ _ => ⟨u.slots, k b u q⟩
  free := fun b u q n _ => by rw [upd_ne (Nat.ne_of_lt (Nat.lt_of_lt_of_le (Heap.lt_size q) hp))]; exact n
  there := fun b u q _ => ⟨u, k b u q⟩
  tups := fun b xs q => by rw [upd_ne (ne_of_none q hn)]; exact q
  frzs := fun b u xs q => by rw [upd_ne (ne_of_none q hn)]; exact q
  tbls := fun b ps q => ⟨#[], by rw [upd_ne (ne_of_none q hn), q]; simp⟩
theorem Un.write (mu : Mut (H x)) (he : e = x ∨ H e = some (.own x)) (k : ∀ b u, b ≠ e → h.get? b = some u → h'.get? b = some u) (heo : ∃ u, h'.get? e = some u) : Un fs ex H (upd H x o) h h' := by
  have hx : ∀ b, H b = none → b ≠ x := fun b n z => by subst z; rw [n] at mu; exact mu
  have hb : ∀ b, H b = none → b ≠ e := fun b n z => by
    subst z
    rcases he with r | r
    · exact hx b n r
    · rw [n] at r; cases r
  have hm : ∀ b u, H b = some u → ¬ Mut (some u) → b ≠ x := fun b u q nm z => by subst z; rw [q] at mu; exact nm mu
  refine ⟨fun b u q n _ _ => k b u (hb b n) q, fun b u q n _ _ => ⟨u.slots, k b u (hb b n) q⟩, fun b u q n _ => by rw [upd_ne (hx b n)]; exact n, fun b u q _ => ?_,
    fun b xs q => by rw [upd_ne (hm b _ q fun z => z)]; exact q, fun b u xs q => by rw [upd_ne (hm b _ q fun z => z)]; exact q, fun b ps q => ⟨#[], by rw [upd_ne (hm b _ q fun z => z), q]; simp⟩⟩
  by_cases hbe : b = e
  · subst hbe; exact heo
  · exact ⟨u, k b u hbe q⟩
end
def trk (h : Heap) (H : Hp) : List Addr := (List.range h.objs.size).filter fun a => (H a).isSome
def hidT (h : Heap) (H : Hp) : Heap := PySem.W.hideAll h (trk h H)
theorem hidT_size (h : Heap) (H : Hp) : (hidT h H).objs.size = h.objs.size := PySem.W.hideAll_size _ _
theorem hidT_get {h : Heap} {H : Hp} {b : Addr} {o : Obj} (e : h.get? b = some o) (n : H b = none) : (hidT h H).get? b = some o :=
  PySem.W.hideAll_get _ e fun hm => by
    have q : (H b).isSome = true := (List.mem_filter.mp hm).2
    rw [n] at q; simp at q
theorem of_hidT {h : Heap} {H : Hp} {b : Addr} {o : Obj} (e : (hidT h H).get? b = some o) : h.get? b = some o ∧ H b = none := by
  have e' : h.get? b = some o := PySem.W.of_hideAll (trk h H) e
  refine ⟨e', ?_⟩
  cases q : H b with
  | none => rfl
  | some x =>
    have hm : b ∈ trk h H := List.mem_filter.mpr ⟨List.mem_range.mpr (Heap.lt_size e'), by simp [q]⟩
    have z : (hidT h H).get? b = none := PySem.W.hideAll_none (trk h H) hm
    rw [z] at e; cases e
def allNews (g h : Heap) (L : Addr) : List (Addr × Obj) := (List.range h.objs.size).filterMap fun a => if a = L ∨ (g.get? a).isSome = true then none else (h.get? a).map fun o => (a, o)
def rest (g h : Heap) (L d : Addr) : List (Addr × Obj) := (allNews g h L).filter fun p => decide (p.1 ≠ d)
end L2
namespace L2
open PySem PySem.Spec PyProof.Rows
structure Mod (K : PySem.W.Frag) (mg : Str → Option Value) (base : Heap) : Prop where
  kin : K.In base
  glob : base.Ns mainGlobals mg
  blt : ∃ mb, base.Ns builtinsNs mb ∧ ∀ x : Str, x ≠ "__name__" → mb x = bootBuiltins x
  nolimit : base.NoLimit
structure Cx where
  prog : Program
  w : World
  K : PySem.W.Frag
  mg : Str → Option Value
  base : Heap
  A : Around
  N : List Str
  s₀ : Shared
  H₀ : Hp
  env : Env
  outer : List Env
  stack : List Env
  ex : List Addr
  fn : Str → Bool
  calm : Bool
  pn : List (Addr × Obj)
  xe : Value → Shared → Prop
def frs (l : List Env) : List Addr := l.filterMap (·.frame)
abbrev Cx.fs (X : Cx) : List Addr := frs X.outer
def Vis (sc : Scope) (x : Str) : Prop := sc.names.lookup x = some .local ∨ sc.names.lookup x = some .cell ∨ sc.names.lookup x = some .free
def Loc (sc : Scope) (x : Str) : Prop := sc.names.lookup x = some .local ∨ sc.names.lookup x = some .cell
def Look (env : Env) (h : Heap) (m : Str → Option Value) (x : Str) (u : Value) : Prop :=
  (env.kindOf x = some .local ∧ m x = some u) ∨ ((env.kindOf x = some .cell ∨ env.kindOf x = some .free) ∧ ∃ c, env.cells.lookup x = some c ∧ h.IsCell c (some u))
structure Cx.Ok (X : Cx) : Prop where
  mod : Mod X.K X.mg X.base
  kind : X.env.scope.kind = .function
  glob : X.env.globals = mainGlobals
  blt : X.env.builtins = builtinsNs
  above : X.s₀.heap.objs.size ≤ X.env.locals
  inj : ∀ x y c, X.env.cells.lookup x = some c → X.env.cells.lookup y = some c → x = y
  has : ∀ x, (X.env.kindOf x = some .cell ∨ X.env.kindOf x = some .free) → ∃ c, X.env.cells.lookup x = some c
  cab : ∀ x c, X.fn x = true → X.env.cells.lookup x = some c → X.s₀.heap.objs.size ≤ c
  hd : X.calm = true → X.A.handled = none
  frames : X.A.frames = some X.stack
  stk : X.stack = X.outer ∨ (X.stack = X.env :: X.outer ∧ X.env.frame = some X.env.locals)
  exf : ∀ b ∈ X.ex, b ≠ X.env.locals ∧ ∀ x c, X.env.cells.lookup x = some c → c ≠ b
  bs : ∀ b o, X.base.get? b = some o → X.s₀.heap.get? b = some o ∧ X.H₀ b = none
  bsz : X.base.objs.size ≤ X.s₀.heap.objs.size
  noex : ∀ b o, X.base.get? b = some o → b ∉ X.ex
  exfs : ∀ b ∈ X.ex, b ∉ X.fs
  funs : X.s₀.heap.FunFrames X.base X.outer
  frf : ∀ b ∈ X.fs, X.H₀ b = none
structure Inv (X : Cx) (pins : List (Addr × Obj)) (σ : List (Option V)) (H : Hp) (s : Shared) : Prop where
  ok : X.Ok
  os : s.os = X.s₀.os
  bare : AllBare s.gens
  base : Un X.fs X.ex X.H₀ H X.s₀.heap s.heap
  loc : ∃ m, s.heap.Ns X.env.locals m ∧ ∀ (i : Nat) (x : Str) (v : V), X.N[i]? = some x → σ[i]? = some (some v) → Vis X.env.scope x → ∃ u, RelV v u ∧ Look X.env s.heap m x u
  cell : ∀ x c, X.env.cells.lookup x = some c → ∃ v, s.heap.IsCell c v
  free : H X.env.locals = none
  freeC : ∀ x c, X.env.cells.lookup x = some c → H c = none
  pin : ∀ p ∈ X.pn ++ pins, s.heap.get? p.1 = some p.2 ∧ H p.1 = none ∧ p.1 ≠ X.env.locals ∧ p.1 ∉ X.fs ∧ ∀ v, p.2.data ≠ .cell v
  hok : HOk X.prog X.w H s.heap
  len : σ.length = X.N.length
section
variable {X : Cx} {pins : List (Addr × Obj)} {σ : List (Option V)} {H H' : Hp} {s : Shared} {h' : Heap}
theorem Cx.Ok.nofr (ok : X.Ok) {b : Addr} {o : Obj} (e : X.base.get? b = some o) : b ∉ X.fs := fun hb => by
  have := (ok.funs.mem hb).1
  rw [e] at this; cases this
theorem Inv.bs (I : Inv X pins σ H s) : ∀ b o, X.base.get? b = some o → s.heap.get? b = some o ∧ H b = none := fun b o e =>
  ⟨I.base.keep b o (I.ok.bs b o e).1 (I.ok.bs b o e).2 (I.ok.nofr e) (I.ok.noex b o e), I.base.free b o (I.ok.bs b o e).1 (I.ok.bs b o e).2 (I.ok.noex b o e)⟩
theorem Inv.bk (I : Inv X pins σ H s) : ∀ b o, X.base.get? b = some o → s.heap.get? b = some o := fun b o e => (I.bs b o e).1
theorem Inv.mod (I : Inv X pins σ H s) : Mod X.K X.mg X.base := I.ok.mod
theorem Inv.kIn (I : Inv X pins σ H s) : X.K.In s.heap := I.ok.mod.kin.keeps I.bk
theorem Inv.lt (I : Inv X pins σ H s) : X.env.locals < s.heap.objs.size := let ⟨_, hn, _⟩ := I.loc; hn.lt
theorem Inv.sz (I : Inv X pins σ H s) : X.s₀.heap.objs.size ≤ s.heap.objs.size := Nat.le_trans I.ok.above (Nat.le_of_lt I.lt)
theorem Inv.nofs (I : Inv X pins σ H s) {a : Addr} (h : s.heap.objs.size ≤ a) : a ∉ X.fs := fun hb => by
  obtain ⟨_, o, ho, _⟩ := I.ok.funs.mem hb
  exact absurd (Nat.lt_of_lt_of_le (Heap.lt_size ho) (Nat.le_trans I.sz h)) (Nat.lt_irrefl _)
theorem Inv.cne (I : Inv X pins σ H s) : ∀ x c, X.env.cells.lookup x = some c → c ≠ X.env.locals := fun x c e z => by
  obtain ⟨v, o, ho, hd⟩ := I.cell x c e
  obtain ⟨m, ⟨o', es, ep, ho', hd', _⟩, _⟩ := I.loc
  rw [z, ho'] at ho; cases ho; rw [hd'] at hd; cases hd
theorem Inv.funs (I : Inv X pins σ H s) : s.heap.FunFrames X.base X.outer := by
  have all : ∀ (l : List Env), (∀ b ∈ frs l, b ∈ X.fs) → X.s₀.heap.FunFrames X.base l → s.heap.FunFrames X.base l := by
    intro l
    induction l with
    | nil => intro _ _; trivial
    | cons env r ih =>
      intro hs hl
      obtain ⟨hk, ⟨L, o, hf, hn, ho, hd⟩, hr⟩ := hl
      have hL : L ∈ X.fs := hs L (by unfold frs; rw [List.filterMap_cons, hf]; exact List.mem_cons_self)
      obtain ⟨sl, e⟩ := I.base.slot L o ho (I.ok.frf L hL) hL fun z => I.ok.exfs L z hL
      exact ⟨hk, ⟨L, _, hf, hn, e, hd⟩, ih (fun b hb => hs b (by unfold frs; rw [List.filterMap_cons, hf]; exact List.mem_cons_of_mem _ hb)) hr⟩
  exact all X.outer (fun _ hb => hb) I.ok.funs
theorem Inv.stack (I : Inv X pins σ H s) : s.heap.FunFrames X.base X.stack := by
  rcases I.ok.stk with e | ⟨e, hf⟩
  · rw [e]; exact I.funs
  · rw [e]
    obtain ⟨m, hn, _⟩ := I.loc
    refine .cons (by rw [I.ok.kind]; decide) hf hn ?_ I.funs
    exact Heap.get?_none_of_le (Nat.le_trans I.ok.bsz I.ok.above)
theorem Inv.stkSub (I : Inv X pins σ H s) : ∀ b ∈ frs X.stack, b ∈ X.env.locals :: X.fs := fun b hb => by
  rcases I.ok.stk with e | ⟨e, hf⟩
  · rw [e] at hb; exact List.mem_cons_of_mem _ hb
  · rw [e] at hb
    unfold frs at hb
    rw [List.filterMap_cons, hf] at hb
    exact hb
theorem Inv.stkFree (I : Inv X pins σ H s) : ∀ b ∈ frs X.stack, H b = none := fun b hb => by
  rcases List.mem_cons.mp (I.stkSub b hb) with e | hb
  · rw [e]; exact I.free
  · obtain ⟨_, o, ho, _⟩ := I.ok.funs.mem hb
    exact I.base.free b o ho (I.ok.frf b hb) fun z => I.ok.exfs b z hb
theorem Inv.step {g' : Array GenState} {t' : Nat} {d' : Drawn} {ch : List Addr} (I : Inv X pins σ H s)
    (hch : ∀ b ∈ ch, (b ∈ X.ex ∨ X.s₀.heap.objs.size ≤ b) ∧ b ≠ X.env.locals ∧ (∀ x c, X.env.cells.lookup x = some c → c ≠ b) ∧ ∀ p ∈ X.pn ++ pins, p.1 ≠ b)
    (keep : ∀ b o, b ≠ X.env.locals → b ∉ X.fs → b ∉ ch → s.heap.get? b = some o → H b = none → h'.get? b = some o)
    (slot : ∀ b o, b ≠ X.env.locals → b ∈ X.fs → b ∉ ch → s.heap.get? b = some o → H b = none → ∃ sl, h'.get? b = some { o with slots := sl }) (free : ∀ b o, b ∉ ch → s.heap.get? b = some o → H b = none → H' b = none)
    (there : ∀ b o, b ∉ ch → s.heap.get? b = some o → ∃ o', h'.get? b = some o')
    (tups : ∀ b xs, H b = some (.tup xs) → H' b = some (.tup xs)) (frzs : ∀ b o u, H b = some (.frz o u) → H' b = some (.frz o u)) (tbls : ∀ b ps, H b = some (.tbl ps) → ∃ more, H' b = some (.tbl (ps ++ more)))
    (ns : ∀ m, s.heap.Ns X.env.locals m → h'.Ns X.env.locals m) (hok : HOk X.prog X.w H' h') (hg : AllBare g') :
    Inv X pins σ H' { s with heap := h', gens := g', drawn := d', toks := t' } := by
  have neL : ∀ b o, X.s₀.heap.get? b = some o → b ≠ X.env.locals := fun b o e => Nat.ne_of_lt (Nat.lt_of_lt_of_le (Heap.lt_size e) I.ok.above)
  have neC : ∀ b o, X.s₀.heap.get? b = some o → b ∉ X.ex → b ∉ ch := fun b o e hx hb => by
    rcases (hch b hb).1 with z | z
    · exact hx z
    · exact absurd (Nat.lt_of_lt_of_le (Heap.lt_size e) z) (Nat.lt_irrefl _)
  have cellK : ∀ x c, X.env.cells.lookup x = some c → ∀ v, s.heap.IsCell c v → h'.IsCell c v := fun x c e v ⟨o, ho, hd⟩ => by
    have nch : c ∉ ch := fun z => (hch c z).2.2.1 x c e rfl
    by_cases hc : c ∈ X.fs
    · obtain ⟨sl, q⟩ := slot c o (I.cne x c e) hc nch ho (I.freeC x c e)
      exact ⟨_, q, hd⟩
    · exact ⟨o, keep c o (I.cne x c e) hc nch ho (I.freeC x c e), hd⟩
  refine ⟨I.ok, I.os, hg, ⟨fun b o e n hb hx => ?_, fun b o e n hb hx => ?_, fun b o e n hx => ?_, fun b o e hx => ?_, fun b xs e => tups b xs (I.base.tups b xs e), fun b o xs e => frzs b o xs (I.base.frzs b o xs e), fun b ps e => ?_⟩, ?_, fun x c e => ?_, ?_, fun x c e => ?_, fun p hp => ?_, hok, I.len⟩
  · exact keep b o (neL b o e) hb (neC b o e hx) (I.base.keep b o e n hb hx) (I.base.free b o e n hx)
  · obtain ⟨sl, e1⟩ := I.base.slot b o e n hb hx
    obtain ⟨sl', e2⟩ := slot b _ (neL b o e) hb (neC b o e hx) e1 (I.base.free b o e n hx)
    exact ⟨sl', e2⟩
  · obtain ⟨o', e1⟩ := I.base.there b o e hx
    exact free b o' (neC b o e hx) e1 (I.base.free b o e n hx)
  · obtain ⟨o', e1⟩ := I.base.there b o e hx
    exact there b o' (neC b o e hx) e1
  · obtain ⟨m1, e1⟩ := I.base.tbls b ps e
    obtain ⟨m2, e2⟩ := tbls b _ e1
    exact ⟨m1 ++ m2, by rw [e2, Array.append_assoc]⟩
  · obtain ⟨m, hn, hl⟩ := I.loc
    refine ⟨m, ns m hn, fun i x v e1 e2 e3 => ?_⟩
    obtain ⟨u, r, l⟩ := hl i x v e1 e2 e3
    refine ⟨u, r, ?_⟩
    rcases l with l | ⟨k, c, e, z⟩
    · exact .inl l
    · exact .inr ⟨k, c, e, cellK x c e _ z⟩
  · obtain ⟨v, z⟩ := I.cell x c e
    exact ⟨v, cellK x c e v z⟩
  · obtain ⟨m, ⟨o, _, _, ho, _⟩, _⟩ := I.loc
    exact free _ o (fun z => (hch _ z).2.1 rfl) ho I.free
  · obtain ⟨v, o, ho, hd⟩ := I.cell x c e
    exact free c o (fun z => (hch c z).2.2.1 x c e rfl) ho (I.freeC x c e)
  · obtain ⟨e, n, ne, nf, d⟩ := I.pin p hp
    have nch : p.1 ∉ ch := fun z => (hch p.1 z).2.2.2 p hp rfl
    exact ⟨keep p.1 p.2 ne nf nch e n, free p.1 p.2 nch e n, ne, nf, d⟩
theorem Inv.un {t' : Nat} (I : Inv X pins σ H s) (u : Un X.fs [] H H' s.heap h') (hok : HOk X.prog X.w H' h') : Inv X pins σ H' { s with heap := h', toks := t' } := by
  obtain ⟨m, ⟨o, es, ep, ho, r⟩, _⟩ := id I.loc
  obtain ⟨sl, hL⟩ := u.any ho I.free (by simp)
  exact I.step (g' := s.gens) (d' := s.drawn) (ch := []) (fun _ z => nomatch z) (fun b o _ hb _ e n => u.keep b o e n hb (by simp)) (fun b o _ hb _ e n => u.slot b o e n hb (by simp)) (fun b o _ e n => u.free b o e n (by simp)) (fun b o _ e => u.there b o e (by simp)) u.tups u.frzs u.tbls (fun m' hm => by
    obtain ⟨o', es', ep', ho', r'⟩ := hm
    rw [ho] at ho'; cases ho'
    exact ⟨_, es', ep', hL, r'⟩) hok I.bare
theorem Inv.call {g' : Array GenState} {t' : Nat} {d' : Drawn} {ch : List Addr} (I : Inv X pins σ H s) (u : Un (frs X.stack) ch H H' s.heap h') (hok : HOk X.prog X.w H' h') (hg : AllBare g')
    (hch : ∀ b ∈ ch, (b ∈ X.ex ∨ X.s₀.heap.objs.size ≤ b) ∧ b ≠ X.env.locals ∧ (∀ x c, X.env.cells.lookup x = some c → c ≠ b) ∧ ∀ p ∈ X.pn ++ pins, p.1 ≠ b) :
    Inv X pins σ H' { s with heap := h', gens := g', drawn := d', toks := t' } := by
  obtain ⟨m, ⟨o, es, ep, ho, r⟩, _⟩ := id I.loc
  obtain ⟨sl, hL⟩ := u.any ho I.free fun z => (hch _ z).2.1 rfl
  exact I.step (ch := ch) hch (fun b o hL hb hc e n => u.keep b o e n (fun z => (List.mem_cons.mp (I.stkSub b z)).elim hL hb) hc) (fun b o _ _ hc e n => u.any e n hc) (fun b o hc e n => u.free b o e n hc) (fun b o hc e => u.there b o e hc) u.tups u.frzs u.tbls (fun m' hm => by
    obtain ⟨o', es', ep', ho', r'⟩ := hm
    rw [ho] at ho'; cases ho'
    exact ⟨_, es', ep', hL, r'⟩) hok hg
theorem Inv.turned {t' : Nat} {it : Addr} (I : Inv X pins σ H s) (k : ∀ b o, b ≠ it → s.heap.get? b = some o → h'.get? b = some o) (hn : H it = none) (hL : it ≠ X.env.locals)
    (h1 : it ∈ X.ex ∨ X.s₀.heap.objs.size ≤ it) (h2 : ∀ x c, X.env.cells.lookup x = some c → c ≠ it) (h3 : ∀ p ∈ X.pn ++ pins, p.1 ≠ it) : Inv X pins σ H { s with heap := h', toks := t' } := by
  have nit : ∀ b u, H b = some u → b ≠ it := fun b u e z => by rw [z, hn] at e; cases e
  refine I.step (g' := s.gens) (d' := s.drawn) (ch := [it]) (fun b hb => ?_) (fun b o _ _ hc e _ => k b o (fun z => hc (by simp [z])) e) (fun b o _ _ hc e _ => ⟨o.slots, k b o (fun z => hc (by simp [z])) e⟩) (fun _ _ _ _ n => n)
    (fun b o hc e => ⟨o, k b o (fun z => hc (by simp [z])) e⟩) (fun _ _ e => e) (fun _ _ _ e => e) (fun b ps e => ⟨#[], by rw [e]; simp⟩) (fun m hm => ?_) (fun b u e => ?_) I.bare
  · have e : b = it := by simpa using hb
    subst e
    exact ⟨h1, hL, h2, h3⟩
  · obtain ⟨o, es, ep, ho, r⟩ := hm
    exact ⟨o, es, ep, k _ o (Ne.symm hL) ho, r⟩
  · refine (I.hok b u e).stay (fun c v hc q => k c v ?_ q) (fun _ q => q) fun _ _ q => q
    rcases hc with z | z
    · rw [z]; exact nit b u e
    · exact nit c _ z
theorem Inv.tok (I : Inv X pins σ H s) (t : Nat) : Inv X pins σ H { s with toks := t } := I.un (h' := s.heap) (t' := t) Un.refl I.hok
theorem Inv.kept {t' : Nat} (I : Inv X pins σ H s) (k : ∀ b u, s.heap.get? b = some u → h'.get? b = some u) : Inv X pins σ H { s with heap := h', toks := t' } := I.un (Un.kept k) (I.hok.kept k)
theorem Inv.laid {a : Addr} {o : HO} {t' : Nat} (I : Inv X pins σ H s) (k : ∀ b u, s.heap.get? b = some u → h'.get? b = some u) (hp : s.heap.objs.size ≤ a) (new : ObjOk X.prog X.w (upd H a o) h' a o) :
    Inv X pins σ (upd H a o) { s with heap := h', toks := t' } := I.un (Un.laid k hp (I.hok.fresh hp)) (I.hok.laid k hp new)
theorem Inv.write {x e : Addr} {o : HO} {t' : Nat} (I : Inv X pins σ H s) (mu : Mut (H x)) (he : e = x ∨ H e = some (.own x)) (k : ∀ b u, b ≠ e → s.heap.get? b = some u → h'.get? b = some u) (heo : ∃ u, h'.get? e = some u)
    (new : ObjOk X.prog X.w (upd H x o) h' x o) : Inv X pins σ (upd H x o) { s with heap := h', toks := t' } := I.un (Un.write mu he k heo) (I.hok.write mu he k heo new)
theorem Inv.pins_of {pins' : List (Addr × Obj)} (I : Inv X pins σ H s) (h : ∀ p ∈ pins', s.heap.get? p.1 = some p.2 ∧ H p.1 = none ∧ p.1 ≠ X.env.locals ∧ p.1 ∉ X.fs ∧ ∀ v, p.2.data ≠ .cell v) : Inv X pins' σ H s :=
  ⟨I.ok, I.os, I.bare, I.base, I.loc, I.cell, I.free, I.freeC, fun p hp => (List.mem_append.mp hp).elim (fun z => I.pin p (List.mem_append_left _ z)) (h p), I.hok, I.len⟩
theorem nodup_ix {N : List Str} (hN : N.Nodup) {i j : Nat} {x : Str} (a : N[i]? = some x) (b : N[j]? = some x) : i = j := by
  obtain ⟨h1, e1⟩ := List.getElem?_eq_some_iff.mp a
  obtain ⟨h2, e2⟩ := List.getElem?_eq_some_iff.mp b
  exact (List.getElem_inj hN).mp (e1.trans e2.symm)
theorem store_ok2 {M : Model} {A : Around} {E : Value → Shared → Prop} {i : Nat} {x : Str} {v : V} {u : Value} {Q : Unit → Shared → Prop} (I : Inv X pins σ H s) (hN : X.N.Nodup) (hi : X.N[i]? = some x) (hx : Loc X.env.scope x) (r : RelV v u)
    (h : ∀ s', Inv X pins (σ.set i (some v)) H s' → (∃ a, Heap.SameBut a s.heap s'.heap ∧ (a = X.env.locals ∨ X.env.cells.lookup x = some a)) → Q () s') (hf : X.fn x = true ∨ X.env.scope.names.lookup x = some .local := by first | exact .inl rfl | exact .inr rfl | assumption) : wpAny M A (storeName X.env x u) Q E s := by
  obtain ⟨m, hn, hl⟩ := id I.loc
  have hcls : (X.env.scope.kind == .class || (X.env.scope.kind == .module && X.env.locals != X.env.globals)) = false := by rw [I.ok.kind]; rfl
  have hiσ : i < σ.length := by rw [I.len]; exact (List.getElem?_eq_some_iff.mp hi).1
  have cne := I.cne
  have tracked : ∀ {a : Addr} {h' : Heap}, (∃ o, s.heap.get? a = some o ∧ H a = none) → Heap.SameBut a s.heap h' → HOk X.prog X.w H h' := fun {a h'} ha hs b ob e => by
    obtain ⟨_, _, hfree⟩ := ha
    refine (I.hok b ob e).stay (fun c w' hc q => (hs.2 c ?_).trans q) (fun _ q => q) fun _ _ q => q
    rintro rfl
    rcases hc with rfl | hc
    · rw [hfree] at e; cases e
    · rw [hfree] at hc; cases hc
  rcases hx with hk | hk
  · refine wpAny_storeName_local hk hn (fun h' hn' hs => ?_) hcls
    obtain ⟨oL, _, _, hoL, _⟩ := id hn
    refine h _ ⟨I.ok, I.os, I.bare, ⟨fun b o e n hb hx => ?_, fun b o e n hb hx => ?_, I.base.free, fun b o e hx => ?_, I.base.tups, I.base.frzs, I.base.tbls⟩, ⟨_, hn', fun j y v' e1 e2 e3 => ?_⟩, fun y c e => ?_, I.free, I.freeC, fun p hp => ?_, tracked ⟨oL, hoL, I.free⟩ hs, by simpa using I.len⟩ ⟨_, hs, .inl rfl⟩
    · exact (hs.2 b (Nat.ne_of_lt (Nat.lt_of_lt_of_le (Heap.lt_size e) I.ok.above))).trans (I.base.keep b o e n hb hx)
    · obtain ⟨sl, e1⟩ := I.base.slot b o e n hb hx
      exact ⟨sl, (hs.2 b (Nat.ne_of_lt (Nat.lt_of_lt_of_le (Heap.lt_size e) I.ok.above))).trans e1⟩
    · obtain ⟨o', e1⟩ := I.base.there b o e hx
      exact ⟨o', (hs.2 b (Nat.ne_of_lt (Nat.lt_of_lt_of_le (Heap.lt_size e) I.ok.above))).trans e1⟩
    · by_cases hj : j = i
      · subst hj
        rw [hi] at e1; cases e1
        rw [List.getElem?_set_self hiσ] at e2
        cases e2
        exact ⟨u, r, .inl ⟨hk, by simp⟩⟩
      · rw [List.getElem?_set_ne (Ne.symm hj)] at e2
        obtain ⟨u', r', q⟩ := hl j y v' e1 e2 e3
        refine ⟨u', r', ?_⟩
        rcases q with ⟨k, e⟩ | ⟨k, c, e, z⟩
        · refine .inl ⟨k, ?_⟩
          have : y ≠ x := fun e => hj (nodup_ix hN e1 (e ▸ hi))
          simp [this, e]
        · exact .inr ⟨k, c, e, z.sameBut hs (cne y c e)⟩
    · obtain ⟨w', z⟩ := I.cell y c e
      exact ⟨w', z.sameBut hs (cne y c e)⟩
    · obtain ⟨e, n, ne, nf, d⟩ := I.pin p hp
      exact ⟨(hs.2 p.1 ne).trans e, n, ne, nf, d⟩
  · have hfn : X.fn x = true := by
      rcases hf with z | z
      · exact z
      · rw [z] at hk; cases hk
    obtain ⟨c, hc⟩ := I.ok.has x (.inl hk)
    obtain ⟨w', z⟩ := I.cell x c hc
    refine wpAny_storeName_cell I.ok.kind hk hc z (fun h' hc' hs => ?_)
    obtain ⟨oc, hoc, hocd⟩ := id z
    refine h { s with heap := h' } ⟨I.ok, I.os, I.bare, ⟨fun b o e n hb hx => ?_, fun b o e n hb hx => ?_, I.base.free, fun b o e hx => ?_, I.base.tups, I.base.frzs, I.base.tbls⟩, ⟨m, hn.sameBut hs (Ne.symm (cne x c hc)), fun j y v' e1 e2 e3 => ?_⟩, fun y c' e => ?_, I.free, I.freeC, fun p hp => ?_, tracked ⟨oc, hoc, I.freeC x c hc⟩ hs, by simpa using I.len⟩ ⟨c, hs, .inr hc⟩
    · exact (hs.2 b (Nat.ne_of_lt (Nat.lt_of_lt_of_le (Heap.lt_size e) (I.ok.cab x c hfn hc)))).trans (I.base.keep b o e n hb hx)
    · obtain ⟨sl, e1⟩ := I.base.slot b o e n hb hx
      exact ⟨sl, (hs.2 b (Nat.ne_of_lt (Nat.lt_of_lt_of_le (Heap.lt_size e) (I.ok.cab x c hfn hc)))).trans e1⟩
    · obtain ⟨o', e1⟩ := I.base.there b o e hx
      exact ⟨o', (hs.2 b (Nat.ne_of_lt (Nat.lt_of_lt_of_le (Heap.lt_size e) (I.ok.cab x c hfn hc)))).trans e1⟩
    · by_cases hj : j = i
      · subst hj
        rw [hi] at e1; cases e1
        rw [List.getElem?_set_self hiσ] at e2
        cases e2
        exact ⟨u, r, .inr ⟨.inl hk, c, hc, hc'⟩⟩
      · rw [List.getElem?_set_ne (Ne.symm hj)] at e2
        obtain ⟨u', r', q⟩ := hl j y v' e1 e2 e3
        refine ⟨u', r', ?_⟩
        rcases q with q | ⟨k, c', e, z'⟩
        · exact .inl q
        · refine .inr ⟨k, c', e, z'.sameBut hs ?_⟩
          rintro rfl
          exact hj (nodup_ix hN e1 (I.ok.inj _ _ _ e hc ▸ hi))
    · by_cases hcc : c' = c
      · subst hcc; exact ⟨_, hc'⟩
      · obtain ⟨w2, z2⟩ := I.cell y c' e
        exact ⟨w2, z2.sameBut hs hcc⟩
    · obtain ⟨e, n, ne, nf, d⟩ := I.pin p hp
      refine ⟨(hs.2 p.1 ?_).trans e, n, ne, nf, d⟩
      intro q
      rw [q, hoc] at e
      have q' : oc = p.2 := Option.some.inj e
      exact d w' (by rw [← q']; exact hocd)
theorem store_ok {M : Model} {A : Around} {E : Value → Shared → Prop} {i : Nat} {x : Str} {v : V} {u : Value} {Q : Unit → Shared → Prop} (I : Inv X pins σ H s) (hN : X.N.Nodup) (hi : X.N[i]? = some x) (hx : Loc X.env.scope x) (r : RelV v u)
    (h : ∀ s', Inv X pins (σ.set i (some v)) H s' → Q () s') (hf : X.fn x = true ∨ X.env.scope.names.lookup x = some .local := by first | exact .inl rfl | exact .inr rfl | assumption) : wpAny M A (storeName X.env x u) Q E s :=
  store_ok2 I hN hi hx r (fun s' I' _ => h s' I') hf
theorem Inv.call' {s' : Shared} {ch : List Addr} (I : Inv X pins σ H s) (ho : s'.os = s.os) (u : Un (frs X.stack) ch H H' s.heap s'.heap) (hok : HOk X.prog X.w H' s'.heap) (hg : AllBare s'.gens)
    (hch : ∀ b ∈ ch, (b ∈ X.ex ∨ X.s₀.heap.objs.size ≤ b) ∧ b ≠ X.env.locals ∧ (∀ x c, X.env.cells.lookup x = some c → c ≠ b) ∧ ∀ p ∈ X.pn ++ pins, p.1 ≠ b) : Inv X pins σ H' s' := by
  obtain ⟨h', g', d', t', o'⟩ := s'
  have e : o' = s.os := ho
  subst e
  exact I.call (g' := g') (t' := t') (d' := d') u hok hg hch
end
abbrev XK := Value → Option Addr → Hp → Prop
abbrev St := List (Option V)
abbrev VK := V → Hp → Prop
abbrev TE := St → Hp → VK → Prop
abbrev TT := St → Hp → (Bool → Hp → Prop) → Prop
abbrev TA := St → Hp → (List V → Hp → Prop) → Prop
structure Ends where
  nx : St → Hp → Prop
  rt : VK
  bk : St → Hp → Prop := fun _ _ => False
  ct : St → Hp → Prop := fun _ _ => False
abbrev TS := Ends → St → Hp → Prop
def EP (X : Cx) (pins : List (Addr × Obj)) (σ : St) (Q : VK) (u : Value) (s' : Shared) : Prop := ∃ v H', Inv X pins σ H' s' ∧ RelV v u ∧ Q v H'
def TP (X : Cx) (pins : List (Addr × Obj)) (σ : St) (Q : Bool → Hp → Prop) (b : Bool) (s' : Shared) : Prop := ∃ H', Inv X pins σ H' s' ∧ Q b H'
def AP (X : Cx) (pins : List (Addr × Obj)) (σ : St) (Q : List V → Hp → Prop) (us : List Value) (s' : Shared) : Prop := ∃ vs H', Inv X pins σ H' s' ∧ Vals vs us ∧ Q vs H'
def SP (X : Cx) (pins : List (Addr × Obj)) (D : Ends) (f : Flow) (s' : Shared) : Prop :=
  match f with
  | .next => ∃ σ' H', Inv X pins σ' H' s' ∧ D.nx σ' H'
  | .brk => ∃ σ' H', Inv X pins σ' H' s' ∧ D.bk σ' H'
  | .cont => ∃ σ' H', Inv X pins σ' H' s' ∧ D.ct σ' H'
  | .ret u => ∃ v σ' H', Inv X pins σ' H' s' ∧ RelV v u ∧ D.rt v H'
def PE (X : Cx) (e : Expr) (t : TE) : Prop :=
  ∀ (pins : List (Addr × Obj)) (s : Shared) (σ : St) (H : Hp) (Q : VK), Inv X pins σ H s → t σ H Q → wpAny (model X.prog X.w) X.A (eval e X.env) (EP X pins σ Q) X.xe s
def PT (X : Cx) (e : Expr) (t : TT) : Prop :=
  ∀ (pins : List (Addr × Obj)) (s : Shared) (σ : St) (H : Hp) (Q : Bool → Hp → Prop), Inv X pins σ H s → t σ H Q → wpAny (model X.prog X.w) X.A (isTrue e X.env (eval e X.env)) (TP X pins σ Q) X.xe s
def PW (X : Cx) (e : Expr) (t : TT) : Prop :=
  ∀ (whole : Sem Value) (pins : List (Addr × Obj)) (s : Shared) (σ : St) (H : Hp) (Q : Bool → Hp → Prop), Inv X pins σ H s → t σ H Q → wpAny (model X.prog X.w) X.A (isTrue e X.env whole) (TP X pins σ Q) X.xe s
theorem PW.pt {X : Cx} {e : Expr} {t : TT} (h : PW X e t) : PT X e t := h _
def PA (X : Cx) (es : List Expr) (t : TA) : Prop :=
  ∀ (pos : Pos) (pins : List (Addr × Obj)) (s : Shared) (σ : St) (H : Hp) (Q : List V → Hp → Prop), Inv X pins σ H s → t σ H Q → wpAny (model X.prog X.w) X.A (spliced (backTo pos (starEach es X.env))) (AP X pins σ Q) X.xe s
def PS (X : Cx) (st : Stmt) (t : TS) : Prop :=
  ∀ (pins : List (Addr × Obj)) (s : Shared) (σ : St) (H : Hp) (D : Ends), Inv X pins σ H s → t D σ H → wpAny (model X.prog X.w) X.A (exec st X.env) (SP X pins D) X.xe s
def PSs (X : Cx) (st : List Stmt) (t : TS) : Prop :=
  ∀ (pins : List (Addr × Obj)) (s : Shared) (σ : St) (H : Hp) (D : Ends), Inv X pins σ H s → t D σ H → wpAny (model X.prog X.w) X.A (execs st X.env) (SP X pins D) X.xe s
theorem thn {α : Type} {t : Sem α} {Q Q' : α → Shared → Prop} {M : Model} {A : Around} {E : Value → Shared → Prop} {s : Shared} (h : wpAny M A t Q E s) (hQ : ∀ a s, Q a s → Q' a s) : wpAny M A t Q' E s := wpAny_mono h hQ fun _ _ x => x
end L2
namespace L2
open PySem PySem.Spec PyProof.Rows
section
variable {X : Cx}
theorem bin {a b : Expr} {ta tb : TE} (ha : PE X a ta) (hb : PE X b tb) {pins : List (Addr × Obj)} {s : Shared} {σ : St} {H : Hp} {R : V → V → Hp → Prop} (I : Inv X pins σ H s) (h : ta σ H fun x H1 => tb σ H1 fun y H2 => R x y H2)
    {α : Type} {Q : α → Shared → Prop} {f : Value → Value → Sem α}
    (hf : ∀ v u s2 x y H2, Inv X pins σ H2 s2 → RelV x v → RelV y u → R x y H2 → wpAny (model X.prog X.w) X.A (f v u) Q X.xe s2) :
    wpAny (model X.prog X.w) X.A (eval a X.env) (fun v s₁ => wpAny (model X.prog X.w) X.A (eval b X.env) (fun u s₂ => wpAny (model X.prog X.w) X.A (f v u) Q X.xe s₂) X.xe s₁) X.xe s := by
  refine thn (ha pins s σ H _ I h) fun v s1 ⟨x, H1, I1, r1, q1⟩ => ?_
  refine thn (hb pins s1 σ H1 _ I1 q1) fun u s2 ⟨y, H2, I2, r2, q2⟩ => ?_
  exact hf v u s2 x y H2 I2 r1 r2 q2
def tVar (i : Nat) : TE := fun σ H Q => ∃ v, σ[i]? = some (some v) ∧ Q v H
def tC (v : V) : TE := fun _ H Q => Q v H
theorem pe_var {i : Nat} {x : Str} {pos : Pos} (hN : X.N[i]? = some x) (hv : Vis X.env.scope x) (hd : (x == ("__debug__" : Str)) = false := by decide) (hcd : (x == ("__classdict__" : Str)) = false := by decide) : PE X (.Name x pos) (tVar i) := by
  intro pins s σ H Q I h
  obtain ⟨v, e, h⟩ := h
  obtain ⟨m, hn, hl⟩ := I.loc
  obtain ⟨u, r, l⟩ := hl i x v hN e hv
  have fin : EP X pins σ Q u s := ⟨v, H, I, r, h⟩
  rcases l with ⟨hk, hm⟩ | ⟨hk, c, hc, hcell⟩
  · exact wpAny_Name (wpAny_loadName_local I.ok.kind hk hn hm fin) hd
  · rcases hk with hk | hk
    · exact wpAny_Name (wpAny_loadName_cell I.ok.kind hk hc hcell fin) hd
    · exact wpAny_Name (wpAny_loadName_free I.ok.kind hk hc hcell fin hcd) hd
theorem pe_int {i j pos} : PE X (.Constant (.int i) j pos) (tC (.int i)) := fun _ _ _ H _ I h => wpAny_Constant_int ⟨.int i, H, I.tok _, ⟨_, rfl⟩, h⟩
theorem pe_bl {b j pos} : PE X (.Constant (.bool b) j pos) (tC (.bl b)) := fun _ _ _ H _ I h => Constant_bool ⟨.bl b, H, I, rfl, h⟩
theorem pe_non {j pos} : PE X (.Constant .none j pos) (tC .non) := fun _ _ _ H _ I h => Constant_none ⟨.non, H, I, rfl, h⟩
theorem pe_str {x j pos} : PE X (.Constant (.str x) j pos) (tC (.str x)) := fun _ _ _ H _ I h => Calls.Constant_str ⟨.str x, H, I.tok _, ⟨_, rfl⟩, h⟩
def Gl (X : Cx) (x : Str) : Prop := X.env.kindOf x = some .globalImplicit
theorem ld_glob {E : Value → Shared → Prop} {pins : List (Addr × Obj)} {s : Shared} {σ : St} {H : Hp} {x : Str} {u : Value} {pos : Pos} {Q : Value → Shared → Prop} (I : Inv X pins σ H s) (hg : Gl X x) (hm : X.mg x = some u) (h : Q u s)
    (hd : (x == ("__debug__" : Str)) = false := by decide) : wpAny (model X.prog X.w) X.A (eval (.Name x pos) X.env) Q E s :=
  Calls.Name_function_global I.ok.kind hg (Calls.loadGlobal_global (by rw [I.ok.glob]; exact I.mod.glob.keeps I.bk) hm h) hd
theorem ld_blt {E : Value → Shared → Prop} {pins : List (Addr × Obj)} {s : Shared} {σ : St} {H : Hp} {x : Str} {u : Value} {pos : Pos} {Q : Value → Shared → Prop} (I : Inv X pins σ H s) (hg : Gl X x) (hm : X.mg x = none) (hv : bootBuiltins x = some u) (h : Q u s)
    (hn : x ≠ "__name__" := by decide) (hd : (x == ("__debug__" : Str)) = false := by decide) : wpAny (model X.prog X.w) X.A (eval (.Name x pos) X.env) Q E s := by
  obtain ⟨mb, h1, h2⟩ := I.mod.blt
  exact Calls.Name_function_global I.ok.kind hg (Calls.loadGlobal_builtin (by rw [I.ok.glob]; exact I.mod.glob.keeps I.bk) hm (by rw [I.ok.blt]; exact h1.keeps I.bk) ((h2 x hn).trans hv) h) hd
theorem pe_glob {x : Str} {v : V} {u : Value} {pos : Pos} (hg : Gl X x) (hm : X.mg x = some u) (r : RelV v u) (hd : (x == ("__debug__" : Str)) = false := by decide) : PE X (.Name x pos) (tC v) :=
  fun _ _ _ H _ I h => ld_glob I hg hm ⟨v, H, I, r, h⟩ hd
theorem pe_bltn {x : Str} {v : V} {u : Value} {pos : Pos} (hg : Gl X x) (hm : X.mg x = none) (hv : bootBuiltins x = some u) (r : RelV v u) (hn : x ≠ "__name__" := by decide) (hd : (x == ("__debug__" : Str)) = false := by decide) : PE X (.Name x pos) (tC v) :=
  fun _ _ _ H _ I h => ld_blt I hg hm hv ⟨v, H, I, r, h⟩ hn hd
variable {a b : Expr} {ta tb : TE} {pos : Pos}
def PC (X : Cx) (op : CmpOp) (a b : Expr) (t : TE) : Prop :=
  ∀ (pins : List (Addr × Obj)) (s : Shared) (σ : St) (H : Hp) (Q : VK), Inv X pins σ H s → t σ H Q →
    wpAny (model X.prog X.w) X.A (eval a X.env) (fun v s₁ => wpAny (model X.prog X.w) X.A (eval b X.env) (fun u s₂ => wpAny (model X.prog X.w) X.A (compareOp op v u) (EP X pins σ Q) X.xe s₂) X.xe s₁) X.xe s
def tB (t : TE) : TT := fun σ H Q => t σ H fun x H1 => ∃ c, x = .bl c ∧ Q c H1
theorem pt_cmp {op : CmpOp} {t : TE} (h : PC X op a b t) (h1 : behindInMarks op b = false := by first | exact nobehind _ (by decide) (by decide) | rfl) : PT X (.Compare a [op] [b] pos) (tB t) := by
  intro pins s σ H Q I hw
  refine wpAny_isTrue_Compare1 (thn (h pins s σ H _ I hw) fun v s1 h1 => thn h1 fun u s2 h2 => thn h2 fun c s3 ⟨x, H1, I1, r1, q1⟩ => ?_) h1
  obtain ⟨d, rfl, q⟩ := q1
  cases r1
  exact wpAny_truthy_bool ⟨H1, I1, q⟩
theorem pt_val {e : Expr} {t : TE} (h : PE X e t) (he : ∀ whole, isTrue e X.env whole = (do let v ← whole; standAt e.pos; holding [v] (truthy v)) := by intro _; rfl) : PT X e (tB t) := by
  intro pins s σ H Q I hw
  refine isTrue_plain (thn (h pins s σ H _ I hw) fun v s1 ⟨x, H1, I1, r1, q1⟩ => ?_) (he _)
  obtain ⟨d, rfl, q⟩ := q1
  cases r1
  exact wpAny_truthy_bool ⟨H1, I1, q⟩
variable {tA tB' : TT} {rest : List Expr}
def tAnd (t u : TT) : TT := fun σ H Q => t σ H fun c H1 => if c = true then u σ H1 Q else Q false H1
def tOr (t u : TT) : TT := fun σ H Q => t σ H fun c H1 => if c = true then Q true H1 else u σ H1 Q
def tNot (t : TT) : TT := fun σ H Q => t σ H fun c H1 => Q (!c) H1
theorem pw_and1 (ha : PT X a tA) : PW X (.BoolOp .And [a] pos) tA := by
  intro wh pins s σ H Q I h
  refine isTrue_and (thn (ha pins s σ H Q I h) fun c s1 e => ?_)
  cases c with
  | true => exact isTrue_and_nil e
  | false => exact e
theorem pw_or1 (ha : PT X a tA) : PW X (.BoolOp .Or [a] pos) tA := by
  intro wh pins s σ H Q I h
  refine isTrue_or (thn (ha pins s σ H Q I h) fun c s1 e => ?_)
  cases c with
  | false => exact isTrue_or_nil e
  | true => exact e
theorem pw_and (ha : PT X a tA) (hb : PW X (.BoolOp .And (b :: rest) pos) tB') : PW X (.BoolOp .And (a :: b :: rest) pos) (tAnd tA tB') := by
  intro wh pins s σ H Q I h
  refine isTrue_and (thn (ha pins s σ H _ I h) fun c s1 ⟨H1, I1, q1⟩ => ?_)
  cases c with
  | true => exact hb wh pins s1 σ H1 Q I1 q1
  | false => exact ⟨H1, I1, q1⟩
theorem pw_or (ha : PT X a tA) (hb : PW X (.BoolOp .Or (b :: rest) pos) tB') : PW X (.BoolOp .Or (a :: b :: rest) pos) (tOr tA tB') := by
  intro wh pins s σ H Q I h
  refine isTrue_or (thn (ha pins s σ H _ I h) fun c s1 ⟨H1, I1, q1⟩ => ?_)
  cases c with
  | true => exact ⟨H1, I1, q1⟩
  | false => exact hb wh pins s1 σ H1 Q I1 q1
theorem pt_not (ha : PT X a tA) : PT X (.UnaryOp .Not a pos) (tNot tA) := by
  intro pins s σ H Q I h
  exact isTrue_not (ha pins s σ H (fun c H1 => Q (!c) H1) I h)
def tAndV (ta tb : TE) : TE := fun σ H Q => ta σ H fun x H1 => ∃ c, x = .bl c ∧ if c = true then tb σ H1 Q else Q (.bl false) H1
def tNotV (ta : TE) : TE := fun σ H Q => ta σ H fun x H1 => ∃ c, x = .bl c ∧ Q (.bl (!c)) H1
theorem pe_one {op} {t : TE} (h : PE X a t) : PE X (.BoolOp op [a] pos) t := fun pins s σ H Q I hw => BoolOp_one (h pins s σ H Q I hw)
theorem pe_and (ha : PE X a ta) (hb : PE X (.BoolOp .And (b :: rest) pos) tb) : PE X (.BoolOp .And (a :: b :: rest) pos) (tAndV ta tb) := by
  intro pins s σ H Q I h
  refine BoolOp_and (thn (ha pins s σ H _ I h) fun v s1 ⟨x, H1, I1, r1, q1⟩ => ?_)
  obtain ⟨c, rfl, q1⟩ := q1
  cases r1
  refine wpAny_truthy_bool ?_
  cases c with
  | true => exact hb pins s1 σ H1 Q I1 q1
  | false => exact ⟨.bl false, H1, I1, rfl, q1⟩
theorem pe_not (ha : PE X a ta) : PE X (.UnaryOp .Not a pos) (tNotV ta) := by
  intro pins s σ H Q I h
  refine UnaryOp_ (thn (ha pins s σ H _ I h) fun v s1 ⟨x, H1, I1, r1, q1⟩ => ?_)
  obtain ⟨c, rfl, q1⟩ := q1
  cases r1
  exact not_of (wpAny_truthy_bool ⟨.bl (!c), H1, I1, rfl, q1⟩)
def tIf (t : TT) (ta tb : TE) : TE := fun σ H Q => t σ H fun c H1 => if c = true then ta σ H1 Q else tb σ H1 Q
theorem pe_ifExp {c : Expr} (hc : PT X c tA) (ha : PE X a ta) (hb : PE X b tb) : PE X (.IfExp c a b pos) (tIf tA ta tb) := by
  intro pins s σ H Q I h
  refine wpAny_IfExp (thn (hc pins s σ H _ I h) fun d s1 ⟨H1, I1, q1⟩ => ?_)
  cases d with
  | true => exact ha pins s1 σ H1 Q I1 q1
  | false => exact hb pins s1 σ H1 Q I1 q1
end
end L2
namespace L2
open PySem PySem.Spec PyProof.Rows
def SqL (K : PySem.W.Frag) (H : Hp) (a : Addr) (xs : List V) : Prop :=
  Rd H a (.lst xs) ∨
    ∃ (o : Obj) (its : Array Value) (n : Nat), K.lookup a = some o ∧ o.cls = .type "list" ∧ o.dict = none ∧ o.data = .seq its n ∧ its.size ≤ sizeLine ∧ Vals xs its.toList
def SqT (K : PySem.W.Frag) (H : Hp) (a : Addr) (xs : List V) : Prop :=
  Rd H a (.tup xs) ∨
    ∃ (o : Obj) (its : Array Value) (n : Nat), K.lookup a = some o ∧ o.cls = .type "tuple" ∧ o.data = .seq its n ∧ its.size ≤ sizeLine ∧ Vals xs its.toList
def absV : Value → Option V
  | .none => some .non
  | .bool b => some (.bl b)
  | .int i _ => some (.int i)
  | .str x _ => some (.str x)
  | .bytes b _ => some (.byt b)
  | .float b _ => some (.flt b)
  | .ref a => some (.ref a)
  | .type n => some (.ty n)
  | _ => none
theorem RelV.abs {x : V} {u : Value} (r : RelV x u) : absV u = some x := by
  cases x with
  | non => cases r; rfl
  | bl _ => cases r; rfl
  | int _ => obtain ⟨t, rfl⟩ := r; rfl
  | str _ => obtain ⟨t, rfl⟩ := r; rfl
  | byt _ => obtain ⟨t, rfl⟩ := r; rfl
  | flt _ => obtain ⟨t, rfl⟩ := r; rfl
  | ref _ => cases r; rfl
  | ty _ => cases r; rfl
theorem RelV.inj {x y : V} {u : Value} (r : RelV x u) (q : RelV y u) : x = y := Option.some.inj (r.abs.symm.trans q.abs)
theorem Vals.inj : ∀ {xs ys : List V} {us : List Value}, Vals xs us → Vals ys us → xs = ys
  | _, _, _, .nil, .nil => rfl
  | _, _, _, .cons r t, .cons r' t' => by rw [r.inj r', Vals.inj t t']
section
variable {X : Cx} {pins : List (Addr × Obj)} {σ : St} {H : Hp} {s : Shared} {a : Addr} {xs ys : List V}
theorem SqL.of {K : PySem.W.Frag} (h : H a = some (.lst xs)) : SqL K H a xs := .inl (.inl h)
theorem SqT.of {K : PySem.W.Frag} (h : H a = some (.tup xs)) : SqT K H a xs := .inl (.inl h)
theorem Inv.list (I : Inv X pins σ H s) (h : SqL X.K H a xs) : ∃ its : List Value, Vals xs its ∧ PlainL s.heap a its.toArray ∧ xs.length ≤ sizeLine := by
  rcases h with h | ⟨o, its, n, hk, hc, hd, hs, hz, r⟩
  · obtain ⟨z, its, n, r, e⟩ := h.ok I.hok
    exact ⟨its, r, ⟨_, n, e, rfl, rfl, rfl⟩, z⟩
  · refine ⟨its.toList, r, ⟨o, n, I.kIn a o hk, hc, hd, by simpa using hs⟩, ?_⟩
    have e := r.length
    simp only [Array.length_toList] at e
    omega
theorem Inv.tuple (I : Inv X pins σ H s) (h : SqT X.K H a xs) : ∃ its : List Value, Vals xs its ∧ IsTup s.heap a its.toArray ∧ xs.length ≤ sizeLine := by
  rcases h with h | ⟨o, its, n, hk, hc, hs, hz, r⟩
  · obtain ⟨z, its, r, p⟩ := h.ok I.hok
    exact ⟨its, r, p, z⟩
  · refine ⟨its.toList, r, ⟨o, I.kIn a o hk, hc, n, by simpa using hs⟩, ?_⟩
    have e := r.length
    simp only [Array.length_toList] at e
    omega
theorem Inv.list_inj (I : Inv X pins σ H s) (h : SqL X.K H a xs) (h' : SqL X.K H a ys) : xs = ys := by
  obtain ⟨its, r, ⟨o, n, e, _, _, d⟩, _⟩ := I.list h
  obtain ⟨its', r', ⟨o', n', e', _, _, d'⟩, _⟩ := I.list h'
  rw [e] at e'; cases e'
  rw [d] at d'
  injection d' with d1 _
  have : its = its' := by simpa using congrArg Array.toList d1
  subst this
  exact r.inj r'
theorem Inv.tuple_inj (I : Inv X pins σ H s) (h : SqT X.K H a xs) (h' : SqT X.K H a ys) : xs = ys := by
  obtain ⟨its, r, ⟨o, e, _, n, d⟩, _⟩ := I.tuple h
  obtain ⟨its', r', ⟨o', e', _, n', d'⟩, _⟩ := I.tuple h'
  rw [e] at e'; cases e'
  rw [d] at d'
  injection d' with d1 _
  have : its = its' := by simpa using congrArg Array.toList d1
  subst this
  exact r.inj r'
end
abbrev Cx.wish (X : Cx) (E : Value → Shared → Prop) : Cx := { X with xe := E }
abbrev Cx.nox (X : Cx) : Cx := X.wish fun _ _ => False
theorem Cx.Ok.wish {X : Cx} (ok : X.Ok) (E : Value → Shared → Prop) : (X.wish E).Ok :=
  ⟨ok.mod, ok.kind, ok.glob, ok.blt, ok.above, ok.inj, ok.has, ok.cab, ok.hd, ok.frames, ok.stk, ok.exf, ok.bs, ok.bsz, ok.noex, ok.exfs, ok.funs, ok.frf⟩
theorem Cx.Ok.unwish {X : Cx} {E : Value → Shared → Prop} (ok : (X.wish E).Ok) : X.Ok :=
  ⟨ok.mod, ok.kind, ok.glob, ok.blt, ok.above, ok.inj, ok.has, ok.cab, ok.hd, ok.frames, ok.stk, ok.exf, ok.bs, ok.bsz, ok.noex, ok.exfs, ok.funs, ok.frf⟩
section
variable {X : Cx} {pins : List (Addr × Obj)} {σ : St} {H : Hp} {s : Shared} {E : Value → Shared → Prop}
theorem Inv.wish (I : Inv X pins σ H s) (E : Value → Shared → Prop) : Inv (X.wish E) pins σ H s := ⟨I.ok.wish E, I.os, I.bare, I.base, I.loc, I.cell, I.free, I.freeC, I.pin, I.hok, I.len⟩
theorem Inv.unwish (I : Inv (X.wish E) pins σ H s) : Inv X pins σ H s := ⟨I.ok.unwish, I.os, I.bare, I.base, I.loc, I.cell, I.free, I.freeC, I.pin, I.hok, I.len⟩
theorem SP.unwish {D : Ends} {f : Flow} {s' : Shared} (h : SP (X.wish E) pins D f s') : SP X pins D f s' := by
  cases f with
  | next => obtain ⟨σ', H', I, q⟩ := h; exact ⟨σ', H', I.unwish, q⟩
  | brk => obtain ⟨σ', H', I, q⟩ := h; exact ⟨σ', H', I.unwish, q⟩
  | cont => obtain ⟨σ', H', I, q⟩ := h; exact ⟨σ', H', I.unwish, q⟩
  | ret u => obtain ⟨v, σ', H', I, r, q⟩ := h; exact ⟨v, σ', H', I.unwish, r, q⟩
theorem PSs.nox {st : List Stmt} {t : TS} (h : PSs X.nox st t) : PSs X st t := fun pins s σ H D I hw =>
  wpAny_mono (h pins s σ H D (I.wish _) hw) (fun _ _ q => q.unwish) fun _ _ z => False.elim z
end
section
variable {X : Cx} {st : Stmt} {rest : List Stmt} {t u : TS} {e : Expr} {te : TE} {pos : Pos}
def tNext : TS := fun D σ H => D.nx σ H
def tSeq (t u : TS) : TS := fun D σ H => t { D with nx := u D } σ H
theorem pss_nil : PSs X [] tNext := fun _ _ σ H _ I h => wpAny_execs_nil ⟨σ, H, I, h⟩
theorem pss_cons (h1 : PS X st t) (h2 : PSs X rest u) : PSs X (st :: rest) (tSeq t u) := by
  intro pins s σ H D I h
  refine wpAny_execs_cons (thn (h1 pins s σ H { D with nx := u D } I h) fun f s1 q => ?_)
  cases f with
  | next =>
    obtain ⟨σ', H', I', q⟩ := q
    exact h2 pins s1 σ' H' D I' q
  | ret v => exact q
  | brk => exact q
  | cont => exact q
theorem pss_one (h1 : PS X st t) : PSs X [st] t := by
  intro pins s σ H D I h
  refine wpAny_execs_cons (thn (h1 pins s σ H D I h) fun f s1 q => ?_)
  cases f with
  | next => exact wpAny_execs_nil q
  | ret v => exact q
  | brk => exact q
  | cont => exact q
theorem Inv.quiet {pins : List (Addr × Obj)} {σ : St} {H : Hp} {s : Shared} (I : Inv X pins σ H s) : interactive X.env = false := by simp [interactive, I.ok.kind]
def tDrop (te : TE) : TS := fun D σ H => te σ H fun _ H1 => D.nx σ H1
theorem ps_expr (he : PE X e te) (hs : swapsWith e none pos.line X.env = pure false := by rfl) : PS X (.Expr e pos) (tDrop te) := by
  intro pins s σ H D I h
  exact wpAny_Expr_any (thn (he pins s σ H _ I h) fun v s1 ⟨x, H1, I1, r1, q1⟩ => ⟨σ, H1, I1, q1⟩) I.quiet hs
def tRet (te : TE) : TS := fun D σ H => te σ H D.rt
theorem ps_ret (he : PE X e te) : PS X (.Return (some e) pos) (tRet te) := by
  intro pins s σ H D I h
  exact wpAny_Return_some (thn (he pins s σ H _ I h) fun v s1 ⟨x, H1, I1, r1, q1⟩ => ⟨x, σ, H1, I1, r1, q1⟩)
def tIfS (c : TT) (t u : TS) : TS := fun D σ H => c σ H fun b H1 => if b = true then t D σ H1 else u D σ H1
theorem ps_if {c : Expr} {a b : List Stmt} {tc : TT} (hc : PT X c tc) (ha : PSs X a t) (hb : PSs X b u) : PS X (.If c a b pos) (tIfS tc t u) := by
  intro pins s σ H D I h
  refine wpAny_If (thn (hc pins s σ H _ I h) fun d s1 ⟨H1, I1, q1⟩ => ?_)
  cases d with
  | true => exact ha pins s1 σ H1 D I1 q1
  | false => exact hb pins s1 σ H1 D I1 q1
end
abbrev TG := V → St → Hp → (St → Hp → Prop) → Prop
abbrev TGs := List V → St → Hp → (St → Hp → Prop) → Prop
def PG (X : Cx) (target : Expr) (t : TG) : Prop :=
  ∀ (pins : List (Addr × Obj)) (s : Shared) (σ : St) (H : Hp) (v : V) (u : Value) (Q : St → Hp → Prop), Inv X pins σ H s → RelV v u → t v σ H Q →
    wpAny (model X.prog X.w) X.A (assign target X.env u) (fun _ s' => ∃ σ' H', Inv X pins σ' H' s' ∧ Q σ' H') X.xe s
def PGs (X : Cx) (ts : List Expr) (t : TGs) : Prop :=
  ∀ (pins : List (Addr × Obj)) (s : Shared) (σ : St) (H : Hp) (vs : List V) (us : List Value) (Q : St → Hp → Prop), Inv X pins σ H s → Vals vs us → t vs σ H Q →
    wpAny (model X.prog X.w) X.A (assignInOrder ((assignEach ts X.env).map (·.2)) us) (fun _ s' => ∃ σ' H', Inv X pins σ' H' s' ∧ Q σ' H') X.xe s
abbrev TSet := V → V → V → Hp → (Hp → Prop) → Prop
def PSet (X : Cx) (t : TSet) : Prop :=
  ∀ (pins : List (Addr × Obj)) (s : Shared) (σ : St) (H : Hp) (o i v : V) (ov iv u : Value) (Q : Hp → Prop), Inv X pins σ H s → RelV o ov → RelV i iv → RelV v u → t o i v H Q →
    wpAny (model X.prog X.w) X.A (setItem ov iv u) (fun _ s' => ∃ H', Inv X pins σ H' s' ∧ Q H') X.xe s
section
variable {X : Cx} {pos : Pos}
def gName (i : Nat) : TG := fun v σ H Q => Q (σ.set i (some v)) H
theorem pg_name {i : Nat} {x : Str} (hN : X.N.Nodup) (hi : X.N[i]? = some x) (hx : Loc X.env.scope x) (hf : X.fn x = true ∨ X.env.scope.names.lookup x = some .local := by first | exact .inl rfl | exact .inr rfl | assumption) : PG X (.Name x pos) (gName i) := by
  intro pins s σ H v u Q I r h
  exact wpAny_assign_Name (store_ok I hN hi hx r (fun s' I' => ⟨_, H, I', h⟩) hf)
def gNil : TGs := fun vs σ H Q => vs = [] ∧ Q σ H
def gCons (t : TG) (u : TGs) : TGs := fun vs σ H Q => ∃ v r, vs = v :: r ∧ t v σ H fun σ' H' => u r σ' H' Q
theorem pgs_nil : PGs X [] gNil := by
  intro pins s σ H vs us Q I r h
  obtain ⟨e, h⟩ := h
  subst e
  cases r
  exact assignInOrder_nil ⟨σ, H, I, h⟩
theorem pgs_cons {e : Expr} {es : List Expr} {t : TG} {u : TGs} (h1 : PG X e t) (h2 : PGs X es u)
    (hs : (assignEach (e :: es) X.env).map (·.2) = assign e X.env :: (assignEach es X.env).map (·.2) := by rfl) : PGs X (e :: es) (gCons t u) := by
  intro pins s σ H vs us Q I r h
  obtain ⟨v, vr, e1, h⟩ := h
  subst e1
  cases r with
  | cons r rr =>
    rw [hs]
    refine assignInOrder_cons (thn (h1 pins s σ H _ _ _ I r h) fun _ s1 ⟨σ1, H1, I1, q1⟩ => ?_)
    exact h2 pins s1 σ1 H1 _ _ Q I1 rr q1
def gTup (K : PySem.W.Frag) (n : Nat) (t : TGs) : TG := fun v σ H Q => ∃ a xs, v = .ref a ∧ SqT K H a xs ∧ xs.length = n ∧ t xs σ H Q
theorem pg_tup {es : List Expr} {k : Nat} {t : TGs} {n : Nat} (hc : X.calm = true) (h : PGs X es t)
    (hn : (assignEach es X.env).length = n := by rfl) (hst : (assignEach es X.env).findIdx? (·.1) = none := by rfl) : PG X (.Tuple es k pos) (gTup X.K n t) := by
  intro pins s σ H v u Q I r hw
  obtain ⟨a, xs, e1, hq, hl, hw⟩ := hw
  subst e1
  cases r
  obtain ⟨its, rv, ht, hz⟩ := I.tuple hq
  refine assign_Tuple_tuple (I.ok.hd hc) ht (by simp [hn, ← hl, rv.length]) hst fun h' hx => ?_
  have I1 : Inv X pins σ H { s with heap := h' } := I.kept (t' := s.toks) fun b o e => hx b o (Nat.ne_of_lt (Heap.lt_size e)) e
  exact h pins _ σ H xs _ Q I1 (by simpa using rv) hw
def gSub (to ti : TE) (t : TSet) : TG := fun v σ H Q => to σ H fun o H1 => ti σ H1 fun i H2 => t o i v H2 fun H3 => Q σ H3
theorem pg_sub {o i : Expr} {to ti : TE} {t : TSet} (ho : PE X o to) (hi : PE X i ti) (hs : PSet X t)
    (ha : ∀ v, assign (.Subscript o i pos) X.env v = (do
      let ov ← holding [v] (eval o X.env)
      let iv ← holding [v, ov] (eval i X.env)
      standAt pos
      holding [v, ov, iv] (setItem ov iv v)
      release [v, ov, iv] []) := by intro _; rfl) : PG X (.Subscript o i pos) (gSub to ti t) := by
  intro pins s σ H v u Q I r h
  rw [ha]
  refine wpAny_bind (wpAny_holding (thn (ho pins s σ H _ I h) fun ov s1 ⟨x, H1, I1, r1, q1⟩ => ?_))
  refine wpAny_bind (wpAny_holding (thn (hi pins s1 σ H1 _ I1 q1) fun iv s2 ⟨y, H2, I2, r2, q2⟩ => ?_))
  refine wpAny_bind (wpAny_standAt (wpAny_bind (wpAny_holding (thn (hs pins s2 σ H2 x y v ov iv u _ I2 r1 r2 r q2) fun _ s3 ⟨H3, I3, q3⟩ => ?_))))
  exact wpAny_release ⟨σ, H3, I3, q3⟩
def tAsg (te : TE) (g : TG) : TS := fun D σ H => te σ H fun x H1 => g x σ H1 D.nx
theorem ps_asg {tg e : Expr} {te : TE} {g : TG} (he : PE X e te) (hg : PG X tg g) (hs : swapsWithSole [tg] e pos.line X.env = pure false := by rfl) (hw : swappedStores [tg] e X.env = pure none := by rfl)
    (h1 : (assignEach [tg] X.env).map (·.2) = [assign tg X.env] := by rfl) : PS X (.Assign [tg] e pos) (tAsg te g) := by
  intro pins s σ H D I h
  refine wpAny_Assign_stores (thn (he pins s σ H _ I h) fun v s1 ⟨x, H1, I1, r1, q1⟩ => ?_) hs hw
  rw [h1]
  exact thn (hg pins s1 σ H1 x v _ I1 r1 q1) fun _ s2 q => q
theorem ps_set {i : Nat} {x : Str} {e : Expr} {te : TE} {pos' : Pos} (hN : X.N.Nodup) (hi : X.N[i]? = some x) (hx : Loc X.env.scope x) (he : PE X e te) (hs : swapsWith e (some (.Name x pos')) pos.line X.env = pure false := by rfl) (hf : X.fn x = true ∨ X.env.scope.names.lookup x = some .local := by first | exact .inl rfl | exact .inr rfl | assumption) :
    PS X (.Assign [.Name x pos'] e pos) (tAsg te (gName i)) := by
  intro pins s σ H D I h
  refine wpAny_Assign_Name (thn (he pins s σ H _ I h) fun v s1 ⟨y, H1, I1, r1, q1⟩ => ?_) hs
  exact store_ok I1 hN hi hx r1 (fun s2 I2 => ⟨_, H1, I2, q1⟩) hf
def tPar (i j : Nat) (ta : TA) : TS := fun D σ H => ta σ H fun vs H1 => ∃ v w, vs = [v, w] ∧ D.nx ((σ.set i (some v)).set j (some w)) H1
theorem ps_par {i j : Nat} {x y : Str} {a b : Expr} {ta : TA} {px py pt : Pos} {kt k2 pt2} (hc : X.calm = true) (hN : X.N.Nodup) (hi : X.N[i]? = some x) (hj : X.N[j]? = some y) (hij : i ≠ j)
    (hx : X.env.scope.names.lookup x = some .local) (hy : X.env.scope.names.lookup y = some .local) (ha : PA X [a, b] ta)
    (hw : swappedStores [.Tuple [.Name x px, .Name y py] kt pt] (.Tuple [a, b] k2 pt2) X.env = pure (some [x, y]))
    (hs : swapsWithSole [.Tuple [.Name x px, .Name y py] kt pt] (.Tuple [a, b] k2 pt2) pos.line X.env = pure false := by rfl) :
    PS X (.Assign [.Tuple [.Name x px, .Name y py] kt pt] (.Tuple [a, b] k2 pt2) pos) (tPar i j ta) := by
  intro pins s σ H D I h
  rw [exec_Assign_arm]
  refine wpAny_bind (wpAny_standAt ?_)
  rw [hs]
  refine wpAny_bind (wpAny_pure ?_)
  rw [if_neg (by decide)]
  refine wpAny_bind (Tuple_ (thn (ha _ pins s σ H _ I h) fun us s1 ⟨vs, H1, I1, r1, q1⟩ => ?_))
  obtain ⟨v, w, e1, q1⟩ := q1
  subst e1
  obtain ⟨u1, u2, rfl, rv, rw'⟩ : ∃ u1 u2, us = [u1, u2] ∧ RelV v u1 ∧ RelV w u2 := by
    cases r1 with
    | cons p q =>
      cases q with
      | cons p' q' =>
        cases q'
        exact ⟨_, _, rfl, p, p'⟩
  refine wpAny_newObj_type ?_ (by show 2 ≤ sizeLine; decide)
  have I2 : Inv X pins σ H1 { s1 with heap := s1.heap.push { cls := .type "tuple", data := .seq [u1, u2].toArray } } := I1.kept (t' := s1.toks) fun b o e => Heap.get?_push_of_some _ e
  rw [hw]
  refine wpAny_bind (wpAny_pure ?_)
  show wpAny (model X.prog X.w) X.A (do rule "assign.swapped-stores"; let items ← unpackItems (.ref s1.heap.objs.size) 2 none; assignInOrder [fun v => bindName X.env y v, fun v => bindName X.env x v] items.reverse; pure Flow.next) _ _ _
  refine wpAny_bind (wpAny_rule (wpAny_bind (unpackItems_tuple (items := #[u1, u2]) (I.ok.hd hc) (IsTup.new s1.heap _) fun h' hx' => ?_)))
  have I3 := I2.kept (h' := h') (t' := s1.toks) fun b o e => hx' b o (Nat.ne_of_lt (Heap.lt_size e)) e
  show wpAny _ _ (assignInOrder [fun v => bindName X.env y v, fun v => bindName X.env x v] [u2, u1] >>= fun _ => pure Flow.next) _ _ _
  refine wpAny_bind (assignInOrder_cons (wpAny_bindName (store_ok I3 hN hj (.inl hy) rw' (fun s2 I4 => ?_) (.inr hy))))
  refine assignInOrder_cons (wpAny_bindName (store_ok I4 hN hi (.inl hx) rv (fun s3 I5 => assignInOrder_nil (wpAny_pure ?_)) (.inr hx)))
  rw [List.set_comm _ _ (Ne.symm hij)] at I5
  exact ⟨_, H1, I5, q1⟩
end
section
variable {X : Cx} {pos : Pos}
def tWhile (c : TT) (tb : TS) : TS := fun D σ H => ∃ W : Nat → St → Hp → Prop, (∃ m, W m σ H) ∧ ∀ m σ H, W m σ H →
  c σ H fun b H1 => if b = true then ∃ N : St → Hp → Prop, (∀ σ' H', N σ' H' → ∃ m', m' < m ∧ W m' σ' H') ∧ tb { D with nx := N, ct := N, bk := D.nx } σ H1 else D.nx σ H1
theorem ps_while {c : Expr} {body : List Stmt} {tc : TT} {tb : TS} (hp : PassesOwn (model X.prog X.w) X.A X.env X.xe) (hc : PT X c tc) (hb : PSs X body tb) : PS X (.While c body [] pos) (tWhile tc tb) := by
  intro pins s σ H D I h
  obtain ⟨W, ⟨m0, w0⟩, turn⟩ := h
  refine wpAny_While (codeAny_whileLoop (fun n s' => ∃ σ' H', Inv X pins σ' H' s' ∧ W n σ' H') ?_ m0 ⟨σ, H, I, w0⟩)
  rintro n s1 ⟨σ1, H1, I1, w1⟩
  refine wpAny_passesOwn hp (thn (hc pins s1 σ1 H1 _ I1 (turn n σ1 H1 w1)) fun b s2 ⟨H2, I2, q2⟩ => ?_)
  cases b with
  | true =>
    obtain ⟨N, hN, q2⟩ := q2
    rw [if_pos rfl]
    refine wpAny_passesOwn hp (thn (hb pins s2 σ1 H2 _ I2 q2) fun f s3 q3 => ?_)
    cases f with
    | next =>
      obtain ⟨σ3, H3, I3, n3⟩ := q3
      obtain ⟨m', hm, w3⟩ := hN σ3 H3 n3
      exact ⟨m', hm, σ3, H3, I3, w3⟩
    | cont =>
      obtain ⟨σ3, H3, I3, n3⟩ := q3
      obtain ⟨m', hm, w3⟩ := hN σ3 H3 n3
      exact ⟨m', hm, σ3, H3, I3, w3⟩
    | brk => exact q3
    | ret v => exact q3
  | false =>
    rw [if_neg Bool.false_ne_true]
    exact wpAny_execs_nil ⟨σ1, H2, I2, q2⟩
end
structure It where
  go : Nat → Hp → Prop
  yld : Nat → Hp → V → Hp → Prop
  stop : Nat → Hp → Prop
def FpOk (X : Cx) (pins : List (Addr × Obj)) (H : Hp) (b : Addr) : Prop :=
  H b = none ∧ b ≠ X.env.locals ∧ b ∉ X.fs ∧ (b ∈ X.ex ∨ X.s₀.heap.objs.size ≤ b) ∧ (∀ x c, X.env.cells.lookup x = some c → c ≠ b) ∧ ∀ p ∈ X.pn ++ pins, p.1 ≠ b
theorem Inv.fpOk {X : Cx} {pins : List (Addr × Obj)} {σ : St} {H H' : Hp} {s : Shared} {b : Addr} (I : Inv X pins σ H s) (hb : s.heap.objs.size ≤ b) (hn : H' b = none) : FpOk X pins H' b := by
  refine ⟨hn, Nat.ne_of_gt (Nat.lt_of_lt_of_le I.lt hb), I.nofs hb, .inr (Nat.le_trans I.sz hb), fun x c e z => ?_, fun p hp z => ?_⟩
  · obtain ⟨v, q⟩ := I.cell x c e
    exact absurd (Nat.lt_of_lt_of_le q.lt (by rw [z]; exact hb)) (Nat.lt_irrefl _)
  · exact absurd (Nat.lt_of_lt_of_le (Heap.lt_size (I.pin p hp).1) (by rw [z]; exact hb)) (Nat.lt_irrefl _)
structure Turn (P : Program) (w : World) (K : PySem.W.Frag) (tg : Expr) (J : It) (fp : List Addr) (it : Addr) (tn : Nat → Heap → Prop) : Prop where
  mem : it ∈ fp
  obj : ∀ i h, tn i h → ∀ b ∈ fp, ∃ o, h.get? b = some o ∧ ∀ v, o.data ≠ .cell v
  keep : ∀ i h h', tn i h → (∀ b ∈ fp, ∀ o, h.get? b = some o → h'.get? b = some o) → tn i h'
  item : ∀ (X : Cx), X.prog = P → X.w = w → X.K = K → X.calm = true → ∀ (i : Nat) (pins : List (Addr × Obj)) (s : Shared) (σ : St) (H : Hp) (E : Value → Shared → Prop), Inv X pins σ H s → (∀ b ∈ fp, FpOk X pins H b) → tn i s.heap → J.go i H →
    wpAny (model P w) X.A (pyNext (.ref it)) (fun r s1 => ∃ u, r = some u ∧
      wpAny (model P w) X.A (letOwnedTupleGo tg (.ref it) u) (fun _ s2 => ∃ x H', Inv X pins σ H' s2 ∧ RelV x u ∧ J.yld i H x H' ∧ tn (i + 1) s2.heap ∧ ∀ b ∈ fp, H' b = none) E s1) E s
  done : ∀ (X : Cx), X.prog = P → X.w = w → X.K = K → X.calm = true → ∀ (i : Nat) (pins : List (Addr × Obj)) (s : Shared) (σ : St) (H : Hp) (E : Value → Shared → Prop), Inv X pins σ H s → (∀ b ∈ fp, FpOk X pins H b) → tn i s.heap → J.stop i H →
    wpAny (model P w) X.A (pyNext (.ref it)) (fun r s1 => r = none ∧ Inv X pins σ H s1) E s
  self : ∀ (A : Around) (i : Nat) (s : Shared) (Q : Value → Shared → Prop) (E : Value → Shared → Prop), tn i s.heap → Q (.ref it) s → wpAny (model P w) A (pyIter (.ref it)) Q E s
abbrev TI := St → Hp → (It → Hp → Prop) → Prop
def PIE (X : Cx) (pins : List (Addr × Obj)) (σ : St) (tg : Expr) (R : It → Hp → Prop) (itv : Value) (s2 : Shared) : Prop :=
  ∃ (it : Addr) (fp : List Addr) (tn : Nat → Heap → Prop) (J : It) (H' : Hp), itv = .ref it ∧ Inv X pins σ H' s2 ∧ Turn X.prog X.w X.K tg J fp it tn ∧ tn 0 s2.heap ∧ (∀ b ∈ fp, FpOk X pins H' b) ∧ R J H'
def PI (X : Cx) (tg iter : Expr) (wi : TI) : Prop :=
  ∀ (pins : List (Addr × Obj)) (s : Shared) (σ : St) (H : Hp) (R : It → Hp → Prop), Inv X pins σ H s → wi σ H R →
    wpAny (model X.prog X.w) X.A (eval iter X.env) (fun v s1 => wpAny (model X.prog X.w) X.A (pyIter v) (PIE X pins σ tg R) X.xe s1) X.xe s
theorem go_of {M : Model} {A : Around} {E : Value → Shared → Prop} {s : Shared} {tg : Expr} {it : Addr} {u : Value} {o : Obj} {n : String} {vs : Array Value} {Q : Unit → Shared → Prop} (ho : s.heap.get? it = some o) (hc : o.cls = .type n) (hd : o.data = .fields vs)
    (hn : ["enumerate", "zip", "dict_itemiterator", "dict_reverseitemiterator", "odict_iterator", "itertools.zip_longest", "itertools.pairwise"].contains n = false) (hQ : Q () s) : wpAny M A (letOwnedTupleGo tg (.ref it) u) Q E s := by
  unfold letOwnedTupleGo
  cases tg <;> first
    | exact wpAny_pure hQ
    | (cases u <;> first
        | exact wpAny_pure hQ
        | (refine wpAny_bind (wpAny_load ho ?_)
           rw [hc, hd]
           show wpAny M A (if (["enumerate", "zip", "dict_itemiterator", "dict_reverseitemiterator", "odict_iterator", "itertools.zip_longest", "itertools.pairwise"].contains n && vs[0]? == some (rawInt _)) = true then _ else _) Q E s
           rw [if_neg (by intro h; rw [hn, Bool.false_and] at h; cases h)]
           exact wpAny_pure hQ))
def Itl (K : PySem.W.Frag) (a : Addr) : It :=
  ⟨fun i H => ∃ xs x, SqL K H a xs ∧ xs[i]? = some x, fun i H x H' => H' = H ∧ ∀ xs, SqL K H a xs → xs[i]? = some x, fun i H => ∃ xs, SqL K H a xs ∧ xs.length ≤ i⟩
def Itt (K : PySem.W.Frag) (a : Addr) : It :=
  ⟨fun i H => ∃ xs x, SqT K H a xs ∧ xs[i]? = some x, fun i H x H' => H' = H ∧ ∀ xs, SqT K H a xs → xs[i]? = some x, fun i H => ∃ xs, SqT K H a xs ∧ xs.length ≤ i⟩
def Itr (lo : Int) (n : Nat) : It := ⟨fun i _ => i < n, fun i H x H' => H' = H ∧ x = .int (lo + i), fun i _ => n ≤ i⟩
theorem turn_list {P : Program} {w : World} {K : PySem.W.Frag} {tg : Expr} (a it : Addr) : Turn P w K tg (Itl K a) [it] it (fun i h => h.IsListIter it a i) where
  mem := by simp
  obj := fun i h st b hb => by
    have e : b = it := by simpa using hb
    subst e
    obtain ⟨o, e, c, d⟩ := st
    exact ⟨o, e, fun v z => by rw [d] at z; cases z⟩
  keep := fun i h h' st k => st.at fun o e => k it (by simp) o e
  item := by
    intro X hP hw hK hc i pins s σ H E I hf st hg
    subst hP hw hK
    obtain ⟨xs, x, hq, hx⟩ := hg
    obtain ⟨its, rv, p, hz⟩ := I.list hq
    obtain ⟨u, hu, ru⟩ := rv.get hx
    obtain ⟨f0, f1, f2, f3, f4, f5⟩ := hf it (by simp)
    refine wpAny_pyNext_list_item st p.isList (x := u) (by simpa using hu) fun h' st' sb => ?_
    have I1 : Inv X pins σ H { s with heap := h' } := I.turned (t' := s.toks) (fun b o hb e => (sb.2 b hb).trans e) f0 f1 f3 f4 f5
    obtain ⟨o, e, c, d⟩ := id st'
    exact ⟨u, rfl, go_of (s := { s with heap := h' }) e c d (by decide) ⟨x, H, I1, ru, ⟨rfl, fun ys hy => by rw [I.list_inj hy hq]; exact hx⟩, st', fun b hb => (hf b hb).1⟩⟩
  done := by
    intro X hP hw hK hc i pins s σ H E I hf st hg
    subst hP hw hK
    obtain ⟨xs, hq, hx⟩ := hg
    obtain ⟨its, rv, p, hz⟩ := I.list hq
    obtain ⟨f0, f1, f2, f3, f4, f5⟩ := hf it (by simp)
    have hl := rv.length
    exact wpAny_pyNext_list_end (I.ok.hd hc) st p.isList (by simp; omega) fun h' eb => ⟨rfl, I.turned (t' := s.toks) (fun b o hb e => eb b o hb e) f0 f1 f3 f4 f5⟩
  self := fun _ _ _ _ _ st h => wpAny_pyIter_listiter st h
theorem turn_tuple {P : Program} {w : World} {K : PySem.W.Frag} {tg : Expr} (a it : Addr) : Turn P w K tg (Itt K a) [it] it (fun i h => h.IsTupleIter it a i) where
  mem := by simp
  obj := fun i h st b hb => by
    have e : b = it := by simpa using hb
    subst e
    obtain ⟨o, e, c, d⟩ := st
    exact ⟨o, e, fun v z => by rw [d] at z; cases z⟩
  keep := fun i h h' st k => st.at fun o e => k it (by simp) o e
  item := by
    intro X hP hw hK hc i pins s σ H E I hf st hg
    subst hP hw hK
    obtain ⟨xs, x, hq, hx⟩ := hg
    obtain ⟨its, rv, p, hz⟩ := I.tuple hq
    obtain ⟨u, hu, ru⟩ := rv.get hx
    obtain ⟨f0, f1, f2, f3, f4, f5⟩ := hf it (by simp)
    refine wpAny_pyNext_tuple_item st (show s.heap.IsTuple a its.toArray from p) (x := u) (by simpa using hu) fun h' st' sb => ?_
    have I1 : Inv X pins σ H { s with heap := h' } := I.turned (t' := s.toks) (fun b o hb e => (sb.2 b hb).trans e) f0 f1 f3 f4 f5
    obtain ⟨o, e, c, d⟩ := id st'
    exact ⟨u, rfl, go_of (s := { s with heap := h' }) e c d (by decide) ⟨x, H, I1, ru, ⟨rfl, fun ys hy => by rw [I.tuple_inj hy hq]; exact hx⟩, st', fun b hb => (hf b hb).1⟩⟩
  done := by
    intro X hP hw hK hc i pins s σ H E I hf st hg
    subst hP hw hK
    obtain ⟨xs, hq, hx⟩ := hg
    obtain ⟨its, rv, p, hz⟩ := I.tuple hq
    obtain ⟨f0, f1, f2, f3, f4, f5⟩ := hf it (by simp)
    have hl := rv.length
    exact wpAny_pyNext_tuple_end (I.ok.hd hc) st (show s.heap.IsTuple a its.toArray from p) (by simp; omega) fun h' eb => ⟨rfl, I.turned (t' := s.toks) (fun b o hb e => eb b o hb e) f0 f1 f3 f4 f5⟩
  self := fun _ _ _ _ _ st h => wpAny_pyIter_tupleiter st h
theorem turn_range {P : Program} {w : World} {K : PySem.W.Frag} {tg : Expr} (it : Addr) (lo : Int) (n : Nat) : Turn P w K tg (Itr lo n) [it] it (fun i h => IsRangeIter h it (lo + (i : Nat) * 1) ((n : Int) - (i : Nat)) 1) where
  mem := by simp
  obj := fun i h st b hb => by
    have e : b = it := by simpa using hb
    subst e
    exact ⟨_, st, fun v z => by
      have z' : Data.fields _ = Data.cell v := z
      cases z'⟩
  keep := fun i h h' st k => k it (by simp) _ st
  item := by
    intro X hP hw hK hc i pins s σ H E I hf st hg
    subst hP hw hK
    obtain ⟨f0, f1, f2, f3, f4, f5⟩ := hf it (by simp)
    have W := Walks.range (prog := X.prog) (w := X.w) (I.ok.hd hc) it lo 1 n
    refine W.item i s _ _ hg st fun v h' tk hv st' kk => ?_
    obtain ⟨t, rfl⟩ := hv
    have I1 : Inv X pins σ H { s with heap := h', toks := tk } := I.turned (fun b o hb e => kk b o (by simpa using hb) e) f0 f1 f3 f4 f5
    refine ⟨_, rfl, go_of (s := { s with heap := h', toks := tk }) (n := "range_iterator") st' rfl rfl (by decide) ⟨.int (lo + i), H, I1, ⟨t, ?_⟩, ⟨rfl, rfl⟩, st', fun b hb => (hf b hb).1⟩⟩
    rw [Int.mul_one]
  done := by
    intro X hP hw hK hc i pins s σ H E I hf st hg
    subst hP hw hK
    obtain ⟨f0, f1, f2, f3, f4, f5⟩ := hf it (by simp)
    exact wpAny_pyNext_range_end (I.ok.hd hc) st (by have : n ≤ i := hg; omega) fun h' eb => ⟨rfl, I.turned (t' := s.toks) (fun b o hb e => eb b o hb e) f0 f1 f3 f4 f5⟩
  self := fun _ _ _ _ _ st h => wpAny_pyIter_rangeiter st h
end L2
namespace L2
open PySem PySem.Spec PyProof.Rows
section
variable {X : Cx} {tg : Expr}
def iList (K : PySem.W.Frag) (tl : TE) : TI := fun σ H R => tl σ H fun x H1 => ∃ a, x = .ref a ∧ (∃ xs, SqL K H1 a xs) ∧ R (Itl K a) H1
def iTup (K : PySem.W.Frag) (tl : TE) : TI := fun σ H R => tl σ H fun x H1 => ∃ a, x = .ref a ∧ (∃ xs, SqT K H1 a xs) ∧ R (Itt K a) H1
theorem pi_list {l : Expr} {tl : TE} (hl : PE X l tl) : PI X tg l (iList X.K tl) := by
  intro pins s σ H R I h
  refine thn (hl pins s σ H _ I h) fun v s1 ⟨x, H1, I1, r1, q1⟩ => ?_
  obtain ⟨a, e, ⟨xs, hq⟩, q⟩ := q1
  subst e
  cases r1
  obtain ⟨its, rv, p, hz⟩ := I1.list hq
  refine wpAny_pyIter_list p.isList ?_
  refine ⟨s1.heap.objs.size, [s1.heap.objs.size], _, _, H1, rfl, I1.kept (t' := s1.toks) fun b o e => Heap.get?_push_of_some _ e, turn_list a _, ⟨_, Heap.get?_push_size _ rfl, rfl, rfl⟩, fun b hb => ?_, q⟩
  have e : b = s1.heap.objs.size := by simpa using hb
  subst e
  exact I1.fpOk (Nat.le_refl _) (I1.hok.fresh (Nat.le_refl _))
theorem pi_tup {l : Expr} {tl : TE} (hl : PE X l tl) : PI X tg l (iTup X.K tl) := by
  intro pins s σ H R I h
  refine thn (hl pins s σ H _ I h) fun v s1 ⟨x, H1, I1, r1, q1⟩ => ?_
  obtain ⟨a, e, ⟨xs, hq⟩, q⟩ := q1
  subst e
  cases r1
  obtain ⟨its, rv, p, hz⟩ := I1.tuple hq
  refine wpAny_pyIter_tuple (show s1.heap.IsTuple a its.toArray from p) ?_
  refine ⟨s1.heap.objs.size, [s1.heap.objs.size], _, _, H1, rfl, I1.kept (t' := s1.toks) fun b o e => Heap.get?_push_of_some _ e, turn_tuple a _, ⟨_, Heap.get?_push_size _ rfl, rfl, rfl⟩, fun b hb => ?_, q⟩
  have e : b = s1.heap.objs.size := by simpa using hb
  subst e
  exact I1.fpOk (Nat.le_refl _) (I1.hok.fresh (Nat.le_refl _))
theorem range_it {pins : List (Addr × Obj)} {σ : St} {H : Hp} {s : Shared} {R : It → Hp → Prop} {E : Value → Shared → Prop} {lo hi : Int} {t u v : Tok} {tk : Nat} (I : Inv X pins σ H s) (h1 : -(2 ^ 62) ≤ lo) (h2 : lo < 2 ^ 62) (h3 : -(2 ^ 62) ≤ hi) (h4 : hi < 2 ^ 62)
    (q : R (Itr lo (hi - lo).toNat) H) : wpAny (model X.prog X.w) X.A (pyIter (.ref s.heap.objs.size)) (PIE X pins σ tg R) E { s with heap := s.heap.push { cls := .type "range", data := .fields #[.int lo t, .int hi u, .int 1 v] }, toks := tk } := by
  refine wpAny_pyIter_range (IsRange.new ..) (small_one h1 h2 h3 h4) ?_
  have I1 : Inv X pins σ H { s with heap := s.heap.push { cls := .type "range", data := .fields #[.int lo t, .int hi u, .int 1 v] }, toks := tk } := I.kept fun b o e => Heap.get?_push_of_some _ e
  refine ⟨(s.heap.push { cls := .type "range", data := .fields #[.int lo t, .int hi u, .int 1 v] }).objs.size, [(s.heap.push { cls := .type "range", data := .fields #[.int lo t, .int hi u, .int 1 v] }).objs.size], _, _, H, rfl,
    I1.kept (t' := tk) fun b o e => Heap.get?_push_of_some _ e, turn_range _ lo (hi - lo).toNat, ?_, fun b hb => ?_, q⟩
  · have e1 : lo + ((0 : Nat) : Int) * 1 = lo := by simp
    have e2 : (((hi - lo).toNat : Nat) : Int) - ((0 : Nat) : Int) = Builtin.Range.rangeSize lo hi 1 := by rw [rangeSize_one]; split <;> omega
    show IsRangeIter _ _ (lo + ((0 : Nat) : Int) * 1) ((((hi - lo).toNat : Nat) : Int) - ((0 : Nat) : Int)) 1
    rw [e1, e2]
    exact Heap.get?_push_size _ rfl
  · have e : b = (s.heap.push { cls := .type "range", data := .fields #[.int lo t, .int hi u, .int 1 v] }).objs.size := by simpa using hb
    subst e
    exact I1.fpOk (Nat.le_refl _) (I1.hok.fresh (Nat.le_refl _))
def iRng1 (ta : TA) : TI := fun σ H R => ta σ H fun vs H1 => ∃ j : Int, vs = [.int j] ∧ -(2 ^ 62) ≤ j ∧ j < 2 ^ 62 ∧ R (Itr 0 j.toNat) H1
def iRng2 (ta : TA) : TI := fun σ H R => ta σ H fun vs H1 => ∃ i j : Int, vs = [.int i, .int j] ∧ (-(2 ^ 62) ≤ i ∧ i < 2 ^ 62 ∧ -(2 ^ 62) ≤ j ∧ j < 2 ^ 62) ∧ R (Itr i (j - i).toNat) H1
theorem pi_range1 {a : Expr} {ta : TA} {p pos : Pos} (hg : Gl X "range") (hm : X.mg "range" = none) (ha : PA X [a] ta) (hs : starEach [a] X.env = [(false, eval a X.env)] := by rfl) : PI X tg (.Call (.Name "range" p) [a] [] pos) (iRng1 ta) := by
  intro pins s σ H R I h
  refine Call_ (ld_blt I hg hm boot_range (PyProof.Rows.callWith_type1 (thn (ha pos pins s σ H _ I h) fun us s1 ⟨vs, H1, I1, r1, q1⟩ => ?_) hs rfl))
  obtain ⟨j, e, q1, q2, q⟩ := q1
  subst e
  cases r1 with
  | cons r rr =>
    cases rr
    obtain ⟨t, rfl⟩ := r
    exact call_range_1 (range_it I1 (by omega) (by omega) q1 q2 (by simpa using q))
theorem pi_range2 {a b : Expr} {ta : TA} {p pos : Pos} (hg : Gl X "range") (hm : X.mg "range" = none) (ha : PA X [a, b] ta) (hs : starEach [a, b] X.env = [(false, eval a X.env), (false, eval b X.env)] := by rfl) (hs2 : starEach [b] X.env = [(false, eval b X.env)] := by rfl) :
    PI X tg (.Call (.Name "range" p) [a, b] [] pos) (iRng2 ta) := by
  intro pins s σ H R I h
  refine Call_ (ld_blt I hg hm boot_range (PyProof.Rows.callWith_type1 (thn (ha pos pins s σ H _ I h) fun us s1 ⟨vs, H1, I1, r1, q1⟩ => ?_) (by rw [hs, hs2]) (by rw [hs2]; rfl)))
  obtain ⟨i, j, e, ⟨q1, q2, q3, q4⟩, q⟩ := q1
  subst e
  cases r1 with
  | cons r rr =>
    cases rr with
    | cons r' rr =>
      cases rr
      obtain ⟨t, rfl⟩ := r
      obtain ⟨t', rfl⟩ := r'
      exact call_range_2 (range_it I1 q1 q2 q3 q4 q)
def tFor (wi : TI) (g : TG) (tb : TS) : TS := fun D σ H => wi σ H fun J H1 => ∃ W : Nat → Nat → St → Hp → Prop, (∃ m, W 0 m σ H1) ∧ ∀ i m σ H, W i m σ H →
  (J.stop i H ∧ D.nx σ H) ∨ (J.go i H ∧ ∃ N : St → Hp → Prop, (∀ σ' H', N σ' H' → ∃ m', m' < m ∧ W (i + 1) m' σ' H') ∧ ∀ x H', J.yld i H x H' → g x σ H' fun σ2 H2 => tb { D with nx := N, ct := N, bk := D.nx } σ2 H2)
def pinsAt (fp : List Addr) (h : Heap) : List (Addr × Obj) := fp.filterMap fun b => (h.get? b).map fun o => (b, o)
theorem mem_pinsAt {fp : List Addr} {h : Heap} {b : Addr} {o : Obj} (hb : b ∈ fp) (e : h.get? b = some o) : (b, o) ∈ pinsAt fp h := List.mem_filterMap.mpr ⟨b, hb, by rw [e]; rfl⟩
theorem of_pinsAt {fp : List Addr} {h : Heap} {p : Addr × Obj} (hp : p ∈ pinsAt fp h) : p.1 ∈ fp ∧ h.get? p.1 = some p.2 := by
  obtain ⟨b, hb, e⟩ := List.mem_filterMap.mp hp
  cases q : h.get? b with
  | none => rw [q] at e; cases e
  | some o =>
    rw [q] at e
    have e' : (b, o) = p := Option.some.inj e
    subst e'
    exact ⟨hb, q⟩
theorem Inv.pinned {pins : List (Addr × Obj)} {σ : St} {H : Hp} {s : Shared} {fp : List Addr} (I : Inv X pins σ H s) (hf : ∀ b ∈ fp, FpOk X pins H b) (ho : ∀ b ∈ fp, ∃ o, s.heap.get? b = some o ∧ ∀ v, o.data ≠ .cell v) : Inv X (pins ++ pinsAt fp s.heap) σ H s :=
  I.pins_of fun p hp => (List.mem_append.mp hp).elim (fun z => I.pin p (List.mem_append_right _ z)) fun z => by
    obtain ⟨hb, e⟩ := of_pinsAt z
    obtain ⟨f0, f1, f2, _⟩ := hf p.1 hb
    obtain ⟨o, e', d⟩ := ho p.1 hb
    rw [e] at e'; cases e'
    exact ⟨e, f0, f1, f2, d⟩
theorem Inv.unpinned {pins pl : List (Addr × Obj)} {σ : St} {H : Hp} {s : Shared} (I : Inv X (pins ++ pl) σ H s) : Inv X pins σ H s := I.pins_of fun p hp => I.pin p (List.mem_append_right _ (List.mem_append_left _ hp))
theorem ps_for {iter : Expr} {body : List Stmt} {wi : TI} {g : TG} {tb : TS} {pos : Pos} (hp : PassesOwn (model X.prog X.w) X.A X.env X.xe) (hc : X.calm = true) (hi : PI X tg iter wi) (hg : PG X tg g) (hb : PSs X body tb)
    (hs : ∀ x, foldedSetIterable iter X.env x = pure x := by intro _; rfl) : PS X (.For tg iter body [] pos) (tFor wi g tb) := by
  intro pins s σ H D I h
  refine wpAny_For (thn (hi pins s σ H _ I h) fun v s1 h1 => thn h1 fun itv s2 h2 => ?_) hs
  obtain ⟨it, fp, tn, J, H2, e, I2, T, st2, f2, W, ⟨m0, w0⟩, turn⟩ := h2
  subst e
  -- what stays true of the iterator's objects through the loop
  have stat : ∀ {H' : Hp}, (∀ b ∈ fp, H' b = none) → ∀ b ∈ fp, FpOk X pins H' b := fun hn b hb => ⟨hn b hb, (f2 b hb).2⟩
  refine codeAny_forLoop_any (fun n s' => ∃ i σ' H', Inv X pins σ' H' s' ∧ tn i s'.heap ∧ (∀ b ∈ fp, H' b = none) ∧ W i n σ' H') ?_ m0 ⟨0, σ, H2, I2, st2, fun b hb => (f2 b hb).1, w0⟩
  rintro n s3 ⟨i, σ3, H3, I3, st3, fr3, w3⟩
  rcases turn i n σ3 H3 w3 with ⟨stop, qn⟩ | ⟨go, N, hN, step⟩
  · refine wpAny_passesOwn hp (thn (T.done X rfl rfl rfl hc i pins s3 σ3 H3 X.xe I3 (stat fr3) st3 stop) fun r s4 ⟨hr, I4⟩ => ?_)
    subst hr
    exact wpAny_execs_nil ⟨σ3, H3, I4, qn⟩
  · refine wpAny_passesOwn hp (thn (T.item X rfl rfl rfl hc i pins s3 σ3 H3 X.xe I3 (stat fr3) st3 go) fun r s4 ⟨u, hr, h4⟩ => ?_)
    subst hr
    refine wpAny_passesOwn hp (thn h4 fun _ s5 ⟨x, H5, I5, r5, y5, st5, fr5⟩ => ?_)
    have I5' := I5.pinned (stat fr5) (T.obj _ _ st5)
    refine wpAny_passesOwn hp (thn (hg _ s5 σ3 H5 x u _ I5' r5 (step x H5 y5)) fun _ s6 ⟨σ6, H6, I6, q6⟩ => ?_)
    refine wpAny_passesOwn hp (thn (hb _ s6 σ6 H6 _ I6 q6) fun f s7 q7 => ?_)
    have again : ∀ {σ7 : St} {H7 : Hp}, Inv X (pins ++ pinsAt fp s5.heap) σ7 H7 s7 → N σ7 H7 → ∃ m, m < n ∧ ∃ i σ' H', Inv X pins σ' H' s7 ∧ tn i s7.heap ∧ (∀ b ∈ fp, H' b = none) ∧ W i m σ' H' := fun {σ7 H7} I7 n7 => by
      obtain ⟨m', hm, w7⟩ := hN σ7 H7 n7
      refine ⟨m', hm, i + 1, σ7, H7, I7.unpinned, T.keep _ _ _ st5 fun b hb o e => (I7.pin (b, o) (List.mem_append_right _ (List.mem_append_right _ (mem_pinsAt hb e)))).1, fun b hb => ?_, w7⟩
      obtain ⟨o, e, d⟩ := T.obj _ _ st5 b hb
      exact (I7.pin (b, o) (List.mem_append_right _ (List.mem_append_right _ (mem_pinsAt hb e)))).2.1
    cases f with
    | next => obtain ⟨σ7, H7, I7, n7⟩ := q7; exact again I7 n7
    | cont => obtain ⟨σ7, H7, I7, n7⟩ := q7; exact again I7 n7
    | brk => obtain ⟨σ7, H7, I7, q7⟩ := q7; exact ⟨σ7, H7, I7.unpinned, q7⟩
    | ret v => obtain ⟨x7, σ7, H7, I7, r7, q7⟩ := q7; exact ⟨x7, σ7, H7, I7.unpinned, r7, q7⟩
end
theorem for_list {K : PySem.W.Frag} {a : Addr} {xs : List V} {g : TG} {tb : TS} {D : Ends} {σ : St} {H : Hp} (Pv : Nat → St → Hp → Prop) (h0 : Pv 0 σ H) (hl : ∀ i σ H, i ≤ xs.length → Pv i σ H → SqL K H a xs)
    (hs : ∀ i x σ H, xs[i]? = some x → Pv i σ H → g x σ H fun σ2 H2 => tb { D with nx := Pv (i + 1), ct := Pv (i + 1), bk := D.nx } σ2 H2) (hd : ∀ σ H, Pv xs.length σ H → D.nx σ H) :
    ∃ W : Nat → Nat → St → Hp → Prop, (∃ m, W 0 m σ H) ∧ ∀ i m σ H, W i m σ H →
      ((Itl K a).stop i H ∧ D.nx σ H) ∨ ((Itl K a).go i H ∧ ∃ N : St → Hp → Prop, (∀ σ' H', N σ' H' → ∃ m', m' < m ∧ W (i + 1) m' σ' H') ∧ ∀ x H', (Itl K a).yld i H x H' → g x σ H' fun σ2 H2 => tb { D with nx := N, ct := N, bk := D.nx } σ2 H2) := by
  refine ⟨fun i m σ H => m = xs.length - i ∧ i ≤ xs.length ∧ Pv i σ H, ⟨xs.length, by simp, Nat.zero_le _, h0⟩, ?_⟩
  rintro i m σ H ⟨rfl, hi, p⟩
  have q := hl i σ H hi p
  by_cases hlt : i < xs.length
  · refine .inr ⟨⟨xs, xs[i], q, by simp [hlt]⟩, Pv (i + 1), fun σ' H' p' => ⟨xs.length - (i + 1), by omega, rfl, hlt, p'⟩, fun x H' y => ?_⟩
    obtain ⟨e, y⟩ := y
    subst e
    exact hs i x σ _ (y xs q) p
  · have e : i = xs.length := by omega
    subst e
    exact .inl ⟨⟨xs, q, Nat.le_refl _⟩, hd σ H p⟩
theorem for_range {lo : Int} {n : Nat} {g : TG} {tb : TS} {D : Ends} {σ : St} {H : Hp} (Pv : Nat → St → Hp → Prop) (h0 : Pv 0 σ H)
    (hs : ∀ i σ H, i < n → Pv i σ H → g (.int (lo + i)) σ H fun σ2 H2 => tb { D with nx := Pv (i + 1), ct := Pv (i + 1), bk := D.nx } σ2 H2) (hd : ∀ σ H, Pv n σ H → D.nx σ H) :
    ∃ W : Nat → Nat → St → Hp → Prop, (∃ m, W 0 m σ H) ∧ ∀ i m σ H, W i m σ H →
      ((Itr lo n).stop i H ∧ D.nx σ H) ∨ ((Itr lo n).go i H ∧ ∃ N : St → Hp → Prop, (∀ σ' H', N σ' H' → ∃ m', m' < m ∧ W (i + 1) m' σ' H') ∧ ∀ x H', (Itr lo n).yld i H x H' → g x σ H' fun σ2 H2 => tb { D with nx := N, ct := N, bk := D.nx } σ2 H2) := by
  refine ⟨fun i m σ H => m = n - i ∧ i ≤ n ∧ Pv i σ H, ⟨n, by simp, Nat.zero_le _, h0⟩, ?_⟩
  rintro i m σ H ⟨rfl, hi, p⟩
  by_cases hlt : i < n
  · refine .inr ⟨hlt, Pv (i + 1), fun σ' H' p' => ⟨n - (i + 1), by omega, rfl, hlt, p'⟩, fun x H' y => ?_⟩
    obtain ⟨e, y⟩ := y
    subst e y
    exact hs i σ _ hlt p
  · have e : i = n := by omega
    subst e
    exact .inl ⟨Nat.le_refl _, hd σ H p⟩
end L2
namespace L2
open PySem PySem.Spec PyProof.Rows
abbrev R2 := V → V → Hp → VK → Prop
def OpR (X : Cx) (f : Value → Value → Sem Value) (r : R2) : Prop :=
  ∀ (pins : List (Addr × Obj)) (s : Shared) (σ : St) (H : Hp) (x y : V) (v u : Value) (Q : VK), Inv X pins σ H s → RelV x v → RelV y u → r x y H Q →
    wpAny (model X.prog X.w) X.A (f v u) (EP X pins σ Q) X.xe s
def UnR (X : Cx) (f : Value → Sem Value) (r : V → Hp → VK → Prop) : Prop :=
  ∀ (pins : List (Addr × Obj)) (s : Shared) (σ : St) (H : Hp) (x : V) (v : Value) (Q : VK), Inv X pins σ H s → RelV x v → r x H Q →
    wpAny (model X.prog X.w) X.A (f v) (EP X pins σ Q) X.xe s
def CallR (X : Cx) (f : Value) (r : List V → Hp → VK → Prop) : Prop :=
  ∀ (pins : List (Addr × Obj)) (s : Shared) (σ : St) (H : Hp) (xs : List V) (us : List Value) (Q : VK), Inv X pins σ H s → Vals xs us → r xs H Q →
    wpAny (model X.prog X.w) X.A (call f us) (EP X pins σ Q) X.xe s
def tOp (r : R2) (ta tb : TE) : TE := fun σ H Q => ta σ H fun x H1 => tb σ H1 fun y H2 => r x y H2 Q
def tUn (r : V → Hp → VK → Prop) (ta : TE) : TE := fun σ H Q => ta σ H fun x H1 => r x H1 Q
def rI (C : Int → Int → Prop) (g : Int → Int → V) : R2 := fun x y H Q => ∃ i j, x = .int i ∧ y = .int j ∧ C i j ∧ Q (g i j) H
def rI0 (g : Int → Int → V) : R2 := fun x y H Q => ∃ i j, x = .int i ∧ y = .int j ∧ Q (g i j) H
def rU (g : Int → V) : V → Hp → VK → Prop := fun x H Q => ∃ i, x = .int i ∧ Q (g i) H
section
variable {X : Cx} {a b c : Expr} {ta tb tc : TE} {pos : Pos}
theorem binT (ha : PE X a ta) (hb : PE X b tb) {pins : List (Addr × Obj)} {s : Shared} {σ : St} {H : Hp} {R : V → V → Hp → Prop} (I : Inv X pins σ H s)
    (h : ta σ H fun x H1 => tb σ H1 fun y H2 => R x y H2) {Q : Value → Shared → Prop} {f : Value → Value → Sem Value}
    (hf : ∀ v u s2 x y H2, Inv X pins σ H2 s2 → RelV x v → RelV y u → R x y H2 → wpAny (model X.prog X.w) X.A (f v u) Q X.xe s2) :
    wpAny (model X.prog X.w) X.A (eval a X.env) (fun v s₁ => wpAny (model X.prog X.w) X.A (eval b X.env) (fun u s₂ => wpAny (model X.prog X.w) X.A (f v u) Q X.xe s₂) X.xe s₁) X.xe s := by
  refine thn (ha pins s σ H _ I h) fun v s1 ⟨x, H1, I1, r1, q1⟩ => ?_
  refine thn (hb pins s1 σ H1 _ I1 q1) fun u s2 ⟨y, H2, I2, r2, q2⟩ => ?_
  exact hf v u s2 x y H2 I2 r1 r2 q2
theorem pe_op {op : Operator} {r : R2} (ho : OpR X (binaryOp op) r) (ha : PE X a ta) (hb : PE X b tb) : PE X (.BinOp a op b pos) (tOp r ta tb) := by
  intro pins s σ H Q I h
  exact wpAny_BinOp (binT ha hb I h fun v u s2 x y H2 I2 rx ry q => ho pins s2 σ H2 x y v u Q I2 rx ry q)
theorem pe_un {op : UnaryOp} {r : V → Hp → VK → Prop} (ho : UnR X (unaryOp op) r) (ha : PE X a ta) : PE X (.UnaryOp op a pos) (tUn r ta) := by
  intro pins s σ H Q I h
  exact UnaryOp_ (thn (ha pins s σ H _ I h) fun v s1 ⟨x, H1, I1, r1, q1⟩ => ho pins s1 σ H1 x v Q I1 r1 q1)
theorem opI {f : Value → Value → Sem Value} {C : Int → Int → Prop} {g : Int → Int → Int}
    (rule : ∀ (i j : Int) (t u : Tok) (s : Shared) (Q : Value → Shared → Prop) (E : Value → Shared → Prop), C i j → Q (.int (g i j) s.toks) { s with toks := s.toks + 1 } → wpAny (model X.prog X.w) X.A (f (.int i t) (.int j u)) Q E s) :
    OpR X f (rI C fun i j => .int (g i j)) := by
  intro pins s σ H x y v u Q I rx ry h
  obtain ⟨i, j, rfl, rfl, hc, q⟩ := h
  obtain ⟨t, rfl⟩ := rx
  obtain ⟨t', rfl⟩ := ry
  exact rule i j t t' s _ _ hc ⟨.int (g i j), H, I.tok _, ⟨_, rfl⟩, q⟩
theorem opI0 {f : Value → Value → Sem Value} {g : Int → Int → Int}
    (rule : ∀ (i j : Int) (t u : Tok) (s : Shared) (Q : Value → Shared → Prop) (E : Value → Shared → Prop), Q (.int (g i j) s.toks) { s with toks := s.toks + 1 } → wpAny (model X.prog X.w) X.A (f (.int i t) (.int j u)) Q E s) :
    OpR X f (rI0 fun i j => .int (g i j)) := by
  intro pins s σ H x y v u Q I rx ry h
  obtain ⟨i, j, rfl, rfl, q⟩ := h
  obtain ⟨t, rfl⟩ := rx
  obtain ⟨t', rfl⟩ := ry
  exact rule i j t t' s _ _ ⟨.int (g i j), H, I.tok _, ⟨_, rfl⟩, q⟩
theorem opB0 {f : Value → Value → Sem Value} {g : Int → Int → Bool}
    (rule : ∀ (i j : Int) (t u : Tok) (s : Shared) (Q : Value → Shared → Prop) (E : Value → Shared → Prop), Q (.bool (g i j)) s → wpAny (model X.prog X.w) X.A (f (.int i t) (.int j u)) Q E s) :
    OpR X f (rI0 fun i j => .bl (g i j)) := by
  intro pins s σ H x y v u Q I rx ry h
  obtain ⟨i, j, rfl, rfl, q⟩ := h
  obtain ⟨t, rfl⟩ := rx
  obtain ⟨t', rfl⟩ := ry
  exact rule i j t t' s _ _ ⟨.bl (g i j), H, I, rfl, q⟩
def CPow (i j : Int) : Prop := 0 ≤ j ∧ j ≤ 1000000 ∧ i.natAbs < 2 ^ 64
def CMul (i j : Int) : Prop := (-(2 ^ 64) < i ∧ i < 2 ^ 64) ∨ (-(2 ^ 64) < j ∧ j < 2 ^ 64)
theorem CMul.ok {i j : Int} (h : CMul i j) : IntMulOk i j := by
  rcases h with ⟨h1, h2⟩ | ⟨h1, h2⟩
  · exact .of_left (intBits_le_64 h1 h2)
  · exact .of_right (intBits_le_64 h1 h2)
theorem op_add : OpR X (binaryOp .Add) (rI0 fun i j => .int (i + j)) := opI0 fun _ _ _ _ _ _ _ q => add_int q
theorem op_sub : OpR X (binaryOp .Sub) (rI0 fun i j => .int (i - j)) := opI0 fun _ _ _ _ _ _ _ q => sub_int q
theorem op_mul : OpR X (binaryOp .Mult) (rI CMul fun i j => .int (i * j)) := opI fun _ _ _ _ _ _ _ hc q => mul_int q hc.ok
theorem op_mod : OpR X (binaryOp .Mod) (rI (fun _ j => 0 < j) fun i j => .int (i % j)) := opI fun i j _ _ _ _ _ hc q => by
  have h1 : (0 : Int) < j := hc
  exact mod_int' (by omega) (by rw [Int.fmod_eq_emod_of_nonneg i (by omega)]; exact q)
theorem op_pow : OpR X (binaryOp .Pow) (rI CPow fun i j => .int (i ^ j.toNat)) := opI fun _ _ _ _ _ _ _ hc q => pow_int_small hc.1 hc.2.1 hc.2.2 q
theorem unI {f : Value → Sem Value} {g : Int → Int}
    (rule : ∀ (i : Int) (t : Tok) (s : Shared) (Q : Value → Shared → Prop) (E : Value → Shared → Prop), Q (.int (g i) s.toks) { s with toks := s.toks + 1 } → wpAny (model X.prog X.w) X.A (f (.int i t)) Q E s) :
    UnR X f (rU fun i => .int (g i)) := by
  intro pins s σ H x v Q I rx h
  obtain ⟨i, rfl, q⟩ := h
  obtain ⟨t, rfl⟩ := rx
  exact rule i t s _ _ ⟨.int (g i), H, I.tok _, ⟨_, rfl⟩, q⟩
theorem un_neg : UnR X (unaryOp .USub) (rU fun i => .int (-i)) := unI fun _ _ _ _ _ q => neg_int q
end
def scal : V → V → Bool
  | .non, .non => true | .non, .int _ => true | .int _, .non => true | .non, .bl _ => true | .bl _, .non => true | .non, .str _ => true | .str _, .non => true
  | .int _, .int _ => true | .bl _, .bl _ => true | .str _, .str _ => true | .byt _, .byt _ => true
  | .int _, .str _ => true | .str _, .int _ => true | .bl _, .str _ => true | .str _, .bl _ => true
  | _, _ => false
def rEq : R2 := fun x y H Q => scal x y = true ∧ Q (.bl (decide (x = y))) H
def rNe : R2 := fun x y H Q => scal x y = true ∧ Q (.bl (!decide (x = y))) H
theorem dec_int {i j : Int} : decide (V.int i = V.int j) = (i == j) := by
  rw [Bool.eq_iff_iff]
  simp
theorem dec_bl {i j : Bool} : decide (V.bl i = V.bl j) = (i == j) := by
  rw [Bool.eq_iff_iff]
  simp
theorem dec_str {i j : Str} : decide (V.str i = V.str j) = (i == j) := by
  rw [Bool.eq_iff_iff]
  simp
theorem dec_byt {i j : Array UInt8} : decide (V.byt i = V.byt j) = (i.toList == j.toList) := by
  rw [Bool.eq_iff_iff]
  cases i
  cases j
  simp
section
variable {X : Cx} {a b c : Expr} {ta tb tc : TE} {pos : Pos}
theorem fin_bl {pins : List (Addr × Obj)} {σ : St} {H : Hp} {s : Shared} {Q : VK} {k k' : Bool} (I : Inv X pins σ H s) (q : Q (.bl k) H) (e : k = k') : EP X pins σ Q (.bool k') s := by
  subst e
  exact ⟨.bl k, H, I, rfl, q⟩
theorem op_eq : OpR X (compareOp .Eq) rEq := by
  intro pins s σ H x y v u Q I rx ry h
  obtain ⟨hs, q⟩ := h
  cases x with
  | non =>
    cases rx
    cases y with
    | non => cases ry; exact PySem.EqNone.eq_none_none (fin_bl I q (by simp))
    | bl j => cases ry; exact PySem.EqNone.eq_none_bool (fin_bl I q (by simp))
    | int j => obtain ⟨t', rfl⟩ := ry; exact PySem.EqNone.eq_none_int (fin_bl I q (by simp))
    | str j => obtain ⟨t', rfl⟩ := ry; exact PySem.EqNone.eq_none_str (fin_bl I q (by simp))
    | _ => exact absurd (show false = true from hs) Bool.false_ne_true
  | bl i =>
    cases rx
    cases y with
    | non => cases ry; exact PySem.EqNone.eq_bool_none (fin_bl I q (by simp))
    | bl j => cases ry; exact eq_bool (fin_bl I q dec_bl)
    | str j => obtain ⟨t', rfl⟩ := ry; exact PySem.EqMixed.eq_bool_str (fin_bl I q (by simp))
    | _ => exact absurd (show false = true from hs) Bool.false_ne_true
  | int i =>
    obtain ⟨t, rfl⟩ := rx
    cases y with
    | non => cases ry; exact PySem.EqNone.eq_int_none (fin_bl I q (by simp))
    | int j => obtain ⟨t', rfl⟩ := ry; exact eq_int (fin_bl I q dec_int)
    | str j => obtain ⟨t', rfl⟩ := ry; exact PySem.EqMixed.eq_int_str (fin_bl I q (by simp))
    | _ => exact absurd (show false = true from hs) Bool.false_ne_true
  | str i =>
    obtain ⟨t, rfl⟩ := rx
    cases y with
    | non => cases ry; exact PySem.EqNone.eq_str_none (fin_bl I q (by simp))
    | bl j => cases ry; exact PySem.EqMixed.eq_str_bool (fin_bl I q (by simp))
    | int j => obtain ⟨t', rfl⟩ := ry; exact PySem.EqMixed.eq_str_int (fin_bl I q (by simp))
    | str j => obtain ⟨t', rfl⟩ := ry; exact eq_str (fin_bl I q dec_str)
    | _ => exact absurd (show false = true from hs) Bool.false_ne_true
  | byt i =>
    obtain ⟨t, rfl⟩ := rx
    cases y with
    | byt j => obtain ⟨t', rfl⟩ := ry; exact PySem.W.eq_bytes (fin_bl I q dec_byt)
    | _ => exact absurd (show false = true from hs) Bool.false_ne_true
  | _ => cases y <;> exact absurd (show false = true from hs) Bool.false_ne_true
theorem op_ne : OpR X (compareOp .NotEq) rNe := by
  intro pins s σ H x y v u Q I rx ry h
  obtain ⟨hs, q⟩ := h
  cases x with
  | non =>
    cases rx
    cases y with
    | non => cases ry; exact PySem.EqNone.ne_none_none (fin_bl I q (by simp))
    | bl j => cases ry; exact PySem.EqNone.ne_none_bool (fin_bl I q (by simp))
    | int j => obtain ⟨t', rfl⟩ := ry; exact PySem.EqNone.ne_none_int (fin_bl I q (by simp))
    | str j => obtain ⟨t', rfl⟩ := ry; exact PySem.EqNone.ne_none_str (fin_bl I q (by simp))
    | _ => exact absurd (show false = true from hs) Bool.false_ne_true
  | bl i =>
    cases rx
    cases y with
    | non => cases ry; exact PySem.EqNone.ne_bool_none (fin_bl I q (by simp))
    | bl j => cases ry; exact ne_bool (fin_bl I q (congrArg not dec_bl))
    | str j => obtain ⟨t', rfl⟩ := ry; exact PySem.EqMixed.ne_bool_str (fin_bl I q (by simp))
    | _ => exact absurd (show false = true from hs) Bool.false_ne_true
  | int i =>
    obtain ⟨t, rfl⟩ := rx
    cases y with
    | non => cases ry; exact PySem.EqNone.ne_int_none (fin_bl I q (by simp))
    | int j => obtain ⟨t', rfl⟩ := ry; exact ne_int (fin_bl I q (congrArg not dec_int))
    | str j => obtain ⟨t', rfl⟩ := ry; exact PySem.EqMixed.ne_int_str (fin_bl I q (by simp))
    | _ => exact absurd (show false = true from hs) Bool.false_ne_true
  | str i =>
    obtain ⟨t, rfl⟩ := rx
    cases y with
    | non => cases ry; exact PySem.EqNone.ne_str_none (fin_bl I q (by simp))
    | bl j => cases ry; exact PySem.EqMixed.ne_str_bool (fin_bl I q (by simp))
    | int j => obtain ⟨t', rfl⟩ := ry; exact PySem.EqMixed.ne_str_int (fin_bl I q (by simp))
    | str j => obtain ⟨t', rfl⟩ := ry; exact ne_str (fin_bl I q (congrArg not dec_str))
    | _ => exact absurd (show false = true from hs) Bool.false_ne_true
  | byt i =>
    obtain ⟨t, rfl⟩ := rx
    cases y with
    | byt j => obtain ⟨t', rfl⟩ := ry; exact PySem.W.ne_bytes (fin_bl I q (congrArg not dec_byt))
    | _ => exact absurd (show false = true from hs) Bool.false_ne_true
  | _ => cases y <;> exact absurd (show false = true from hs) Bool.false_ne_true
theorem op_lt : OpR X (compareOp .Lt) (rI0 fun i j => .bl (decide (i < j))) := opB0 fun _ _ _ _ _ _ _ q => lt_int q
theorem op_le : OpR X (compareOp .LtE) (rI0 fun i j => .bl (decide (i ≤ j))) := opB0 fun _ _ _ _ _ _ _ q => le_int q
theorem op_gt : OpR X (compareOp .Gt) (rI0 fun i j => .bl (decide (j < i))) := opB0 fun _ _ _ _ _ _ _ q => gt_int q
theorem op_ge : OpR X (compareOp .GtE) (rI0 fun i j => .bl (decide (j ≤ i))) := opB0 fun _ _ _ _ _ _ _ q => ge_int q
theorem op_notN : OpR X (compareOp .IsNot) (fun x y H Q => y = .non ∧ Q (.bl (!decide (x = .non))) H) := by
  intro pins s σ H x y v u Q I rx ry h
  obtain ⟨rfl, q⟩ := h
  cases ry
  refine isnot_none_gen (fin_bl I q ?_)
  cases x <;> first
    | (cases rx; rfl)
    | (obtain ⟨t, rfl⟩ := rx; rfl)
theorem nomark (b : Expr) {op : CmpOp} (h : op ≠ .In := by decide) (h2 : op ≠ .NotIn := by decide) : behindInMarks op b = false := by
  have e1 : (op == CmpOp.In) = false := by cases op <;> first | rfl | exact absurd rfl h
  have e2 : (op == CmpOp.NotIn) = false := by cases op <;> first | rfl | exact absurd rfl h2
  cases b <;> simp [behindInMarks, e1, e2]
theorem pe_cmpR {op : CmpOp} {r : R2} (ho : OpR X (compareOp op) r) (ha : PE X a ta) (hb : PE X b tb) (hm : behindInMarks op b = false) : PE X (.Compare a [op] [b] pos) (tOp r ta tb) := by
  intro pins s σ H Q I h
  exact wpAny_Compare1 (binT ha hb I h fun v u s2 x y H2 I2 rx ry q => ho pins s2 σ H2 x y v u Q I2 rx ry q) hm
def tTest (t : TE) : TT := fun σ H Q => t σ H fun x H' => ∃ k, x = .bl k ∧ Q k H'
theorem pt_cmpR {op : CmpOp} {r : R2} (ho : OpR X (compareOp op) r) (ha : PE X a ta) (hb : PE X b tb) (hm : behindInMarks op b = false) : PT X (.Compare a [op] [b] pos) (tTest (tOp r ta tb)) := by
  intro pins s σ H Q I h
  refine wpAny_isTrue_Compare1 (thn (ha pins s σ H _ I h) fun v s1 ⟨x, H1, I1, r1, q1⟩ => thn (hb pins s1 σ H1 _ I1 q1) fun u s2 ⟨y, H2, I2, r2, q2⟩ =>
    thn (ho pins s2 σ H2 x y v u _ I2 r1 r2 q2) fun c s3 ⟨z, H3, I3, r3, k, e, q3⟩ => ?_) hm
  subst e
  cases r3
  exact wpAny_truthy_bool ⟨H3, I3, q3⟩
def tChain (r r' : R2) (ta tb tc : TE) : TE := fun σ H Q => ta σ H fun x H1 => tb σ H1 fun y H2 => r x y H2 fun z H3 => ∃ k, z = .bl k ∧
  (if k = true then tc σ H3 fun w' H4 => r' y w' H4 Q else Q (.bl false) H3)
theorem pe_chain {op op' : CmpOp} {r r' : R2} (ho : OpR X (compareOp op) r) (ho' : OpR X (compareOp op') r') (ha : PE X a ta) (hb : PE X b tb) (hc : PE X c tc)
    (hm : lastMarks [op, op'] [b, c] = false := by with_unfolding_all rfl) : PE X (.Compare a [op, op'] [b, c] pos) (tChain r r' ta tb tc) := by
  intro pins s σ H Q I h
  refine Compare_chain (thn (ha pins s σ H _ I h) fun v s1 ⟨x, H1, I1, r1, q1⟩ => chain_link (thn (hb pins s1 σ H1 _ I1 q1) fun u s2 ⟨y, H2, I2, r2, q2⟩ =>
    thn (ho pins s2 σ H2 x y v u _ I2 r1 r2 q2) fun d s3 ⟨z, H3, I3, r3, k, e, q3⟩ => ?_)) hm
  subst e
  cases r3
  refine wpAny_truthy_bool ?_
  cases k with
  | false => exact ite_ff ⟨.bl false, H3, I3, rfl, q3⟩
  | true => exact ite_tt (chain_last (thn (hc pins s3 σ H3 _ I3 q3) fun w' s4 ⟨z', H4, I4, r4, q4⟩ => ho' pins s4 σ H4 y z' u w' Q I4 r2 r4 q4))
theorem pt_chain {op op' : CmpOp} {r r' : R2} (ho : OpR X (compareOp op) r) (ho' : OpR X (compareOp op') r') (ha : PE X a ta) (hb : PE X b tb) (hc : PE X c tc)
    (hm : lastMarks [op, op'] [b, c] = false := by with_unfolding_all rfl) : PT X (.Compare a [op, op'] [b, c] pos) (tTest (tChain r r' ta tb tc)) := by
  intro pins s σ H Q I h
  refine isTrue_chain (thn (ha pins s σ H _ I h) fun v s1 ⟨x, H1, I1, r1, q1⟩ => test_link (thn (hb pins s1 σ H1 _ I1 q1) fun u s2 ⟨y, H2, I2, r2, q2⟩ =>
    thn (ho pins s2 σ H2 x y v u _ I2 r1 r2 q2) fun d s3 ⟨z, H3, I3, r3, k, e, q3⟩ => ?_)) hm
  subst e
  cases r3
  refine wpAny_truthy_bool ?_
  cases k with
  | false =>
    obtain ⟨k', e', q'⟩ := q3
    cases e'
    exact ite_ff ⟨H3, I3, q'⟩
  | true =>
    refine ite_tt (test_last (thn (hc pins s3 σ H3 _ I3 q3) fun w' s4 ⟨z', H4, I4, r4, q4⟩ => thn (ho' pins s4 σ H4 y z' u w' _ I4 r2 r4 q4) fun d' s5 ⟨z2, H5, I5, r5, k2, e2, q5⟩ => ?_))
    subst e2
    cases r5
    exact wpAny_truthy_bool ⟨H5, I5, q5⟩
theorem line63 : (sizeLine : Nat) < 2 ^ 63 := by rw [sizeLine_eq]; decide
theorem vals1 {x : V} {us : List Value} (r : Vals [x] us) : ∃ u, us = [u] ∧ RelV x u := by
  cases r with
  | cons r1 r2 => cases r2; exact ⟨_, rfl, r1⟩
theorem vals2 {x y : V} {us : List Value} (r : Vals [x, y] us) : ∃ u w', us = [u, w'] ∧ RelV x u ∧ RelV y w' := by
  cases r with
  | cons r1 r2 =>
    cases r2 with
    | cons r3 r4 => cases r4; exact ⟨_, _, rfl, r1, r3⟩
theorem call_abs : CallR X (.builtin "abs") (fun xs H Q => ∃ i, xs = [.int i] ∧ Q (.int (if i < 0 then -i else i)) H) := by
  intro pins s σ H xs us Q I r h
  obtain ⟨i, rfl, q⟩ := h
  obtain ⟨u, rfl, t, rfl⟩ := vals1 r
  exact call_abs_int fun u tk => ⟨.int (if i < 0 then -i else i), H, I.tok _, ⟨_, rfl⟩, q⟩
theorem call_max2 (hc : X.calm = true) : CallR X (.builtin "max") (fun xs H Q => ∃ i j, xs = [.int i, .int j] ∧ Q (.int (if j > i then j else i)) H) := by
  intro pins s σ H xs us Q I r h
  obtain ⟨i, j, rfl, q⟩ := h
  obtain ⟨u, w', rfl, ⟨t, rfl⟩, ⟨t', rfl⟩⟩ := vals2 r
  refine max_two_ints (I.ok.hd hc) fun h' tk k => ⟨_, H, I.kept k, ?_, q⟩
  by_cases hj : j > i
  · rw [if_pos hj, if_pos hj]; exact ⟨_, rfl⟩
  · rw [if_neg hj, if_neg hj]; exact ⟨_, rfl⟩
theorem call_min2 (hc : X.calm = true) : CallR X (.builtin "min") (fun xs H Q => ∃ i j, xs = [.int i, .int j] ∧ Q (.int (if j < i then j else i)) H) := by
  intro pins s σ H xs us Q I r h
  obtain ⟨i, j, rfl, q⟩ := h
  obtain ⟨u, w', rfl, ⟨t, rfl⟩, ⟨t', rfl⟩⟩ := vals2 r
  refine min_two_ints (I.ok.hd hc) fun h' tk k => ⟨_, H, I.kept k, ?_, q⟩
  by_cases hj : j < i
  · rw [if_pos hj, if_pos hj]; exact ⟨_, rfl⟩
  · rw [if_neg hj, if_neg hj]; exact ⟨_, rfl⟩
theorem call_int1 : CallR X (.type "int") (fun xs H Q => (∃ i, xs = [.int i] ∧ Q (.int i) H) ∨ ∃ k, xs = [.bl k] ∧ Q (.int (if k then 1 else 0)) H) := by
  intro pins s σ H xs us Q I r h
  rcases h with ⟨i, rfl, q⟩ | ⟨k, rfl, q⟩
  · obtain ⟨u, rfl, t, rfl⟩ := vals1 r
    exact call_int_int ⟨.int i, H, I, ⟨_, rfl⟩, q⟩
  · obtain ⟨u, rfl, r1⟩ := vals1 r
    cases r1
    exact call_int_bool ⟨.int (if k then 1 else 0), H, I.tok _, ⟨_, rfl⟩, q⟩
end
end L2
namespace L2
open PySem PySem.Spec PyProof.Rows
structure ObjM (h : Heap) (x dx C : Addr) (mA : Str → Option Value) : Prop where
  obj : h.get? x = some (PySem.W.instObj C dx)
  ns : h.Ns1 dx mA
  ne : dx ≠ x
theorem lookIn_ns {h : Heap} {dx : Addr} {mA : Str → Option Value} (n : h.Ns1 dx mA) : ∃ od, h.get? dx = some od ∧ ∀ name, PySem.W.lookIn name od = some (mA name) := by
  obtain ⟨o, es, ep, ho, hd, hk, _, hm⟩ := n
  refine ⟨o, ho, fun name => ?_⟩
  have e := hm name
  unfold nsFind findBy at e
  rw [← Array.find?_toList] at e
  unfold PySem.W.lookIn
  rw [hd]
  dsimp only
  split
  · rename_i y q
    rw [q] at e
    exact congrArg some e
  · rename_i q
    rw [q] at e
    have a : es.toList.any (·.refKey) = false := by
      rw [List.any_eq_false]
      intro y hy
      obtain ⟨z, t, hkey⟩ := hk y (Array.mem_toList_iff.mp hy)
      simp [DictEntry.refKey, hkey]
    have a' : ¬ es.toList.any (·.refKey) = true := by rw [a]; exact Bool.false_ne_true
    rw [if_neg a']
    exact congrArg some e
theorem ObjM.look {h : Heap} {x dx C : Addr} {mA : Str → Option Value} (I : ObjM h x dx C mA) : ∃ od, PySem.W.InstAt h x (PySem.W.instObj C dx) C (some od) ∧ ∀ name, PySem.W.lookIn name od = some (mA name) :=
  let ⟨od, ho, hl⟩ := lookIn_ns I.ns
  ⟨od, ⟨I.obj, rfl, rfl, ho⟩, hl⟩
theorem RelO.some_of {v : V} {o : Option Value} (r : RelO (some v) o) : ∃ u, o = some u ∧ RelV v u := by
  cases o with
  | none => exact (show False from r).elim
  | some u => exact ⟨u, rfl, r⟩
section
variable {P : Program} {w : World} {H H' : Hp} {h h' : Heap} {a C dx : Addr} {fs fs' : List (Str × V)}
theorem ins_get (hok : HOk P w H h) (e : H a = some (.ins C dx fs)) : ∃ mA, ObjM h a dx C mA ∧ (∀ f, RelO (fs.lookup f) (mA f)) ∧ PySem.Within mA (fs.map (·.1)) ∧ fs.length ≤ 1000 ∧ H dx = some (.own a) := by
  obtain ⟨d, z, ne, ob, mA, n, r, q⟩ := (show ObjOk P w H h a (.ins C dx fs) from hok a _ e)
  exact ⟨mA, ⟨ob, n, ne⟩, r, q, z, d⟩
end
structure Cls (K : PySem.W.Frag) (C : Addr) : Prop where
  pg : PySem.W.plainGet K C Str.empty = true
  hd : PySem.W.hasDictIn K C = true
  po : PySem.W.plainOver K C = true
  sa : PySem.W.findIn K (.ref C) "__setattr__" = some (some (.builtin "object.__setattr__"))
theorem Cls.get {K : PySem.W.Frag} {C : Addr} (c : Cls K C) (f : Str) : PySem.W.plainGet K C f = true := c.pg
structure Con (K : PySem.W.Frag) (C : Addr) (f : Str) (v : V) (u : Value) : Prop where
  at_ : PySem.W.findIn K (.ref C) f = some (some u)
  rel : RelV v u
  get : PySem.W.specialIn K u "__get__" = some none
  cp : PySem.W.copiedNames.contains f = false
structure Meth (K : PySem.W.Frag) (C : Addr) (m : Str) (f : Addr) : Prop where
  at_ : PySem.W.findIn K (.ref C) m = some (some (.ref f))
  fn : PySem.W.isFn K (.ref f) = true
  kp : PySem.W.keepIn K (.ref f) = true
section
variable {X : Cx} {pins : List (Addr × Obj)} {σ : St} {H : Hp} {s : Shared} {A : Around} {E : Value → Shared → Prop} {Q : Value → Shared → Prop} {c : Value} {b : Bool}
inductive TyOf (K : PySem.W.Frag) (H : Hp) : V → Value → Prop where
  | non : TyOf K H .non (.type "NoneType")
  | bl (x : Bool) : TyOf K H (.bl x) (.type "bool")
  | int (i : Int) : TyOf K H (.int i) (.type "int")
  | str (x : Str) : TyOf K H (.str x) (.type "str")
  | flt (x : UInt64) : TyOf K H (.flt x) (.type "float")
  | lst {a : Addr} {xs : List V} (e : H a = some (.lst xs)) : TyOf K H (.ref a) (.type "list")
  | frz {a : Addr} {o : Obj} {xs : List V} (e : H a = some (.frz o (.lst xs))) : TyOf K H (.ref a) (.type "list")
  | tup {a : Addr} {xs : List V} (e : H a = some (.tup xs)) : TyOf K H (.ref a) (.type "tuple")
  | dK {a : Addr} {kvs : List (Key × V)} (e : H a = some (.dK kvs)) : TyOf K H (.ref a) (.type "dict")
  | dT {a : Addr} {kvs : List (List Key × V)} (e : H a = some (.dT kvs)) : TyOf K H (.ref a) (.type "dict")
  | ins {a C dx : Addr} {fs : List (Str × V)} (e : H a = some (.ins C dx fs)) (cl : Cls K C) (ha : PySem.W.findIn K (.ref C) "__class__" = some (some (.builtin "object.__class__")))
      (hn : PySem.W.specialIn K (.builtin "object.__class__") "__get__" = some (some (.builtin "getset_descriptor.__get__"))) (htk : PySem.W.takesIn K (.builtin "object.__class__") = some true)
      (hm : PySem.W.mroIn K C (.type "object") = some true) : TyOf K H (.ref a) (.ref C)
theorem isinst_ok {x : V} {u t : Value} (I : Inv X pins σ H s) (rx : RelV x u) (ty : TyOf X.K H x t) (e : PySem.W.kitOne X.K t c = some b) (h : ∀ tk, Q (.bool b) { s with toks := tk }) :
    wpAny (model X.prog X.w) A (call (.builtin "isinstance") [u, c]) Q E s := by
  cases ty with
  | non => cases (show u = Value.none from rx); exact PySem.W.kia_one PySem.W.kitx_none I.kIn True.intro e (fun z => nomatch z) h
  | bl y => cases (show u = Value.bool y from rx); exact PySem.W.kia_one PySem.W.kitx_bool I.kIn True.intro e (fun z => nomatch z) h
  | int i => obtain ⟨t, q⟩ := (show ∃ t, u = Value.int i t from rx); cases q; exact PySem.W.kia_one PySem.W.kitx_int I.kIn True.intro e (fun z => nomatch z) h
  | str y => obtain ⟨t, q⟩ := (show ∃ t, u = Value.str y t from rx); cases q; exact PySem.W.kia_one PySem.W.kitx_str I.kIn True.intro e (fun z => nomatch z) h
  | flt y => obtain ⟨t, q⟩ := (show ∃ t, u = Value.float y t from rx); cases q; exact PySem.W.kia_one PySem.W.kitx_float I.kIn True.intro e (fun z => nomatch z) h
  | @lst a xs ea =>
    cases (show u = Value.ref a from rx)
    obtain ⟨_, _, n, _, h1⟩ := (show ObjOk X.prog X.w H s.heap a (.lst xs) from I.hok a _ ea)
    exact PySem.W.kia_one PySem.W.kitx_list I.kIn ⟨_, h1, rfl⟩ e (fun z => nomatch z) h
  | @frz a ob xs ea =>
    cases (show u = Value.ref a from rx)
    obtain ⟨_, _, _, n, _, h1⟩ := (show ObjOk X.prog X.w H s.heap a (.frz ob (.lst xs)) from I.hok a _ ea)
    exact PySem.W.kia_one PySem.W.kitx_list I.kIn ⟨_, h1, rfl⟩ e (fun z => nomatch z) h
  | @tup a xs ea =>
    cases (show u = Value.ref a from rx)
    obtain ⟨_, _, _, p⟩ := (show ObjOk X.prog X.w H s.heap a (.tup xs) from I.hok a _ ea)
    obtain ⟨o, h1, h2, _⟩ := p
    exact PySem.W.kia_one PySem.W.kitx_tuple I.kIn ⟨o, h1, h2⟩ e (fun z => nomatch z) h
  | @dK a kvs ea =>
    cases (show u = Value.ref a from rx)
    obtain ⟨_, _, vs, _, p⟩ := (show ObjOk X.prog X.w H s.heap a (.dK kvs) from I.hok a _ ea)
    obtain ⟨o, es, ep, h1, h2, _⟩ := p
    exact PySem.W.kia_one PySem.W.kitx_dict I.kIn ⟨o, h1, h2.1⟩ e (fun z => nomatch z) h
  | @dT a kvs ea =>
    cases (show u = Value.ref a from rx)
    obtain ⟨_, _, xs, _, o, es, ep, h1, h2, _⟩ := (show ObjOk X.prog X.w H s.heap a (.dT kvs) from I.hok a _ ea)
    exact PySem.W.kia_one PySem.W.kitx_dict I.kIn ⟨o, h1, h2.1⟩ e (fun z => nomatch z) h
  | @ins a C dx fs ea cl ha hn htk hm =>
    cases (show u = Value.ref a from rx)
    obtain ⟨mA, O, _⟩ := ins_get I.hok ea
    obtain ⟨od, J, _⟩ := O.look
    exact PySem.W.kia_one (PySem.W.kitx_own (cl.get _) cl.hd ha hn htk hm) I.kIn J e (fun z => nomatch z) h
end
end L2
namespace L2
open PySem PySem.Spec PyProof.Rows
structure Room (k : Nat) (A : Around) : Prop where
  hd : A.handled = none
  gd : A.guards = some []
  dp : A.depth + 3 * k + 5 < recursionLimit
  un : A.units + 16 * k + 200 < cLine
theorem Room.mono {j k : Nat} {A : Around} (r : Room k A) (h : j ≤ k) : Room j A := ⟨r.hd, r.gd, by have := r.dp; omega, by have := r.un; omega⟩
theorem Room.deeper {k : Nat} {A : Around} (r : Room (k + 1) A) (env : Env) : Room k (A.deeper env) :=
  ⟨r.hd, r.gd, by have := r.dp; show A.depth + 1 + 3 * k + 5 < _; omega, by have := r.un; show A.units + 3 + 16 * k + 200 < _; omega⟩
theorem Room.depth {k : Nat} {A : Around} (r : Room k A) : A.depth < recursionLimit := by have := r.dp; omega
theorem Room.units {k : Nat} {A : Around} (r : Room k A) : A.units + 64 < cLine := by have := r.un; omega
def tNil : TA := fun _ H Q => Q [] H
def tCons (ta : TE) (tr : TA) : TA := fun σ H Q => ta σ H fun x H1 => tr σ H1 fun xs H2 => Q (x :: xs) H2
section
variable {X : Cx} {e : Expr} {es : List Expr} {te : TE} {t : TA} {pos : Pos}
theorem pa_nil : PA X [] tNil := fun _ _ _ _ H Q I h => Calls.spliced_nil ⟨[], H, I, .nil, h⟩
theorem pa_cons (ha : PE X e te) (hr : PA X es t) (hs : starEach (e :: es) X.env = (false, eval e X.env) :: starEach es X.env := by rfl) : PA X (e :: es) (tCons te t) := by
  intro pos pins s σ H Q I h
  rw [hs]
  show wpAny _ _ (spliced ((false, eval e X.env) :: backTo pos (starEach es X.env))) _ _ s
  refine Calls.spliced_cons (thn (ha pins s σ H _ I h) fun u s1 ⟨x, H1, I1, r1, q1⟩ => ?_)
  exact thn (hr pos pins s1 σ H1 _ I1 q1) fun us s2 ⟨xs, H2, I2, r2, q2⟩ => ⟨x :: xs, H2, I2, .cons r1 r2, q2⟩
def tTup (t : TA) : TE := fun σ H Q => t σ H fun xs H1 => xs.length ≤ sizeLine ∧ ∀ p, H1 p = none → Q (.ref p) (upd H1 p (.tup xs))
def tLst (t : TA) : TE := fun σ H Q => t σ H fun xs H1 => xs.length ≤ sizeLine ∧ ∀ p, H1 p = none → Q (.ref p) (upd H1 p (.lst xs))
theorem pe_tup {x1} (h : PA X es t) : PE X (.Tuple es x1 pos) (tTup t) := by
  intro pins s σ H Q I hq
  refine wpAny_Tuple_spliced (thn (h pos pins s σ H _ I hq) fun us s1 ⟨xs, H1, I1, r, z, q⟩ => ⟨by rw [← r.length]; exact z, ?_⟩)
  have hf : H1 s1.heap.objs.size = none := I1.hok.fresh (Nat.le_refl _)
  refine ⟨.ref s1.heap.objs.size, upd H1 s1.heap.objs.size (.tup xs), I1.laid (t' := s1.toks) (fun b u e => Heap.get?_push_of_some _ e) (Nat.le_refl _) ?_, rfl, q _ hf⟩
  exact ⟨z, us, r, ⟨_, Heap.get?_push_size _ rfl, rfl, _, rfl⟩⟩
theorem pe_lst (h : PA X es t) : PE X (.List es pos) (tLst t) := by
  intro pins s σ H Q I hq
  refine wpAny_List_spliced (thn (h pos pins s σ H _ I hq) fun us s1 ⟨xs, H1, I1, r, z, q⟩ => ⟨by rw [← r.length]; exact z, ?_⟩)
  have hf : H1 s1.heap.objs.size = none := I1.hok.fresh (Nat.le_refl _)
  refine ⟨.ref s1.heap.objs.size, upd H1 s1.heap.objs.size (.lst xs), I1.laid (t' := s1.toks) (fun b u e => Heap.get?_push_of_some _ e) (Nat.le_refl _) ?_, rfl, q _ hf⟩
  exact ⟨z, us, 0, r, Heap.get?_push_size _ rfl⟩
end
abbrev Sp := List V → Hp → VK → XK → Prop
abbrev CXT := List Env → Hp → Shared → XK → Value → Shared → Prop
structure Env0 (P : Program) (w : World) (K : PySem.W.Frag) (mg : Str → Option Value) (base : Heap) (A : Around) (outer : List Env) (s : Shared) (H : Hp) : Prop where
  frames : A.frames = some outer
  mod : Mod K mg base
  bs : ∀ b o, base.get? b = some o → s.heap.get? b = some o ∧ H b = none
  bsz : base.objs.size ≤ s.heap.objs.size
  funs : s.heap.FunFrames base outer
  frf : ∀ b ∈ frs outer, H b = none
  hok : HOk P w H s.heap
  bare : AllBare s.gens
def CE (outer : List Env) (P : Program) (w : World) (H : Hp) (s : Shared) (Q : VK) (u : Value) (s' : Shared) : Prop :=
  ∃ v H', s'.os = s.os ∧ AllBare s'.gens ∧ Un (frs outer) [] H H' s.heap s'.heap ∧ HOk P w H' s'.heap ∧ RelV v u ∧ Q v H'
def CR (CX : CXT) (outer : List Env) (P : Program) (w : World) (H : Hp) (s : Shared) (Q : VK) (E : XK) (r : Result) (s' : Shared) : Prop :=
  match r with
  | .ok (.ret u) => CE outer P w H s Q u s'
  | .ok _ => False
  | .error e => CX outer H s E e s'
structure FnOk (P : Program) (w : World) (K : PySem.W.Frag) (mg : Str → Option Value) (base : Heap) (CX : CXT) (k : Nat) (f : Addr) (fd : FuncData) (ps : List Str) (sp : Sp) : Prop where
  len : ∀ vs H Q E, sp vs H Q E → vs.length = ps.length
  run : ∀ (A : Around) (outer : List Env) (s : Shared) (H : Hp) (args : Args) (us : List Value) (vs : List V) (Q : VK) (E : XK), Room k A → Env0 P w K mg base A outer s H → BindsTo s fd args (ps.zip us) → Vals vs us → sp vs H Q E →
    codeAny (model P w) A (.call (.ref f) args) (CR CX outer P w H s Q E) s
section
variable {X : Cx} {pins : List (Addr × Obj)} {σ : St} {H : Hp} {s s' : Shared}
theorem Inv.env0 (I : Inv X pins σ H s) : Env0 X.prog X.w X.K X.mg X.base X.A X.stack s H :=
  ⟨I.ok.frames, I.ok.mod, I.bs, Nat.le_trans I.ok.bsz I.sz, I.stack, I.stkFree, I.hok, I.bare⟩
theorem Inv.after {Q : VK} {u : Value} (I : Inv X pins σ H s) (h : CE X.stack X.prog X.w H s Q u s') : EP X pins σ Q u s' := by
  obtain ⟨v, H', os, bare, un, hok, r, q⟩ := h
  obtain ⟨hh, g, d, t, os'⟩ := s'
  obtain rfl : os' = s.os := os
  exact ⟨v, H', I.call (h' := hh) (g' := g) (d' := d) (t' := t) (ch := []) un hok bare (fun b z => absurd z (by simp)), r, q⟩
end
def tCall (sp : Sp) (dvs : List V) (E : XK) (t : TA) : TE := fun σ H Q => t σ H fun vs H1 => sp (vs ++ dvs) H1 Q E
def Binds (K : PySem.W.Frag) (fd : FuncData) (ps : List Str) (ds : List Value) : Prop :=
  ∀ (s : Shared) (us : List Value), K.In s.heap → (us ++ ds).length = ps.length → BindsTo s fd ⟨us, []⟩ (ps.zip (us ++ ds))
theorem Binds.all {K : PySem.W.Frag} {fd : FuncData} {ps : List Str} (h : ∀ us : List Value, us.length = ps.length → bindArgs fd ⟨us, []⟩ = pure (ps.zip us)) : Binds K fd ps [] := fun s us _ hl => by
  rw [List.append_nil] at hl ⊢
  exact .of_eq (h us hl)
def Passes (CX : CXT) (X : Cx) (E : XK) : Prop := ∀ (pins : List (Addr × Obj)) (σ : St) (H : Hp) (s : Shared) (e : Value) (s' : Shared), Inv X pins σ H s → CX X.stack H s E e s' → X.xe e s'
section
variable {X : Cx} {CX : CXT} {k : Nat} {f C : Addr} {fd : FuncData} {ps : List Str} {sp : Sp} {dvs : List V} {ds : List Value} {E : XK} {x m : Str} {p pos apos : Pos} {e o : Expr} {es : List Expr} {ta : TE} {t : TA}
theorem run_fn {pins : List (Addr × Obj)} {σ : St} {H : Hp} {s : Shared} {Q : VK} {us : List Value} {vs : List V} (F : FnOk X.prog X.w X.K X.mg X.base CX k f fd ps sp) (hr : Room k X.A) (hb : Binds X.K fd ps ds) (hd : Vals dvs ds) (hx : Passes CX X E)
    (I : Inv X pins σ H s) (r : Vals vs us) (h : sp (vs ++ dvs) H Q E) : wpAny (model X.prog X.w) X.A (call (.ref f) us) (EP X pins σ Q) X.xe s := by
  have r2 : Vals (vs ++ dvs) (us ++ ds) := r.append hd
  have hl : (us ++ ds).length = ps.length := by rw [← r2.length]; exact F.len _ _ _ _ h
  refine wpAny_call (codeAny_mono (F.run X.A X.stack s H ⟨us, []⟩ (us ++ ds) (vs ++ dvs) Q E hr I.env0 (hb s us I.kIn hl) r2 h) fun r s' hq => ?_)
  cases r with
  | error e => exact hx pins σ H s e s' I hq
  | ok fl =>
    cases fl with
    | ret u => exact I.after hq
    | next => exact False.elim hq
    | brk => exact False.elim hq
    | cont => exact False.elim hq
theorem pe_call (F : FnOk X.prog X.w X.K X.mg X.base CX k f fd ps sp) (hr : Room k X.A) (hg : Gl X x) (hm : X.mg x = some (.ref f)) (hk : PySem.W.keepIn X.K (.ref f) = true) (hb : Binds X.K fd ps ds) (hd : Vals dvs ds) (hx : Passes CX X E)
    (ha : PA X (e :: es) t) (hdb : (x == ("__debug__" : Str)) = false := by decide) (he : starEach (e :: es) X.env = (false, eval e X.env) :: starEach es X.env := by rfl) (hpl : (backTo pos (starEach es X.env)).any (·.1) = false := by rfl) :
    PE X (.Call (.Name x p) (e :: es) [] pos) (tCall sp dvs E t) := by
  intro pins s σ H Q I h
  refine wpAny_Call_Name_kw (ld_glob I hg hm ?_ hdb)
  refine PySem.W.callWith_K (h₀ := X.base) I.ok.mod.kin hk (thn (ha pos pins s σ H _ I h) fun us s1 ⟨vs, H1, I1, r, q⟩ => ⟨I1.kIn, ?_⟩) he hpl
  exact run_fn F hr hb hd hx I1 r q
structure Mk (K : PySem.W.Frag) (C f : Addr) : Prop where
  makes : PySem.W.makesIn K C = true
  init : PySem.W.findIn K (.ref C) "__init__" = some (some (.ref f))
  fn : PySem.W.isFn K (.ref f) = true
  kp : PySem.W.keepIn K (.ref C) = true
end
def PK (X : Cx) (kws : List Keyword) (t : TA) : Prop :=
  ∀ (pos : Pos) (pins : List (Addr × Obj)) (s : Shared) (σ : St) (H : Hp) (Q : List V → Hp → Prop), Inv X pins σ H s → t σ H Q → wpAny (model X.prog X.w) X.A (evalAll ((backToKw pos (keywordEach kws X.env)).map (·.2))) (AP X pins σ Q) X.xe s
section
variable {X : Cx} {CX : CXT} {k : Nat} {f C : Addr} {fd : FuncData} {ps ks : List Str} {sp : Sp} {E : XK} {x m : Str} {p pos apos kpos : Pos} {e o : Expr} {es : List Expr} {kws : List Keyword} {te ta : TE} {t tk : TA} {nm : Option Str}
theorem pk_nil : PK X [] tNil := fun _ _ _ _ H Q I h => wpAny_evalAll_nil ⟨[], H, I, .nil, h⟩
theorem pk_cons (ha : PE X e te) (hr : PK X kws t) : PK X (⟨nm, e, kpos⟩ :: kws) (tCons te t) := by
  intro pos pins s σ H Q I h
  show wpAny _ _ (evalAll ((do let v ← eval e X.env; standAt pos; pure v) :: (backToKw pos (keywordEach kws X.env)).map (·.2))) _ _ s
  refine wpAny_evalAll_cons (wpAny_bind (thn (ha pins s σ H _ I h) fun u s1 ⟨x, H1, I1, r1, q1⟩ => wpAny_bind (wpAny_standAt (wpAny_pure ?_))))
  exact thn (hr pos pins s1 σ H1 _ I1 q1) fun us s2 ⟨xs, H2, I2, r2, q2⟩ => ⟨x :: xs, H2, I2, .cons r1 r2, q2⟩
structure KBinds (K : PySem.W.Frag) (fd : FuncData) (ps ks : List Str) (g : List Value → List Value → List Value) (gV : List V → List V → List V) : Prop where
  to : ∀ (s : Shared) (us ws : List Value), K.In s.heap → (g us ws).length = ps.length → BindsTo s fd ⟨us, ks.zip ws⟩ (ps.zip (g us ws))
  rel : ∀ {vs : List V} {us : List Value} {zs : List V} {ws : List Value}, Vals vs us → Vals zs ws → Vals (gV vs zs) (g us ws)
variable {g : List Value → List Value → List Value} {gV : List V → List V → List V}
end
structure FnScope (N P : List Str) (sc : Scope) : Prop where
  kind : sc.kind = .function
  co : sc.isCoroutine = false
  gen : sc.isGenerator = false
  nd : N.Nodup
  pre : N.take P.length = P
  par : ∀ x ∈ P, sc.names.lookup x = some .local ∨ sc.names.lookup x = some .cell
  nofree : ∀ y ∈ sc.names, y.2 ≠ .free
theorem bindL_out {kindOf : Str → Option NameKind} {x : Str} : ∀ {binds : List (Str × Value)} {m : Str → Option Value}, (∀ v, (x, v) ∉ binds) → bindL kindOf binds m x = m x
  | [], _, _ => rfl
  | (n, v) :: r, m, h => by
    unfold bindL
    rw [bindL_out fun w hw => h w (List.mem_cons_of_mem _ hw)]
    split
    · have : x ≠ n := by rintro rfl; exact h v List.mem_cons_self
      simp [this]
    · rfl
theorem bindC_out {kindOf : Str → Option NameKind} {x : Str} : ∀ {binds : List (Str × Value)} {m : Str → Option Value}, (∀ v, (x, v) ∉ binds) → bindC kindOf binds m x = m x
  | [], _, _ => rfl
  | (n, v) :: r, m, h => by
    unfold bindC
    rw [bindC_out fun w hw => h w (List.mem_cons_of_mem _ hw)]
    split
    · rfl
    · have : x ≠ n := by rintro rfl; exact h v List.mem_cons_self
      simp [this]
theorem bindL_get {kindOf : Str → Option NameKind} {x : Str} {v : Value} : ∀ {P : List Str} {vs : List Value} {i : Nat} {m : Str → Option Value}, P.Nodup → P[i]? = some x → vs[i]? = some v → kindOf x = some .local →
    bindL kindOf (P.zip vs) m x = some v
  | [], _, _, _, _, h, _, _ => by simp at h
  | _ :: _, [], _, _, _, _, h, _ => by simp at h
  | p :: P, w :: vs, 0, m, nd, h1, h2, hk => by
    simp at h1 h2; subst h1; subst h2
    show bindL kindOf ((p, w) :: P.zip vs) m p = _
    unfold bindL
    rw [bindL_out fun v hv => (List.nodup_cons.mp nd).1 (List.of_mem_zip hv).1, if_pos hk]
    simp
  | p :: P, w :: vs, i + 1, m, nd, h1, h2, hk => by
    show bindL kindOf ((p, w) :: P.zip vs) m x = _
    unfold bindL
    exact bindL_get (i := i) (List.nodup_cons.mp nd).2 (by simpa using h1) (by simpa using h2) hk
theorem bindC_get {kindOf : Str → Option NameKind} {x : Str} {v : Value} : ∀ {P : List Str} {vs : List Value} {i : Nat} {m : Str → Option Value}, P.Nodup → P[i]? = some x → vs[i]? = some v → kindOf x ≠ some .local →
    bindC kindOf (P.zip vs) m x = some v
  | [], _, _, _, _, h, _, _ => by simp at h
  | _ :: _, [], _, _, _, _, h, _ => by simp at h
  | p :: P, w :: vs, 0, m, nd, h1, h2, hk => by
    simp at h1 h2; subst h1; subst h2
    show bindC kindOf ((p, w) :: P.zip vs) m p = _
    unfold bindC
    rw [bindC_out fun v hv => (List.nodup_cons.mp nd).1 (List.of_mem_zip hv).1, if_neg hk]
    simp
  | p :: P, w :: vs, i + 1, m, nd, h1, h2, hk => by
    show bindC kindOf ((p, w) :: P.zip vs) m x = _
    unfold bindC
    exact bindC_get (i := i) (List.nodup_cons.mp nd).2 (by simpa using h1) (by simpa using h2) hk
def start (N : List Str) (vs : List V) : St := vs.map some ++ List.replicate (N.length - vs.length) none
def cxOf (CX : CXT) (P : Program) (w : World) (K : PySem.W.Frag) (mg : Str → Option Value) (base : Heap) (N : List Str) (qual : Str) (scope : Scope) (f : Addr) (cd : Value) (A : Around) (outer : List Env) (s : Shared) (H : Hp) (E : XK) : Cx where
  prog := P
  w := w
  K := K
  mg := mg
  base := base
  A := A.deeper (envOfC qual scope s.heap.objs.size f cd)
  N := N
  s₀ := s
  H₀ := H
  env := envOfC qual scope s.heap.objs.size f cd
  outer := outer
  stack := envOfC qual scope s.heap.objs.size f cd :: outer
  ex := []
  calm := true
  fn := fun _ => true
  pn := []
  xe := fun e s' => wpAny (model P w) (A.deeper (envOfC qual scope s.heap.objs.size f cd)) (leaving (envOfC qual scope s.heap.objs.size f cd) e) (fun _ s'' => CX outer H s E e s'') (fun e' s'' => CX outer H s E e' s'') s'
theorem cell_has {sc : Scope} {n : Nat} {x : Str} (h : sc.names.lookup x = some .cell) : ∃ c, (cellsFrom n sc.names []).lookup x = some c := by
  have q := PySem.W.cellsFrom_some sc.names n [] (.inl h)
  exact Option.isSome_iff_exists.mp q
theorem inv_start {CX : CXT} {P : Program} {w : World} {K : PySem.W.Frag} {mg : Str → Option Value} {base : Heap} {N ps : List Str} {qual : Str} {scope : Scope} {f : Addr} {cd : Value} {A : Around} {outer : List Env} {s s1 : Shared} {H : Hp} {E : XK} {us : List Value} {vs : List V}
    (S : FnScope N ps scope) (hd : A.handled = none) (e0 : Env0 P w K mg base A outer s H) (hl : vs.length = ps.length) (r : Vals vs us)
    (x : InCallC s s.heap.objs.size (bindL (envOfC qual scope s.heap.objs.size f cd).kindOf (ps.zip us) fun _ => none) (cellsFrom (s.heap.objs.size + 1) scope.names []) (bindC (envOfC qual scope s.heap.objs.size f cd).kindOf (ps.zip us) fun _ => none) s1) :
    Inv (cxOf CX P w K mg base N qual scope f cd A outer s H E) [] (start N vs) H s1 := by
  have hpl : ps.length ≤ N.length := by have := congrArg List.length S.pre; rw [List.length_take] at this; omega
  obtain ⟨h1, tk, rfl, hk⟩ := x.done
  have noA : ∀ b : Addr, b ∉ (cxOf CX P w K mg base N qual scope f cd A outer s H E).ex := fun b z => absurd (show b ∈ ([] : List Addr) from z) (by simp)
  refine ⟨⟨e0.mod, S.kind, rfl, rfl, Nat.le_refl _, fun y z c h1 h2 => ?_, fun y hy => ?_, fun y c _ h => ?_, fun _ => hd, Around.frames_deeper e0.frames, .inr ⟨rfl, rfl⟩, fun b z => absurd z (noA b), e0.bs, e0.bsz, fun b _ _ => noA b, fun b z => absurd z (noA b), e0.funs, e0.frf⟩,
    rfl, e0.bare, Un.kept hk, ⟨_, x.toInCall.ns, fun i y v h1 h2 h3 => ?_⟩, fun y c h => ⟨_, x.cell y c h⟩, e0.hok.fresh (Nat.le_refl _), fun y c h => ?_, fun p hp => absurd (show p ∈ ([] : List (Addr × Obj)) from hp) (by simp), e0.hok.kept hk, ?_⟩
  · exact name_of_addr x.apart (PySem.mem_of_lookup h1) (PySem.mem_of_lookup h2)
  · have hy : scope.names.lookup y = some .cell ∨ scope.names.lookup y = some .free := hy
    rcases hy with hy | hy
    · exact cell_has hy
    · exact absurd rfl (S.nofree _ (PySem.mem_of_lookup hy))
  · exact Nat.le_of_lt (x.above y c (PySem.mem_of_lookup h))
  · have hi : i < vs.length := by
      unfold start at h2
      by_cases hi : i < vs.length
      · exact hi
      · rw [List.getElem?_append_right (by simpa using hi)] at h2
        rw [List.getElem?_replicate] at h2
        split at h2 <;> cases h2
    have ha : vs[i]? = some v := by
      unfold start at h2
      rw [List.getElem?_append_left (by simpa using hi), List.getElem?_map] at h2
      cases e : vs[i]? with
      | none => rw [e] at h2; cases h2
      | some a => rw [e] at h2; cases h2; rfl
    obtain ⟨u, hu, rv⟩ := r.get ha
    have hp : ps[i]? = some y := by
      rw [← S.pre, List.getElem?_take_of_lt (by omega)]; exact h1
    have ndP : ps.Nodup := by rw [← S.pre]; exact S.nd.sublist (List.take_sublist _ _)
    refine ⟨u, rv, ?_⟩
    rcases S.par y (List.mem_of_getElem? hp) with k | k
    · exact .inl ⟨k, bindL_get ndP hp hu k⟩
    · obtain ⟨c, e⟩ := cell_has (n := s.heap.objs.size + 1) k
      refine .inr ⟨.inl k, c, e, ?_⟩
      have q := x.cell y c e
      rw [bindC_get ndP hp hu (by show scope.names.lookup y ≠ _; rw [k]; decide)] at q
      exact q
  · exact e0.hok.fresh (Nat.le_of_lt (x.above y c (PySem.mem_of_lookup h)))
  · unfold start
    show _ = N.length
    rw [List.length_append, List.length_map, List.length_replicate]
    omega
theorem fn_of {CX : CXT} {P : Program} {w : World} {K : PySem.W.Frag} {mg : Str → Option Value} {base : Heap} {k : Nat} {f : Addr} {name qual : Str} {params : Arguments} {body : List Stmt} {scope : Scope} {dV kV doc pm cdv ct oc : Value} {an od : Option Addr}
    {osl : Array (Option Value)} {N ps : List Str} {sp : Sp} (lk : K.lookup f = some ⟨oc, od, .func (PySem.W.fnOf name qual params body scope dV kV doc pm an cdv ct), osl⟩) (hcd : PySem.W.codeIn K cdv qual = true) (S : FnScope N ps scope)
    (len : ∀ vs H Q E, sp vs H Q E → vs.length = ps.length)
    (hbody : ∀ (A : Around) (outer : List Env) (s : Shared) (H : Hp) (vs : List V) (Q : VK) (E : XK), Room k (A.deeper (envOfC qual scope s.heap.objs.size f cdv)) → sp vs H Q E →
      ∃ t, PSs (cxOf CX P w K mg base N qual scope f cdv A outer s H E) body t ∧ t { nx := fun _ H' => Q .non H', rt := Q } (start N vs) H) :
    FnOk P w K mg base CX (k + 1) f (PySem.W.fnOf name qual params body scope dV kV doc pm an cdv ct) ps sp := by
  refine ⟨len, fun A outer s H args us vs Q E hr e0 hb r hsp => ?_⟩
  have hl := len _ _ _ _ hsp
  have KX : K.In s.heap := e0.mod.kin.keeps fun b o e => (e0.bs b o e).1
  have lim : s.heap.NoLimit := e0.mod.nolimit.keeps fun b o e => (e0.bs b o e).1
  have hkind : ∀ y ∈ ps.zip us, scope.names.lookup y.1 = some .local ∨ (scope.names.lookup y.1 = some .cell ∧ ((cellsFrom (s.heap.objs.size + 1) scope.names []).lookup y.1).isSome = true) := fun ⟨n, v⟩ hy => by
    rcases S.par n (List.of_mem_zip hy).1 with q | q
    · exact .inl q
    · exact .inr ⟨q, PySem.W.cellsFrom_some _ _ _ (.inl q)⟩
  refine codeAny_call_function hr.depth (KX _ _ lk) rfl S.co S.gen rfl (PySem.W.codeRec_of KX hcd) (hb _ _ _ _ ?_)
  refine wpAny_newFunctionEnv_cells S.kind hkind fun env he s1 x => ?_
  subst he
  refine ⟨lim.keeps x.toInCall.keep, codeAny_func ?_⟩
  obtain ⟨t, ht, hq⟩ := hbody A outer s H vs Q E (hr.deeper _) hsp
  have I : Inv (cxOf CX P w K mg base N qual scope f cdv A outer s H E) [] (start N vs) H s1 := inv_start S hr.hd e0 hl r x
  refine wpAny_mono (ht [] s1 (start N vs) H _ I hq) (fun fl s' hs => ?_) fun e s' hs => hs
  have fin : ∀ {σ' : St} {H' : Hp} {v : V} {u : Value}, Inv (cxOf CX P w K mg base N qual scope f cdv A outer s H E) [] σ' H' s' → RelV v u → Q v H' → CE outer P w H s Q u s' :=
    fun {σ' H' v u} J rv q => ⟨v, H', J.os, J.bare, J.base, J.hok, rv, q⟩
  cases fl with
  | ret u =>
    obtain ⟨v, σ', H', J, rv, q⟩ := hs
    exact fin J rv q
  | next =>
    obtain ⟨σ', H', J, q⟩ := hs
    exact fin (v := V.non) (u := Value.none) J rfl q
  | brk =>
    obtain ⟨_, _, _, q⟩ := hs
    exact False.elim q
  | cont =>
    obtain ⟨_, _, _, q⟩ := hs
    exact False.elim q
end L2
namespace L2
open PySem PySem.Spec PyProof.Rows
section
variable {X : Cx} {x : Str} {p pos : Pos} {e : Expr} {es : List Expr} {t : TA} {id T : String} {r : List V → Hp → VK → Prop}
def tCB (r : List V → Hp → VK → Prop) (t : TA) : TE := fun σ H Q => t σ H fun vs H1 => r vs H1 Q
theorem pe_callB (hc : CallR X (.builtin id) r) (hg : Gl X x) (hm : X.mg x = none) (hv : bootBuiltins x = some (.builtin id)) (ha : PA X (e :: es) t) (hn : x ≠ "__name__" := by decide) (hdb : (x == ("__debug__" : Str)) = false := by decide)
    (he : starEach (e :: es) X.env = (false, eval e X.env) :: starEach es X.env := by rfl) (hpl : (backTo pos (starEach es X.env)).any (·.1) = false := by rfl) : PE X (.Call (.Name x p) (e :: es) [] pos) (tCB r t) := by
  intro pins s σ H Q I h
  refine wpAny_Call_Name_kw (ld_blt I hg hm hv ?_ hn hdb)
  exact PyProof.Rows.callWith_builtin1 (thn (ha pos pins s σ H _ I h) fun us s1 ⟨vs, H1, I1, r1, q1⟩ => hc pins s1 σ H1 vs us Q I1 r1 q1) he hpl
theorem pe_callTy (hc : CallR X (.type T) r) (hg : Gl X x) (hm : X.mg x = none) (hv : bootBuiltins x = some (.type T)) (ha : PA X (e :: es) t) (hn : x ≠ "__name__" := by decide) (hdb : (x == ("__debug__" : Str)) = false := by decide)
    (he : starEach (e :: es) X.env = (false, eval e X.env) :: starEach es X.env := by rfl) (hpl : (backTo pos (starEach es X.env)).any (·.1) = false := by rfl) : PE X (.Call (.Name x p) (e :: es) [] pos) (tCB r t) := by
  intro pins s σ H Q I h
  refine wpAny_Call_Name_kw (ld_blt I hg hm hv ?_ hn hdb)
  exact PyProof.Rows.callWith_type1 (thn (ha pos pins s σ H _ I h) fun us s1 ⟨vs, H1, I1, r1, q1⟩ => hc pins s1 σ H1 vs us Q I1 r1 q1) he hpl
end
end L2
namespace HT
open PySem PyProof.Rows
def lexLt : List Int → List Int → Bool
  | [], [] => false
  | [], _ :: _ => true
  | _ :: _, [] => false
  | x :: xs, y :: ys => if x = y then lexLt xs ys else decide (x < y)
theorem lexLt_cons (x y : Int) (xs ys : List Int) : lexLt (x :: xs) (y :: ys) = if x = y then lexLt xs ys else decide (x < y) := rfl
theorem lexLt_nil_nil : lexLt [] [] = false := rfl
theorem lexLt_nil_cons (y : Int) (ys : List Int) : lexLt [] (y :: ys) = true := rfl
theorem lexLt_cons_nil (x : Int) (xs : List Int) : lexLt (x :: xs) [] = false := rfl
theorem eqAt_int (A : Around) (s : Shared) (a : Int) (t : Tok) (c : Int) (u : Tok) : ∃ e, SeqAt.EqAt A s (.int a t) (.int c u) e ∧ (e = true ↔ a = c) :=
  ⟨(a == c), SeqAt.EqAt.int_int a t c u, by simp⟩
theorem rcLt_int (A : Around) (s : Shared) (a : Int) (t : Tok) (c : Int) (u : Tok) (prog : Program) (w : World) (E : Value → Shared → Prop) (Q : Value → Shared → Prop) (h : Q (.bool (decide (a < c))) s) :
    wpAny (model prog w) A (richCompare .Lt (.int a t) (.int c u)) Q E s :=
  (PyProof.Rows.lt_int h : wpAny (model prog w) A (compareOp .Lt (.int a t) (.int c u)) Q E s)
section
open PySem.SeqAt
open PySem.AutoSeq1 (wpAny_loadPart')
open PySem.MeetsSeq PySem.MeetsSeq2 PySem.MeetsSeq3
theorem tuple_lt_ints (l b : Addr) (items items2 : Array Value) (n n2 : Nat) (dd dd2 : Option Addr) (sl sl2 : Array (Option Value)) (ns ms : List Int) (hi : IntsAre items.toList ns) (hj : IntsAre items2.toList ms) :
    Meets (Builtin.«tuple.__lt__» ⟨[.ref l, .ref b], []⟩)
      (fun _ R s => s.heap.get? l = some { cls := .type "tuple", dict := dd, data := .seq items n, slots := sl } ∧ s.heap.get? b = some { cls := .type "tuple", dict := dd2, data := .seq items2 n2, slots := sl2 } ∧
        R (.ok (.ret (.bool (lexLt ns ms)))) s) :=
  .of_wp fun prog w A R s h => by
    obtain ⟨hp, g, d, tk, os⟩ := s; obtain ⟨hl, hb, h⟩ := h
    have f2 := AutoSeq1.sub_tuple_tuple
    have z1 : items.size = ns.length := by rw [← hi.length]; simp
    have z2 : items2.size = ms.length := by rw [← hj.length]; simp
    wp_walk using wpAny_loadPart' hl, wpAny_loadPart' hb, wpAny_forIn_list _ (fun rest b s' => b.1 = none ∧ s' = ⟨hp, g, d, tk, os⟩ ∧ ∃ (vs ws : List Value) (ns' ms' : List Int), rest = vs.zip ws ∧
      IntsAre vs ns' ∧ IntsAre ws ms' ∧ ns'.length + items2.size = ms'.length + items.size ∧ R (.ok (.ret (.bool (lexLt ns' ms')))) ⟨hp, g, d, tk, os⟩) _
    case turn =>
      rintro ⟨y, x⟩ rest b s' ⟨hb', rfl, vs, ws, ns', ms', hz, hvi, hwi, hlen, hR⟩
      cases hvi with
      | nil => rw [List.zip_nil_left] at hz; cases hz
      | cons a t hvi' =>
        cases hwi with
        | nil => rw [List.zip_nil_right] at hz; cases hz
        | cons c u hwi' =>
          rw [List.zip_cons_cons] at hz
          injection hz with hyx hrest
          injection hyx with hy hx
          subst hy hx
          rw [lexLt_cons] at hR
          simp only [List.length_cons] at hlen
          obtain ⟨e, he, hiff⟩ := eqAt_int A.in1 ⟨hp, g, d, tk, os⟩ a t c u
          refine wpAny_bind (he prog w _ _ ?_)
          cases e with
          | true =>
            rw [if_pos (hiff.mp rfl)] at hR
            wp_walk
            exact ⟨rfl, rfl, _, _, _, _, hrest, hvi', hwi', by omega, hR⟩
          | false =>
            rw [if_neg (fun q => absurd (hiff.mpr q) Bool.false_ne_true)] at hR
            have hri := rcLt_int A.in1 ⟨hp, g, d, tk, os⟩ a t c u prog w
            wp_walk using hri
            exact ⟨_, rfl, by simpa using hR⟩
    case fin =>
      rintro ⟨b1, b2⟩ s' ⟨hb', rfl, vs, ws, ns', ms', hz, hvi, hwi, hlen, hR⟩
      simp only at hb'
      subst hb'
      have hv : lexLt ns' ms' = decide (items.size < items2.size) := by
        cases hvi with
        | nil =>
          cases hwi with
          | nil =>
            simp only [List.length_nil] at hlen
            rw [lexLt_nil_nil]
            exact (decide_eq_false (by omega)).symm
          | cons c u hw =>
            simp only [List.length_nil, List.length_cons] at hlen
            rw [lexLt_nil_cons]
            exact (decide_eq_true (by omega)).symm
        | cons a t hv =>
          cases hwi with
          | nil =>
            simp only [List.length_nil, List.length_cons] at hlen
            rw [lexLt_cons_nil]
            exact (decide_eq_false (by omega)).symm
          | cons c u hw =>
            rw [List.zip_cons_cons] at hz
            cases hz
      rw [hv] at hR
      wp_walk
      exact ⟨_, rfl, by simpa [Builtin.Tuple.tupleCompareSizes] using hR⟩
    case h =>
      exact ⟨rfl, rfl, items.toList, items2.toList, ns, ms, rfl, hi, hj, by omega, h⟩
end
section
variable {prog : Program} {w : World} {A : Around} {E : Value → Shared → Prop} {s : Shared}
theorem lt_tupInts {l b : Addr} {items items2 : Array Value} {ns ms : List Int} {Q : Value → Shared → Prop} (hl : IsTup s.heap l items) (hb : IsTup s.heap b items2) (hi : IntsAre items.toList ns) (hj : IntsAre items2.toList ms)
    (hu : A.units < cLine) (h : Q (.bool (lexLt ns ms)) s) : wpAny (model prog w) A (compareOp .Lt (.ref l) (.ref b)) Q E s := by
  obtain ⟨⟨cls, dd, data, sl⟩, ho, hc, n, hd⟩ := id hl
  obtain ⟨⟨cls2, dd2, data2, sl2⟩, ho2, hc2, n2, hd2⟩ := id hb
  simp only at hc hd hc2 hd2
  subst hc hd hc2 hd2
  exact richCompare_meets_room (op := .Lt) ⟨_, ho, rfl⟩ ⟨_, ho2, rfl⟩ PySem.F.slot_tuple_lt PySem.F.entry_tuple_lt (PySem.F.args_tuple_lt_2 _ _) (tuple_lt_ints l b items items2 n n2 dd dd2 sl sl2 ns ms hi hj)
    ⟨ho, ho2, show Value.bool (lexLt ns ms) ≠ Value.notImplemented ∧ Q (.bool (lexLt ns ms)) s from ⟨(fun x => nomatch x), h⟩⟩ hu
theorem cat_tup {t b : Addr} {vs ws : List Value} {Q : Value → Shared → Prop} (ht : IsTup s.heap t vs.toArray) (hb : IsTup s.heap b ws.toArray) (hv : vs ≠ [])
    (h1 : ws = [] → Q (.ref t) s) (h2 : ws ≠ [] → Q (.ref s.heap.objs.size) { s with heap := s.heap.push { cls := .type "tuple", data := .seq (vs ++ ws).toArray } })
    (hsz : vs.length + ws.length ≤ sizeLine) : wpAny (model prog w) A (binaryOp .Add (.ref t) (.ref b)) Q E s := by
  obtain ⟨⟨cls, dd, data, sl⟩, ho, hc, n, hd⟩ := id ht
  obtain ⟨⟨cls2, dd2, data2, sl2⟩, ho2, hc2, n2, hd2⟩ := id hb
  simp only at hc hd hc2 hd2
  subst hc hd hc2 hd2
  have e : vs.toArray ++ ws.toArray = (vs ++ ws).toArray := by simp
  by_cases hw : ws = []
  · exact concat_meets ⟨_, ho, rfl⟩ ⟨_, ho2, rfl⟩ noFill_tuple_add seq_tuple_add PySem.F.slot_tuple_add PySem.F.entry_tuple_add (PySem.F.args_tuple_add_2 _ _)
      (tuple_addW1 t b vs.toArray ws.toArray n n2 dd dd2 sl sl2 (by simpa using hv) (by simp [hw])) ⟨ho, ho2, h1 hw⟩
  · refine concat_meets ⟨_, ho, rfl⟩ ⟨_, ho2, rfl⟩ noFill_tuple_add seq_tuple_add PySem.F.slot_tuple_add PySem.F.entry_tuple_add (PySem.F.args_tuple_add_2 _ _)
      (tuple_addW2 t b vs.toArray ws.toArray n n2 dd dd2 sl sl2 (by simpa using hv) (by simpa using hw) (by rw [List.size_toArray, List.size_toArray]; exact hsz)) ⟨ho, ho2, ?_⟩
    rw [e]
    exact h2 hw
def sIx (n d : Nat) : Option Int → Nat
  | none => d
  | some v => if v < 0 then (v + (n : Int)).toNat else min v.toNat n
end
end HT
namespace L2
open PySem PySem.Spec PyProof.Rows
abbrev TO := St → Hp → (Option Int → Hp → Prop) → Prop
def PO (X : Cx) (e : Option Expr) (t : TO) : Prop :=
  ∀ (pins : List (Addr × Obj)) (s : Shared) (σ : St) (H : Hp) (Q : Option Int → Hp → Prop), Inv X pins σ H s → t σ H Q →
    wpAny (model X.prog X.w) X.A (evalPart e X.env) (fun u s' => ∃ o H', Inv X pins σ H' s' ∧ IsPart u o ∧ Q o H') X.xe s
def tNoPart : TO := fun _ H Q => Q none H
def tPart (t : TE) : TO := fun σ H Q => t σ H fun x H1 => ∃ i, x = .int i ∧ Q (some i) H1
theorem intsAre_of {ns : List Int} : ∀ {us : List Value}, Vals (ns.map V.int) us → IntsAre us ns := by
  induction ns with
  | nil => intro us r; rw [List.map_nil] at r; cases r; exact .nil
  | cons n ns ih =>
    intro us r
    rw [List.map_cons] at r
    cases r with
    | cons r1 r2 =>
      obtain ⟨t, e⟩ := r1
      subst e
      exact .cons n t (ih r2)
section
variable {X : Cx} {e : Expr} {te : TE} {lo hi : Option Expr} {tl th : TO} {pos p2 : Pos}
theorem po_none : PO X none tNoPart := by
  intro pins s σ H Q I h
  rw [evalPart_none]
  exact wpAny_pure ⟨none, H, I, .none, h⟩
theorem po_some (h : PE X e te) : PO X (some e) (tPart te) := by
  intro pins s σ H Q I hw
  rw [evalPart_some]
  refine thn (h pins s σ H _ I hw) fun u s1 ⟨x, H1, I1, r1, q1⟩ => ?_
  obtain ⟨i, rfl, q⟩ := q1
  obtain ⟨t, rfl⟩ := r1
  exact ⟨some i, H1, I1, .int i t, q⟩
def SlR (X : Cx) (r : V → Option Int → Option Int → Hp → VK → Prop) : Prop :=
  ∀ (pins : List (Addr × Obj)) (s : Shared) (σ : St) (H : Hp) (x : V) (v vl vu : Value) (lo hi : Option Int) (sl : Addr) (Q : VK), Inv X pins σ H s → RelV x v → s.heap.IsSliceOf sl vl vu .none → IsPart vl lo → IsPart vu hi → r x lo hi H Q →
    ∃ T id, typeLookup (.type T) "__getitem__" = pure (some (.builtin id)) ∧ s.TypeIs v T ∧ wpAny (model X.prog X.w) X.A (getItem v (.ref sl)) (EP X pins σ Q) X.xe s
def tSl (r : V → Option Int → Option Int → Hp → VK → Prop) (te : TE) (tl th : TO) : TE := fun σ H Q => te σ H fun x H1 => tl σ H1 fun l H2 => th σ H2 fun u H3 => r x l u H3 Q
theorem pe_slice {r : V → Option Int → Option Int → Hp → VK → Prop} (hr : SlR X r) (he : PE X e te) (hl : PO X lo tl) (hu : PO X hi th) : PE X (.Subscript e (.Slice lo hi none p2) pos) (tSl r te tl th) := by
  intro pins s σ H Q I h
  refine Subscript_ (thn (he pins s σ H _ I h) fun v s1 ⟨x, H1, I1, r1, q1⟩ => ?_)
  refine wpAny_Slice (thn (hl pins s1 σ H1 _ I1 q1) fun vl s2 ⟨l, H2, I2, pl, q2⟩ => thn (hu pins s2 σ H2 _ I2 q2) fun vu s3 ⟨u, H3, I3, pu, q3⟩ => ?_)
  rw [evalPart_none]
  refine wpAny_pure ?_
  have I4 : Inv X pins σ H3 { s3 with heap := s3.heap.push { cls := .type "slice", data := .fields #[vl, vu, .none] } } := I3.kept (t' := s3.toks) fun b ob q => Heap.get?_push_of_some _ q
  obtain ⟨T, id, hT, ht, hg⟩ := hr pins { s3 with heap := s3.heap.push { cls := .type "slice", data := .fields #[vl, vu, .none] } } σ H3 x v vl vu l u s3.heap.objs.size Q I4 r1 (Heap.IsSliceOf.new ..) pl pu q3
  show wpAny (model X.prog X.w) X.A (subscriptTail e (.Slice lo hi none p2) v (.ref s3.heap.objs.size)) (EP X pins σ Q) X.xe { s3 with heap := s3.heap.push { cls := .type "slice", data := .fields #[vl, vu, .none] } }
  exact tail_any (ops := [.ref s3.heap.objs.size, v]) ht hT hg (by with_unfolding_all rfl)
def cutV (xs : List V) (lo hi : Option Int) : List V := (xs.drop (HT.sIx xs.length 0 lo)).take (HT.sIx xs.length xs.length hi - HT.sIx xs.length 0 lo)
theorem cutV_length (xs : List V) (lo hi : Option Int) : (cutV xs lo hi).length ≤ xs.length := by
  unfold cutV
  rw [List.length_take, List.length_drop]
  omega
theorem Vals.nil_iff {xs : List V} {us : List Value} (r : Vals xs us) : us = [] ↔ xs = [] := by
  cases r with
  | nil => simp
  | cons _ _ => simp
end
end L2
namespace L2
open PySem PySem.Spec PyProof.Rows
def ixN (n : Nat) (i : Int) : Option Nat := if 0 ≤ i then (if i < n then some i.toNat else none) else if -(n : Int) ≤ i then some (i + n).toNat else none
def atI {α : Type} (xs : List α) (i : Int) : Option α := (ixN xs.length i).bind fun j => xs[j]?
theorem ixN_seq {n : Nat} {i : Int} {j : Nat} (h : ixN n i = some j) : seqIndex? i n = some j ∧ j < n ∧ -(n : Int) ≤ i ∧ i < n := by
  unfold ixN at h
  by_cases h0 : 0 ≤ i
  · rw [if_pos h0] at h
    by_cases h1 : i < n
    · rw [if_pos h1] at h
      have e : i.toNat = j := Option.some.inj h
      exact ⟨by rw [seqIndex_of h0 h1, e], by omega, by omega, h1⟩
    · rw [if_neg h1] at h; cases h
  · rw [if_neg h0] at h
    by_cases h1 : -(n : Int) ≤ i
    · rw [if_pos h1] at h
      have e : (i + n).toNat = j := Option.some.inj h
      exact ⟨by rw [seqIndex_neg (by omega) h1, e], by omega, h1, by omega⟩
    · rw [if_neg h1] at h; cases h
theorem atI_get {α : Type} {xs : List α} {i : Int} {v : α} (h : atI xs i = some v) : ∃ j, seqIndex? i xs.length = some j ∧ xs[j]? = some v ∧ j < xs.length ∧ -(xs.length : Int) ≤ i ∧ i < xs.length := by
  unfold atI at h
  cases e : ixN xs.length i with
  | none => rw [e] at h; cases h
  | some j =>
    rw [e] at h
    obtain ⟨h1, h2, h3, h4⟩ := ixN_seq e
    exact ⟨j, h1, h, h2, h3, h4⟩
theorem atI_nat {α : Type} {xs : List α} {j : Nat} {v : α} (h : xs[j]? = some v) : atI xs (j : Int) = some v := by
  have hj : j < xs.length := (List.getElem?_eq_some_iff.mp h).1
  have e : ixN xs.length (j : Int) = some j := by
    unfold ixN
    rw [if_pos (by omega), if_pos (by omega)]; simp
  unfold atI; rw [e]; exact h
def PlainIx (b : Expr) : Prop := ∀ o i, subscripted b false o i = operate [o, i] (getItem o i)
def IxR (X : Cx) (r : R2) : Prop :=
  ∀ (value slice : Expr) (pins : List (Addr × Obj)) (s : Shared) (σ : St) (H : Hp) (x y : V) (v u : Value) (Q : VK), Inv X pins σ H s → RelV x v → RelV y u → r x y H Q →
    subscripted slice false v u = operate [v, u] (getItem v u) → wpAny (model X.prog X.w) X.A (subscriptTail value slice v u) (EP X pins σ Q) X.xe s
def MtR (X : Cx) (id : String) (r : V → List V → Hp → VK → Prop) : Prop :=
  ∀ (pins : List (Addr × Obj)) (s : Shared) (σ : St) (H : Hp) (x : V) (xs : List V) (v : Value) (us : List Value) (Q : VK), Inv X pins σ H s → RelV x v → Vals xs us → r x xs H Q →
    wpAny (model X.prog X.w) X.A (call (.builtin id) (v :: us)) (EP X pins σ Q) X.xe s
section
variable {X : Cx} {a b : Expr} {ta tb : TE} {pos : Pos}
theorem pe_ix {r : R2} (hr : IxR X r) (ha : PE X a ta) (hb : PE X b tb) (hs : PlainIx b) : PE X (.Subscript a b pos) (tOp r ta tb) := by
  intro pins s σ H Q I h
  exact Subscript_ (binT ha hb I h fun v u s2 x y H2 I2 rx ry q => hr a b pins s2 σ H2 x y v u Q I2 rx ry q (hs _ _))
def rIxL (K : PySem.W.Frag) : R2 := fun x y H Q => ∃ p xs i v, x = .ref p ∧ y = .int i ∧ SqL K H p xs ∧ atI xs i = some v ∧ Q v H
def rIxT (K : PySem.W.Frag) : R2 := fun x y H Q => ∃ p xs i v, x = .ref p ∧ y = .int i ∧ SqT K H p xs ∧ atI xs i = some v ∧ Q v H
theorem ix_list : IxR X (rIxL X.K) := by
  intro value slice pins s σ H x y v u Q I rx ry h hs
  obtain ⟨p, xs, i, z, rfl, rfl, hq, he, q⟩ := h
  cases rx
  obtain ⟨t, rfl⟩ := ry
  obtain ⟨its, r, pl, hz⟩ := I.list hq
  obtain ⟨j, h1, h2, h3, h4, h5⟩ := atI_get he
  obtain ⟨w, ew, rw'⟩ := r.get h2
  have hl := r.length
  have hn := line63
  have fin : EP X pins σ Q w s := ⟨z, H, I, rw', q⟩
  by_cases h0 : 0 ≤ i
  · have hj : i.toNat = j := by
      rw [seqIndex_of h0 h5] at h1
      exact Option.some.inj h1
    exact item_listR pl.isList h0 (by omega) (by rw [hj]; simpa using ew) fin hs
  · have hj : (i + (its.toArray.size : Int)).toNat = j := by
      rw [seqIndex_neg (by omega) h4] at h1
      rw [List.size_toArray, ← hl]
      exact Option.some.inj h1
    exact subscriptTail_builtinR (x := w) pl.isList.typeIs slot_list_getitem.lookup
      (wpAny_getItem_list_neg (Q := fun r s' => r = w ∧ EP X pins σ Q r s') pl.isList (by omega) (by rw [List.size_toArray] <;> omega) (by omega) (by rw [hj]; simpa using ew) ⟨rfl, fin⟩) hs
theorem ix_tup : IxR X (rIxT X.K) := by
  intro value slice pins s σ H x y v u Q I rx ry h hs
  obtain ⟨p, xs, i, z, rfl, rfl, hq, he, q⟩ := h
  cases rx
  obtain ⟨t, rfl⟩ := ry
  obtain ⟨its, r, pl, hz⟩ := I.tuple hq
  obtain ⟨j, h1, h2, h3, h4, h5⟩ := atI_get he
  obtain ⟨w, ew, rw'⟩ := r.get h2
  have hl := r.length
  have hn := line63
  have fin : EP X pins σ Q w s := ⟨z, H, I, rw', q⟩
  exact subscriptTail_builtinR (x := w) pl.typeIs slot_tuple_getitem.lookup
    (getItem_tuple (j := j) (Q := fun r s' => r = w ∧ EP X pins σ Q r s') pl (by omega) (by omega) (by rw [List.size_toArray, ← hl]; exact h1) (by simpa using ew) ⟨rfl, fin⟩) hs
theorem mapSeq_set (its : List Value) (n j : Nat) (u : Value) : Obj.mapSeq (·.setIfInBounds j u) { cls := .type "list", data := .seq its.toArray n } = { cls := .type "list", data := .seq (its.set j u).toArray n } := by
  simp [Obj.mapSeq]
theorem Inv.lst {pins : List (Addr × Obj)} {σ : St} {H : Hp} {s : Shared} {p : Addr} {xs : List V} (I : Inv X pins σ H s) (h : H p = some (.lst xs)) :
    ∃ (its : List Value) (n : Nat), Vals xs its ∧ s.heap.get? p = some { cls := .type "list", data := .seq its.toArray n } ∧ xs.length ≤ sizeLine := by
  obtain ⟨z, its, n, r, e⟩ := I.hok p _ h
  exact ⟨its, n, r, e, z⟩
theorem Inv.lstUpd {pins : List (Addr × Obj)} {σ : St} {H : Hp} {s : Shared} {p : Addr} {xs ys : List V} {its its' : List Value} {n n' : Nat} {f : Obj → Obj} (I : Inv X pins σ H s) (h : H p = some (.lst xs))
    (ho : s.heap.get? p = some { cls := .type "list", data := .seq its.toArray n }) (hf : f { cls := .type "list", data := .seq its.toArray n } = { cls := .type "list", data := .seq its'.toArray n' }) (r : Vals ys its') (hz : ys.length ≤ sizeLine) (t : Nat) :
    Inv X pins σ (upd H p (.lst ys)) { s with heap := s.heap.update p f, toks := t } := by
  have e : (s.heap.update p f).get? p = some { cls := .type "list", data := .seq its'.toArray n' } := by
    rw [Heap.get?_update_self f ho (by rw [hf] <;> rfl), hf]
  refine I.write (x := p) (e := p) (by rw [h]; trivial) (.inl rfl) (fun b u hb q => (Heap.get?_update_other _ _ (Ne.symm hb)).trans q) ⟨_, e⟩ ?_
  exact ⟨hz, its', n', r, e⟩
def rSetL : V → V → V → Hp → (Hp → Prop) → Prop := fun o i v H Q => ∃ p xs k j, o = .ref p ∧ i = .int k ∧ H p = some (.lst xs) ∧ ixN xs.length k = some j ∧ Q (upd H p (.lst (xs.set j v)))
theorem set_list : PSet X rSetL := by
  intro pins s σ H o i v ov iv u Q I ro ri rv h
  obtain ⟨p, xs, k, j, rfl, rfl, hp, hj, q⟩ := h
  cases ro
  obtain ⟨t, rfl⟩ := ri
  obtain ⟨its, n, r, ho, hz⟩ := I.lst hp
  obtain ⟨h1, h2, h3, h4⟩ := ixN_seq hj
  have hl := r.length
  have hn := line63
  have I' : Inv X pins σ (upd H p (.lst (xs.set j v))) { s with heap := s.heap.update p (Obj.mapSeq (·.setIfInBounds j u)) } :=
    I.lstUpd hp ho (mapSeq_set its n j u) (r.set rv j) (by rw [List.length_set]; exact hz) s.toks
  by_cases h0 : 0 ≤ k
  · have hk : k.toNat = j := by
      rw [seqIndex_of h0 h4] at h1
      exact Option.some.inj h1
    exact PySem.W.ki_setAt ho h0 (by omega) (by rw [List.size_toArray, ← hl]; exact h4) (by rw [hk]; exact ⟨_, I', q⟩)
  · have hk : (k + (its.toArray.size : Int)).toNat = j := by
      rw [seqIndex_neg (by omega) h3] at h1
      rw [List.size_toArray, ← hl]
      exact Option.some.inj h1
    exact PySem.W.ki_setBack ho (by omega) (by rw [List.size_toArray, ← hl]; exact h3) (by omega) (by rw [hk]; exact ⟨_, I', q⟩)
theorem slice_bounds (lo hi : Option Int) (n : Nat) : (sliceBounds lo hi none n).1 = ((HT.sIx n 0 lo : Nat) : Int) ∧ (sliceBounds lo hi none n).2.1 = ((HT.sIx n n hi : Nat) : Int) ∧ (sliceBounds lo hi none n).2.2 = 1 := by
  refine ⟨?_, ?_, rfl⟩
  · cases lo with
    | none => simp [sliceBounds, HT.sIx]
    | some i =>
      simp only [sliceBounds, HT.sIx, Option.getD_none, show (1 : Int) > 0 by decide, if_true]
      by_cases h : i < 0
      · simp only [h, if_true] <;> omega
      · simp only [h, if_false] <;> omega
  · cases hi with
    | none => simp [sliceBounds, HT.sIx]
    | some i =>
      simp only [sliceBounds, HT.sIx, Option.getD_none, show (1 : Int) > 0 by decide, if_true]
      by_cases h : i < 0
      · simp only [h, if_true] <;> omega
      · simp only [h, if_false] <;> omega
theorem slicePick_cut (its : List Value) (lo hi : Option Int) : slicePick its.toArray lo hi none = ((its.drop (HT.sIx its.length 0 lo)).take (HT.sIx its.length its.length hi - HT.sIx its.length 0 lo)).toArray := by
  obtain ⟨h1, h2, h3⟩ := slice_bounds lo hi its.toArray.size
  unfold slicePick
  rw [h1, h2, h3]
  simp only [sliceRange_one, pick_run, List.size_toArray] <;> rfl
def rSlL (K : PySem.W.Frag) : V → Option Int → Option Int → Hp → VK → Prop := fun x lo hi H Q => ∃ a xs, x = .ref a ∧ SqL K H a xs ∧ ∀ p, H p = none → Q (.ref p) (upd H p (.lst (cutV xs lo hi)))
theorem sl_list : SlR X (rSlL X.K) := by
  intro pins s σ H x v vl vu lo hi sl Q I rx hs pl pu h
  obtain ⟨a, xs, rfl, hx, q⟩ := h
  cases rx
  obtain ⟨its, r, ht, hz⟩ := I.list hx
  have hlen := r.length
  refine ⟨"list", _, slot_list_getitem.lookup, ht.isList.typeIs, ?_⟩
  refine wpAny_getItem_list_slice ht.isList hs pl pu .none (by simp) ?_ (by rw [List.size_toArray] <;> omega)
  rw [slicePick_cut, ← hlen]
  refine ⟨.ref s.heap.objs.size, _, I.laid (t' := s.toks) (o := .lst (cutV xs lo hi)) (fun b ob q => Heap.get?_push_of_some _ q) (Nat.le_refl _) ?_, rfl, q _ (I.hok.fresh (Nat.le_refl _))⟩
  exact ⟨Nat.le_trans (cutV_length xs lo hi) hz, _, 0, (r.drop (HT.sIx xs.length 0 lo)).take (HT.sIx xs.length xs.length hi - HT.sIx xs.length 0 lo), Heap.get?_push_size _ rfl⟩
def flatV : V → Bool
  | .non => true
  | .bl _ => true
  | .int _ => true
  | .str _ => true
  | _ => false
def eqV : V → V → Bool
  | .non, .non => true
  | .bl a, .bl b => a == b
  | .bl a, .int b => (if a then 1 else 0) == b
  | .int a, .bl b => a == (if b then 1 else 0)
  | .int a, .int b => a == b
  | .str a, .str b => a == b
  | _, _ => false
theorem eqAt_V {A : Around} {s : Shared} {y x : V} {u v : Value} (ry : RelV y u) (rx : RelV x v) (fy : flatV y = true) (fx : flatV x = true) : SeqAt.EqAt A s u v (eqV y x) := by
  cases y with
  | non =>
    cases ry
    cases x with
    | non => cases rx; exact SeqAt.EqAt.same _
    | bl b => cases rx; exact SeqAt.EqAt.none_bool b
    | int b => obtain ⟨t, rfl⟩ := rx; exact SeqAt.EqAt.none_int b t
    | str b => obtain ⟨t, rfl⟩ := rx; exact SeqAt.EqAt.none_str b t
    | _ => exact absurd (show false = true from fx) Bool.false_ne_true
  | bl a =>
    cases ry
    cases x with
    | non => cases rx; exact SeqAt.EqAt.bool_none a
    | bl b => cases rx; exact SeqAt.EqAt.bool_bool a b
    | int b => obtain ⟨t, rfl⟩ := rx; exact SeqAt.EqAt.bool_int a b t
    | str b => obtain ⟨t, rfl⟩ := rx; exact SeqAt.EqAt.bool_str a b t
    | _ => exact absurd (show false = true from fx) Bool.false_ne_true
  | int a =>
    obtain ⟨t', rfl⟩ := ry
    cases x with
    | non => cases rx; exact SeqAt.EqAt.int_none a t'
    | bl b => cases rx; exact SeqAt.EqAt.int_bool a t' b
    | int b => obtain ⟨t, rfl⟩ := rx; exact SeqAt.EqAt.int_int a t' b t
    | str b => obtain ⟨t, rfl⟩ := rx; exact SeqAt.EqAt.int_str a t' b t
    | _ => exact absurd (show false = true from fx) Bool.false_ne_true
  | str a =>
    obtain ⟨t', rfl⟩ := ry
    cases x with
    | non => cases rx; exact SeqAt.EqAt.str_none a t'
    | bl b => cases rx; exact SeqAt.EqAt.str_bool a t' b
    | int b => obtain ⟨t, rfl⟩ := rx; exact SeqAt.EqAt.str_int a t' b t
    | str b => obtain ⟨t, rfl⟩ := rx; exact SeqAt.EqAt.str_str a t' b t
    | _ => exact absurd (show false = true from fx) Bool.false_ne_true
  | _ => exact absurd (show false = true from fy) Bool.false_ne_true
def eqU (x : V) (u : Value) : Bool := match u with
  | .none => eqV .non x
  | .bool b => eqV (.bl b) x
  | .int i _ => eqV (.int i) x
  | .str z _ => eqV (.str z) x
  | _ => false
theorem eqU_of {x y : V} {u : Value} (r : RelV y u) (f : flatV y = true) : eqU x u = eqV y x := by
  cases y with
  | non => cases r; rfl
  | bl b => cases r; rfl
  | int i => obtain ⟨t, rfl⟩ := r; rfl
  | str z => obtain ⟨t, rfl⟩ := r; rfl
  | _ => exact absurd (show false = true from f) Bool.false_ne_true
theorem any_eqU {x : V} : ∀ {xs : List V} {us : List Value}, Vals xs us → xs.all flatV = true → us.any (eqU x) = xs.any fun y => eqV y x
  | _, _, .nil, _ => rfl
  | y :: xs, u :: us, .cons r t, f => by
    rw [List.all_cons, Bool.and_eq_true] at f
    rw [List.any_cons, List.any_cons, eqU_of r f.1, any_eqU t f.2]
theorem mem_eqAt {A : Around} {s : Shared} {x : V} {v : Value} (rx : RelV x v) (fx : flatV x = true) : ∀ {xs : List V} {us : List Value}, Vals xs us → xs.all flatV = true → ∀ u ∈ us, SeqAt.EqAt A s u v (eqU x u)
  | _, _, .nil, _ => fun u hu => by cases hu
  | y :: xs, u :: us, .cons r t, f => fun u' hu => by
    rw [List.all_cons, Bool.and_eq_true] at f
    rcases List.mem_cons.mp hu with rfl | hu
    · rw [eqU_of r f.1]; exact eqAt_V r rx f.1 fx
    · exact mem_eqAt rx fx t f.2 u' hu
def inV (x : V) (xs : List V) : Bool := xs.any fun y => eqV y x
def rIn (K : PySem.W.Frag) (neg : Bool) : R2 := fun x y H Q => ∃ p xs, y = .ref p ∧ (SqL K H p xs ∨ SqT K H p xs) ∧ flatV x = true ∧ xs.all flatV = true ∧ Q (.bl (if neg then !inV x xs else inV x xs)) H
theorem op_in_seq : OpR X (compareOp .In) (rIn X.K false) := by
  intro pins s σ H x y v u Q I rx ry h
  obtain ⟨p, xs, rfl, hq, fx, fs, q⟩ := h
  cases ry
  rcases hq with hq | hq
  · obtain ⟨its, r, pl, hz⟩ := I.list hq
    refine SeqAt.in_listAt (eqU x) pl.isList (fun w hw => mem_eqAt rx fx r fs w (by simpa using hw)) ⟨.bl _, H, I, rfl, ?_⟩
    rw [show its.toArray.any (eqU x) = its.any (eqU x) by simp, any_eqU r fs]
    exact q
  · obtain ⟨its, r, pl, hz⟩ := I.tuple hq
    refine SeqAt.in_tupleAt (eqU x) pl (fun w hw => mem_eqAt rx fx r fs w (by simpa using hw)) ⟨.bl _, H, I, rfl, ?_⟩
    rw [show its.toArray.any (eqU x) = its.any (eqU x) by simp, any_eqU r fs]
    exact q
theorem op_notIn_seq : OpR X (compareOp .NotIn) (rIn X.K true) := by
  intro pins s σ H x y v u Q I rx ry h
  obtain ⟨p, xs, rfl, hq, fx, fs, q⟩ := h
  cases ry
  rcases hq with hq | hq
  · obtain ⟨its, r, pl, hz⟩ := I.list hq
    refine SeqAt.notIn_listAt (eqU x) pl.isList (fun w hw => mem_eqAt rx fx r fs w (by simpa using hw)) ⟨.bl _, H, I, rfl, ?_⟩
    rw [show its.toArray.any (eqU x) = its.any (eqU x) by simp, any_eqU r fs]
    exact q
  · obtain ⟨its, r, pl, hz⟩ := I.tuple hq
    refine SeqAt.notIn_tupleAt (eqU x) pl (fun w hw => mem_eqAt rx fx r fs w (by simpa using hw)) ⟨.bl _, H, I, rfl, ?_⟩
    rw [show its.toArray.any (eqU x) = its.any (eqU x) by simp, any_eqU r fs]
    exact q
theorem call_len_seq : CallR X (.builtin "len") (fun xs H Q => ∃ p ys, xs = [.ref p] ∧ (SqL X.K H p ys ∨ SqT X.K H p ys) ∧ Q (.int ys.length) H) := by
  intro pins s σ H xs us Q I r h
  obtain ⟨p, ys, rfl, hq, q⟩ := h
  obtain ⟨u, rfl, rx⟩ := vals1 r
  cases rx
  have hn := line63
  rcases hq with hq | hq
  · obtain ⟨its, r', pl, hz⟩ := I.list hq
    have hlen := r'.length
    exact Calls.call_len_list pl.isList (by simp only [List.size_toArray] <;> omega) ⟨.int ys.length, H, I.tok _, ⟨s.toks + 1, by rw [List.size_toArray, hlen]⟩, q⟩
  · obtain ⟨its, r', pl, hz⟩ := I.tuple hq
    have hlen := r'.length
    exact len_tuple pl (by simp only [List.size_toArray] <;> omega) ⟨.int ys.length, H, I.tok _, ⟨s.toks + 1, by rw [List.size_toArray, hlen]⟩, q⟩
theorem call_list_of : CallR X (.type "list") (fun xs H Q => ∃ p ys, xs = [.ref p] ∧ (SqL X.K H p ys ∨ SqT X.K H p ys) ∧ ∀ l, H l = none → Q (.ref l) (upd H l (.lst ys))) := by
  intro pins s σ H xs us Q I r h
  obtain ⟨p, ys, rfl, hq, q⟩ := h
  obtain ⟨u, rfl, rx⟩ := vals1 r
  cases rx
  have fin : ∀ (its : List Value), Vals ys its → ys.length ≤ sizeLine → ∀ (h' : Heap) (c' : Nat), (∀ b o', s.heap.get? b = some o' → h'.get? b = some o') →
      h'.get? s.heap.objs.size = some { cls := .type "list", dict := none, data := .seq its.toArray c', slots := #[] } → EP X pins σ Q (.ref s.heap.objs.size) { s with heap := h' } := fun its r' hz h' c' kp e =>
    ⟨.ref s.heap.objs.size, _, I.laid (t' := s.toks) kp (Nat.le_refl _) (show ObjOk X.prog X.w _ h' _ (.lst ys) from ⟨hz, its, c', r', e⟩), rfl, q _ (I.hok.fresh (Nat.le_refl _))⟩
  rcases hq with hq | hq
  · obtain ⟨its, r', pl, hz⟩ := I.list hq
    have hlen := r'.length
    obtain ⟨o, ho, hc, n, hd⟩ := pl.isList
    exact call_list_seq p (.inl rfl) ho hc hd (fun h' c' kp e => fin its r' hz h' c' kp e) (by simp only [List.size_toArray] <;> omega)
  · obtain ⟨its, r', pl, hz⟩ := I.tuple hq
    have hlen := r'.length
    obtain ⟨o, ho, hc, n, hd⟩ := pl
    exact call_list_seq p (.inr rfl) ho hc hd (fun h' c' kp e => fin its r' hz h' c' kp e) (by simp only [List.size_toArray] <;> omega)
theorem call_tuple_of : CallR X (.type "tuple") (fun xs H Q => ∃ p ys, xs = [.ref p] ∧ ((SqL X.K H p ys ∧ ∀ l, H l = none → Q (.ref l) (upd H l (.tup ys))) ∨ (SqT X.K H p ys ∧ Q (.ref p) H))) := by
  intro pins s σ H xs us Q I r h
  obtain ⟨p, ys, rfl, h⟩ := h
  obtain ⟨u, rfl, rx⟩ := vals1 r
  cases rx
  rcases h with ⟨hq, q⟩ | ⟨hq, q⟩
  · obtain ⟨its, r', pl, hz⟩ := I.list hq
    have hlen := r'.length
    refine call_tuple_list pl.isList (fun h' kp => ?_) (by simp only [List.size_toArray] <;> omega)
    have I1 : Inv X pins σ H { s with heap := h' } := I.kept (t' := s.toks) kp
    have I2 : Inv X pins σ (upd H h'.objs.size (.tup ys)) { s with heap := h'.push { cls := .type "tuple", data := .seq its.toArray } } :=
      I1.laid (t' := s.toks) (fun b o e => Heap.get?_push_of_some _ e) (Nat.le_refl _) (show ObjOk X.prog X.w _ _ _ (.tup ys) from ⟨hz, its, r', IsTup.new _ _⟩)
    exact ⟨.ref h'.objs.size, _, I2, rfl, q _ (I1.hok.fresh (Nat.le_refl _))⟩
  · obtain ⟨its, r', pl, hz⟩ := I.tuple hq
    exact call_tuple_same pl ⟨.ref p, H, I, rfl, q⟩
def tyV (K : PySem.W.Frag) (T : String) (x : V) (H : Hp) : Prop := match x with
  | .str _ => T = "str"
  | .int _ => T = "int"
  | .ref p => (T = "list" ∧ ∃ xs, SqL K H p xs) ∨ (T = "tuple" ∧ ((∃ o, K.lookup p = some o ∧ o.cls = .type "tuple" ∧ o.dict = none) ∨ ∃ o xs, H p = some (.frz o (.tup xs)) ∧ o.cls = .type "tuple" ∧ o.dict = none)) ∨
      (T = "dict" ∧ ((∃ kvs, H p = some (.dK kvs)) ∨ ∃ kvs, H p = some (.dT kvs))) ∨ (T = "set" ∧ ∃ S n, H p = some (.set S n))
  | _ => False
theorem tyV_is {pins : List (Addr × Obj)} {σ : St} {H : Hp} {s : Shared} {T : String} {x : V} {v : Value} (I : Inv X pins σ H s) (r : RelV x v) (ty : tyV X.K T x H) :
    s.TypeIs v T ∧ ∀ a, v = .ref a → ∃ ob, s.heap.get? a = some ob ∧ ob.dict = none := by
  cases x with
  | str z =>
    obtain ⟨t, rfl⟩ := r
    cases (show T = "str" from ty)
    exact ⟨typeIs_str s z t, fun _ e => nomatch e⟩
  | int i =>
    obtain ⟨t, rfl⟩ := r
    cases (show T = "int" from ty)
    exact ⟨typeIs_int s i t, fun _ e => nomatch e⟩
  | ref p =>
    cases r
    rcases ty with ⟨rfl, xs, hq⟩ | ⟨rfl, ⟨o, hk, hc, hd⟩ | ⟨o, xs, hk, hc, hd⟩⟩ | ⟨rfl, hk⟩ | ⟨rfl, S, n, hk⟩
    · obtain ⟨its, _, pl, _⟩ := I.list hq
      refine ⟨pl.isList.typeIs, fun a e => ?_⟩
      cases e
      obtain ⟨o, n, e, c, hd, _⟩ := pl
      exact ⟨o, e, hd⟩
    · refine ⟨⟨o, I.kIn p o hk, hc⟩, fun a e => ?_⟩
      cases e
      exact ⟨o, I.kIn _ o hk, hd⟩
    · obtain ⟨e, _⟩ := (show ObjOk X.prog X.w H s.heap p (.frz o (.tup xs)) from I.hok p _ hk)
      exact ⟨⟨o, e, hc⟩, fun a z => by cases z; exact ⟨o, e, hd⟩⟩
    · have z : ∃ o, s.heap.get? p = some o ∧ o.ExactDict := by
        rcases hk with ⟨kvs, hk⟩ | ⟨kvs, hk⟩
        · obtain ⟨_, _, _, _, o, _, _, e, ex, _⟩ := I.hok p _ hk
          exact ⟨o, e, ex⟩
        · obtain ⟨_, _, _, _, o, _, _, e, ex, _⟩ := I.hok p _ hk
          exact ⟨o, e, ex⟩
      obtain ⟨o, e, ex⟩ := z
      refine ⟨⟨o, e, ex.1⟩, fun a e2 => ?_⟩
      cases e2
      exact ⟨o, e, ex.2.1⟩
    · obtain ⟨o, _, _, _, e, ex, _⟩ := I.hok p _ hk
      refine ⟨⟨o, e, ex.1⟩, fun a e2 => ?_⟩
      cases e2
      exact ⟨o, e, ex.2.1⟩
  | _ => exact False.elim ty
def tBM0 (K : PySem.W.Frag) (T : String) (r : V → List V → Hp → VK → Prop) (to : TE) : TE := fun σ H Q => to σ H fun x H1 => tyV K T x H1 ∧ r x [] H1 Q
def tBM (K : PySem.W.Frag) (T : String) (r : V → List V → Hp → VK → Prop) (to : TE) (t : TA) : TE := fun σ H Q => to σ H fun x H1 => tyV K T x H1 ∧ t σ H1 fun xs H2 => r x xs H2 Q
variable {o e : Expr} {es : List Expr} {to : TE} {t : TA} {name : Str} {apos cpos : Pos} {T id : String} {r : V → List V → Hp → VK → Prop}
theorem pe_bm0 (pa : PlainAttrs T) (slot : Slot T name id) (hty : typeOf (.builtin id) = pure (.type "method_descriptor")) (hm : MtR X id r) (ho : PE X o to)
    (hbase : attributeBase o name X.env (eval o X.env) = eval o X.env := by rfl) (hline : (apos.endLine == cpos.line) = true := by rfl) : PE X (.Call (.Attribute o name apos) [] [] cpos) (tBM0 X.K T r to) := by
  intro pins s σ H Q I h
  refine wpAny_Call_method0_late hbase hline (thn (ho pins s σ H _ I h) fun v s1 ⟨x, H1, I1, r1, ty, q1⟩ => ?_)
  obtain ⟨h1, h2⟩ := tyV_is I1 r1 ty
  exact ⟨T, id, pa, slot, hty, h1, h2, Calls.callWith_builtin rfl (PySem.evalArgs_none (hm pins s1 σ H1 x [] v [] Q I1 r1 .nil q1))⟩
theorem pe_bm (pa : PlainAttrs T) (slot : Slot T name id) (hty : typeOf (.builtin id) = pure (.type "method_descriptor")) (hm : MtR X id r) (ho : PE X o to) (ha : PA X (e :: es) t)
    (hbase : attributeBase o name X.env (eval o X.env) = eval o X.env := by rfl)
    (hfew : ((backTo cpos (starEach (e :: es) X.env)).all (fun x => !x.1) && (backToKw cpos (keywordEach [] X.env)).all (fun x => x.1.isSome)
      && decide ((e :: es).length + ([] : List Keyword).length + (if ([] : List Keyword).isEmpty then 0 else 1) < 30)) = true := by rfl)
    (hline : (apos.endLine == cpos.line) = true := by rfl) (hs : starEach (e :: es) X.env = (false, eval e X.env) :: starEach es X.env := by rfl) (hplain : (backTo cpos (starEach es X.env)).any (·.1) = false := by rfl) :
    PE X (.Call (.Attribute o name apos) (e :: es) [] cpos) (tBM X.K T r to t) := by
  intro pins s σ H Q I h
  refine wpAny_Call_method_late hbase hfew hline rfl (thn (ho pins s σ H _ I h) fun v s1 ⟨x, H1, I1, r1, ty, q1⟩ => ?_)
  obtain ⟨h1, h2⟩ := tyV_is I1 r1 ty
  refine ⟨T, id, pa, slot, hty, h1, h2, ?_⟩
  have hA := ha cpos pins s1 σ H1 _ I1 q1
  rw [hs] at hA ⊢
  refine Calls.callWith_builtin (by show (false || (backTo cpos (starEach es X.env)).any (·.1)) = false; rw [hplain] <;> rfl) (Calls.evalArgs_plain ?_)
  exact thn hA fun us s2 ⟨vs, H2, I2, r2, q2⟩ => hm pins s2 σ H2 x vs v us Q I2 r1 r2 q2
/- xs.append(e), list.index on a module's tuple .. are MtR facts of 06m -/
end
end L2
namespace L2
open PySem PySem.Spec PyProof.Rows
def MtM (X : Cx) (id : String) (r : V → List V → Hp → VK → Prop) : Prop :=
  ∀ (pins : List (Addr × Obj)) (s : Shared) (σ : St) (H : Hp) (x : V) (xs : List V) (v : Value) (us : List Value) (Q : VK), Inv X pins σ H s → RelV x v → Vals xs us → r x xs H Q →
    wpAny (model X.prog X.w) X.A (call (.builtin id) (v :: us)) (EP X pins σ Q) X.xe s
theorem Vals.one : ∀ {x : V} {us : List Value}, Vals [x] us → ∃ u, us = [u] ∧ RelV x u
  | _, _, .cons r .nil => ⟨_, rfl, r⟩
theorem Vals.zero : ∀ {us : List Value}, Vals [] us → us = []
  | _, .nil => rfl
theorem Vals.dropLast {xs : List V} {us : List Value} (h : Vals xs us) : Vals xs.dropLast us.dropLast := by
  induction h with
  | nil => exact .nil
  | cons r t ih =>
    cases t with
    | nil => exact .nil
    | cons q t' => exact .cons r ih
theorem Vals.eraseIdx : ∀ {xs : List V} {us : List Value} (i : Nat), Vals xs us → Vals (xs.eraseIdx i) (us.eraseIdx i)
  | _, _, _, .nil => .nil
  | _, _, 0, .cons _ t => t
  | _, _, i + 1, .cons r t => .cons r (Vals.eraseIdx i t)
theorem Vals.reverse {xs : List V} {us : List Value} (h : Vals xs us) : Vals xs.reverse us.reverse := by
  induction h with
  | nil => exact .nil
  | cons r t ih => rw [List.reverse_cons, List.reverse_cons]; exact Vals.append ih (.cons r .nil)
theorem erase_last {α : Type} (l : List α) : l.eraseIdx (l.length - 1) = l.dropLast := by
  induction l with
  | nil => rfl
  | cons a r ih =>
    cases r with
    | nil => rfl
    | cons b r =>
      have e : (a :: b :: r).length - 1 = ((b :: r).length - 1) + 1 := by
        have h1 : (a :: b :: r).length = r.length + 2 := rfl
        have h2 : (b :: r).length = r.length + 1 := rfl
        omega
      rw [e, List.eraseIdx_cons_succ, ih]
      all_goals rfl
theorem len_erase {α : Type} : ∀ (l : List α) (i : Nat), (l.eraseIdx i).length ≤ l.length
  | [], _ => Nat.le_refl _
  | _ :: _, 0 => Nat.le_succ _
  | _ :: r, i + 1 => Nat.succ_le_succ (len_erase r i)
section
variable {X : Cx} {pins : List (Addr × Obj)} {σ : St} {H : Hp} {s : Shared} {l b : Addr} {xs ys zs : List V}
theorem Inv.lset {its its' : List Value} {n : Nat} {f : Array Value → Array Value} {t' : Nat} (I : Inv X pins σ H s) (hH : H l = some (.lst xs))
    (e : s.heap.get? l = some { cls := .type "list", data := .seq its.toArray n }) (hf : f its.toArray = its'.toArray) (hv : Vals ys its') (hz : ys.length ≤ sizeLine) :
    Inv X pins σ (upd H l (.lst ys)) { s with heap := s.heap.update l (Obj.mapSeq f), toks := t' } := by
  have q := PySem.IsL.update e f
  rw [hf] at q
  refine I.write (x := l) (e := l) (by rw [hH]; exact trivial) (.inl rfl) (fun b' u hb hu => (Heap.get?_update_other s.heap (Obj.mapSeq f) (Ne.symm hb)).trans hu) ⟨_, q⟩ ?_
  exact ⟨hz, its', _, hv, q⟩
theorem Inv.lnew {its : List Value} {t' : Nat} (I : Inv X pins σ H s) (hv : Vals ys its) (hz : ys.length ≤ sizeLine) :
    Inv X pins σ (upd H s.heap.objs.size (.lst ys)) { s with heap := s.heap.push { cls := .type "list", data := .seq its.toArray }, toks := t' } :=
  I.laid (fun _ _ q => Heap.get?_push_of_some _ q) (Nat.le_refl _) ⟨hz, its, 0, hv, Heap.get?_push_size _ rfl⟩
theorem Inv.fresh (I : Inv X pins σ H s) : H s.heap.objs.size = none := I.hok.fresh (Nat.le_refl _)
theorem Inv.lstM (I : Inv X pins σ H s) (hH : H l = some (.lst xs)) : xs.length ≤ sizeLine ∧ ∃ (its : List Value) (n : Nat), Vals xs its ∧ xs.length = its.length ∧ s.heap.get? l = some { cls := .type "list", data := .seq its.toArray n } := by
  obtain ⟨z, its, n, r, e⟩ := I.hok l _ hH
  exact ⟨z, its, n, r, r.length, e⟩
theorem notLongL {n : Nat} (h : n ≤ sizeLine) : Builtin.List.listTooLong n = false := by
  unfold Builtin.List.listTooLong
  exact decide_eq_false (by omega)
end
section
variable {X : Cx}
def rAppend : V → List V → Hp → VK → Prop := fun x vs H Q => ∃ l xs y, x = .ref l ∧ vs = [y] ∧ H l = some (.lst xs) ∧ xs.length < sizeLine ∧ Q .non (upd H l (.lst (xs ++ [y])))
theorem mt_append : MtM X "list.append" rAppend := by
  intro pins s σ H x vs v us Q I rx rv h
  obtain ⟨l, xs, y, rfl, rfl, hH, hz, q⟩ := h
  cases rx
  obtain ⟨u, rfl, ru⟩ := rv.one
  obtain ⟨z, its, n, r, hl, e⟩ := I.lstM hH
  refine call_meets F.slot_list_append ⟨_, e, rfl⟩ F.entry_list_append (F.args_list_append_2 _ _) (PySem.list_append l its.toArray n u (by rw [List.size_toArray]; omega)) ⟨e, ?_⟩
  refine ⟨.non, _, I.lset (its' := its ++ [u]) hH e (by simp) (r.append (.cons ru .nil)) ?_, rfl, q⟩
  rw [List.length_append, List.length_singleton]
  omega
def rExtend : V → List V → Hp → VK → Prop := fun x vs H Q => ∃ l b xs zs, x = .ref l ∧ vs = [.ref b] ∧ H l = some (.lst xs) ∧ H b = some (.lst zs) ∧ xs.length + zs.length ≤ sizeLine ∧ Q .non (upd H l (.lst (xs ++ zs)))
theorem mt_extend : MtM X "list.extend" rExtend := by
  intro pins s σ H x vs v us Q I rx rv h
  obtain ⟨l, b, xs, zs, rfl, rfl, hH, hB, hz, q⟩ := h
  cases rx
  obtain ⟨u, rfl, ru⟩ := rv.one
  cases ru
  obtain ⟨z, its, n, r, hl, e⟩ := I.lstM hH
  obtain ⟨z2, its2, n2, r2, hl2, e2⟩ := I.lstM hB
  have hsz : its.toArray.size + its2.toArray.size ≤ sizeLine := by rw [List.size_toArray, List.size_toArray]; omega
  have hlong : ¬ (!its.toArray.isEmpty && Builtin.List.listTooLong (its.toArray.size + its2.toArray.size)) = true := by
    rw [notLongL hsz, Bool.and_false]
    exact Bool.false_ne_true
  refine call_meets F.slot_list_extend ⟨_, e, rfl⟩ F.entry_list_extend (F.args_list_extend_2 _ _)
    (AutoSeq1.list_extend_list_list_0 l its.toArray n b its2.toArray n2 hlong (by rw [List.size_toArray]; omega) (by omega)) ⟨e, e2, ?_⟩
  refine ⟨.non, _, I.lset (its' := its ++ its2) hH e (by simp) (r.append r2) ?_, rfl, q⟩
  rw [List.length_append]
  omega
def rPop : V → List V → Hp → VK → Prop := fun x vs H Q => ∃ l xs y, x = .ref l ∧ vs = [] ∧ H l = some (.lst xs) ∧ xs[xs.length - 1]? = some y ∧ Q y (upd H l (.lst xs.dropLast))
theorem mt_pop : MtM X "list.pop" rPop := by
  intro pins s σ H x vs v us Q I rx rv h
  obtain ⟨l, xs, y, rfl, rfl, hH, hy, q⟩ := h
  cases rx
  have hus := rv.zero
  subst hus
  obtain ⟨z, its, n, r, hl, e⟩ := I.lstM hH
  obtain ⟨u, hu, ru⟩ := r.get hy
  have hy' : its.toArray[its.toArray.size - 1]? = some u := by
    show its.toArray[its.length - 1]? = some u
    rw [← Array.getElem?_toList, ← hl]
    exact hu
  refine call_meets F.slot_list_pop ⟨_, e, rfl⟩ F.entry_list_pop (F.args_list_pop_1 _) (MeetsSeq.list_pop_last l its.toArray n u hy' (by rw [List.size_toArray]; omega)) ⟨e, ?_⟩
  refine ⟨y, _, I.lset (its' := its.dropLast) hH e ?_ r.dropLast ?_, ru, q⟩
  · show its.toArray.eraseIdxIfInBounds (its.toArray.size - 1) = its.dropLast.toArray
    rw [List.size_toArray, List.eraseIdxIfInBounds_toArray, erase_last]
  · rw [List.length_dropLast]
    omega
def rPopAt : V → List V → Hp → VK → Prop := fun x vs H Q => ∃ l xs i k y, x = .ref l ∧ vs = [.int i] ∧ H l = some (.lst xs) ∧ -(2 ^ 63) ≤ i ∧ i < 2 ^ 63 ∧ seqIndex? i xs.length = some k ∧ xs[k]? = some y ∧ Q y (upd H l (.lst (xs.eraseIdx k)))
theorem mt_popAt : MtM X "list.pop" rPopAt := by
  intro pins s σ H x vs v us Q I rx rv h
  obtain ⟨l, xs, i, k, y, rfl, rfl, hH, h1, h2, hk, hy, q⟩ := h
  cases rx
  obtain ⟨u, rfl, ru⟩ := rv.one
  obtain ⟨t, rfl⟩ := ru
  obtain ⟨z, its, n, r, hl, e⟩ := I.lstM hH
  obtain ⟨w, hw, rw'⟩ := r.get hy
  refine call_meets F.slot_list_pop ⟨_, e, rfl⟩ F.entry_list_pop (F.args_list_pop_2 _ _)
    (MeetsSeq.list_pop_at l its.toArray n i t k w (fitsIndex_both h1 h2) (by rw [List.size_toArray, ← hl]; exact hk) (by rw [← Array.getElem?_toList]; exact hw) (by rw [List.size_toArray]; omega)) ⟨e, ?_⟩
  refine ⟨y, _, I.lset (its' := its.eraseIdx k) hH e ?_ (r.eraseIdx k) ?_, rw', q⟩
  · show its.toArray.eraseIdxIfInBounds k = (its.eraseIdx k).toArray
    rw [List.eraseIdxIfInBounds_toArray]
  · have := len_erase xs k
    omega
def rReverse : V → List V → Hp → VK → Prop := fun x vs H Q => ∃ l xs, x = .ref l ∧ vs = [] ∧ H l = some (.lst xs) ∧ Q .non (upd H l (.lst xs.reverse))
theorem mt_reverse : MtM X "list.reverse" rReverse := by
  intro pins s σ H x vs v us Q I rx rv h
  obtain ⟨l, xs, rfl, rfl, hH, q⟩ := h
  cases rx
  have hus := rv.zero
  subst hus
  obtain ⟨z, its, n, r, hl, e⟩ := I.lstM hH
  refine call_meets F.slot_list_reverse ⟨_, e, rfl⟩ F.entry_list_reverse (F.args_list_reverse_1 _) (AutoSeq1.list_reverse_list_0 l its.toArray n (by rw [List.size_toArray]; omega)) ⟨e, ?_⟩
  refine ⟨.non, _, I.lset (its' := its.reverse) hH e (by simp) r.reverse ?_, rfl, q⟩
  rw [List.length_reverse]
  omega
def rCat : R2 := fun x y H Q => ∃ l b xs zs, x = .ref l ∧ y = .ref b ∧ H l = some (.lst xs) ∧ H b = some (.lst zs) ∧ xs.length + zs.length ≤ sizeLine ∧ ∀ p, H p = none → Q (.ref p) (upd H p (.lst (xs ++ zs)))
theorem op_cat : OpR X (binaryOp .Add) rCat := by
  intro pins s σ H x y v u Q I rx ry h
  obtain ⟨l, b, xs, zs, rfl, rfl, hH, hB, hz, q⟩ := h
  cases rx
  cases ry
  obtain ⟨z, its, n, r, hl, e⟩ := I.lstM hH
  obtain ⟨z2, its2, n2, r2, hl2, e2⟩ := I.lstM hB
  refine PySem.P.add_list e e2 ?_ (by rw [List.size_toArray, List.size_toArray]; omega)
  have ea : its.toArray ++ its2.toArray = (its ++ its2).toArray := by simp
  rw [ea]
  exact ⟨.ref _, _, I.lnew (t' := s.toks) (r.append r2) (by rw [List.length_append]; omega), rfl, q _ I.fresh⟩
end
end L2
namespace L2
open PySem PySem.Spec PyProof.Rows
section
variable {κ : Type} [DecidableEq κ]
def valV (kvs : List (κ × V)) (k : κ) : Option V := (kvs.find? fun kv => decide (kv.1 = k)).map (·.2)
def putK (kvs : List (κ × V)) (k : κ) (v : V) : List (κ × V) :=
  if (kvs.any fun kv => decide (kv.1 = k)) = true then kvs.map (fun kv => if kv.1 = k then (kv.1, v) else kv) else kvs ++ [(k, v)]
theorem valV_nil {k : κ} : valV ([] : List (κ × V)) k = none := rfl
theorem valV_pos {p : κ × V} {r : List (κ × V)} {k : κ} (e : p.1 = k) : valV (p :: r) k = some p.2 := by simp [valV, List.find?_cons, e]
theorem valV_neg {p : κ × V} {r : List (κ × V)} {k : κ} (e : ¬ p.1 = k) : valV (p :: r) k = valV r k := by simp [valV, List.find?_cons, e]
theorem valV_any (k : κ) : ∀ kvs : List (κ × V), (kvs.any fun kv => decide (kv.1 = k)) = (valV kvs k).isSome
  | [] => rfl
  | p :: r => by
    rw [List.any_cons]
    by_cases e : p.1 = k
    · simp only [valV_pos e, decide_eq_true e, Bool.true_or, Option.isSome_some]
    · rw [valV_neg e, decide_eq_false e, Bool.false_or]; exact valV_any k r
theorem valV_map (k j : κ) (y : V) : ∀ kvs : List (κ × V), valV (kvs.map fun kv => if kv.1 = k then (kv.1, y) else kv) j = (valV kvs j).map fun x => if j = k then y else x
  | [] => rfl
  | p :: r => by
    have ih := valV_map k j y r
    rw [List.map_cons]
    by_cases h : p.1 = k
    · rw [if_pos h]
      by_cases e : p.1 = j
      · rw [valV_pos (p := (p.1, y)) e, valV_pos e, Option.map_some, if_pos (e.symm.trans h)]
      · rw [valV_neg (p := (p.1, y)) e, valV_neg e, ih]
    · rw [if_neg h]
      by_cases e : p.1 = j
      · rw [valV_pos (p := p) e, valV_pos e, Option.map_some, if_neg (fun z => h (e.trans z))]
      · rw [valV_neg (p := p) e, valV_neg e, ih]
theorem valV_snoc (k j : κ) (y : V) : ∀ kvs : List (κ × V), valV kvs k = none → valV (kvs ++ [(k, y)]) j = if j = k then some y else valV kvs j
  | [], _ => by
    by_cases e : k = j
    · rw [if_pos e.symm]; exact valV_pos (p := (k, y)) e
    · rw [if_neg (fun z => e z.symm)]; exact valV_neg (p := (k, y)) e
  | p :: r, hn => by
    rw [List.cons_append]
    have hk : ¬ p.1 = k := fun z => by rw [valV_pos z] at hn; cases hn
    rw [valV_neg hk] at hn
    have ih := valV_snoc k j y r hn
    by_cases e : p.1 = j
    · rw [valV_pos e, valV_pos e, if_neg (fun z => hk (e.trans z))]
    · rw [valV_neg e, valV_neg e, ih]
theorem valV_put (kvs : List (κ × V)) (k j : κ) (y : V) : valV (putK kvs k y) j = if j = k then some y else valV kvs j := by
  unfold putK
  by_cases a : (kvs.any fun kv => decide (kv.1 = k)) = true
  · rw [if_pos a, valV_map]
    rw [valV_any] at a
    by_cases e : j = k
    · obtain ⟨x, hx⟩ := Option.isSome_iff_exists.mp a
      rw [if_pos e, e, hx, Option.map_some, if_pos rfl]
    · rw [if_neg e]
      cases valV kvs j with
      | none => rfl
      | some x => rw [Option.map_some, if_neg e]
  · rw [if_neg a]
    refine valV_snoc k j y kvs ?_
    rw [valV_any] at a
    cases q : valV kvs k with
    | none => rfl
    | some x => rw [q] at a; exact (a rfl).elim
theorem length_putK (kvs : List (κ × V)) (k : κ) (v : V) : (putK kvs k v).length ≤ kvs.length + 1 := by
  unfold putK
  split
  · rw [List.length_map]; omega
  · rw [List.length_append, List.length_cons, List.length_nil]; omega
theorem RelO.isSome_eq {o : Option V} {u : Option Value} (r : RelO o u) : o.isSome = u.isSome := by
  cases o with
  | none => cases u with
    | none => rfl
    | some _ => exact (show False from r).elim
  | some _ => cases u with
    | none => exact (show False from r).elim
    | some _ => rfl
theorem RelO.getD {o : Option V} {u : Option Value} {d : V} {d' : Value} (r : RelO o u) (rd : RelV d d') : RelV (o.getD d) (u.getD d') := by
  cases o with
  | none => cases u with
    | none => exact rd
    | some _ => exact (show False from r).elim
  | some _ => cases u with
    | none => exact (show False from r).elim
    | some _ => exact r
theorem KV.val {kvs : List (κ × V)} {vs : List (κ × Value)} (r : KV kvs vs) (k : κ) : RelO (valV kvs k) (valueAt vs k) := by
  unfold KV at r
  induction r with
  | nil => exact True.intro
  | @cons p q ps qs h t ih =>
    obtain ⟨h1, h2⟩ := h
    by_cases e : p.1 = k
    · have e' : q.1 = k := h1.symm.trans e
      have b : valueAt (q :: qs) k = some q.2 := by simp [valueAt, List.find?_cons, e']
      rw [valV_pos e, b]; exact h2
    · have e' : ¬ q.1 = k := fun z => e (h1.trans z)
      have b : valueAt (q :: qs) k = valueAt qs k := by simp [valueAt, List.find?_cons, e']
      rw [valV_neg e, b]; exact ih
theorem KV.any {kvs : List (κ × V)} {vs : List (κ × Value)} (r : KV kvs vs) (k : κ) : (kvs.any fun kv => decide (kv.1 = k)) = vs.any fun kv => decide (kv.1 = k) := by
  unfold KV at r
  induction r with
  | nil => rfl
  | cons h t ih => rw [List.any_cons, List.any_cons, ih, h.1]
theorem KV.repl {kvs : List (κ × V)} {vs : List (κ × Value)} (r : KV kvs vs) (k : κ) {y : V} {u : Value} (ry : RelV y u) :
    KV (kvs.map fun kv => if kv.1 = k then (kv.1, y) else kv) (vs.map fun kv => if kv.1 = k then (kv.1, u) else kv) := by
  unfold KV at r ⊢
  induction r with
  | nil => exact .nil
  | @cons p q ps qs h t ih =>
    rw [List.map_cons, List.map_cons]
    refine .cons ?_ ih
    obtain ⟨h1, h2⟩ := h
    by_cases e : p.1 = k
    · rw [if_pos e, if_pos (h1.symm.trans e)]; exact ⟨h1, ry⟩
    · rw [if_neg e, if_neg (fun z => e (h1.trans z))]; exact ⟨h1, h2⟩
theorem KV.put {kvs : List (κ × V)} {vs : List (κ × Value)} (r : KV kvs vs) (k : κ) {y : V} {u : Value} (ry : RelV y u) : KV (putK kvs k y) (stored vs k u) := by
  unfold putK stored
  rw [r.any k]
  by_cases e : (vs.any fun kv => decide (kv.1 = k)) = true
  · rw [if_pos e, if_pos e]; exact r.repl k ry
  · rw [if_neg e, if_neg e]; exact Paired.snoc r ⟨rfl, ry⟩
theorem KV.length {kvs : List (κ × V)} {vs : List (κ × Value)} (r : KV kvs vs) : kvs.length = vs.length := Paired.length r
end
theorem kV_is {P : Program} {w : World} {k : Key} {u : Value} (r : RelV (kV k) u) : (mixKind P w).is k u = true := by
  cases k with
  | inl i => obtain ⟨t, e⟩ := (show ∃ t, u = Value.int i t from r); subst e; exact mixKind_int P w i t
  | inr x => obtain ⟨t, e⟩ := (show ∃ t, u = Value.str x t from r); subst e; exact mixKind_str P w x t
theorem items_are {P : Program} {w : World} : ∀ {ks : List Key} {us : List Value}, Vals (ks.map kV) us → ItemsAre (mixKind P w) ks us
  | [], _, r => by rw [List.map_nil] at r; cases r; exact .nil
  | k :: ks, _, r => by
    rw [List.map_cons] at r
    cases r with
    | cons h t => exact .cons (kV_is h) (items_are t)
abbrev KT (H : Hp) : List (List Key × V) → List (List Key × Addr × Value) → Prop := Paired fun p q => p.1 = q.1 ∧ H q.2.1 = some (.tup (p.1.map kV)) ∧ RelV p.2 q.2.2
theorem KT.val {H : Hp} {kvs : List (List Key × V)} {xs : List (List Key × Addr × Value)} (r : KT H kvs xs) (k : List Key) : RelO (valV kvs k) ((atKey xs k).map (·.2)) := by
  induction r with
  | nil => exact True.intro
  | @cons p q ps qs h t ih =>
    obtain ⟨h1, _, h2⟩ := h
    by_cases e : p.1 = k
    · have e' : q.1 = k := h1.symm.trans e
      have b : atKey (q :: qs) k = some q.2 := by simp [atKey, List.find?_cons, e']
      rw [valV_pos e, b]; exact h2
    · have e' : ¬ q.1 = k := fun z => e (h1.trans z)
      have b : atKey (q :: qs) k = atKey qs k := by simp [atKey, List.find?_cons, e']
      rw [valV_neg e, b]; exact ih
theorem KT.repl {H : Hp} {kvs : List (List Key × V)} {xs : List (List Key × Addr × Value)} (r : KT H kvs xs) (k : List Key) {y : V} {u : Value} (ry : RelV y u) :
    KT H (kvs.map fun kv => if kv.1 = k then (kv.1, y) else kv) (xs.map (putAt k u)) := by
  induction r with
  | nil => exact .nil
  | @cons p q ps qs h t ih =>
    rw [List.map_cons, List.map_cons]
    refine .cons ?_ ih
    obtain ⟨h1, h2, h3⟩ := h
    unfold putAt
    by_cases e : p.1 = k
    · rw [if_pos e, if_pos (h1.symm.trans e)]; exact ⟨h1, h2, ry⟩
    · rw [if_neg e, if_neg (fun z => e (h1.trans z))]; exact ⟨h1, h2, h3⟩
theorem KT.put {H : Hp} {kvs : List (List Key × V)} {xs : List (List Key × Addr × Value)} (r : KT H kvs xs) (k : List Key) {b : Addr} {y : V} {u : Value} (hb : H b = some (.tup (k.map kV))) (ry : RelV y u) :
    KT H (putK kvs k y) (storedH xs k b u) := by
  have e : (kvs.any fun kv => decide (kv.1 = k)) = (atKey xs k).isSome := by
    rw [valV_any, (r.val k).isSome_eq, Option.isSome_map]
  unfold putK storedH
  rw [e]
  by_cases q : (atKey xs k).isSome = true
  · rw [if_pos q, if_pos q]; exact r.repl k ry
  · rw [if_neg q, if_neg q]; exact Paired.snoc r ⟨rfl, hb, ry⟩
theorem KT.keeps {H H' : Hp} {kvs : List (List Key × V)} {xs : List (List Key × Addr × Value)} (r : KT H kvs xs) (ht : ∀ b ys, H b = some (.tup ys) → H' b = some (.tup ys)) : KT H' kvs xs :=
  Paired.mapP r fun _ _ z => ⟨z.1, ht _ _ z.2.1, z.2.2⟩
section
variable {P : Program} {w : World} {H : Hp} {h : Heap} {a : Addr}
theorem rd_of {u : HO} (ok : HOk P w H h) (e : Rd H a u) : ObjOk P w H h a u := e.ok ok
theorem dk_rd {kvs : List (Key × V)} (ok : HOk P w H h) (e : Rd H a (.dK kvs)) : kvs.length ≤ sizeLine ∧ (a == sysModules) = false ∧ ∃ vs, KV kvs vs ∧ h.DictOf (mixKind P w) a vs :=
  show ObjOk P w H h a (.dK kvs) from rd_of ok e
theorem dk_of {kvs : List (Key × V)} (ok : HOk P w H h) (e : H a = some (.dK kvs)) : kvs.length ≤ sizeLine ∧ (a == sysModules) = false ∧ ∃ vs, KV kvs vs ∧ h.DictOf (mixKind P w) a vs := dk_rd ok (.inl e)
theorem key_of {ks : List Key} (ok : HOk P w H h) (e : H a = some (.tup (ks.map kV))) : (tupleKind (mixKind P w)).is h ks a := by
  obtain ⟨_, its, r, o, h1, h2, n, h3⟩ := (show ObjOk P w H h a (.tup (ks.map kV)) from ok a _ e)
  exact ⟨o, its.toArray, n, h1, h2, h3, by simpa using items_are r⟩
theorem dt_rd {kvs : List (List Key × V)} (ok : HOk P w H h) (e : Rd H a (.dT kvs)) : kvs.length ≤ sizeLine ∧ (a == sysModules) = false ∧
    ∃ xs, KT H kvs xs ∧ h.DictOfH (tupleKind (mixKind P w)) a xs := by
  obtain ⟨z, y, xs, r, o, es, ep, h1, h2, h3, h4, h5⟩ := (show ObjOk P w H h a (.dT kvs) from rd_of ok e)
  refine ⟨z, y, xs, r, o, es, ep, h1, h2, h3, h4, fun x hx => ?_, h5⟩
  have all : ∀ {l : List (List Key × V)} {m : List (List Key × Addr × Value)}, KT H l m → ∀ x ∈ m, (tupleKind (mixKind P w)).is h x.1 x.2.1 := by
    intro l m q
    induction q with
    | nil => intro x hx; exact nomatch hx
    | @cons p q ps qs hq t ih =>
      intro x hx
      rcases List.mem_cons.mp hx with e | hx
      · subst e
        exact key_of ok (by rw [← hq.1]; exact hq.2.1)
      · exact ih x hx
  exact all r x hx
theorem dt_of {kvs : List (List Key × V)} (ok : HOk P w H h) (e : H a = some (.dT kvs)) : kvs.length ≤ sizeLine ∧ (a == sysModules) = false ∧
    ∃ xs, KT H kvs xs ∧ h.DictOfH (tupleKind (mixKind P w)) a xs := dt_rd ok (.inl e)
end
def DGet (H : Hp) (a : Addr) (y : V) (r : Option V) : Prop :=
  (∃ kvs k, Rd H a (.dK kvs) ∧ y = kV k ∧ r = valV kvs k) ∨ ∃ kvs k b, Rd H a (.dT kvs) ∧ y = .ref b ∧ H b = some (.tup (k.map kV)) ∧ r = valV kvs k
def DPut (H : Hp) (a : Addr) (y v : V) (H' : Hp) : Prop :=
  (∃ kvs k, H a = some (.dK kvs) ∧ y = kV k ∧ kvs.length < sizeLine ∧ H' = upd H a (.dK (putK kvs k v))) ∨
  ∃ kvs k b, H a = some (.dT kvs) ∧ y = .ref b ∧ H b = some (.tup (k.map kV)) ∧ kvs.length < sizeLine ∧ H' = upd H a (.dT (putK kvs k v))
theorem DGet.k {H : Hp} {a : Addr} {kvs : List (Key × V)} {k : Key} (e : H a = some (.dK kvs)) : DGet H a (kV k) (valV kvs k) := .inl ⟨kvs, k, .inl e, rfl, rfl⟩
theorem DPut.k {H : Hp} {a : Addr} {kvs : List (Key × V)} {k : Key} {v : V} (e : H a = some (.dK kvs)) (hl : kvs.length < sizeLine) : DPut H a (kV k) v (upd H a (.dK (putK kvs k v))) := .inl ⟨kvs, k, e, rfl, hl, rfl⟩
section
variable {X : Cx} {pins : List (Addr × Obj)} {σ : St} {H : Hp} {s : Shared} {a : Addr} {y v : V} {u r : Value} {o : Option V} {A : Around} {E : Value → Shared → Prop}
theorem Inv.big (I : Inv X pins σ H s) : sysModules < s.heap.objs.size := by
  have h : mainGlobals < s.heap.objs.size := (I.mod.glob.keeps I.bk).lt
  exact Nat.lt_trans (by decide) h
theorem d_getItem {Q : Value → Shared → Prop} (hu : A.units + 1 < cLine) (I : Inv X pins σ H s) (g : DGet H a y (some v)) (ry : RelV y u) (h : ∀ w' s', Inv X pins σ H s' → RelV v w' → Q w' s') :
    wpAny (model X.prog X.w) A (getItem (.ref a) u) Q E s := by
  rcases g with ⟨kvs, k, e, ey, l⟩ | ⟨kvs, k, b, e, ey, eb, l⟩
  · subst ey
    obtain ⟨z, hd, vs, rel, dd⟩ := dk_rd I.hok e
    obtain ⟨w', hw, rw'⟩ := RelO.some_of (v := v) (o := valueAt vs k) (by rw [l]; exact rel.val k)
    exact wpAny_getItem_of (kV_is ry) dd.mapOf hw (h w' _ (I.tok _) rw')
  · subst ey
    cases (show u = Value.ref b from ry)
    obtain ⟨z, hd, xs, rel, dd⟩ := dt_rd I.hok e
    obtain ⟨w', hw, rw'⟩ := RelO.some_of (v := v) (o := (atKey xs k).map (·.2)) (by rw [l]; exact rel.val k)
    obtain ⟨p, hp, hp2⟩ := Option.map_eq_some_iff.mp hw
    refine wpAny_getItem_heap (tupleKind_room_in1 hu) (key_of I.hok eb) dd hp ?_
    rw [hp2]
    exact h w' _ (I.tok _) rw'
theorem d_write {h' : Heap} {t' : Nat} {ob : HO} (I : Inv X pins σ H s) (mu : Mut (H a)) (hs : Heap.SameBut a s.heap h') (he : ∃ q, h'.get? a = some q) (new : ObjOk X.prog X.w (upd H a ob) h' a ob) :
    Inv X pins σ (upd H a ob) { s with heap := h', toks := t' } :=
  I.write (x := a) (e := a) mu (.inl rfl) (fun b q hb z => (hs.2 b hb).trans z) he new
theorem dk_new {P : Program} {w : World} {H' : Hp} {h' : Heap} {kvs : List (Key × V)} {vs : List (Key × Value)} (z : kvs.length ≤ sizeLine) (hd : (a == sysModules) = false) (rel : KV kvs vs) (dd : h'.DictOf (mixKind P w) a vs) :
    ObjOk P w H' h' a (.dK kvs) := ⟨z, hd, vs, rel, dd⟩
theorem d_setItem {H' : Hp} {Q : Unit → Shared → Prop} (hu : A.units + 1 < cLine) (I : Inv X pins σ H s) (g : DPut H a y v H') (ry : RelV y u) (rv : RelV v r) (h : ∀ s', Inv X pins σ H' s' → Q () s') :
    wpAny (model X.prog X.w) A (setItem (.ref a) u r) Q E s := by
  rcases g with ⟨kvs, k, e, ey, l, eH⟩ | ⟨kvs, k, b, e, ey, eb, l, eH⟩
  · subst ey eH
    obtain ⟨z, hd, vs, rel, dd⟩ := dk_of I.hok e
    have hz : vs.length ≤ sizeLine := by rw [← rel.length]; exact z
    have hl : (putK kvs k v).length ≤ sizeLine := by have := length_putK kvs k v; omega
    refine wpAny_setItem_pairs (hsz := hz) (kV_is ry) dd fun h' dd' hs => h _ ?_
    have he : ∃ q, h'.get? a = some q := let ⟨q, _, _, hq, _⟩ := dd'; ⟨q, hq⟩
    exact d_write I (by rw [e]; exact True.intro) hs he (dk_new hl hd (rel.put k rv) dd')
  · subst ey eH
    cases (show u = Value.ref b from ry)
    obtain ⟨z, hd, xs, rel, dd⟩ := dt_of I.hok e
    have hz : xs.length ≤ sizeLine := by rw [← Paired.length rel]; exact z
    have hl : (putK kvs k v).length ≤ sizeLine := by have := length_putK kvs k v; omega
    refine wpAny_setItem_heap (hsz := hz) (tupleKind_room_in1 hu) (key_of I.hok eb) dd fun h' dd' hs => h _ ?_
    obtain ⟨q, es, ep, hq, h2, h3, h4, _, h5⟩ := dd'
    refine d_write I (by rw [e]; exact True.intro) hs ⟨q, hq⟩ ⟨hl, hd, _, (rel.put k eb rv).keeps fun c ys ec => ?_, q, es, ep, hq, h2, h3, h4, h5⟩
    rw [upd_ne (ne_of ec e (fun z => nomatch z))]
    exact ec
end
def NoSl (i : Expr) : Prop := ∀ ov iv, subscripted i false ov iv = operate [ov, iv] (getItem ov iv)
theorem subD_of {prog : Program} {w : World} {A : Around} {E : Value → Shared → Prop} {s : Shared} {env : Env} {value slice : Expr} {pos : Pos} {T id : String} {Q : Value → Shared → Prop}
    (hl : typeLookup (.type T) "__getitem__" = pure (some (.builtin id))) (hs : NoSl slice)
    (h : wpAny (model prog w) A (eval value env) (fun o s₁ => wpAny (model prog w) A (eval slice env) (fun i s₂ => s₂.TypeIs o T ∧ wpAny (model prog w) A (getItem o i) Q E s₂) E s₁) E s) :
    wpAny (model prog w) A (eval (.Subscript value slice pos) env) Q E s := by
  refine Subscript_ (wpAny_mono h (fun o s₁ h₁ => wpAny_mono h₁ (fun i s₂ h₂ => ?_) fun _ _ x => x) fun _ _ x => x)
  obtain ⟨hT, h₂⟩ := h₂
  unfold subscriptTail
  refine wpAny_bind ?_
  rw [getitemInPython_of_ne hT.not_modules]
  refine wpAny_bind (wpAny_specialOf hT hl ?_)
  have fin : wpAny (model prog w) A (subscripted slice false o i) (fun r s₃ => wpAny (model prog w) A (letTemporaryGo value o r >>= fun _ => pure r) Q E s₃) E s₂ := by
    rw [hs o i]
    exact wpAny_operating (wpAny_mono h₂ (fun r s₃ h₃ => wpAny_bind (wpAny_letTemporaryGo (wpAny_pure h₃))) fun _ _ x => x)
  first
    | exact wpAny_pure (wpAny_bind fin)
    | exact wpAny_bind (wpAny_pure (wpAny_bind fin))
    | exact wpAny_bind fin
theorem dict_typeIs {X : Cx} {pins : List (Addr × Obj)} {σ : St} {H : Hp} {s : Shared} {a : Addr} {y : V} {o : Option V} (I : Inv X pins σ H s) (g : DGet H a y o) : s.TypeIs (.ref a) "dict" := by
  rcases g with ⟨kvs, k, e, _, _⟩ | ⟨kvs, k, b, e, _, _, _⟩
  · obtain ⟨_, _, vs, _, dd⟩ := dk_rd I.hok e
    exact dd.typeIs
  · obtain ⟨_, _, xs, _, dd⟩ := dt_rd I.hok e
    exact dd.typeIs
def tDGet (td ty : TE) : TE := fun σ H Q => td σ H fun x H1 => ty σ H1 fun y H2 => ∃ a v, x = .ref a ∧ DGet H2 a y (some v) ∧ Q v H2
def sDPut (td ty tv : TE) : TS := fun D σ H => tv σ H fun v H1 => td σ H1 fun x H2 => ty σ H2 fun y H3 => ∃ a H4, x = .ref a ∧ DPut H3 a y v H4 ∧ D.nx σ H4
section
variable {X : Cx} {o i e value : Expr} {pos pos' tpos : Pos} {td ty tv : TE}
theorem pe_dget (hu : X.A.units + 1 < cLine) (ho : PE X o td) (hi : PE X i ty) (hs : NoSl i) : PE X (.Subscript o i pos) (tDGet td ty) := by
  intro pins s σ H Q I h
  refine subD_of PySem.F.slot_dict_getitem.lookup hs (thn (ho pins s σ H _ I h) fun u s1 ⟨x, H1, I1, rx, q1⟩ => thn (hi pins s1 σ H1 _ I1 q1) fun iv s2 ⟨y, H2, I2, ry, a, v, ex, g, q2⟩ => ?_)
  subst ex
  obtain rfl : u = Value.ref a := rx
  exact ⟨dict_typeIs I2 g, d_getItem hu I2 g ry fun w' s3 I3 rw' => ⟨v, H2, I3, rw', q2⟩⟩
theorem ps_dput (hu : X.A.units + 1 < cLine) (ho : PE X o td) (hi : PE X i ty) (hv : PE X value tv) (hs : swapsWith value (some (.Subscript o i pos')) pos.line X.env = pure false) :
    PS X (.Assign [.Subscript o i pos'] value pos) (sDPut td ty tv) := by
  intro pins s σ H D I h
  refine wpAny_Assign_Subscript (thn (hv pins s σ H _ I h) fun r s1 ⟨v, H1, I1, rv, q1⟩ => thn (ho pins s1 σ H1 _ I1 q1) fun u s2 ⟨x, H2, I2, rx, q2⟩ => thn (hi pins s2 σ H2 _ I2 q2) fun iv s3 ⟨y, H3, I3, ry, a, H4, ex, g, q3⟩ => ?_) hs
  subst ex
  obtain rfl : u = Value.ref a := rx
  exact d_setItem hu I3 g ry rv fun s4 I4 => ⟨σ, H4, I4, q3⟩
end
theorem dk_empty {P : Program} {w : World} {H : Hp} (h : Heap) (hb : sysModules < h.objs.size) : ObjOk P w H (h.push { cls := .type "dict", data := .dict #[] }) h.objs.size (.dK []) :=
  ⟨Nat.zero_le _, beq_eq_false_iff_ne.mpr (Ne.symm (Nat.ne_of_lt hb)), [], .nil, Heap.DictOf.new h⟩
def tDNewK : TE := fun _ H Q => ∀ p, H p = none → Q (.ref p) (upd H p (.dK []))
section
variable {X : Cx} {pos : Pos}
theorem pe_dnewK : PE X (.Dict [] [] pos) tDNewK := fun pins s σ H Q I h =>
  wpAny_Dict_empty ⟨.ref s.heap.objs.size, _, I.laid (a := s.heap.objs.size) (o := .dK []) (t' := s.toks) (fun _ _ q => Heap.get?_push_of_some _ q) (Nat.le_refl _) (dk_empty s.heap I.big), rfl, h _ (I.hok.fresh (Nat.le_refl _))⟩
end
def tPairs : List (TE × TE) → St → Hp → (List (V × V) → Hp → Prop) → Prop
  | [], _, H, Q => Q [] H
  | (tk, tv) :: r, σ, H, Q => tk σ H fun x H1 => tv σ H1 fun y H2 => tPairs r σ H2 fun ps H3 => Q ((x, y) :: ps) H3
abbrev VV : List (V × V) → List (Value × Value) → Prop := Paired fun p q => RelV p.1 q.1 ∧ RelV p.2 q.2
def PPs (X : Cx) (pos : Pos) (keys : List (Option Expr)) (values : List Expr) (trs : List (TE × TE)) : Prop :=
  ∀ (pins : List (Addr × Obj)) (s : Shared) (σ : St) (H : Hp) (Q : List (V × V) → Hp → Prop), Inv X pins σ H s → tPairs trs σ H Q →
    wpAny (model X.prog X.w) X.A (evalPairs (pairTrees keys values X.env pos)) (fun vs s' => ∃ ps H', Inv X pins σ H' s' ∧ VV ps vs ∧ Q ps H') X.xe s
theorem pps_nil {X : Cx} {pos : Pos} : PPs X pos [] [] [] := fun pins s σ H Q I h => pairTrees_nil_walk ⟨[], H, I, .nil, h⟩
theorem pps_cons {X : Cx} {pos : Pos} {k v : Expr} {ks : List (Option Expr)} {vs : List Expr} {tk tv : TE} {trs : List (TE × TE)} (hk : PE X k tk) (hv : PE X v tv) (hr : PPs X pos ks vs trs) :
    PPs X pos (some k :: ks) (v :: vs) ((tk, tv) :: trs) := fun pins s σ H Q I h =>
  pairTrees_cons_walk (thn (hk pins s σ H _ I h) fun u s1 ⟨x, H1, I1, rx, q1⟩ => thn (hv pins s1 σ H1 _ I1 q1) fun w2 s2 ⟨y, H2, I2, ry, q2⟩ =>
    thn (hr pins s2 σ H2 _ I2 q2) fun ws s3 ⟨ps, H3, I3, rel, q3⟩ => ⟨(x, y) :: ps, H3, I3, .cons ⟨rx, ry⟩ rel, q3⟩)
def mergeK (kvs more : List (Key × V)) : List (Key × V) := more.foldl (fun acc kv => putK acc kv.1 kv.2) kvs
theorem KV.merge : ∀ {more : List (Key × V)} {rs : List (Key × Value)} {kvs : List (Key × V)} {vs : List (Key × Value)}, KV more rs → KV kvs vs → KV (mergeK kvs more) (merged vs rs) := by
  intro more rs kvs vs r
  unfold KV at r
  induction r generalizing kvs vs with
  | nil => intro q; exact q
  | @cons p q ps qs h t ih =>
    intro r0
    have e : KV (putK kvs p.1 p.2) (stored vs q.1 q.2) := by
      have := r0.put p.1 h.2
      rw [← h.1]; exact this
    exact ih e
theorem length_mergeK : ∀ (more kvs : List (Key × V)), (mergeK kvs more).length ≤ kvs.length + more.length
  | [], kvs => by show kvs.length ≤ kvs.length + 0; omega
  | p :: r, kvs => by
    have h1 := length_mergeK r (putK kvs p.1 p.2)
    have h2 := length_putK kvs p.1 p.2
    show (mergeK (putK kvs p.1 p.2) r).length ≤ _
    rw [List.length_cons]; omega
theorem carries_of {P : Program} {w : World} : ∀ {kvs : List (Key × V)} {ws : List (Value × Value)}, VV (kvs.map fun kv => (kV kv.1, kv.2)) ws → ∃ rs, Carries (mixKind P w) ws rs ∧ KV kvs rs
  | [], _, r => by rw [List.map_nil] at r; cases r; exact ⟨[], True.intro, .nil⟩
  | p :: kvs, _, r => by
    rw [List.map_cons] at r
    cases r with
    | @cons a b as bs h t =>
      obtain ⟨rs, c, q⟩ := carries_of (P := P) (w := w) t
      obtain ⟨b1, b2⟩ := b
      exact ⟨(p.1, b2) :: rs, ⟨kV_is h.1, rfl, c⟩, .cons ⟨rfl, h.2⟩ q⟩
def tDisp (trs : List (TE × TE)) : TE := fun σ H Q => ∀ p, H p = none → tPairs trs σ (upd H p (.dK [])) fun ps H2 => H2 p = some (.dK []) ∧ ∃ kvs : List (Key × V), ps = kvs.map (fun kv => (kV kv.1, kv.2)) ∧ kvs.length ≤ 15 ∧ Q (.ref p) (upd H2 p (.dK (mergeK [] kvs)))
theorem pe_disp {X : Cx} {pos : Pos} {keys : List (Option Expr)} {values : List Expr} {trs : List (TE × TE)} (h : PPs X pos keys values trs) (hall : keys.all (·.isSome) = true) (hl : keys.length = values.length) (h0 : keys ≠ [])
    (h15 : keys.length ≤ 15) : PE X (.Dict keys values pos) (tDisp trs) := by
  intro pins s σ H Q I q
  have hn := I.hok.fresh (Nat.le_refl s.heap.objs.size)
  have I1 := I.laid (a := s.heap.objs.size) (o := .dK []) (h' := s.heap.push { cls := .type "dict", data := .dict #[] }) (t' := s.toks) (fun _ _ q => Heap.get?_push_of_some _ q) (Nat.le_refl _) (dk_empty s.heap I.big)
  refine wpAny_Dict_walk (knd := mixKind X.prog X.w) hall hl h0 h15 (thn (h pins _ σ _ _ I1 (q _ hn)) fun ws s2 ⟨ps, H2, I2, rel, e, kvs, ep, lk, q2⟩ => ?_)
  subst ep
  obtain ⟨rs, c, rk⟩ := carries_of (P := X.prog) (w := X.w) rel
  obtain ⟨z, hd, vs0, r0, dd⟩ := dk_of I2.hok e
  cases r0
  refine ⟨rs, c, dd, fun h' dd' hs => ⟨.ref s.heap.objs.size, _, ?_, rfl, q2⟩⟩
  have hz : (mergeK [] kvs).length ≤ sizeLine := by
    have h1 := length_mergeK kvs []
    rw [List.length_nil] at h1
    rw [sizeLine_eq]; omega
  have he : ∃ q, h'.get? s.heap.objs.size = some q := let ⟨q, _, _, hq, _⟩ := dd'; ⟨q, hq⟩
  exact d_write I2 (by rw [e]; exact True.intro) hs he (dk_new hz hd (rk.merge .nil) dd')
structure M1 (X : Cx) (o : Expr) (m : Str) (apos : Pos) (e : Expr) (cpos : Pos) : Prop where
  base : attributeBase o m X.env (eval o X.env) = eval o X.env
  few : ((backTo cpos (starEach [e] X.env)).all (fun x => !x.1) && (backToKw cpos (keywordEach [] X.env)).all (fun x => x.1.isSome)
    && decide (([e] : List Expr).length + ([] : List Keyword).length + (if ([] : List Keyword).isEmpty then 0 else 1) < 30)) = true
  line : (apos.endLine == cpos.line) = true
  trees : backTo cpos (starEach [e] X.env) = [(false, eval e X.env)]
structure M2 (X : Cx) (o : Expr) (m : Str) (apos : Pos) (e f : Expr) (cpos : Pos) : Prop where
  base : attributeBase o m X.env (eval o X.env) = eval o X.env
  few : ((backTo cpos (starEach [e, f] X.env)).all (fun x => !x.1) && (backToKw cpos (keywordEach [] X.env)).all (fun x => x.1.isSome)
    && decide (([e, f] : List Expr).length + ([] : List Keyword).length + (if ([] : List Keyword).isEmpty then 0 else 1) < 30)) = true
  line : (apos.endLine == cpos.line) = true
  trees : backTo cpos (starEach [e, f] X.env) = [(false, eval e X.env), (false, eval f X.env)]
def IsD (H : Hp) (a : Addr) : Prop := (∃ kvs, Rd H a (.dK kvs)) ∨ ∃ kvs, Rd H a (.dT kvs)
theorem isD_at {X : Cx} {pins : List (Addr × Obj)} {σ : St} {H : Hp} {s : Shared} {a : Addr} (I : Inv X pins σ H s) (d : IsD H a) :
    s.TypeIs (.ref a) "dict" ∧ (∀ b, Value.ref a = .ref b → ∃ ob, s.heap.get? b = some ob ∧ ob.dict = none) ∧ (a == sysModules) = false := by
  rcases d with ⟨kvs, e⟩ | ⟨kvs, e⟩
  · obtain ⟨_, hd, vs, _, dd⟩ := dk_rd I.hok e
    refine ⟨dd.typeIs, fun b q => ?_, hd⟩
    cases q
    obtain ⟨ob, _, _, h1, h2, _⟩ := dd
    exact ⟨ob, h1, h2.2.1⟩
  · obtain ⟨_, hd, xs, _, dd⟩ := dt_rd I.hok e
    refine ⟨dd.typeIs, fun b q => ?_, hd⟩
    cases q
    obtain ⟨ob, _, _, h1, h2, _⟩ := dd
    exact ⟨ob, h1, h2.2.1⟩
section
variable {X : Cx} {pins : List (Addr × Obj)} {σ : St} {H : Hp} {s : Shared} {a : Addr} {y d : V} {u r : Value} {o : Option V} {A : Around} {E : Value → Shared → Prop}
theorem d_get2 {Q : Value → Shared → Prop} (hu : A.units + 1 < cLine) (I : Inv X pins σ H s) (g : DGet H a y o) (ry : RelV y u) (rd : RelV d r) (h : ∀ w' s', Inv X pins σ H s' → RelV (o.getD d) w' → Q w' s') :
    wpAny (model X.prog X.w) A (call (.builtin "dict.get") [.ref a, u, r]) Q E s := by
  rcases g with ⟨kvs, k, e, ey, l⟩ | ⟨kvs, k, b, e, ey, eb, l⟩
  · subst ey
    obtain ⟨z, hd, vs, rel, dd⟩ := dk_rd I.hok e
    refine call_meetsIn PySem.F.slot_dict_get dd.typeIs PySem.F.entry_dict_get (PySem.F.args_dict_get_3 _ _ _) (meets_dict_get_default (mixKind X.prog X.w) a (kV_is ry) hd r) ⟨_, dd.mapOf, h _ _ (I.tok _) ?_⟩
    rw [l]
    exact (rel.val k).getD rd
  · subst ey
    cases (show u = Value.ref b from ry)
    obtain ⟨z, hd, xs, rel, dd⟩ := dt_rd I.hok e
    refine call_meetsIn PySem.F.slot_dict_get dd.typeIs PySem.F.entry_dict_get (PySem.F.args_dict_get_3 _ _ _) (meetsH_dict_get_default (tupleKind (mixKind X.prog X.w)) a b hd r) ⟨tupleKind_room_in1 hu, k, xs, key_of I.hok eb, dd, h _ _ (I.tok _) ?_⟩
    rw [l]
    exact (rel.val k).getD rd
end
def tDGet2 (td ty tx : TE) : TE := fun σ H Q => td σ H fun x H1 => ∃ a, x = .ref a ∧ IsD H1 a ∧ ty σ H1 fun y H2 => tx σ H2 fun z H3 => ∃ o, DGet H3 a y o ∧ Q (o.getD z) H3
section
variable {X : Cx} {o e f : Expr} {apos cpos : Pos} {td ty tx : TE}
theorem pe_dget2 (hu : X.A.units + 1 < cLine) (ho : PE X o td) (he : PE X e ty) (hf : PE X f tx) (m : M2 X o "get" apos e f cpos) : PE X (.Call (.Attribute o "get" apos) [e, f] [] cpos) (tDGet2 td ty tx) := by
  intro pins s σ H Q I h
  refine wpAny_Call_method m.base m.few m.line PySem.F.plainAttrs_dict PySem.F.slot_dict_get PySem.F.type_dict_get (thn (ho pins s σ H _ I h) fun u s1 ⟨x, H1, I1, rx, a, ex, d, q1⟩ => ?_)
  subst ex
  obtain rfl : u = Value.ref a := rx
  obtain ⟨t1, t2, _⟩ := isD_at I1 d
  refine ⟨t1, t2, ?_⟩
  rw [m.trees]
  refine Calls.callWith_builtin rfl (Calls.evalArgs_plain (Calls.spliced_cons (thn (he pins s1 σ H1 _ I1 q1) fun iv s2 ⟨y, H2, I2, ry, q2⟩ =>
    Calls.spliced_cons (thn (hf pins s2 σ H2 _ I2 q2) fun fv s3 ⟨z, H3, I3, rz, ov, g, q3⟩ => Calls.spliced_nil ?_))))
  exact d_get2 hu I3 g ry rz fun w' s4 I4 rw' => ⟨_, H3, I4, rw', q3⟩
end
end L2
namespace Att
open PySem PySem.W PySem.Calls PyProof.Rows
theorem ints_of_wellAll {P : Params} {h : Heap} : ∀ (ns : List Int) (vs : List Value), WellAll P h vs (ns.map WData.int) → IntsAre vs ns := by
  intro ns
  induction ns with
  | nil =>
    intro vs w
    rw [List.map_nil] at w
    cases w
    exact .nil
  | cons n ns ih =>
    intro vs w
    rw [List.map_cons] at w
    cases w with
    | cons a b =>
      cases a
      exact .cons _ _ (ih _ b)
theorem script_of {l : OpenLaw} {n : Nat} (hn : l.most = some n) {P : Params} {h : Heap} {args : List WData} {vals : List Value}
    (hpre : l.row.toRowW.claim.pre args = true) (hwl : WellAll P h vals args) :
    ∃ a vs ns, vals = [Value.ref a] ∧ args = [WData.list (ns.map WData.int)] ∧ h.get? a = some { cls := .type "list", data := .seq vs.toArray } ∧ IntsAre vs ns ∧ ns.length ≤ n := by
  have hsh : WShape.hasAll [] args [.list .int] = true := (pre_splitW hpre).1
  have hc : l.pre.holds [] { args := args } = true := (pre_splitW hpre).2
  obtain ⟨d, r, rfl, h1, h2⟩ := hasAllW_cons hsh
  obtain rfl := hasAllW_nil h2
  obtain ⟨xs, rfl, h3⟩ := hasW_list h1
  obtain ⟨ns, rfl⟩ := items_int h3
  have hlen : ns.length ≤ n := by
    unfold OpenLaw.pre at hc
    have h4 : (WTm.not (.lt (.lit (.int (n : Int))) (.len (.arg 0)))).holds [] { args := [.list (ns.map .int)] } = true := by
      have h4 := (holds_andW hc).1
      rw [hn] at h4
      exact h4
    have h5 := condW_of h4 (w_not (w_lt w_lit (w_len_list (w_arg rfl))))
    rw [List.length_map] at h5
    refine Nat.le_of_not_lt fun q => ?_
    have q' : (n : Int) < ((ns.length : Nat) : Int) := by omega
    first
      | (rw [decide_eq_true q'] at h5; exact absurd h5 (by decide))
      | (simp at h5; omega)
  cases hwl with
  | cons w1 w2 =>
    cases w2
    cases w1 with
    | list ho hall => exact ⟨_, _, ns, rfl, rfl, ho, ints_of_wellAll ns _ hall, hlen⟩
theorem post_true (l : OpenLaw) (args : List WData) : l.row.toRowW.claim.post args (.bool true) args = true :=
  postW_of (r := l.row.toRowW) (X := (true == true))
    (show WShape.has [] (.bool true) .bool = true by first | rfl | decide | simp [WShape.has, WShape.arms, WShape.armsAll])
    (show (WTm.eq .res (.lit (.bool true))).value [] { args := args, res := some (.bool true), after := args } = some (.bool (true == true)) from w_eq_bool (w_res rfl) w_lit) rfl
theorem attach_call {l : OpenLaw} {n : Nat} {q : Program} {loose : List Str} {XP : (Str → Option Value) → Heap → Prop} {YP : World → Heap → Prop} {d : DefRec}
    (hn : l.most = some n) (hdf : d.params.defaults = [])
    (call : ∀ (w : World) (s₀ s₁ : Shared) (mg mb : Str → Option Value) (fa : Addr) (o : Obj) (pm cd doc : Value) (a : Addr) (vs : List Value) (ns : List Int),
      Ground q loose [] XP w s₀ mg mb s₁.heap → YP w s₁.heap →
      s₁.heap.get? fa = some o → o.data = .func (docDef d.name d.params d.body d.scope pm cd doc) → s₁.heap.CodeRec cd d.name → mg d.name = some (.ref fa) →
      s₁.heap.get? a = some { cls := .type "list", data := .seq vs.toArray } → IntsAre vs ns → ns.length ≤ n → s₁.gens = #[] →
      codeAny (model l.prog w) callerA (.call (.ref fa) ⟨[.ref a], []⟩) (fun r s' => r = .ok (.ret (.bool true)) ∧ OldK s₁.heap s'.heap ∧ s'.os = s₁.os ∧ AllBare s'.gens) s₁) :
    WalkO q loose XP YP l.row.toRowW d [] (fun f vs => PySem.call f vs) := by
  intro w s₀ s₁ mg mb G Y fa o pm cd doc dV kV ho hd hcd hD hmg hg args vals as hpre hlay hrd hwl hlo
  obtain rfl : dV = .none := Dflts.none hD hdf
  obtain rfl : kV = .none := Dflts.noKw hD
  obtain ⟨a, vs, ns, rfl, rfl, hobj, hints, hlen⟩ := script_of hn hpre hwl
  refine enter_call (codeAny_mono (call w s₀ s₁ mg mb fa o pm cd doc a vs ns G Y ho (fd_plain hd) hcd hmg hobj hints hlen hg) fun r s' hq => ?_)
  obtain ⟨rfl, h2, h3, h4⟩ := hq
  exact ⟨.inl ⟨.bool true, .bool true, [], rfl, fun _ => rfl, .bool true, post_true l _, fun _ => ⟨List.Pairwise.nil, fun _ hm => (nomatch hm)⟩⟩, h2, h3, h4⟩
section
variable {prog : Program} {w : World} {A : Around} {E : Value → Shared → Prop} {s : Shared} {K : Frag}
def ledger (h : Heap) (L d : Addr) : List (Addr × Obj) := (List.range h.objs.size).filterMap fun a => if a = L ∨ a = d then none else (h.get? a).map fun o => (a, o)
end
end Att
namespace L2
open PySem PySem.Spec PyProof.Rows
theorem vals_ints : ∀ {vs : List Value} {ns : List Int}, IntsAre vs ns → Vals (ns.map V.int) vs
  | _, _, .nil => .nil
  | _, _, .cons n t h => .cons ⟨t, rfl⟩ (vals_ints h)
def Only (H : Hp) : Prop := ∀ b, H b = none ∨ ∃ o xs, H b = some (.frz o (.lst xs))
theorem law_call {P : Program} {w : World} {K : PySem.W.Frag} {mg mb : Str → Option Value} {CX : CXT} {k : Nat} {fa a : Addr} {fd : FuncData} {x : Str} {sp : Sp} {s₁ : Shared} {vs : List Value} {ns : List Int}
    (KX : K.In s₁.heap) (hns : s₁.heap.Ns mainGlobals mg) (hb : s₁.heap.Ns builtinsNs mb) (hbb : ∀ x : Str, x ≠ "__name__" → mb x = bootBuiltins x) (hlim : s₁.heap.NoLimit) (hg : s₁.gens = #[])
    (ha : s₁.heap.get? a = some { cls := .type "list", data := .seq vs.toArray }) (hi : IntsAre vs ns) (hl : ns.length ≤ sizeLine) (hr : Room k callerA)
    (F : ∀ base : Heap, K.In base → base.Ns mainGlobals mg → FnOk P w K mg base CX k fa fd [x] sp) (hbind : ∀ (s : Shared) (u : Value), BindsTo s fd ⟨[u], []⟩ [(x, u)])
    (hsp : ∀ H : Hp, Only H → SqL K H a (ns.map V.int) → sp [.ref a] H (fun v _ => v = .bl true) fun _ _ _ => False)
    (hCX : ∀ H e s', CX [] H s₁ (fun _ _ _ => False) e s' → False) :
    codeAny (model P w) callerA (.call (.ref fa) ⟨[.ref a], []⟩) (fun r s' => r = .ok (.ret (.bool true)) ∧ OldK s₁.heap s'.heap ∧ s'.os = s₁.os ∧ AllBare s'.gens) s₁ := by
  have rv := vals_ints hi
  have lenV := hi.length
  -- from an abstract heap in which nothing but the script may be tracked
  have core : ∀ H : Hp, Only H → SqL K H a (ns.map V.int) → HOk P w H s₁.heap → (∀ b, H b ≠ none → b = a) → (H a ≠ none → K.lookup a = none) →
      codeAny (model P w) callerA (.call (.ref fa) ⟨[.ref a], []⟩) (fun r s' => r = .ok (.ret (.bool true)) ∧ OldK s₁.heap s'.heap ∧ s'.os = s₁.os ∧ AllBare s'.gens) s₁ := by
    intro H hO hS hok hA hK
    have base_of : ∀ {b : Addr} {o : Obj}, s₁.heap.get? b = some o → H b = none → (hidT s₁.heap H).get? b = some o := fun e n => hidT_get e n
    have noA : ∀ {b : Addr} {o : Obj} {es : Array DictEntry} {ep : Nat}, s₁.heap.get? b = some o → o.data = .dict es ep → H b = none := fun {b o es ep} e d => by
      cases q : H b with
      | none => rfl
      | some u =>
        have e' : b = a := hA b (by rw [q]; simp)
        subst e'
        rw [ha] at e; cases e
        have d' : Data.seq vs.toArray _ = Data.dict es ep := d
        cases d'
    have nsK : ∀ {b : Addr} {m : Str → Option Value}, s₁.heap.Ns b m → (hidT s₁.heap H).Ns b m := fun {b m} ⟨o, es, ep, e, d, r⟩ => ⟨o, es, ep, base_of e (noA e d), d, r⟩
    have hKb : K.In (hidT s₁.heap H) := fun b o e => base_of (KX b o e) (by
      cases q : H b with
      | none => rfl
      | some u =>
        have e' : b = a := hA b (by rw [q]; simp)
        subst e'
        rw [hK (by rw [q]; simp)] at e; cases e)
    have hM : Mod K mg (hidT s₁.heap H) := ⟨hKb, nsK hns, ⟨mb, nsK hb, hbb⟩, let ⟨mc, h1, h2⟩ := hlim; ⟨mc, nsK h1, h2⟩⟩
    have e0 : Env0 P w K mg (hidT s₁.heap H) callerA [] s₁ H := ⟨rfl, hM, fun b o e => of_hidT e, Nat.le_of_eq (hidT_size _ _), trivial, fun b hb => absurd (show b ∈ ([] : List Addr) from hb) (by simp), hok, .of_eq hg⟩
    refine codeAny_mono ((F _ hKb (nsK hns)).run callerA [] s₁ H ⟨[.ref a], []⟩ [.ref a] [.ref a] _ _ hr e0 (hbind s₁ (.ref a)) (.cons rfl .nil) (hsp H hO hS)) fun r s' h => ?_
    cases r with
    | error e => exact (hCX H e s' h).elim
    | ok fl =>
      cases fl with
      | next => exact False.elim h
      | brk => exact False.elim h
      | cont => exact False.elim h
      | ret u =>
        obtain ⟨v, H', os, bare, un, hok', r', q⟩ := h
        have q' : v = .bl true := q
        subst q'
        obtain rfl : u = Value.bool true := r'
        refine ⟨rfl, OldK.of_keep fun b o e => ?_, os, bare⟩
        cases q : H b with
        | none => exact un.keep b o e q (by intro z; exact absurd (show b ∈ ([] : List Addr) from z) (by simp)) (by simp)
        | some u =>
          rcases hO b with z | ⟨ob, xs, z⟩
          · rw [q] at z; cases z
          · have z2 := un.frzs b ob _ z
            obtain ⟨e1, _⟩ := hok b _ z
            obtain ⟨e2, _⟩ := hok' b _ z2
            rw [e] at e1; cases e1
            exact e2
  cases hk : K.lookup a with
  | some o =>
    -- the script is one of the module's own objects
    have e := KX a o hk
    rw [ha] at e
    cases e
    refine core (fun _ => none) (fun _ => .inl rfl) (.inr ⟨_, vs.toArray, _, hk, rfl, rfl, rfl, by rw [List.size_toArray, lenV]; exact hl, by simpa using rv⟩) (fun b u z => by have z' : (none : Option HO) = some u := z; cases z') (fun b z => absurd rfl z) fun z => absurd rfl z
  | none =>
    refine core (fun b => if b = a then some (.frz { cls := .type "list", data := .seq vs.toArray } (.lst (ns.map V.int))) else none) (fun b => ?_) (.inl (.inr ⟨{ cls := .type "list", data := .seq vs.toArray }, if_pos rfl⟩)) (fun b u z => ?_) (fun b z => ?_) fun _ => hk
    · by_cases hb : b = a
      · exact .inr ⟨_, _, if_pos hb⟩
      · exact .inl (if_neg hb)
    · by_cases hb : b = a
      · have z' := (if_pos hb).symm.trans z
        cases z'
        subst hb
        exact ⟨ha, by rw [List.length_map]; exact hl, vs, _, rv, ha⟩
      · have z' := (if_neg hb).symm.trans z
        cases z'
    · by_cases hb : b = a
      · exact hb
      · exact absurd (if_neg hb) z
end L2
namespace L2
open PySem PySem.Spec PyProof.Rows
theorem walk_of {l : PySem.W.OpenLaw} {n k : Nat} {q : Program} {loose : List Str} {XP : (Str → Option Value) → Heap → Prop} {YP : World → Heap → Prop} {d : DefRec} {K : Params → PySem.W.Frag} {CX : World → CXT} {sp : World → Sp} {x : Str}
    (hn : l.most = some n) (hn2 : n ≤ sizeLine) (hdf : d.params.defaults = []) (hr : Room k callerA)
    (hY : ∀ (w : World) (h : Heap), YP w h → (K w.params).In h)
    (F : ∀ (w : World) (mg : Str → Option Value) (fa : Addr) (h : Heap), (K w.params).In h → h.Ns mainGlobals mg → mg d.name = some (.ref fa) →
      ∃ fd : FuncData, (∀ (s : Shared) (u : Value), BindsTo s fd ⟨[u], []⟩ [(x, u)]) ∧
        ∀ base : Heap, (K w.params).In base → base.Ns mainGlobals mg → FnOk l.prog w (K w.params) mg base (CX w) k fa fd [x] (sp w))
    (hsp : ∀ (w : World) (H : Hp) (a : Addr) (ns : List Int), ns.length ≤ n → Only H → SqL (K w.params) H a (ns.map V.int) → sp w [.ref a] H (fun v _ => v = .bl true) fun _ _ _ => False)
    (hCX : ∀ (w : World) (H : Hp) (s : Shared) (e : Value) (s' : Shared), CX w [] H s (fun _ _ _ => False) e s' → False) :
    PySem.W.WalkO q loose XP YP l.row.toRowW d [] (fun f vs => PySem.call f vs) := by
  refine Att.attach_call hn hdf fun w s₀ s₁ mg mb fa o pm cd doc a vs ns G Y ho hd hcd hmg hobj hints hlen hg => ?_
  have KX := hY w _ Y
  obtain ⟨fd, hb, hF⟩ := F w mg fa _ KX G.T.g hmg
  exact law_call KX G.T.g G.T.b G.T.builtins G.T.nolimit hg hobj hints (Nat.le_trans hlen hn2) hr hF hb (fun H hO hS => hsp w H a ns hlen hO hS) fun H e s' => hCX w H s₁ e s'
end L2
namespace L2
open PySem PySem.Spec PyProof.Rows
def defArgs (s : Stmt) : Arguments := match s with
  | .FunctionDef _ a _ _ _ _ _ _ _ _ => a
  | _ => { posonlyargs := [], args := [], vararg := none, kwonlyargs := [], kw_defaults := [], kwarg := none, defaults := [] }
def defBody (s : Stmt) : List Stmt := match s with
  | .FunctionDef _ _ b _ _ _ _ _ _ _ => b
  | _ => []
def defScope (s : Stmt) : Scope := match s with
  | .FunctionDef _ _ _ _ _ _ sc _ _ _ => sc
  | _ => { kind := .function, names := [], isGenerator := false, isCoroutine := false }
abbrev CX0 : CXT := fun _ _ _ _ _ _ => False
abbrev E0 : XK := fun _ _ _ => False
theorem pass0 {X : Cx} : Passes CX0 X E0 := fun _ _ _ _ _ _ _ h => h.elim
structure Fun (K : PySem.W.Frag) (x qual : Str) (st : Stmt) (f : Addr) (fd : FuncData) : Prop where
  ex : ∃ (oc : Value) (od : Option Addr) (kV doc pm : Value) (an : Option Addr) (cdv ct : Value) (osl : Array (Option Value)),
    fd = PySem.W.fnOf x qual (defArgs st) (defBody st) (defScope st) .none kV doc pm an cdv ct ∧ K.lookup f = some ⟨oc, od, .func fd, osl⟩ ∧ PySem.W.codeIn K cdv qual = true
  kp : PySem.W.keepIn K (.ref f) = true
section
variable {P : Program} {w : World} {K : PySem.W.Frag} {mg : Str → Option Value} {base : Heap}
theorem Fun.ok {x qual : Str} {st : Stmt} {f : Addr} {fd : FuncData} {N ps : List Str} {k : Nat} {sp : Sp} (F : Fun K x qual st f fd) (S : FnScope N ps (defScope st)) (len : ∀ vs H Q E, sp vs H Q E → vs.length = ps.length)
    (hbody : ∀ (cdv : Value) (A : Around) (outer : List Env) (s : Shared) (H : Hp) (vs : List V) (Q : VK) (E : XK), Room k (A.deeper (envOfC qual (defScope st) s.heap.objs.size f cdv)) → sp vs H Q E →
      ∃ t, PSs (cxOf CX0 P w K mg base N qual (defScope st) f cdv A outer s H E).nox (defBody st) t ∧ t { nx := fun _ H' => Q .non H', rt := Q } (start N vs) H) : FnOk P w K mg base CX0 (k + 1) f fd ps sp := by
  obtain ⟨oc, od, kV, doc, pm, an, cdv, ct, osl, rfl, lk, hcd⟩ := F.ex
  refine fn_of lk hcd S len fun A outer s H vs Q E hr hsp => ?_
  obtain ⟨t, h, q⟩ := hbody cdv A outer s H vs Q E hr hsp
  exact ⟨t, h.nox, q⟩
theorem Fun.binds {x qual : Str} {st : Stmt} {f : Addr} {fd : FuncData} {ps : List Str} (F : Fun K x qual st f fd)
    (h : ∀ (kV doc pm : Value) (an : Option Addr) (cdv ct : Value) (us : List Value), us.length = ps.length → bindArgs (PySem.W.fnOf x qual (defArgs st) (defBody st) (defScope st) .none kV doc pm an cdv ct) ⟨us, []⟩ = pure (ps.zip us)) : Binds K fd ps [] := by
  obtain ⟨oc, od, kV, doc, pm, an, cdv, ct, osl, rfl, lk, hcd⟩ := F.ex
  exact .all (h kV doc pm an cdv ct)
theorem fun_mk {x qual : Str} {st : Stmt} {f : Addr} {oc : Value} {od an : Option Addr} {osl : Array (Option Value)} {kV doc pm cdv ct : Value} (l : K.lookup f = some ⟨oc, od, .func (PySem.W.fnOf x qual (defArgs st) (defBody st) (defScope st) .none kV doc pm an cdv ct), osl⟩)
    (c : PySem.W.codeIn K cdv qual = true) (k : PySem.W.keepIn K (.ref f) = true) : Fun K x qual st f (PySem.W.fnOf x qual (defArgs st) (defBody st) (defScope st) .none kV doc pm an cdv ct) := ⟨⟨oc, od, kV, doc, pm, an, cdv, ct, osl, rfl, l, c⟩, k⟩
end
theorem hu_of {A : Around} {k : Nat} (hr : Room k A) : A.units + 1 < cLine := Nat.lt_of_le_of_lt (Nat.add_le_add_left (by decide : 1 ≤ 64) _) hr.units
section
variable {X : Cx}
theorem pv (i : Nat) {x : Str} {pos : Pos} (hN : X.N[i]? = some x := by rfl) (hv : Vis X.env.scope x := by first | exact Or.inl rfl | exact Or.inr (Or.inl rfl) | exact Or.inr (Or.inr rfl)) (hd : (x == ("__debug__" : Str)) = false := by decide)
    (hcd : (x == ("__classdict__" : Str)) = false := by decide) : PE X (.Name x pos) (tVar i) := pe_var hN hv hd hcd
end
theorem iteF {A B : Prop} (h : B) : if false = true then A else B := by
  rw [if_neg Bool.false_ne_true]
  exact h
theorem iteT {A B : Prop} (h : A) : if true = true then A else B := by
  rw [if_pos rfl]
  exact h
theorem ite2 {c A B : Prop} [Decidable c] (h1 : c → A) (h2 : ¬ c → B) : if c then A else B := by
  by_cases h : c
  · rw [if_pos h]
    exact h1 h
  · rw [if_neg h]
    exact h2 h
def Same (H H' : Hp) : Prop := ∀ b o, H b = some o → H' b = some o
theorem Same.refl (H : Hp) : Same H H := fun _ _ h => h
theorem Same.trans {H H1 H2 : Hp} (a : Same H H1) (b : Same H1 H2) : Same H H2 := fun c o h => b c o (a c o h)
theorem Same.free {H H' : Hp} (e : Same H H') {l : Addr} (h : H' l = Option.none) : H l = Option.none := by
  cases q : H l with
  | none => rfl
  | some o =>
    rw [e l o q] at h
    cases h
theorem Same.seq {K : PySem.W.Frag} {H H' : Hp} {a : Addr} {xs : List V} (e : Same H H') (h : SqL K H a xs) : SqL K H' a xs := by
  rcases h with (h | ⟨o, h⟩) | h
  · exact .inl (.inl (e _ _ h))
  · exact .inl (.inr ⟨o, e _ _ h⟩)
  · exact .inr h
end L2
namespace L2
open PySem PySem.Spec PyProof.Rows
def closL (cells : List (Str × Addr)) : List (Str × NameKind) → List (Str × Addr) → List (Str × Addr)
  | [], acc => acc
  | (n, k) :: r, acc => if (k == NameKind.free) = true then (match cells.lookup n with | some c => closL cells r ((n, c) :: acc) | none => closL cells r acc) else closL cells r acc
theorem closL_run {env : Env} : ∀ (ns : List (Str × NameKind)) (acc : List (Str × Addr)), (∀ y ∈ ns, y.2 = .free → ∃ c, env.cells.lookup y.1 = some c) →
    (forIn ns acc (fun x cs => (match x with | (name, kind) => if (kind == NameKind.free) = true then (do let c ← cellOf env name; pure (ForInStep.yield ((name, c) :: cs))) else pure (ForInStep.yield cs))) : Sem (List (Str × Addr))) = pure (closL env.cells ns acc)
  | [], acc, _ => rfl
  | (n, k) :: r, acc, h => by
    rw [List.forIn_cons]
    by_cases hk : (k == NameKind.free) = true
    · obtain ⟨c, hc⟩ := h (n, k) List.mem_cons_self (by simpa using hk)
      have hc : env.cells.lookup n = some c := hc
      have e := closL_run (env := env) r ((n, c) :: acc) fun y hy => h y (List.mem_cons_of_mem _ hy)
      simp only [closL, hk, if_true, cellOf, hc, pure_bind]
      exact e
    · have e := closL_run (env := env) r acc fun y hy => h y (List.mem_cons_of_mem _ hy)
      have hk : (k == NameKind.free) = false := by simpa using hk
      simp only [closL, hk, Bool.false_eq_true, if_false, pure_bind]
      exact e
theorem closureFor_eq {scope : Scope} {env : Env} (h : ∀ y ∈ scope.names, y.2 = .free → ∃ c, env.cells.lookup y.1 = some c) : closureFor scope env = pure (closL env.cells scope.names []) := by
  have e := closL_run (env := env) scope.names [] h
  unfold closureFor
  simp only [bind_pure]
  first
    | exact e
    | (refine Eq.trans ?_ e; congr 1)
    | (simp only [bind_pure_comp] at e ⊢; exact e)
theorem closL_sub {cells : List (Str × Addr)} : ∀ {ns : List (Str × NameKind)} {acc : List (Str × Addr)} {x : Str} {c : Addr}, (closL cells ns acc).lookup x = some c → acc.lookup x = some c ∨ cells.lookup x = some c
  | [], acc, x, c, h => .inl h
  | (n, k) :: r, acc, x, c, h => by
    unfold closL at h
    split at h
    · split at h
      · rename_i q hq
        rcases closL_sub h with z | z
        · rw [List.lookup_cons] at z
          cases hx : x == n with
          | true =>
            rw [hx] at z
            cases z
            have : x = n := by simpa using hx
            subst this
            exact .inr hq
          | false =>
            rw [hx] at z
            exact .inl z
        · exact .inr z
      · exact closL_sub h
    · exact closL_sub h
theorem closL_has {cells : List (Str × Addr)} : ∀ {ns : List (Str × NameKind)} {acc : List (Str × Addr)} {x : Str} {c : Addr}, cells.lookup x = some c → ((x, NameKind.free) ∈ ns ∨ acc.lookup x = some c) → (closL cells ns acc).lookup x = some c
  | [], acc, x, c, hc, h => h.elim (fun z => nomatch z) fun z => z
  | (n, k) :: r, acc, x, c, hc, h => by
    unfold closL
    split
    · rename_i hk
      split
      · rename_i q hq
        refine closL_has hc ?_
        rcases h with h | h
        · rcases List.mem_cons.mp h with e | h
          · cases e
            rw [hc] at hq
            cases hq
            exact .inr (by simp)
          · exact .inl h
        · by_cases e : x = n
          · subst e
            rw [hc] at hq
            cases hq
            exact .inr (by simp)
          · exact .inr (by rw [List.lookup_cons, (by simpa using e : (x == n) = false)]; exact h)
      · rename_i hq
        refine closL_has hc ?_
        rcases h with h | h
        · rcases List.mem_cons.mp h with e | h
          · cases e
            rw [hc] at hq
            cases hq
          · exact .inl h
        · exact .inr h
    · rename_i hk
      refine closL_has hc ?_
      rcases h with h | h
      · rcases List.mem_cons.mp h with e | h
        · cases e
          exact absurd rfl hk
        · exact .inl h
      · exact .inr h
theorem lookup_relabel_free {env : Env} : ∀ {names : List (Str × NameKind)} {x : Str}, names.lookup x = some .free →
    (names.map fun (n, k) => if (k == NameKind.free && env.scope.kind == .function && env.kindOf n == some .cell) then (n, NameKind.cell) else (n, k)).lookup x = some .cell ∨
    (names.map fun (n, k) => if (k == NameKind.free && env.scope.kind == .function && env.kindOf n == some .cell) then (n, NameKind.cell) else (n, k)).lookup x = some .free
  | [], _, h => by simp at h
  | (n, k) :: r, x, h => by
    have ih := @lookup_relabel_free env r x
    show List.lookup x ((if (k == NameKind.free && env.scope.kind == .function && env.kindOf n == some .cell) = true then (n, NameKind.cell) else (n, k)) :: _) = _ ∨ List.lookup x ((if (k == NameKind.free && env.scope.kind == .function && env.kindOf n == some .cell) = true then (n, NameKind.cell) else (n, k)) :: _) = _
    cases hx : x == n with
    | true =>
      simp only [List.lookup_cons, hx] at h
      cases h
      by_cases hc : (NameKind.free == NameKind.free && env.scope.kind == .function && env.kindOf n == some .cell) = true
      · rw [if_pos hc]; simp [List.lookup_cons, hx]
      · rw [if_neg hc]; simp [List.lookup_cons, hx]
    | false =>
      simp only [List.lookup_cons, hx] at h
      by_cases hc : (k == NameKind.free && env.scope.kind == .function && env.kindOf n == some .cell) = true
      · rw [if_pos hc]; simp only [List.lookup_cons, hx]; exact ih h
      · rw [if_neg hc]; simp only [List.lookup_cons, hx]; exact ih h
theorem of_relabel {env : Env} : ∀ {names : List (Str × NameKind)} {x : Str} {q : NameKind}, (names.map fun (n, k) => if (k == NameKind.free && env.scope.kind == .function && env.kindOf n == some .cell) then (n, NameKind.cell) else (n, k)).lookup x = some q →
    (∀ y ∈ names, y.2 ≠ .cell) → q = .cell ∨ q = .free → (x, NameKind.free) ∈ names
  | [], _, _, h, _, _ => by simp at h
  | (n, k) :: r, x, q, h, hn, hq => by
    have ih := @of_relabel env r x q
    have h : List.lookup x ((if (k == NameKind.free && env.scope.kind == .function && env.kindOf n == some .cell) = true then (n, NameKind.cell) else (n, k)) :: r.map fun (n, k) => if (k == NameKind.free && env.scope.kind == .function && env.kindOf n == some .cell) then (n, NameKind.cell) else (n, k)) = some q := h
    have nk : k ≠ .cell := hn (n, k) List.mem_cons_self
    have hn' : ∀ y ∈ r, y.2 ≠ .cell := fun y hy => hn y (List.mem_cons_of_mem _ hy)
    cases hx : x == n with
    | true =>
      have e : x = n := by simpa using hx
      subst e
      by_cases hc : (k == NameKind.free && env.scope.kind == .function && env.kindOf x == some .cell) = true
      · have : k = .free := by
          simp only [Bool.and_eq_true] at hc
          simpa using hc.1.1
        subst this
        exact List.mem_cons_self
      · rw [if_neg hc] at h
        simp only [List.lookup_cons, hx] at h
        cases h
        rcases hq with z | z
        · exact absurd z nk
        · rw [z]; exact List.mem_cons_self
    | false =>
      by_cases hc : (k == NameKind.free && env.scope.kind == .function && env.kindOf n == some .cell) = true
      · rw [if_pos hc] at h; simp only [List.lookup_cons, hx] at h; exact List.mem_cons_of_mem _ (ih h hn' hq)
      · rw [if_neg hc] at h; simp only [List.lookup_cons, hx] at h; exact List.mem_cons_of_mem _ (ih h hn' hq)
end L2
namespace L2
open PySem PySem.Spec PyProof.Rows
def startC (ix : List (Option Nat)) (σ : St) : St := ix.map fun o => o.bind fun i => (σ[i]?).join
def cxC (X : Cx) (N : List Str) (scope : Scope) (C : Addr) (fp : List Addr) (s : Shared) (H : Hp) : Cx :=
  { X with N := N, s₀ := s, H₀ := H, env := compEnvC scope (closL X.env.cells scope.names []) C X.env, outer := X.stack, stack := X.stack, ex := fp, fn := fun _ => false, xe := fun _ _ => False }
structure CompOk (X : Cx) (scope : Scope) (N : List Str) (ix : List (Option Nat)) : Prop where
  kind : scope.kind = .function
  nocell : ∀ y ∈ scope.names, y.2 ≠ .cell
  len : ix.length = N.length
  names : ∀ y ∈ scope.names, y.2 = .local → scope.names.lookup y.1 = some .local
  fr : ∀ y ∈ scope.names, y.2 = .free → X.env.kindOf y.1 = some .cell ∨ X.env.kindOf y.1 = some .free
  cap : ∀ (j i : Nat), ix[j]? = some (some i) → ∃ x : Str, N[j]? = some x ∧ X.N[i]? = some x ∧ scope.names.lookup x = some .free ∧ (x, NameKind.free) ∈ scope.names
theorem mem_of_lookup {names : List (Str × NameKind)} {x : Str} {k : NameKind} (h : names.lookup x = some k) : (x, k) ∈ names := by
  induction names with
  | nil => simp at h
  | cons p r ih =>
    obtain ⟨n, q⟩ := p
    rw [List.lookup_cons] at h
    cases hx : x == n with
    | true =>
      rw [hx] at h; cases h; have : x = n := by simpa using hx
      subst this; exact List.mem_cons_self
    | false => rw [hx] at h; exact List.mem_cons_of_mem _ (ih h)
section
variable {X : Cx} {pins : List (Addr × Obj)} {σ : St} {H : Hp} {s : Shared} {scope : Scope} {N : List Str} {ix : List (Option Nat)} {fp : List Addr}
theorem CompOk.ok (c : CompOk X scope N ix) (I : Inv X pins σ H s) (hf : ∀ b ∈ fp, FpOk X pins H b) (hlt : ∀ b ∈ fp, b < s.heap.objs.size) {C : Nat} (hC : s.heap.objs.size ≤ C) : (cxC X N scope C fp s H).Ok where
  mod := I.ok.mod
  kind := c.kind
  glob := I.ok.glob
  blt := I.ok.blt
  above := hC
  inj := fun x y d h1 h2 => by
    have h1 : (closL X.env.cells scope.names []).lookup x = some d := h1
    have h2 : (closL X.env.cells scope.names []).lookup y = some d := h2
    rcases closL_sub h1 with z | z
    · simp at z
    · rcases closL_sub h2 with z' | z'
      · simp at z'
      · exact I.ok.inj x y d z z'
  has := fun x h => by
    have hm : (x, NameKind.free) ∈ scope.names := by
      rcases h with h | h
      · exact of_relabel h c.nocell (.inl rfl)
      · exact of_relabel h c.nocell (.inr rfl)
    obtain ⟨d, hd⟩ := I.ok.has x (c.fr _ hm rfl)
    exact ⟨d, closL_has hd (.inl hm)⟩
  cab := fun x d h => by cases h
  hd := I.ok.hd
  frames := I.ok.frames
  stk := .inl rfl
  exf := fun b hb => by
    refine ⟨fun z => ?_, fun x d e z => ?_⟩
    · have z : b = C := z
      have := hlt b hb
      rw [z] at this
      exact absurd (Nat.lt_of_lt_of_le this hC) (Nat.lt_irrefl _)
    · rcases closL_sub e with q | q
      · simp at q
      · exact (hf b hb).2.2.2.2.1 x d q z
  bs := fun b o e => I.bs b o e
  bsz := Nat.le_trans I.ok.bsz I.sz
  noex := fun b o e hb => by
    rcases (hf b hb).2.2.2.1 with z | z
    · exact I.ok.noex b o e z
    · exact absurd (Nat.lt_of_lt_of_le (Heap.lt_size (I.ok.bs b o e).1) z) (Nat.lt_irrefl _)
  exfs := fun b hb z => by
    rcases List.mem_cons.mp (I.stkSub b z) with e | e
    · exact (hf b hb).2.1 e
    · exact (hf b hb).2.2.1 e
  funs := I.stack
  frf := I.stkFree
theorem CompOk.enter (c : CompOk X scope N ix) (I : Inv X pins σ H s) (hf : ∀ b ∈ fp, FpOk X pins H b) (ho : ∀ b ∈ fp, ∃ o, s.heap.get? b = some o ∧ ∀ v, o.data ≠ .cell v) {C D : Nat} {h' : Heap} {t' : Nat} {m : Str → Option Value} {oD : Obj} (hC : C = s.heap.objs.size + 1) (hD : D = s.heap.objs.size)
    (k : ∀ b o, s.heap.get? b = some o → h'.get? b = some o) (hn : h'.Ns C m) (hoD : h'.get? D = some oD) (hdD : ∀ v, oD.data ≠ .cell v) :
    Inv (cxC X N scope C fp s H) (pins ++ [(D, oD)]) (startC ix σ) H { s with heap := h', toks := t' } := by
  have hlt : ∀ b ∈ fp, b < s.heap.objs.size := fun b hb => let ⟨o, e, _⟩ := ho b hb; Heap.lt_size e
  have sub : ∀ x d, (closL X.env.cells scope.names []).lookup x = some d → X.env.cells.lookup x = some d := fun x d e => by
    rcases closL_sub e with z | z
    · simp at z
    · exact z
  refine ⟨c.ok I hf hlt (by omega), rfl, I.bare, Un.kept k, ⟨m, hn, fun j x v e1 e2 e3 => ?_⟩, fun x d e => ?_, I.hok.fresh (by show s.heap.objs.size ≤ C; omega), fun x d e => I.freeC x d (sub x d e), fun p hp => ?_, I.hok.kept k, ?_⟩
  · have e2 : (ix.map fun o => o.bind fun i => (σ[i]?).join)[j]? = some (some v) := e2
    rw [List.getElem?_map] at e2
    cases hj : ix[j]? with
    | none => rw [hj] at e2; cases e2
    | some o =>
      rw [hj] at e2
      cases o with
      | none => cases e2
      | some i =>
        have e2 : some ((σ[i]?).join) = some (some v) := e2
        obtain ⟨x', a1, a2, a3, a4⟩ := c.cap j i hj
        have e1 : N[j]? = some x := e1
        rw [e1] at a1
        cases a1
        have hs : σ[i]? = some (some v) := by
          have z := Option.some.inj e2
          cases q : σ[i]? with
          | none => rw [q] at z; cases z
          | some w => rw [q] at z; have z : w = some v := z; rw [z]
        have kx := c.fr _ a4 rfl
        obtain ⟨m0, hn0, hl0⟩ := I.loc
        obtain ⟨u, r, l⟩ := hl0 i x v a2 hs (kx.elim (fun z => .inr (.inl z)) fun z => .inr (.inr z))
        refine ⟨u, r, .inr ⟨?_, ?_⟩⟩
        · exact lookup_relabel_free (env := X.env) a3
        · rcases l with ⟨z, _⟩ | ⟨_, d, hd, hcell⟩
          · rcases kx with q | q <;> rw [q] at z <;> cases z
          · refine ⟨d, closL_has hd (.inl a4), ?_⟩
            obtain ⟨o, ho, hdt⟩ := hcell
            exact ⟨o, k d o ho, hdt⟩
  · obtain ⟨v, o, ho, hdt⟩ := I.cell x d (sub x d e)
    exact ⟨v, o, k d o ho, hdt⟩
  · have nstk : ∀ b, b ≠ X.env.locals → b ∉ X.fs → b ∉ frs X.stack := fun b h1 h2 z => by
      rcases List.mem_cons.mp (I.stkSub b z) with e | e
      · exact h1 e
      · exact h2 e
    have old : ∀ p ∈ X.pn ++ pins, h'.get? p.1 = some p.2 ∧ H p.1 = none ∧ p.1 ≠ C ∧ p.1 ∉ frs X.stack ∧ ∀ v, p.2.data ≠ .cell v := fun p hp => by
      obtain ⟨a1, a2, a3, a4, a5⟩ := I.pin p hp
      have : @LT.lt Nat _ p.1 s.heap.objs.size := Heap.lt_size a1
      exact ⟨k _ _ a1, a2, Nat.ne_of_lt (by rw [hC]; exact Nat.lt_succ_of_lt this), nstk _ a3 a4, a5⟩
    have hp : p ∈ X.pn ++ (pins ++ [(D, oD)]) := hp
    rcases List.mem_append.mp hp with z | z
    · exact old p (List.mem_append_left _ z)
    · rcases List.mem_append.mp z with z | z
      · exact old p (List.mem_append_right _ z)
      · have e : p = (D, oD) := by simpa using z
        subst e
        have lt : @LT.lt Nat _ X.env.locals s.heap.objs.size := I.lt
        refine ⟨hoD, I.hok.fresh (by show s.heap.objs.size ≤ D; omega), (by show (D : Nat) ≠ C; omega), nstk D (Nat.ne_of_gt (by rw [hD]; exact lt)) (I.nofs (by omega)), hdD⟩
  · show (ix.map _).length = N.length
    rw [List.length_map, c.len]
theorem CompOk.leave (c : CompOk X scope N ix) (I : Inv X pins σ H s) (hf : ∀ b ∈ fp, FpOk X pins H b) {C D : Nat} {σ' : St} {H' : Hp} {s' : Shared} {ys : List V} {its : List Value} {n : Nat} {pl : List (Addr × Obj)} (hC : C = s.heap.objs.size + 1) (hD : D = s.heap.objs.size)
    (I' : Inv (cxC X N scope C fp s H) (pl ++ [(D, { cls := .type "list", data := .seq its.toArray n })]) σ' H' s') (rv : Vals ys its) (hz : ys.length ≤ sizeLine) :
    Inv X pins σ (upd H' D (.lst ys)) s' := by
  have pD := I'.pin (D, _) (List.mem_append_right _ (List.mem_append_right _ List.mem_cons_self))
  have hDn : H' D = none := pD.2.1
  have u : Un (frs X.stack) fp H H' s.heap s'.heap := I'.base
  have hlt : ∀ b o, s.heap.get? b = some o → b ≠ D := fun b o e => Nat.ne_of_lt (by have : @LT.lt Nat _ b s.heap.objs.size := Heap.lt_size e; rw [hD]; exact this)
  refine I.call' (ch := fp) I'.os ?_ ?_ I'.bare fun b hb => ?_
  · refine ⟨u.keep, u.slot, fun b o e n hx => by rw [upd_ne (hlt b o e)]; exact u.free b o e n hx, u.there, fun b xs e => ?_, fun b o w e => ?_, fun b ps e => ?_⟩
    · have e' := u.tups b xs e
      rw [upd_ne (ne_of_none e' hDn)]; exact e'
    · have e' := u.frzs b o w e
      rw [upd_ne (ne_of_none e' hDn)]; exact e'
    · obtain ⟨more, e'⟩ := u.tbls b ps e
      exact ⟨more, by rw [upd_ne (ne_of_none e' hDn)]; exact e'⟩
  · intro b o e
    by_cases hb : b = D
    · subst hb
      rw [upd_same] at e
      cases e
      exact ⟨hz, its, n, rv, pD.1⟩
    · rw [upd_ne hb] at e
      refine (I'.hok b o e).stay (fun _ _ _ q => q) (fun a q => ?_) fun a xs q => ?_
      · rw [upd_ne (ne_of_none q hDn)]; exact q
      · rw [upd_ne (ne_of_none q hDn)]; exact q
  · obtain ⟨f0, f1, f2, f3, f4, f5⟩ := hf b hb
    exact ⟨f3, f1, f4, f5⟩
end
end L2
namespace L2
open PySem PySem.Spec PyProof.Rows
section
variable {prog : Program} {w : World} {A : Around} {R : Result → Shared → Prop} {s : Shared}
theorem compLoop_any {elt target iter : Expr} {ifs : List Expr} {scope : Scope} {pos : Pos} {it acc : Value} {env : Env} (I : Nat → Shared → Prop)
    (turn : ∀ n s, I n s → wpAny (model prog w) A (pyNext it) (fun r s₁ => match r with
      | none => R (.ok .next) s₁
      | some v => wpAny (model prog w) A (letOwnedTupleGo target it v) (fun _ s₁ => wpAny (model prog w) A (assign target env v) (fun _ s₂ =>
          wpAny (model prog w) A (forIn ifs true fun c r => if r = true then do let ok ← isTrue c env (eval c env); pure (ForInStep.yield ok) else pure (ForInStep.yield r)) (fun ok s₃ =>
            if ok = true then wpAny (model prog w) A (eval elt env) (fun x s₄ =>
              wpAny (model prog w) A (call (.builtin "list.append") [acc, x]) (fun _ s₅ => ∃ m, m < n ∧ I m s₅) (fun _ _ => False) s₄) (fun _ _ => False) s₃
            else ∃ m, m < n ∧ I m s₃) (fun _ _ => False) s₂) (fun _ _ => False) s₁) (fun _ _ => False) s₁) (fun _ _ => False) s)
    (n : Nat) (h : I n s) :
    codeAny (model prog w) A (.compLoop (.ListComp elt [⟨target, iter, ifs, 0⟩] scope pos) 0 it acc env) R s := by
  refine codeAny_loop rfl I (fun n s hI => ?_) n h
  show wpAny _ A ((compTurn (.ListComp elt [⟨target, iter, ifs, 0⟩] scope pos) 0 it acc env).onRaise (fun x => do noteFrame x env; theTreesLotGoes x)) _ _ s
  refine wpAny_noted ?_
  rw [compTurn_list]
  refine wpAny_bind (wpAny_standAt (wpAny_bind (wpAny_mono (turn n s hI) (fun r s₁ h₁ => ?_) fun _ _ h' => h'.elim)))
  cases r with
  | none => exact wpAny_pure h₁
  | some v =>
    refine wpAny_bind (wpAny_mono h₁ (fun _ s₁ h₁ => ?_) fun _ _ h' => h'.elim)
    refine wpAny_bind (wpAny_mono h₁ (fun _ s₂ h₂ => wpAny_bind (wpAny_mono h₂ (fun ok s₃ h₃ => ?_) fun _ _ h' => h'.elim)) fun _ _ h' => h'.elim)
    cases ok with
    | false => exact wpAny_pure ⟨rfl, h₃⟩
    | true =>
      refine wpAny_bind (wpAny_bind (wpAny_mono h₃ (fun x s₄ h₄ => wpAny_bind (wpAny_mono h₄ (fun _ s₅ h₅ => ?_) fun _ _ h' => h'.elim)) fun _ _ h' => h'.elim))
      exact wpAny_pure (wpAny_pure ⟨rfl, h₅⟩)
end
def PIf (X : Cx) (cs : List Expr) (t : TT) : Prop :=
  ∀ (pins : List (Addr × Obj)) (s : Shared) (σ : St) (H : Hp) (Q : Bool → Hp → Prop), Inv X pins σ H s → t σ H Q →
    wpAny (model X.prog X.w) X.A (forIn cs true fun c r => if r = true then do let ok ← isTrue c X.env (eval c X.env); pure (ForInStep.yield ok) else pure (ForInStep.yield r)) (TP X pins σ Q) X.xe s
def tTrue : TT := fun _ H Q => Q true H
theorem pif_nil {X : Cx} : PIf X [] tTrue := fun _ _ _ H _ I h => wpAny_tests_nil ⟨H, I, h⟩
theorem pif_one {X : Cx} {c : Expr} {t : TT} (h : PT X c t) : PIf X [c] t := fun pins s σ H Q I q => wpAny_tests_one (h pins s σ H Q I q)
abbrev WC := Nat → Nat → List V → St → Hp → Prop
def rComp (ix : List (Option Nat)) (g : TG) (tc : TT) (te : TE) (σ : St) (Q : VK) (J : It) (H1 : Hp) : Prop :=
  ∃ W : WC, (∃ m, W 0 m [] (startC ix σ) H1) ∧ ∀ i m ys σ' H', W i m ys σ' H' →
    (J.stop i H' ∧ ys.length ≤ sizeLine ∧ ∀ p, H' p = none → Q (.ref p) (upd H' p (.lst ys))) ∨
    (J.go i H' ∧ ys.length < sizeLine ∧ ∀ x H2, J.yld i H' x H2 → g x σ' H2 fun σ2 H3 => tc σ2 H3 fun b H4 =>
      if b = true then te σ2 H4 fun v H5 => ∃ m', m' < m ∧ W (i + 1) m' (ys ++ [v]) σ2 H5 else ∃ m', m' < m ∧ W (i + 1) m' ys σ2 H4)
def tComp (ix : List (Option Nat)) (wi : TI) (g : TG) (tc : TT) (te : TE) : TE := fun σ H Q => wi σ H (rComp ix g tc te σ Q)
section
variable {X : Cx} {scope : Scope} {N : List Str} {ix : List (Option Nat)} {elt tg iter : Expr} {ifs : List Expr} {g : TG} {tc : TT} {te : TE} {pos : Pos}
theorem comp_block {pins : List (Addr × Obj)} {σ : St} {s2 : Shared} {Q : VK} {itv : Value} {RR : Value → Addr → Result → Shared → Prop} {E : Value → Shared → Prop} (c : CompOk X scope N ix) (hc : X.calm = true)
    (hg : ∀ C fp s H, PG (cxC X N scope C fp s H) tg g) (ht : ∀ C fp s H, PIf (cxC X N scope C fp s H) ifs tc) (he : ∀ C fp s H, PE (cxC X N scope C fp s H) elt te)
    (h2 : PIE X pins σ tg (rComp ix g tc te σ Q) itv s2)
    (hR : ∀ (D C : Addr) (s' : Shared) (H' : Hp) (m : Str → Option Value), Inv X pins σ H' s' → s'.heap.Ns C m → H' C = none → X.s₀.heap.objs.size ≤ C → (∀ p ∈ X.pn ++ pins, p.1 ≠ C) → C ≠ X.env.locals → (∀ x c, X.env.cells.lookup x = some c → c ≠ C) → Q (.ref D) H' → RR (.ref D) C (.ok .next) s') :
    wpAny (model X.prog X.w) X.A (newList []) (fun acc s₃ => wpAny (model X.prog X.w) X.A (newFunctionEnv scope X.env.globals (closL X.env.cells scope.names []) [] X.env.qual none .none (some X.env)) (fun cenv s₄ =>
      codeAny (model X.prog X.w) X.A (.compStart (.ListComp elt [⟨tg, iter, ifs, 0⟩] scope pos) 0 itv acc { cenv with scope := relabel scope X.env }) (RR acc cenv.locals) s₄) E s₃) E s2 := by
  obtain ⟨it, fp, tn, J, H2, rfl, I2, T, st2, f2, W, ⟨m0, w0⟩, turn⟩ := h2
  refine wpAny_newObj_type (wpAny_newFunctionEnv c.nocell (by intro y hy; simp at hy) (fun h₁ hns₁ hsb₁ => ?_) c.kind)
  dsimp only at hns₁ hsb₁ ⊢
  generalize hH2 : s2.heap.push { cls := .type "list", dict := none, data := .seq ([] : List Value).toArray } = G2 at hns₁ hsb₁ ⊢
  have hCs : G2.objs.size = s2.heap.objs.size + 1 := by rw [← hH2, Heap.size_push]
  generalize hCe : G2.objs.size = C at hns₁ hsb₁ hCs ⊢
  generalize hDe : s2.heap.objs.size = D at hCs ⊢
  have ltC : ∀ b, @LT.lt Nat _ b D → b ≠ C := fun b hb => Nat.ne_of_lt (by rw [hCs]; exact Nat.lt_succ_of_lt hb)
  have ltS : ∀ b o, s2.heap.get? b = some o → @LT.lt Nat _ b D := fun b o e => by rw [← hDe]; exact Heap.lt_size e
  have hDC : D ≠ C := Nat.ne_of_lt (by rw [hCs]; exact Nat.lt_succ_self _)
  have old : ∀ b o, s2.heap.get? b = some o → h₁.get? b = some o := fun b o e => hsb₁.extBut b o (ltC b (ltS b o e)) (Heap.get?_push_of_some _ (hH2 ▸ Heap.get?_push_of_some _ e))
  have hoD : h₁.get? D = some { cls := .type "list", dict := none, data := .seq ([] : List Value).toArray } := by
    refine hsb₁.extBut _ _ hDC (Heap.get?_push_of_some _ ?_)
    rw [← hH2, ← hDe]
    exact Heap.get?_push_size _ rfl
  have I4 : Inv (cxC X N scope C fp s2 H2) (pins ++ [(D, { cls := .type "list", data := .seq ([] : List Value).toArray })]) (startC ix σ) H2 { s2 with heap := h₁, toks := s2.toks + ([] : List (Str × Value)).length } :=
    c.enter I2 f2 (T.obj _ _ st2) (by rw [hCs, hDe]) hDe.symm old hns₁ hoD fun v z => by cases z
  have st4 : tn 0 h₁ := T.keep _ _ _ st2 fun b _ o e => old b o e
  have pinD : ∀ p ∈ X.pn ++ pins, p.1 ≠ D := fun p hp => Nat.ne_of_lt (ltS _ _ (I2.pin p hp).1)
  have pinC : ∀ p ∈ X.pn ++ pins, p.1 ≠ C := fun p hp => ltC _ (ltS _ _ (I2.pin p hp).1)
  have celD : ∀ x d, X.env.cells.lookup x = some d → @LT.lt Nat _ d D := fun x d e => by
    obtain ⟨v, o, ho, _⟩ := I2.cell x d e
    exact ltS d o ho
  have fpD : ∀ b ∈ fp, @LT.lt Nat _ b D := fun b hb => by
    obtain ⟨o, e, _⟩ := T.obj _ _ st2 b hb
    exact ltS b o e
  have sub : ∀ x d, (closL X.env.cells scope.names []).lookup x = some d → X.env.cells.lookup x = some d := fun x d e => by
    rcases closL_sub e with z | z
    · simp at z
    · exact z
  have stat : ∀ {H' : Hp} {oD : Obj}, (∀ b ∈ fp, H' b = none) → ∀ b ∈ fp, FpOk (cxC X N scope C fp s2 H2) (pins ++ [(D, oD)]) H' b := fun {H' oD} hn b hb => by
    obtain ⟨f0, f1, f2, f3, f4, f5⟩ := f2 b hb
    refine ⟨hn b hb, ltC b (fpD b hb), fun z => ?_, .inl hb, fun x d e => f4 x d (sub x d e), fun p hp => ?_⟩
    · rcases List.mem_cons.mp (I2.stkSub b z) with e | e
      · exact f1 e
      · exact f2 e
    · have hp : p ∈ X.pn ++ (pins ++ [(D, oD)]) := hp
      rw [← List.append_assoc] at hp
      rcases List.mem_append.mp hp with z | z
      · exact f5 p z
      · have e : p = (D, oD) := by simpa using z
        subst e
        exact Nat.ne_of_gt (fpD b hb)
  have loop : ∀ s3 : Shared, s3 = { s2 with heap := h₁, toks := s2.toks + ([] : List (Str × Value)).length } →
      codeAny (model X.prog X.w) X.A (.compLoop (.ListComp elt [⟨tg, iter, ifs, 0⟩] scope pos) 0 (.ref it) (.ref D) (cxC X N scope C fp s2 H2).env) (RR (.ref D) C) s3 := by
    rintro s3 rfl
    refine compLoop_any (fun n s' => ∃ i σ' H' ys its k, Inv (cxC X N scope C fp s2 H2) (pins ++ [(D, { cls := .type "list", data := .seq (List.toArray its) k })]) σ' H' s' ∧ tn i s'.heap ∧ (∀ b ∈ fp, H' b = none) ∧ Vals ys its ∧ W i n ys σ' H') ?_ m0
      ⟨0, _, H2, [], [], _, I4, st4, fun b hb => (f2 b hb).1, .nil, w0⟩
    rintro n s3 ⟨i, σ3, H3, ys, its, k, I3, st3, fr3, rv, w3⟩
    rcases turn i n ys σ3 H3 w3 with ⟨stop, hz, qn⟩ | ⟨go, hz, step⟩
    · refine thn (T.done (cxC X N scope C fp s2 H2) rfl rfl rfl hc i _ s3 σ3 H3 _ I3 (stat fr3) st3 stop) fun r s4 ⟨hr, I4⟩ => ?_
      subst hr
      have hDn : H3 D = none := (I3.pin (D, _) (List.mem_append_right _ (List.mem_append_right _ List.mem_cons_self))).2.1
      obtain ⟨m4, hn4, _⟩ := id I4.loc
      refine hR D C s4 _ m4 (c.leave I2 f2 (by rw [hCs, hDe]) hDe.symm I4 rv hz) hn4 ?_ ?_ pinC ?_ (fun x d e => ltC d (celD x d e)) (qn D hDn)
      · rw [upd_ne hDC.symm]; exact I4.free
      · refine Nat.le_trans I2.sz ?_
        rw [hDe, hCs]; exact Nat.le_succ _
      · refine Nat.ne_of_gt (Nat.lt_of_lt_of_le I2.lt ?_)
        rw [hDe, hCs]; exact Nat.le_succ _
    · refine thn (T.item (cxC X N scope C fp s2 H2) rfl rfl rfl hc i _ s3 σ3 H3 _ I3 (stat fr3) st3 go) fun r s4 ⟨u, hr, h4⟩ => ?_
      subst hr
      refine thn h4 fun _ s5 ⟨x, H5, I5, r5, y5, st5, fr5⟩ => ?_
      have I5' := I5.pinned (stat fr5) (T.obj _ _ st5)
      refine thn (hg C fp s2 H2 _ s5 σ3 H5 x u _ I5' r5 (step x H5 y5)) fun _ s6 ⟨σ6, H6, I6, q6⟩ => ?_
      refine thn (ht C fp s2 H2 _ s6 σ6 H6 _ I6 q6) fun ok s7 ⟨H7, I7, q7⟩ => ?_
      have keep : ∀ {s' : Shared} {σ' : St} {H' : Hp}, Inv (cxC X N scope C fp s2 H2) ((pins ++ [(D, { cls := .type "list", data := .seq its.toArray k })]) ++ pinsAt fp s5.heap) σ' H' s' → tn (i + 1) s'.heap ∧ ∀ b ∈ fp, H' b = none := fun {s' σ' H'} I' => by
        refine ⟨T.keep _ _ _ st5 fun b hb o e => (I'.pin (b, o) (List.mem_append_right _ (List.mem_append_right _ (mem_pinsAt hb e)))).1, fun b hb => ?_⟩
        obtain ⟨o, e, d⟩ := T.obj _ _ st5 b hb
        exact (I'.pin (b, o) (List.mem_append_right _ (List.mem_append_right _ (mem_pinsAt hb e)))).2.1
      cases ok with
      | false =>
        rw [if_neg Bool.false_ne_true]
        rw [if_neg Bool.false_ne_true] at q7
        obtain ⟨m', hm, w7⟩ := q7
        obtain ⟨k1, k2⟩ := keep I7
        exact ⟨m', hm, i + 1, σ6, H7, ys, its, k, I7.unpinned, k1, k2, rv, w7⟩
      | true =>
        rw [if_pos rfl]
        rw [if_pos rfl] at q7
        refine thn (he C fp s2 H2 _ s7 σ6 H7 _ I7 q7) fun y s8 ⟨v, H8, I8, r8, m', hm, w8⟩ => ?_
        obtain ⟨k1, k2⟩ := keep I8
        have pD := I8.pin (D, _) (List.mem_append_right _ (List.mem_append_left _ (List.mem_append_right _ List.mem_cons_self)))
        have I8u := I8.unpinned
        have I8v : Inv (cxC X N scope C fp s2 H2) pins σ6 H8 s8 := I8u.unpinned
        have len := rv.length
        refine wpAny_list_append_plain (items := its.toArray) (hsz := by simp; omega) ⟨k, pD.1⟩ fun h9 hl9 hs9 => ?_
        obtain ⟨k9, e9⟩ := hl9
        have I9 : Inv (cxC X N scope C fp s2 H2) pins σ6 H8 { s8 with heap := h9 } := by
          refine I8v.turned (t' := s8.toks) (it := D) (fun b o hb e => hs9.extBut b o hb e) pD.2.1 hDC (.inr ?_) (fun x d e => Nat.ne_of_lt (celD x d (sub x d e))) fun p hp => ?_
          · show s2.heap.objs.size ≤ D
            rw [hDe]; exact Nat.le_refl _
          · exact pinD p hp
        have e9' : h9.get? D = some { cls := .type "list", data := .seq (its ++ [y]).toArray k9 } := by
          rw [e9]; simp
        refine ⟨m', hm, i + 1, σ6, H8, ys ++ [v], its ++ [y], k9, I9.pins_of fun p hp => ?_, T.keep _ _ _ k1 fun b hb o e => hs9.extBut b o (Nat.ne_of_lt (fpD b hb)) e, k2, rv.append (.cons r8 .nil), w8⟩
        rcases List.mem_append.mp hp with z | z
        · exact I9.pin p (List.mem_append_right _ z)
        · have e : p = (D, { cls := .type "list", data := .seq (its ++ [y]).toArray k9 }) := by simpa using z
          subst e
          exact ⟨e9', pD.2.1, pD.2.2.1, pD.2.2.2.1, fun v z => by cases z⟩
  exact codeAny_compStart_list (loop _ rfl) (T.self _ 0 _ _ _ st4 (loop _ rfl))
variable {wi : TI}
theorem pe_comp (c : CompOk X scope N ix) (hc : X.calm = true) (hi : PI X tg iter wi) (hg : ∀ C fp s H, PG (cxC X N scope C fp s H) tg g) (ht : ∀ C fp s H, PIf (cxC X N scope C fp s H) ifs tc) (he : ∀ C fp s H, PE (cxC X N scope C fp s H) elt te)
    (hs : ∀ x, foldedSetIterable iter X.env x = pure x := by intro _; rfl) : PE X (.ListComp elt [⟨tg, iter, ifs, 0⟩] scope pos) (tComp ix wi g tc te) := by
  intro pins s σ H Q I h
  rw [eval_ListComp]
  have hcl : ∀ y ∈ scope.names, y.2 = NameKind.free → ∃ d, X.env.cells.lookup y.1 = some d := fun y hy e => I.ok.has _ (c.fr y hy e)
  refine wpAny_comprehension_free (use := none) rfl hs (closureFor_eq hcl) c.kind c.names (thn (hi pins s σ H _ I h) fun v s1 h1 => thn h1 fun itv s2 h2 => ?_)
  refine comp_block (RR := fun acc C => compPost (model X.prog X.w) X.A X.xe none (EP X pins σ Q) acc C) c hc hg ht he h2 ?_
  intro D C s' H' m I' hn hC hz hp hL hcells q
  exact ⟨m, hn, fun h' hs' => ⟨.ref D, H', I'.turned (t' := s'.toks) (fun b o hb e => hs'.extBut b o hb e) hC hL (.inr hz) hcells hp, rfl, q⟩⟩
theorem ps_comp {i : Nat} {x : Str} {px spos : Pos} (hN : X.N.Nodup) (hx0 : X.N[i]? = some x) (hx : X.env.scope.names.lookup x = some .local) (c : CompOk X scope N ix) (hc : X.calm = true) (hi : PI X tg iter wi) (hg : ∀ C fp s H, PG (cxC X N scope C fp s H) tg g) (ht : ∀ C fp s H, PIf (cxC X N scope C fp s H) ifs tc) (he : ∀ C fp s H, PE (cxC X N scope C fp s H) elt te)
    (hsw : swapsWith (.ListComp elt [⟨tg, iter, ifs, 0⟩] scope pos) (some (.Name x px)) spos.line X.env = pure true := by rfl)
    (hs : ∀ x, foldedSetIterable iter X.env x = pure x := by intro _; rfl) : PS X (.Assign [.Name x px] (.ListComp elt [⟨tg, iter, ifs, 0⟩] scope pos) spos) (tAsg (tComp ix wi g tc te) (gName i)) := by
  intro pins s σ H D0 I h
  rw [exec_Assign_Name_used _ _ _ _ hsw]
  refine wpAny_bind (wpAny_standAt (wpAny_bind ?_))
  show wpAny _ _ (do let _ ← comprehension (.ListComp elt [⟨tg, iter, ifs, 0⟩] scope pos) scope X.env _ (newList []) false (eval iter X.env) (some (assign (.Name x px) X.env))) _ _ s
  have hcl : ∀ y ∈ scope.names, y.2 = NameKind.free → ∃ d, X.env.cells.lookup y.1 = some d := fun y hy e => I.ok.has _ (c.fr y hy e)
  refine wpAny_bind (wpAny_mono (wpAny_comprehension_free (use := some (assign (.Name x px) X.env)) (Q := fun _ s' => SP X pins D0 .next s') rfl hs (closureFor_eq hcl) c.kind c.names
    (thn (hi pins s σ H _ I h) fun v s1 h1 => thn h1 fun itv s2 h2 => ?_)) (fun _ s' hq => wpAny_pure (wpAny_pure hq)) fun _ _ e => e)
  refine comp_block (RR := fun acc C => compPost (model X.prog X.w) X.A X.xe (some (assign (.Name x px) X.env)) (fun _ s' => SP X pins D0 .next s') acc C) c hc hg ht he h2 ?_
  intro D C s' H' m I' hn hC hz hp hL hcells q
  show wpAny _ _ (assign (.Name x px) X.env (.ref D)) _ _ _
  refine wpAny_assign_Name (store_ok2 (v := .ref D) I' hN hx0 (.inl hx) rfl (fun s'' I'' hsb => ?_) (.inr hx))
  obtain ⟨a, sb, ha⟩ := hsb
  have haC : a ≠ C := by
    rcases ha with e | e
    · rw [e]; exact hL.symm
    · exact hcells x a e
  refine ⟨m, hn.sameBut sb haC.symm, fun h' hs' => ⟨_, H', I''.turned (t' := s''.toks) (fun b o hb e => hs'.extBut b o hb e) hC hL (.inr hz) hcells hp, q⟩⟩
end
end L2
namespace L2
open PySem PySem.Spec PyProof.Rows
mutual
inductive Dat (K : PySem.W.Frag) (H : Hp) (P : Addr → Prop) : V → PyData → Prop
  | non : Dat K H P .non .none
  | bl (b : Bool) : Dat K H P (.bl b) (.bool b)
  | int (i : Int) : Dat K H P (.int i) (.int i)
  | str (x : Str) : Dat K H P (.str x) (.str x)
  | lst {a : Addr} {vs : List V} {ds : List PyData} : SqL K H a vs → P a → DatAll K H P vs ds → Dat K H P (.ref a) (.list ds)
  | tup {a : Addr} {vs : List V} {ds : List PyData} : SqT K H a vs → P a → DatAll K H P vs ds → Dat K H P (.ref a) (.tuple ds)
inductive DatAll (K : PySem.W.Frag) (H : Hp) (P : Addr → Prop) : List V → List PyData → Prop
  | nil : DatAll K H P [] []
  | cons {v : V} {d : PyData} {vs : List V} {ds : List PyData} : Dat K H P v d → DatAll K H P vs ds → DatAll K H P (v :: vs) (d :: ds)
end
def Keep (P : Addr → Prop) (H H' : Hp) : Prop := ∀ b o, P b → H b = some o → H' b = some o
theorem Keep.sqL {P : Addr → Prop} {H H' : Hp} {K : PySem.W.Frag} {a : Addr} {xs : List V} (k : Keep P H H') (p : P a) (h : SqL K H a xs) : SqL K H' a xs := by
  rcases h with (h | ⟨o, h⟩) | h
  · exact .inl (.inl (k _ _ p h))
  · exact .inl (.inr ⟨o, k _ _ p h⟩)
  · exact .inr h
theorem Keep.sqT {P : Addr → Prop} {H H' : Hp} {K : PySem.W.Frag} {a : Addr} {xs : List V} (k : Keep P H H') (p : P a) (h : SqT K H a xs) : SqT K H' a xs := by
  rcases h with (h | ⟨o, h⟩) | h
  · exact .inl (.inl (k _ _ p h))
  · exact .inl (.inr ⟨o, k _ _ p h⟩)
  · exact .inr h
mutual
theorem Dat.keep {K : PySem.W.Frag} {H H' : Hp} {P : Addr → Prop} (k : Keep P H H') : ∀ {v : V} {d : PyData}, Dat K H P v d → Dat K H' P v d
  | _, _, .non => .non
  | _, _, .bl b => .bl b
  | _, _, .int i => .int i
  | _, _, .str x => .str x
  | _, _, .lst h p r => .lst (k.sqL p h) p (r.keep k)
  | _, _, .tup h p r => .tup (k.sqT p h) p (r.keep k)
theorem DatAll.keep {K : PySem.W.Frag} {H H' : Hp} {P : Addr → Prop} (k : Keep P H H') : ∀ {vs : List V} {ds : List PyData}, DatAll K H P vs ds → DatAll K H' P vs ds
  | _, _, .nil => .nil
  | _, _, .cons h r => .cons (h.keep k) (r.keep k)
end
mutual
theorem Dat.imp {K : PySem.W.Frag} {H : Hp} {P P' : Addr → Prop} (k : ∀ a, P a → P' a) : ∀ {v : V} {d : PyData}, Dat K H P v d → Dat K H P' v d
  | _, _, .non => .non
  | _, _, .bl b => .bl b
  | _, _, .int i => .int i
  | _, _, .str x => .str x
  | _, _, .lst h p r => .lst h (k _ p) (r.imp k)
  | _, _, .tup h p r => .tup h (k _ p) (r.imp k)
theorem DatAll.imp {K : PySem.W.Frag} {H : Hp} {P P' : Addr → Prop} (k : ∀ a, P a → P' a) : ∀ {vs : List V} {ds : List PyData}, DatAll K H P vs ds → DatAll K H P' vs ds
  | _, _, .nil => .nil
  | _, _, .cons h r => .cons (h.imp k) (r.imp k)
end
section
variable {X : Cx} {pins : List (Addr × Obj)} {σ : St} {H : Hp} {s : Shared}
mutual
theorem Inv.reads {P : Addr → Prop} (I : Inv X pins σ H s) : ∀ {v : V} {d : PyData} {u : Value}, Dat X.K H P v d → RelV v u → ∃ as, Reads s.heap u d as
  | _, _, u, .non, r => by cases (show u = Value.none from r); exact ⟨_, .none⟩
  | _, _, u, .bl b, r => by cases (show u = Value.bool b from r); exact ⟨_, .bool b⟩
  | _, _, u, .int i, r => by obtain ⟨t, rfl⟩ := (show ∃ t, u = Value.int i t from r); exact ⟨_, .int i t⟩
  | _, _, u, .str x, r => by obtain ⟨t, rfl⟩ := (show ∃ t, u = Value.str x t from r); exact ⟨_, .str x t⟩
  | .ref a, _, u, .lst h p rs, r => by
    cases (show u = Value.ref a from r)
    obtain ⟨its, rv, ⟨o, n, e, c, _, d⟩, _⟩ := I.list h
    obtain ⟨as, q⟩ := Inv.readsAll I rs rv
    exact ⟨_, .list e c d (by simpa using q)⟩
  | .ref a, _, u, .tup h p rs, r => by
    cases (show u = Value.ref a from r)
    obtain ⟨its, rv, ⟨o, e, c, n, d⟩, _⟩ := I.tuple h
    obtain ⟨as, q⟩ := Inv.readsAll I rs rv
    exact ⟨_, .tuple e c d (by simpa using q)⟩
theorem Inv.readsAll {P : Addr → Prop} (I : Inv X pins σ H s) : ∀ {vs : List V} {ds : List PyData} {us : List Value}, DatAll X.K H P vs ds → Vals vs us → ∃ as, ReadsAll s.heap us ds as
  | _, _, _, .nil, r => by cases r; exact ⟨_, .nil⟩
  | _, _, _, .cons h rs, r => by
    cases r with
    | cons r1 r2 =>
      obtain ⟨as, q⟩ := Inv.reads I h r1
      obtain ⟨bs, q'⟩ := Inv.readsAll I rs r2
      exact ⟨_, .cons q q'⟩
end
def rEqD (K : PySem.W.Frag) : R2 := fun x y H Q => ∃ P dx dy, Dat K H P x dx ∧ Dat K H P y dy ∧ dx.canLay0 = true ∧ dy.canLay0 = true ∧ dx.depth ≤ 60 ∧ Q (.bl (PyData.eqv dx dy)) H
def rNeD (K : PySem.W.Frag) : R2 := fun x y H Q => ∃ P dx dy, Dat K H P x dx ∧ Dat K H P y dy ∧ dx.canLay0 = true ∧ dy.canLay0 = true ∧ dx.depth ≤ 60 ∧ Q (.bl (!PyData.eqv dx dy)) H
theorem op_eqD (hu : X.A.units + 64 < cLine) : OpR X (compareOp .Eq) (rEqD X.K) := by
  intro pins s σ H x y v u Q I rx ry h
  obtain ⟨P, dx, dy, hx, hy, lx, ly, dd, q⟩ := h
  obtain ⟨as, qa⟩ := I.reads hx rx
  obtain ⟨bs, qb⟩ := I.reads hy ry
  exact SeqAt.compareEq_reads qa qb lx ly (by omega) ⟨.bl _, H, I, rfl, q⟩
theorem op_neD (hu : X.A.units + 64 < cLine) : OpR X (compareOp .NotEq) (rNeD X.K) := by
  intro pins s σ H x y v u Q I rx ry h
  obtain ⟨P, dx, dy, hx, hy, lx, ly, dd, q⟩ := h
  obtain ⟨as, qa⟩ := I.reads hx rx
  obtain ⟨bs, qb⟩ := I.reads hy ry
  exact SeqAt.compareNe_reads qa qb lx ly (by omega) ⟨.bl _, H, I, rfl, q⟩
def rRange : List V → Hp → VK → Prop := fun xs H Q => (∃ j, xs = [.int j] ∧ ∀ p, H p = none → Q (.ref p) (upd H p (.rng 0 j))) ∨ ∃ i j, xs = [.int i, .int j] ∧ ∀ p, H p = none → Q (.ref p) (upd H p (.rng i j))
theorem call_range : CallR X (.type "range") rRange := by
  intro pins s σ H xs us Q I r h
  rcases h with ⟨j, rfl, q⟩ | ⟨i, j, rfl, q⟩
  · obtain ⟨u, rfl, t, rfl⟩ := vals1 r
    refine call_range_1 ⟨.ref s.heap.objs.size, _, I.laid (o := .rng 0 j) (fun b o e => Heap.get?_push_of_some _ e) (Nat.le_refl _) ⟨_, _, _, Heap.get?_push_size _ rfl⟩, rfl, q _ (I.hok.fresh (Nat.le_refl _))⟩
  · obtain ⟨u, u', rfl, ⟨t, rfl⟩, ⟨t', rfl⟩⟩ := vals2 r
    refine call_range_2 ⟨.ref s.heap.objs.size, _, I.laid (o := .rng i j) (fun b o e => Heap.get?_push_of_some _ e) (Nat.le_refl _) ⟨_, _, _, Heap.get?_push_size _ rfl⟩, rfl, q _ (I.hok.fresh (Nat.le_refl _))⟩
def ivl (lo hi : Int) : List Int := (List.range (hi - lo).toNat).map fun (i : Nat) => lo + (i : Int)
theorem ivl_length (lo hi : Int) : (ivl lo hi).length = (hi - lo).toNat := by simp [ivl]
theorem items_ints {lo : Int} {n : Nat} {acc : Array Value} (h : ItemsOf (fun i v => ∃ t, v = .int (lo + i * 1) t) acc n) : Vals (((List.range n).map fun (i : Nat) => lo + (i : Int)).map V.int) acc.toList := by
  obtain ⟨h1, h2⟩ := h
  have key : ∀ (l : List Value) (k : Nat), (∀ (j : Nat) (v : Value), l[j]? = some v → ∃ t, v = Value.int (lo + ((k + j : Nat) : Int) * 1) t) → Vals ((List.range' k l.length).map fun (i : Nat) => V.int (lo + (i : Int))) l := by
    intro l
    induction l with
    | nil => intro k _; exact .nil
    | cons v r ih =>
      intro k hk
      rw [List.length_cons, List.range'_succ, List.map_cons]
      refine .cons ?_ (ih (k + 1) fun j v hj => ?_)
      · obtain ⟨t, e⟩ := hk 0 v rfl
        refine ⟨t, ?_⟩
        rw [e]; simp
      · obtain ⟨t, e⟩ := hk (j + 1) v (by simpa using hj)
        refine ⟨t, ?_⟩
        rw [e]
        congr 2
        simp
        omega
  have := key acc.toList 0 fun j v hj => by
    have := h2 j v (by simpa using hj)
    simpa using this
  rw [List.map_map]
  rw [List.range_eq_range']
  have e : acc.toList.length = n := by simpa using h1
  rw [e] at this
  exact this
theorem rng_size {i j : Int} : Builtin.Range.rangeSize i j 1 = (((j - i).toNat : Nat) : Int) := by
  rw [rangeSize_one]; split <;> omega
def rListRng : List V → Hp → VK → Prop := fun xs H Q => ∃ p i j, xs = [.ref p] ∧ H p = some (.rng i j) ∧ -1000000 ≤ i ∧ i ≤ 1000000 ∧ -1000000 ≤ j ∧ j ≤ 1000000 ∧ ∀ l, H l = none → Q (.ref l) (upd H l (.lst ((ivl i j).map V.int)))
theorem size_le {i j : Int} (h1 : -1000000 ≤ i) (h2 : i ≤ 1000000) (h3 : -1000000 ≤ j) (h4 : j ≤ 1000000) : (j - i).toNat ≤ 2 ^ 24 := by
  have : (j - i).toNat ≤ 2000000 := by omega
  exact Nat.le_trans this (by decide)
theorem call_list_rng (hc : X.calm = true) : CallR X (.type "list") rListRng := by
  intro pins s σ H xs us Q I r h
  obtain ⟨p, i, j, rfl, hp, h1, h2, h3, h4, q⟩ := h
  obtain ⟨u, rfl, rx⟩ := vals1 r
  cases rx
  obtain ⟨t, t', t'', e⟩ := (show ObjOk X.prog X.w H s.heap p (.rng i j) from I.hok p _ hp)
  refine call_list_range (I.ok.hd hc) e (small_one (by omega) (by omega) (by omega) (by omega)) rng_size (size_le h1 h2 h3 h4) fun h' tk acc' c' k e' it => ?_
  have v := items_ints it
  refine ⟨.ref s.heap.objs.size, _, I.laid (o := .lst ((ivl i j).map V.int)) k (Nat.le_refl _) ⟨?_, acc'.toList, c', v, by simpa using e'⟩, rfl, q _ (I.hok.fresh (Nat.le_refl _))⟩
  rw [List.length_map, ivl_length]
  exact Nat.le_trans (size_le h1 h2 h3 h4) (by decide)
end
end L2
namespace L2
open PySem PySem.Spec PyProof.Rows
section
variable {prog : Program} {w : World} {A : Around} {E : Value → Shared → Prop} {s : Shared}
theorem collect_range {Q : List Value → Shared → Prop} {r : Addr} {a b c : Int} {t u v : Tok} {n : Nat} (hh : A.handled = none) (hr : IsRange s.heap r a b c t u v) (hsmall : Builtin.Range.small a b c = true)
    (hn : Builtin.Range.rangeSize a b c = n) (hlen : n ≤ 2 ^ 24)
    (hQ : ∀ h' tk acc, (∀ b o, s.heap.get? b = some o → h'.get? b = some o) → ItemsOf (fun i v => ∃ t, v = .int (a + i * c) t) acc n → Q acc.toList { s with heap := h', toks := tk }) :
    wpAny (model prog w) A (collect (.ref r)) Q E s := by
  unfold collect
  refine wpAny_bind (wpAny_runValue (codeAny_builtin F.entry_proto_collect ?_))
  rw [Around.under_plainId F.plain_proto_collect _]
  show wpAny _ A.in1 (newList [] >>= fun l => again (.builtin "list.__iadd__" ⟨[l, .ref r], []⟩)) _ _ s
  refine wpAny_bind (wpAny_newObj_type ?_)
  refine wpAny_pure ⟨plainId_quiet F.plain_list_iadd _, codeAny_builtin F.entry_list_iadd ?_⟩
  rw [Around.under_plainId F.plain_list_iadd _]
  show wpAny _ A.in1 (Builtin.List.listExtendWith (.ref s.heap.objs.size) (.ref r) (.ref s.heap.objs.size)) _ _ _
  have hS : (s.heap.push { cls := .type "list", data := .seq ([] : List Value).toArray }).get? s.heap.objs.size = some { cls := .type "list", data := .seq #[] 0 } := Heap.get?_push_size _ rfl
  have fin' : ∀ (h' : Heap) (tk : Nat) (acc' : Array Value) (c' : Nat), (∀ b o, b ≠ s.heap.objs.size → (s.heap.push { cls := .type "list", data := .seq ([] : List Value).toArray }).get? b = some o → h'.get? b = some o) →
      h'.get? s.heap.objs.size = some { cls := .type "list", dict := none, data := .seq acc' c', slots := #[] } → ItemsOf (fun i v => ∃ t, v = .int (a + i * c) t) acc' n → wpAny (model prog w) A (match Value.ref s.heap.objs.size with
      | Value.ref a => do
        match (← load a).data with
          | Data.seq xs _ => pure xs.toList
          | _ => unsupported "internal:collect"
      | _ => unsupported "internal:collect") Q E { s with heap := h', toks := tk } := fun h' tk acc' c' hk hS' hacc => by
    show wpAny _ A (load s.heap.objs.size >>= _) _ _ _
    refine wpAny_bind (wpAny_load hS' ?_)
    exact wpAny_pure (hQ h' tk acc' (fun b o e => hk b o (Nat.ne_of_lt (Heap.lt_size e)) (Heap.get?_push_of_some _ e)) hacc)
  refine wpAny_mono (wpAny_extend_range (A := A) (R := fun r s' => r = .ok (.ret (.ref s.heap.objs.size)) ∧ wpAny (model prog w) A (match Value.ref s.heap.objs.size with
      | Value.ref a => do
        match (← load a).data with
          | Data.seq xs _ => pure xs.toList
          | _ => unsupported "internal:collect"
      | _ => unsupported "internal:collect") Q E s') (s := { s with heap := s.heap.push { cls := .type "list", data := .seq ([] : List Value).toArray } }) hh (Heap.get?_push_of_some _ hr) hsmall hn hlen _ (.ref s.heap.objs.size) 0 hS fun h' tk acc' c' hk hS' hacc => ⟨rfl, fin' h' tk acc' c' hk hS' hacc⟩) (fun fin s' h => ?_) (fun e s' h => ?_)
  · cases fin with
    | done f =>
      obtain ⟨e, q⟩ := h
      cases e
      exact q
    | again c' => exact ⟨h.1, codeAny_mono h.2 fun r s'' hr => by obtain ⟨rfl, q⟩ := hr; exact q⟩
  · exact absurd h.1 (by simp)
theorem meets_tuple_new_range {r : Addr} {a b c : Int} {t u v : Tok} {n : Nat} (hsmall : Builtin.Range.small a b c = true) (hn : Builtin.Range.rangeSize a b c = n) (hlen : n ≤ 2 ^ 24) :
    Meets (Builtin.«tuple.__new__» ⟨[.type "tuple", .ref r], []⟩)
      (fun A R s => A.handled = none ∧ IsRange s.heap r a b c t u v ∧ ∀ (h' : Heap) (tk : Nat) (acc : Array Value), (∀ b o, s.heap.get? b = some o → h'.get? b = some o) → ItemsOf (fun i v => ∃ t, v = .int (a + i * c) t) acc n →
        R (.ok (.ret (.ref h'.objs.size))) { s with heap := h'.push { cls := .type "tuple", data := .seq acc }, toks := tk }) :=
  .of_wp fun prog w A R s h => by
    obtain ⟨hp, g, d, tk, os⟩ := s
    obtain ⟨hh, hr, h⟩ := h
    have hsub := sub_tuple_self
    have hinit := init_tuple_lookup
    have hmh := madeHere_tuple
    have hT : Shared.TypeIs ⟨hp, g, d, tk, os⟩ (.ref r) "range" := ⟨_, hr, rfl⟩
    have hh1 : A.in1.handled = none := hh
    wp_walk using wpAny_typeOf hT, collect_range hh1 hr hsmall hn hlen
    intro h' tk acc hk hacc
    have hsz : acc.size ≤ sizeLine := by rw [hacc.1]; exact Nat.le_trans hlen (by decide)
    show wpAny _ _ (Builtin.Tuple.tupleExact acc.toList.toArray >>= fun v => ret v) _ _ _
    unfold Builtin.Tuple.tupleExact
    refine wpAny_bind (wpAny_newObj_type ?_ (show acc.toList.toArray.size ≤ sizeLine by simpa using hsz))
    refine wpAny_pure ⟨_, rfl, ?_⟩
    have e : acc.toList.toArray = acc := by simp
    rw [e]
    exact h h' tk acc hk hacc
theorem call_tuple_range {Q : Value → Shared → Prop} {r : Addr} {a b c : Int} {t u v : Tok} {n : Nat} (hh : A.handled = none) (hr : IsRange s.heap r a b c t u v) (hsmall : Builtin.Range.small a b c = true)
    (hn : Builtin.Range.rangeSize a b c = n) (hlen : n ≤ 2 ^ 24)
    (h : ∀ (h' : Heap) (tk : Nat) (acc : Array Value), (∀ b o, s.heap.get? b = some o → h'.get? b = some o) → ItemsOf (fun i v => ∃ t, v = .int (a + i * c) t) acc n → Q (.ref h'.objs.size) { s with heap := h'.push { cls := .type "tuple", data := .seq acc }, toks := tk }) :
    wpAny (model prog w) A (call (.type "tuple") [.ref r]) Q E s := by
  refine callType_new F.called_tuple (by decide) (F.typeCall_tuple_1 _) (F.newCall_tuple_1 _) (fun obj => F.args_object_init_2 obj _) F.entry_tuple_new
    (meets_tuple_new_range hsmall hn hlen) ⟨hh, hr, fun h' tk acc hk hacc => ⟨⟨_, Heap.get?_push_size _ rfl, rfl⟩, ?_⟩⟩
  exact h h' tk acc hk hacc
end
section
variable {X : Cx}
def rTupRng : List V → Hp → VK → Prop := fun xs H Q => ∃ p i j, xs = [.ref p] ∧ H p = some (.rng i j) ∧ -1000000 ≤ i ∧ i ≤ 1000000 ∧ -1000000 ≤ j ∧ j ≤ 1000000 ∧ ∀ l, H l = none → Q (.ref l) (upd H l (.tup ((ivl i j).map V.int)))
theorem call_tuple_rng (hc : X.calm = true) : CallR X (.type "tuple") rTupRng := by
  intro pins s σ H xs us Q I r h
  obtain ⟨p, i, j, rfl, hp, h1, h2, h3, h4, q⟩ := h
  obtain ⟨u, rfl, rx⟩ := vals1 r
  cases rx
  obtain ⟨t, t', t'', e⟩ := (show ObjOk X.prog X.w H s.heap p (.rng i j) from I.hok p _ hp)
  refine call_tuple_range (I.ok.hd hc) e (small_one (by omega) (by omega) (by omega) (by omega)) rng_size (size_le h1 h2 h3 h4) fun h' tk acc k it => ?_
  have v := items_ints it
  have I1 : Inv X pins σ H { s with heap := h', toks := tk } := I.kept k
  refine ⟨.ref h'.objs.size, _, I1.laid (t' := tk) (o := .tup ((ivl i j).map V.int)) (fun b o e => Heap.get?_push_of_some _ e) (Nat.le_refl _) ⟨?_, acc.toList, v, by simpa using IsTup.new h' acc⟩, rfl, q _ (I1.hok.fresh (Nat.le_refl _))⟩
  rw [List.length_map, ivl_length]
  exact Nat.le_trans (size_le h1 h2 h3 h4) (by decide)
def tyOfV (K : PySem.W.Frag) (x : V) (H : Hp) (T : String) : Prop := TyOf K H x (.type T)
def rIsi (K : PySem.W.Frag) : List V → Hp → VK → Prop := fun xs H Q => ∃ x T C b, xs = [x, .ty C] ∧ tyOfV K x H T ∧ PySem.W.kitOne K (.type T) (.type C) = some b ∧ Q (.bl b) H
theorem call_isi : CallR X (.builtin "isinstance") (rIsi X.K) := by
  intro pins s σ H xs us Q I r h
  obtain ⟨x, T, C, b, rfl, ty, e, q⟩ := h
  obtain ⟨u, w', rfl, rx, ry⟩ := vals2 r
  cases (show w' = Value.type C from ry)
  exact isinst_ok I rx ty e fun tk => ⟨.bl b, H, I.tok _, rfl, q⟩
theorem kit_self (K : PySem.W.Frag) (T : String) : PySem.W.kitOne K (.type T) (.type T) = some true := by
  unfold PySem.W.kitOne
  rw [if_pos (beq_self_eq_true _)]
def rAll (K : PySem.W.Frag) : List V → Hp → VK → Prop := fun xs H Q => ∃ (p : Addr) (bs : List Bool), xs = [.ref p] ∧ SqL K H p (bs.map V.bl) ∧ Q (.bl (bs.all id)) H
theorem vals_bools : ∀ {bs : List Bool} {us : List Value}, Vals (bs.map V.bl) us → us = bs.map Value.bool
  | [], us, r => by cases r; rfl
  | b :: r, us, h => by
    cases h with
    | cons h1 h2 =>
      rw [List.map_cons, ← vals_bools h2]
      rw [show _ = Value.bool b from h1]
theorem call_all (hc : X.calm = true) : CallR X (.builtin "all") (rAll X.K) := by
  intro pins s σ H xs us Q I r h
  obtain ⟨p, bs, rfl, hl, q⟩ := h
  obtain ⟨u, rfl, rx⟩ := vals1 r
  cases rx
  obtain ⟨its, rv, pl, hz⟩ := I.list hl
  have e := vals_bools rv
  subst e
  refine call_all_walk (wpAny_pyIter_list pl.isList ?_)
  have lt : p < s.heap.objs.size := by obtain ⟨o, n, e, _⟩ := pl; exact Heap.lt_size e
  refine ⟨s.heap.objs.size, _, _, _, _, _, fun i => bs.getD i true, rfl, Walks.list (A := X.A.in1) (show X.A.in1.handled = none from I.ok.hd hc) s.heap.objs.size p (Nat.ne_of_lt lt) (bs.map Value.bool).toArray, ?_, ?_, ?_⟩
  · refine ⟨⟨_, Heap.get?_push_size _ rfl, rfl, rfl⟩, pl.isList.at fun o e => Heap.get?_push_of_some _ e⟩
  · intro i v s' Q' E' hP hQ'
    have hP : (bs.map Value.bool).toArray[i]? = some v := hP
    have : (bs.map Value.bool)[i]? = some v := by simpa using hP
    rw [List.getElem?_map] at this
    cases hb : bs[i]? with
    | none => rw [hb] at this; cases this
    | some b =>
      rw [hb] at this
      cases this
      have hg : bs.getD i true = b := by rw [List.getD_eq_getElem?_getD, hb]; rfl
      have hQ' : Q' (bs.getD i true) s' := hQ'
      rw [hg] at hQ'
      exact wpAny_truthy_bool hQ'
  · intro h' tk hk
    have e : (List.range (bs.map Value.bool).toArray.size).all (fun i => bs.getD i true) = bs.all id := by
      have : ∀ (l : List Bool), (List.range l.length).all (fun i => l.getD i true) = l.all id := by
        intro l
        induction l with
        | nil => rfl
        | cons b r ih =>
          rw [List.length_cons, List.range_succ_eq_map, List.all_cons, List.all_cons, List.all_map]
          rw [← ih]
          rfl
      simpa using this bs
    rw [e]
    refine ⟨.bl (bs.all id), H, ?_, rfl, q⟩
    refine (I.kept (t' := s.toks) (h' := h') fun b o e => hk b o ?_ (Heap.get?_push_of_some _ e)).tok tk
    intro z
    have z : b = s.heap.objs.size := by simpa using z
    exact absurd (Heap.lt_size e) (by rw [z]; exact Nat.lt_irrefl _)
end
end L2
namespace L2
open PySem PySem.Spec PyProof.Rows
structure FnAt (P : Program) (w : World) (K : PySem.W.Frag) (mg : Str → Option Value) (base : Heap) (x : Str) (k : Nat) (ps : List Str) (sp : Sp) : Prop where
  ex : ∃ (f : Addr) (fd : FuncData), FnOk P w K mg base CX0 k f fd ps sp ∧ mg x = some (.ref f) ∧ PySem.W.keepIn K (.ref f) = true ∧ Binds K fd ps []
section
variable {X : Cx} {x : Str} {k : Nat} {ps : List Str} {sp : Sp} {e : Expr} {es : List Expr} {t : TA} {p pos : Pos}
theorem pe_callF (F : FnAt X.prog X.w X.K X.mg X.base x k ps sp) (hr : Room k X.A) (hg : Gl X x) (ha : PA X (e :: es) t) (hdb : (x == ("__debug__" : Str)) = false := by decide +kernel) (he : starEach (e :: es) X.env = (false, eval e X.env) :: starEach es X.env := by rfl) (hpl : (backTo pos (starEach es X.env)).any (·.1) = false := by rfl) :
    PE X (.Call (.Name x p) (e :: es) [] pos) (tCall sp [] E0 t) := by
  obtain ⟨f, fd, F, hm, hk, hb⟩ := F.ex
  exact pe_call F hr hg hm hk hb .nil pass0 ha hdb he hpl
def CDivL (i j : Int) : Prop := 0 < j ∧ j < 2 ^ 200
theorem log2_lt {j : Int} (h : 0 < j) (h2 : j < 2 ^ 200) : j.natAbs.log2 < 9000 := by
  have h3 : j.natAbs < 2 ^ 200 := by
    have e : ((j.natAbs : Nat) : Int) = j := Int.natAbs_of_nonneg (Int.le_of_lt h)
    have : ((j.natAbs : Nat) : Int) < ((2 ^ 200 : Nat) : Int) := by rw [e]; simpa using h2
    exact Int.ofNat_lt.mp this
  have h0 : j.natAbs ≠ 0 := by omega
  have := (Nat.log2_lt h0).mpr h3
  omega
theorem op_fdivL : OpR X (binaryOp .FloorDiv) (rI CDivL fun i j => .int (i / j)) := opI fun i j _ _ _ _ _ hc q => by
  refine floordiv_int (by have := hc.1; omega) ?_ (.inl (PyProof.noPylong_of_log2 (log2_lt hc.1 hc.2)))
  rw [Int.fdiv_eq_ediv_of_nonneg _ (Int.le_of_lt hc.1)]
  exact q
end
def capB (XN N : List Str) (ix : List (Option Nat)) (names : List (Str × NameKind)) : Bool :=
  (List.range ix.length).all fun j => match ix[j]? with
    | some (some i) => match N[j]? with
      | some x => XN[i]? == some x && names.lookup x == some .free
      | none => false
    | _ => true
theorem cap_ok {XN N : List Str} {ix : List (Option Nat)} {names : List (Str × NameKind)} (h : capB XN N ix names = true) :
    ∀ (j i : Nat), ix[j]? = some (some i) → ∃ x : Str, N[j]? = some x ∧ XN[i]? = some x ∧ names.lookup x = some .free ∧ (x, NameKind.free) ∈ names := by
  intro j i e
  have hj : j < ix.length := (List.getElem?_eq_some_iff.mp e).1
  have q := List.all_eq_true.mp h j (List.mem_range.mpr hj)
  rw [e] at q
  dsimp only at q
  cases hn : N[j]? with
  | none => rw [hn] at q; cases q
  | some x =>
    rw [hn] at q
    dsimp only at q
    obtain ⟨q1, q2⟩ := Bool.and_eq_true_iff.mp q
    have q1 : XN[i]? = some x := by simpa using q1
    have q2 : names.lookup x = some NameKind.free := by
      cases hl : names.lookup x with
      | none => rw [hl] at q2; cases q2
      | some k => rw [hl] at q2; cases k <;> first | rfl | cases q2
    exact ⟨x, rfl, q1, q2, mem_of_lookup q2⟩
def SameX (p : Addr) (H H' : Hp) : Prop := ∀ b o, b ≠ p → H b = some o → H' b = some o
theorem SameX.trans {p : Addr} {H H1 H2 : Hp} (a : SameX p H H1) (b : SameX p H1 H2) : SameX p H H2 := fun c o n h => b c o n (a c o n h)
theorem Same.x {p : Addr} {H H' : Hp} (a : Same H H') : SameX p H H' := fun c o _ h => a c o h
theorem SameX.upd {p : Addr} {H : Hp} {o : HO} : SameX p H (upd H p o) := fun c o n h => by rw [upd_ne n]; exact h
theorem Same.new {p : Addr} {H : Hp} {o : HO} (h : H p = none) : Same H (upd H p o) := fun c o e => by rw [upd_ne (ne_of_none e h)]; exact e
theorem SameX.new {p q : Addr} {H : Hp} {o : HO} (h : H q = none) : SameX p H (L2.upd H q o) := (Same.new h).x
end L2
namespace L2
open PySem PySem.Spec PyProof.Rows
theorem comp_gen {ix : List (Option Nat)} {g : TG} {tc : TT} {te : TE} {σ : St} {Q : VK} {J : It} {H : Hp} {n : Nat} (Pv : Nat → List V → St → Hp → Prop) (hn : n ≤ 1000000) (h0 : Pv 0 [] (startC ix σ) H)
    (hgo : ∀ i ys σ H, i < n → Pv i ys σ H → J.go i H) (hst : ∀ ys σ H, Pv n ys σ H → J.stop n H) (hlen : ∀ i ys σ H, Pv i ys σ H → ys.length ≤ i)
    (hs : ∀ i ys σ H x H2, i < n → Pv i ys σ H → J.yld i H x H2 → g x σ H2 fun σ2 H3 => tc σ2 H3 fun b H4 => if b = true then te σ2 H4 fun v H5 => Pv (i + 1) (ys ++ [v]) σ2 H5 else Pv (i + 1) ys σ2 H4)
    (mg : ∀ x σ H R R', (∀ σ2 H2, R σ2 H2 → R' σ2 H2) → g x σ H R → g x σ H R') (mc : ∀ σ H (R R' : Bool → Hp → Prop), (∀ b H2, R b H2 → R' b H2) → tc σ H R → tc σ H R') (me : ∀ σ H (R R' : VK), (∀ v H2, R v H2 → R' v H2) → te σ H R → te σ H R')
    (hd : ∀ ys σ' H' p, Pv n ys σ' H' → H' p = none → Q (.ref p) (upd H' p (.lst ys))) : rComp ix g tc te σ Q J H := by
  have big : (1000000 : Nat) < sizeLine := by decide
  refine ⟨fun i m ys σ' H' => m = n - i ∧ i ≤ n ∧ Pv i ys σ' H', ⟨n, by simp, Nat.zero_le _, h0⟩, ?_⟩
  rintro i m ys σ' H' ⟨rfl, hi, p⟩
  have hl := hlen i ys σ' H' p
  by_cases hlt : i < n
  · refine .inr ⟨hgo i ys σ' H' hlt p, by omega, fun x H2 y => ?_⟩
    refine mg _ _ _ _ _ (fun σ2 H3 q => ?_) (hs i ys σ' H' x H2 hlt p y)
    refine mc _ _ _ _ (fun b H4 q => ?_) q
    cases b with
    | true =>
      rw [if_pos rfl] at q ⊢
      exact me _ _ _ _ (fun v H5 q => ⟨n - (i + 1), by omega, rfl, hlt, q⟩) q
    | false =>
      rw [if_neg Bool.false_ne_true] at q ⊢
      exact ⟨n - (i + 1), by omega, rfl, hlt, q⟩
  · have e : i = n := by omega
    subst e
    exact .inl ⟨hst ys σ' H' p, by omega, fun q hq => hd ys σ' H' q p hq⟩
theorem comp_list {K : PySem.W.Frag} {ix : List (Option Nat)} {te : TE} {σ : St} {Q : VK} {H : Hp} {a : Addr} {xs : List V} {k : Nat} (Pv : Nat → List V → St → Hp → Prop) (hn : xs.length ≤ 1000000) (h0 : Pv 0 [] (startC ix σ) H)
    (hl : ∀ i ys σ H, i ≤ xs.length → Pv i ys σ H → SqL K H a xs) (hlen : ∀ i ys σ H, Pv i ys σ H → ys.length ≤ i)
    (hs : ∀ i ys σ H x, xs[i]? = some x → Pv i ys σ H → te (σ.set k (some x)) H fun v H5 => Pv (i + 1) (ys ++ [v]) (σ.set k (some x)) H5) (me : ∀ σ H (R R' : VK), (∀ v H2, R v H2 → R' v H2) → te σ H R → te σ H R')
    (hd : ∀ ys σ' H' p, Pv xs.length ys σ' H' → H' p = none → Q (.ref p) (upd H' p (.lst ys))) : rComp ix (gName k) tTrue te σ Q (Itl K a) H := by
  refine comp_gen Pv hn h0 (fun i ys σ H hi p => ⟨xs, xs[i], hl i ys σ H (Nat.le_of_lt hi) p, by simp [hi]⟩) (fun ys σ H p => ⟨xs, hl _ ys σ H (Nat.le_refl _) p, Nat.le_refl _⟩) hlen (fun i ys σ H x H2 hi p y => ?_) (fun _ _ _ _ _ m q => m _ _ q) (fun _ _ _ _ m q => m _ _ q) me hd
  obtain ⟨rfl, y⟩ := y
  unfold gName tTrue
  simp only [if_true]
  exact hs i ys σ _ x (y xs (hl i ys σ _ (Nat.le_of_lt hi) p)) p
end L2
namespace L2
open PySem PySem.Spec PyProof.Rows
def compB (XS : List (Str × NameKind)) (XN : List Str) (names : List (Str × NameKind)) (N : List Str) (ix : List (Option Nat)) : Bool :=
  names.all (fun y => match y.2 with
    | .cell => false
    | .local => (match names.lookup y.1 with | some .local => true | _ => false)
    | .free => (match XS.lookup y.1 with | some .cell => true | some .free => true | _ => false)
    | _ => true) && decide (ix.length = N.length) && capB XN N ix names
theorem comp_ok {X : Cx} {scope : Scope} {N : List Str} {ix : List (Option Nat)} (hk : scope.kind = .function) (h : compB X.env.scope.names X.N scope.names N ix = true) : CompOk X scope N ix := by
  unfold compB at h
  obtain ⟨h, h3⟩ := Bool.and_eq_true_iff.mp h
  obtain ⟨h1, h2⟩ := Bool.and_eq_true_iff.mp h
  have all : ∀ y ∈ scope.names, _ := fun y hy => List.all_eq_true.mp h1 y hy
  refine ⟨hk, fun y hy e => ?_, of_decide_eq_true h2, fun y hy e => ?_, fun y hy e => ?_, cap_ok h3⟩
  · have q := all y hy
    rw [e] at q
    cases q
  · have q := all y hy
    rw [e] at q
    dsimp only at q
    cases hl : scope.names.lookup y.1 with
    | none => rw [hl] at q; cases q
    | some k => rw [hl] at q; cases k <;> first | rfl | cases q
  · have q := all y hy
    rw [e] at q
    dsimp only at q
    show X.env.scope.names.lookup y.1 = _ ∨ X.env.scope.names.lookup y.1 = _
    cases hl : X.env.scope.names.lookup y.1 with
    | none => rw [hl] at q; cases q
    | some k => rw [hl] at q; cases k <;> first | exact .inl rfl | exact .inr rfl | cases q
section
variable {X : Cx} {K : PySem.W.Frag}
theorem call_isiK (h : X.K = K) : CallR X (.builtin "isinstance") (rIsi K) := by subst h; exact call_isi
theorem ix_listK (h : X.K = K) : IxR X (rIxL K) := by subst h; exact ix_list
theorem ix_tupK (h : X.K = K) : IxR X (rIxT K) := by subst h; exact ix_tup
theorem call_lenK (h : X.K = K) : CallR X (.builtin "len") (fun xs H Q => ∃ p ys, xs = [.ref p] ∧ (SqL K H p ys ∨ SqT K H p ys) ∧ Q (.int ys.length) H) := by subst h; exact call_len_seq
theorem call_allK (h : X.K = K) (hc : X.calm = true) : CallR X (.builtin "all") (rAll K) := by subst h; exact call_all hc
theorem op_inK (h : X.K = K) : OpR X (compareOp .In) (rIn K false) := by subst h; exact op_in_seq
theorem op_notInK (h : X.K = K) : OpR X (compareOp .NotIn) (rIn K true) := by subst h; exact op_notIn_seq
theorem pi_listK {tg l : Expr} {tl : TE} (h : X.K = K) (hl : PE X l tl) : PI X tg l (iList K tl) := by subst h; exact pi_list hl
theorem pi_tupK {tg l : Expr} {tl : TE} (h : X.K = K) (hl : PE X l tl) : PI X tg l (iTup K tl) := by subst h; exact pi_tup hl
theorem pg_tupK {es : List Expr} {k : Nat} {t : TGs} {n : Nat} {pos : Pos} (hk : X.K = K) (hc : X.calm = true) (h : PGs X es t)
    (hn : (assignEach es X.env).length = n := by rfl) (hst : (assignEach es X.env).findIdx? (·.1) = none := by rfl) : PG X (.Tuple es k pos) (gTup K n t) := by subst hk; exact pg_tup hc h hn hst
end
end L2
namespace Sw
open PySem L2
inductive Exs (H : Hp) : List V → List (Int × Int) → Prop
  | nil : Exs H [] []
  | cons {t : Addr} {a b : Int} {vs : List V} {r : List (Int × Int)} : H t = some (.tup [.int a, .int b]) → Exs H vs r → Exs H (.ref t :: vs) ((a, b) :: r)
theorem Exs.length {H : Hp} : ∀ {vs : List V} {r : List (Int × Int)}, Exs H vs r → vs.length = r.length
  | _, _, .nil => rfl
  | _, _, .cons _ x => by rw [List.length_cons, List.length_cons, x.length]
theorem Exs.keep {H H' : Hp} (k : ∀ b xs, H b = some (.tup xs) → H' b = some (.tup xs)) : ∀ {vs : List V} {r : List (Int × Int)}, Exs H vs r → Exs H' vs r
  | _, _, .nil => .nil
  | _, _, .cons h x => .cons (k _ _ h) (x.keep k)
theorem Exs.append {H : Hp} : ∀ {vs ws : List V} {r q : List (Int × Int)}, Exs H vs r → Exs H ws q → Exs H (vs ++ ws) (r ++ q)
  | _, _, _, _, .nil, y => y
  | _, _, _, _, .cons h x, y => .cons h (x.append y)
theorem Exs.get {H : Hp} : ∀ {vs : List V} {r : List (Int × Int)} {i : Nat} {x : V}, Exs H vs r → vs[i]? = some x → ∃ t a b, x = .ref t ∧ H t = some (.tup [.int a, .int b]) ∧ r[i]? = some (a, b)
  | _, _, _, _, .nil, e => by simp at e
  | _, _, 0, _, .cons h x, e => by simp at e; subst e; exact ⟨_, _, _, rfl, h, rfl⟩
  | _, _, i + 1, _, .cons h x, e => by
    obtain ⟨t, a, b, e1, e2, e3⟩ := x.get (i := i) (by simpa using e)
    exact ⟨t, a, b, e1, e2, by simpa using e3⟩
theorem Exs.dat {K : PySem.W.Frag} {H : Hp} : ∀ {vs : List V} {r : List (Int × Int)}, Exs H vs r → DatAll K H (fun _ => True) vs (r.map fun p => .tuple [.int p.1, .int p.2])
  | _, _, .nil => .nil
  | _, _, .cons h x => .cons (.tup (SqT.of h) True.intro (.cons (.int _) (.cons (.int _) .nil))) x.dat
theorem Same.tups {H H' : Hp} (s : Same H H') : ∀ b xs, H b = some (.tup xs) → H' b = some (.tup xs) := fun b xs e => s b _ e
theorem SameX.tups {p : Addr} {H H' : Hp} {ys : List V} (s : SameX p H H') (hp : H p = some (.lst ys)) : ∀ b xs, H b = some (.tup xs) → H' b = some (.tup xs) := fun b xs e => s b _ (ne_of e hp (by intro z; cases z)) e
theorem ints_dat {K : PySem.W.Frag} {H : Hp} {P : Addr → Prop} : ∀ (ns : List Int), DatAll K H P (ns.map V.int) (ns.map PyData.int)
  | [] => .nil
  | n :: r => .cons (.int n) (ints_dat r)
theorem tup_dat {K : PySem.W.Frag} {H : Hp} {t : Addr} {ns : List Int} (h : H t = some (.tup (ns.map V.int))) : Dat K H (fun _ => True) (.ref t) (.tuple (ns.map PyData.int)) := .tup (SqT.of h) True.intro (ints_dat ns)
theorem lay_ints : ∀ (ns : List Int), PyData.canLayAll0 (ns.map PyData.int) = true
  | [] => rfl
  | n :: r => by rw [List.map_cons]; unfold PyData.canLayAll0; rw [lay_ints r]; rfl
theorem lay_tup (ns : List Int) : (PyData.tuple (ns.map PyData.int)).canLay0 = true := by unfold PyData.canLay0; exact lay_ints ns
theorem depth_ints : ∀ (ns : List Int), PyData.depthAll (ns.map PyData.int) = 0
  | [] => by simp [PyData.depthAll]
  | n :: r => by rw [List.map_cons]; unfold PyData.depthAll; rw [depth_ints r]; simp [PyData.depth]
theorem depth_tup (ns : List Int) : (PyData.tuple (ns.map PyData.int)).depth ≤ 60 := by unfold PyData.depth; rw [depth_ints ns]; decide
theorem eqv_ints : ∀ (ns ms : List Int), PyData.eqvAll (ns.map PyData.int) (ms.map PyData.int) = decide (ns = ms)
  | [], [] => by simp [PyData.eqvAll]
  | [], m :: r => by simp [PyData.eqvAll]
  | n :: r, [] => by simp [PyData.eqvAll]
  | n :: r, m :: q => by
    rw [List.map_cons, List.map_cons]; unfold PyData.eqvAll; rw [eqv_ints r q]
    simp [PyData.eqv]
    by_cases h1 : n = m <;> by_cases h2 : r = q <;> simp [h1, h2]
theorem eqv_tup (ns ms : List Int) : PyData.eqv (.tuple (ns.map PyData.int)) (.tuple (ms.map PyData.int)) = decide (ns = ms) := by unfold PyData.eqv; exact eqv_ints ns ms
theorem lay_row : ∀ (r : List (Int × Int)), PyData.canLayAll0 (r.map fun p => PyData.tuple [.int p.1, .int p.2]) = true
  | [] => rfl
  | p :: r => by rw [List.map_cons]; unfold PyData.canLayAll0; rw [lay_row r]; rfl
theorem depth_row : ∀ (r : List (Int × Int)), PyData.depthAll (r.map fun p => PyData.tuple [.int p.1, .int p.2]) ≤ 1
  | [] => by simp [PyData.depthAll]
  | p :: r => by
    rw [List.map_cons]; unfold PyData.depthAll
    have := depth_row r
    simp [PyData.depth, PyData.depthAll]; omega
theorem eqv_row : ∀ (r q : List (Int × Int)), PyData.eqvAll (r.map fun p => PyData.tuple [.int p.1, .int p.2]) (q.map fun p => PyData.tuple [.int p.1, .int p.2]) = decide (r = q)
  | [], [] => by simp [PyData.eqvAll]
  | [], m :: r => by simp [PyData.eqvAll]
  | n :: r, [] => by simp [PyData.eqvAll]
  | (a, b) :: r, (c, d) :: q => by
    rw [List.map_cons, List.map_cons]; unfold PyData.eqvAll; rw [eqv_row r q]
    simp [PyData.eqv, PyData.eqvAll]
    by_cases h1 : a = c <;> by_cases h2 : b = d <;> by_cases h3 : r = q <;> simp [h1, h2, h3]
theorem eqT {K : PySem.W.Frag} {H : Hp} {t u : Addr} {ns ms : List Int} {Q : VK} (h1 : H t = some (.tup (ns.map V.int))) (h2 : H u = some (.tup (ms.map V.int))) (q : Q (.bl (!decide (ns = ms))) H) : rNeD K (.ref t) (.ref u) H Q :=
  ⟨_, _, _, tup_dat h1, tup_dat h2, lay_tup _, lay_tup _, depth_tup _, by rw [eqv_tup]; exact q⟩
theorem eqR {K : PySem.W.Frag} {H : Hp} {l m : Addr} {vs ws : List V} {r q : List (Int × Int)} {Q : VK} (h1 : H l = some (.lst vs)) (x1 : Exs H vs r) (h2 : H m = some (.lst ws)) (x2 : Exs H ws q) (hq : Q (.bl (!decide (r = q))) H) : rNeD K (.ref l) (.ref m) H Q := by
  refine ⟨fun _ => True, .list (r.map fun p => PyData.tuple [.int p.1, .int p.2]), .list (q.map fun p => PyData.tuple [.int p.1, .int p.2]), .lst (SqL.of h1) True.intro x1.dat, .lst (SqL.of h2) True.intro x2.dat, ?_, ?_, ?_, ?_⟩
  · unfold PyData.canLay0; exact lay_row r
  · unfold PyData.canLay0; exact lay_row q
  · unfold PyData.depth; have := depth_row r; omega
  · have e : PyData.eqv (.list (r.map fun p => PyData.tuple [.int p.1, .int p.2])) (.list (q.map fun p => PyData.tuple [.int p.1, .int p.2])) = decide (r = q) := by unfold PyData.eqv; exact eqv_row r q
    rw [e]; exact hq
def swp (x : Int) (e : Int × Int) : Int := if x = e.1 then e.2 else if x = e.2 then e.1 else x
def go (row : List (Int × Int)) (x : Int) : Int := row.foldl swp x
def ledM (n : Int) (row : List (Int × Int)) : List Int := (ivl 1 (n + 1)).map (go row)
def Good (n : Int) (row : List (Int × Int)) : Prop := ∀ e ∈ row, 1 ≤ e.1 ∧ e.1 < e.2 ∧ e.2 ≤ n
theorem Good.append {n : Int} {r q : List (Int × Int)} (a : Good n r) (b : Good n q) : Good n (r ++ q) := fun e h => (List.mem_append.mp h).elim (a e) (b e)
theorem Good.reverse {n : Int} {r : List (Int × Int)} (a : Good n r) : Good n r.reverse := fun e h => a e (List.mem_reverse.mp h)
theorem swp_in {n x : Int} {e : Int × Int} (h : 1 ≤ e.1 ∧ e.1 < e.2 ∧ e.2 ≤ n) (h1 : 1 ≤ x) (h2 : x ≤ n) : 1 ≤ swp x e ∧ swp x e ≤ n := by
  unfold swp; split
  · omega
  · split <;> omega
theorem swp_swp (x : Int) (e : Int × Int) : swp (swp x e) e = x := by
  unfold swp
  by_cases h1 : x = e.1
  · rw [if_pos h1]
    by_cases h2 : e.2 = e.1
    · rw [if_pos h2]; omega
    · rw [if_neg h2, if_pos rfl]; exact h1.symm
  · rw [if_neg h1]
    by_cases h2 : x = e.2
    · rw [if_pos h2, if_pos rfl]; exact h2.symm
    · rw [if_neg h2, if_neg h1, if_neg h2]
theorem go_in {n : Int} : ∀ {row : List (Int × Int)} {x : Int}, Good n row → 1 ≤ x → x ≤ n → 1 ≤ go row x ∧ go row x ≤ n
  | [], _, _, h1, h2 => ⟨h1, h2⟩
  | e :: r, x, g, h1, h2 => by
    have h := swp_in (g e List.mem_cons_self) h1 h2
    exact go_in (row := r) (fun e h => g e (List.mem_cons_of_mem _ h)) h.1 h.2
theorem go_append (r q : List (Int × Int)) (x : Int) : go (r ++ q) x = go q (go r x) := by unfold go; rw [List.foldl_append]
theorem go_back : ∀ (r : List (Int × Int)) (x : Int), go r.reverse (go r x) = x
  | [], _ => rfl
  | e :: r, x => by
    rw [List.reverse_cons, go_append]
    show go [e] (go r.reverse (go r (swp x e))) = x
    rw [go_back r]
    exact swp_swp x e
theorem go_back' (r : List (Int × Int)) (x : Int) : go r (go r.reverse x) = x := by
  have := go_back r.reverse x
  rwa [List.reverse_reverse] at this
theorem mem_ivl {lo hi x : Int} : x ∈ ivl lo hi ↔ lo ≤ x ∧ x < hi := by
  unfold ivl
  rw [List.mem_map]
  constructor
  · rintro ⟨i, h, rfl⟩
    have := List.mem_range.mp h
    omega
  · intro h
    exact ⟨(x - lo).toNat, List.mem_range.mpr (by omega), by omega⟩
theorem get_ivl {lo hi : Int} {i : Nat} (h : i < (hi - lo).toNat) : (ivl lo hi)[i]? = some (lo + i) := by
  unfold ivl
  rw [List.getElem?_map, List.getElem?_range h]
  rfl
theorem ledM_length (n : Int) (row : List (Int × Int)) : (ledM n row).length = n.toNat := by
  unfold ledM; rw [List.length_map, ivl_length]; omega
theorem ledM_get {n : Int} {row : List (Int × Int)} {i : Nat} (h : i < n.toNat) : (ledM n row)[i]? = some (go row (1 + i)) := by
  unfold ledM
  rw [List.getElem?_map, get_ivl (by omega)]
  rfl
theorem ledM_mem {n : Int} {row : List (Int × Int)} (g : Good n row) {x : Int} (h : x ∈ ledM n row) : 1 ≤ x ∧ x ≤ n := by
  obtain ⟨y, hy, rfl⟩ := List.mem_map.mp h
  have := mem_ivl.mp hy
  exact go_in g (by omega) (by omega)
theorem ledM_nil (n : Int) : ledM n [] = ivl 1 (n + 1) := by
  unfold ledM
  conv => rhs; rw [← List.map_id (ivl 1 (n + 1))]
  apply List.map_congr_left
  intro x _
  rfl
end Sw
namespace L2
open PySem PySem.Spec PyProof.Rows
open AutoSeq1 (wpAny_loadPart')
theorem typeCall_enum_kw (a b : Value) : checkTypeCall "enumerate" ⟨[a], [(Str.ofString "start", b)]⟩ = pure () := by kernel_rfl
theorem newCall_enum_kw (a b : Value) : checkBuiltinCall "enumerate.__new__" ⟨[.type "enumerate", a], [(Str.ofString "start", b)]⟩ = pure () := by kernel_rfl
theorem init_enum_kw (o a b : Value) : argsOk "object.__init__" ⟨[o, a], [(Str.ofString "start", b)]⟩ := by unfold argsOk; kernel_rfl
theorem init_meets_kw {T newId : String} {self a : Value} {kw : List (Str × Value)} (hl : typeLookup (.type T) "__init__" = pure (some (.builtin "object.__init__")))
    (hm : Bind.madeBy (.type T) = pure (some newId)) (hne : (some newId != some "object.__new__") = true) :
    Meets (Builtin.«object.__init__» ⟨[self, a], kw⟩) (fun _ R s => s.TypeIs self T ∧ R (.ok (.ret .none)) s) := by
  refine Meets.of_wp fun prog w A R s hs => ?_
  obtain ⟨hT, hq⟩ := hs
  repeat (any_goals (first | assumption | wp_step))
  exact ⟨_, rfl, hq⟩
end L2
namespace L2
open PySem PySem.Spec PyProof.Rows
section
variable {X : Cx} {pins : List (Addr × Obj)} {σ : St} {H : Hp} {s : Shared} {h' : Heap}
theorem Inv.turnedL {t' : Nat} {fp : List Addr} (I : Inv X pins σ H s) (k : ∀ b o, b ∉ fp → s.heap.get? b = some o → h'.get? b = some o) (hf : ∀ b ∈ fp, FpOk X pins H b) : Inv X pins σ H { s with heap := h', toks := t' } := by
  have nit : ∀ b u, H b = some u → b ∉ fp := fun b u e z => by rw [(hf b z).1] at e; cases e
  refine I.step (g' := s.gens) (d' := s.drawn) (ch := fp) (fun b hb => ?_) (fun b o _ _ hc e _ => k b o hc e) (fun b o _ _ hc e _ => ⟨o.slots, k b o hc e⟩) (fun _ _ _ _ n => n)
    (fun b o hc e => ⟨o, k b o hc e⟩) (fun _ _ e => e) (fun _ _ _ e => e) (fun b ps e => ⟨#[], by rw [e]; simp⟩) (fun m hm => ?_) (fun b u e => ?_) I.bare
  · obtain ⟨f0, f1, f2, f3, f4, f5⟩ := hf b hb
    exact ⟨f3, f1, f4, f5⟩
  · obtain ⟨o, es, ep, ho, r⟩ := hm
    exact ⟨o, es, ep, k _ o (fun z => (hf _ z).2.1 rfl) ho, r⟩
  · refine (I.hok b u e).stay (fun c v hc q => k c v ?_ q) (fun _ q => q) fun _ _ q => q
    rcases hc with z | z
    · rw [z]; exact nit b u e
    · exact nit c _ z
theorem Inv.track {T : Addr} {o : HO} (I : Inv X pins σ H s) (hf : FpOk X pins H T) (new : ObjOk X.prog X.w (upd H T o) s.heap T o) : Inv X pins σ (upd H T o) s := by
  obtain ⟨f0, f1, f2, f3, f4, f5⟩ := hf
  have := I.step (h' := s.heap) (H' := upd H T o) (g' := s.gens) (d' := s.drawn) (t' := s.toks) (ch := [T]) (fun b hb => by
    have e : b = T := by simpa using hb
    subst e
    exact ⟨f3, f1, f4, f5⟩) (fun b o _ _ _ e _ => e) (fun b o _ _ _ e _ => ⟨o.slots, e⟩) (fun b o hc _ n => by rw [upd_ne (fun z => hc (by simp [z]))]; exact n)
    (fun b o _ e => ⟨o, e⟩) (fun b xs e => by rw [upd_ne (ne_of_none e f0)]; exact e) (fun b o u e => by rw [upd_ne (ne_of_none e f0)]; exact e) (fun b ps e => ⟨#[], by rw [upd_ne (ne_of_none e f0), e]; simp⟩) (fun m hm => hm) (fun b u e => ?_) I.bare
  · exact this
  · by_cases hb : b = T
    · subst hb
      rw [upd_same] at e
      cases e
      exact new
    · rw [upd_ne hb] at e
      refine (I.hok b u e).stay (fun _ _ _ q => q) (fun c q => ?_) fun c xs q => ?_
      · rw [upd_ne (ne_of_none q f0)]; exact q
      · rw [upd_ne (ne_of_none q f0)]; exact q
end
theorem callWith_type_kw {M : Model} {A : Around} {E : Value → Shared → Prop} {s : Shared} {pos : Pos} {T : String} {args : List (Bool × Sem Value)} {kws : List (Option Str × Sem Value)} {Q : Value → Shared → Prop} (hplain : args.any (·.1) = false) (hkw : kws.any (·.1.isNone) = false)
    (h : wpAny M A (evalArgs (.type T) true args kws) (fun a s₁ => wpAny M A (call (.type T) a.pos a.kw) Q E s₁) E s) : wpAny M A (callWith pos (.type T) [] args kws) Q E s := by
  unfold callWith
  refine wpAny_bind (wpAny_holding (wpAny_mono h (fun a s₁ h₁ => wpAny_bind (wpAny_standAt ?_)) fun _ _ x => x))
  simp only [hplain, hkw, Bool.or_false]
  refine wpAny_bind (wpAny_pure ?_)
  exact wpAny_bind (wpAny_mono h₁ (fun r s₂ hr => wpAny_bind (wpAny_holding (wpAny_point (wpAny_pure hr)))) fun _ _ x => x)
end L2
namespace L2
open PySem PySem.Spec PyProof.Rows
theorem comp_by {ix : List (Option Nat)} {g : TG} {tc : TT} {te : TE} {σ : St} {Q : VK} {J : It} {H : Hp} {n : Nat} (Pv : Nat → List V → St → Hp → Prop) (hn : n ≤ 1000000) (h0 : Pv 0 [] (startC ix σ) H)
    (hgo : ∀ i ys σ H, i < n → Pv i ys σ H → J.go i H) (hst : ∀ ys σ H, Pv n ys σ H → J.stop n H) (hlen : ∀ i ys σ H, Pv i ys σ H → ys.length ≤ i)
    (hs : ∀ i ys σ H x H2 (R : St → List V → Hp → Prop), i < n → Pv i ys σ H → J.yld i H x H2 → (∀ σ2 ys2 H5, Pv (i + 1) ys2 σ2 H5 → R σ2 ys2 H5) →
      g x σ H2 fun σ2 H3 => tc σ2 H3 fun b H4 => if b = true then te σ2 H4 fun v H5 => R σ2 (ys ++ [v]) H5 else R σ2 ys H4)
    (hd : ∀ ys σ' H' p, Pv n ys σ' H' → H' p = none → Q (.ref p) (upd H' p (.lst ys))) : rComp ix g tc te σ Q J H := by
  have big : (1000000 : Nat) < sizeLine := by decide
  refine ⟨fun i m ys σ' H' => m = n - i ∧ i ≤ n ∧ Pv i ys σ' H', ⟨n, by simp, Nat.zero_le _, h0⟩, ?_⟩
  rintro i m ys σ' H' ⟨rfl, hi, p⟩
  have hl := hlen i ys σ' H' p
  by_cases hlt : i < n
  · refine .inr ⟨hgo i ys σ' H' hlt p, by omega, fun x H2 y => ?_⟩
    exact hs i ys σ' H' x H2 (fun σ2 ys2 H5 => ∃ m', m' < n - i ∧ (m' = n - (i + 1) ∧ i + 1 ≤ n ∧ Pv (i + 1) ys2 σ2 H5)) hlt p y fun σ2 ys2 H5 q => ⟨n - (i + 1), by omega, rfl, hlt, q⟩
  · have e : i = n := by omega
    subst e
    exact .inl ⟨hst ys σ' H' p, by omega, fun q hq => hd ys σ' H' q p hq⟩
theorem compL {K : PySem.W.Frag} {ix : List (Option Nat)} {te : TE} {σ : St} {Q : VK} {H : Hp} {a : Addr} {xs : List V} {k : Nat} (Pv : Nat → List V → St → Hp → Prop) (hn : xs.length ≤ 1000000) (h0 : Pv 0 [] (startC ix σ) H)
    (hl : ∀ i ys σ H, i ≤ xs.length → Pv i ys σ H → SqL K H a xs) (hlen : ∀ i ys σ H, Pv i ys σ H → ys.length ≤ i)
    (hs : ∀ i ys σ H x (R : St → List V → Hp → Prop), xs[i]? = some x → Pv i ys σ H → (∀ σ2 ys2 H5, Pv (i + 1) ys2 σ2 H5 → R σ2 ys2 H5) → te (σ.set k (some x)) H fun v H5 => R (σ.set k (some x)) (ys ++ [v]) H5)
    (hd : ∀ ys σ' H' p, Pv xs.length ys σ' H' → H' p = none → Q (.ref p) (upd H' p (.lst ys))) : rComp ix (gName k) tTrue te σ Q (Itl K a) H := by
  refine comp_by Pv hn h0 (fun i ys σ H hi p => ⟨xs, xs[i], hl i ys σ H (Nat.le_of_lt hi) p, by simp [hi]⟩) (fun ys σ H p => ⟨xs, hl _ ys σ H (Nat.le_refl _) p, Nat.le_refl _⟩) hlen (fun i ys σ H x H2 R hi p y r => ?_) hd
  obtain ⟨rfl, y⟩ := y
  unfold gName tTrue
  simp only [if_true]
  exact hs i ys σ _ x R (y xs (hl i ys σ _ (Nat.le_of_lt hi) p)) p r
theorem compT {K : PySem.W.Frag} {ix : List (Option Nat)} {te : TE} {σ : St} {Q : VK} {H : Hp} {a : Addr} {xs : List V} {k : Nat} (Pv : Nat → List V → St → Hp → Prop) (hn : xs.length ≤ 1000000) (h0 : Pv 0 [] (startC ix σ) H)
    (hl : ∀ i ys σ H, i ≤ xs.length → Pv i ys σ H → SqT K H a xs) (hlen : ∀ i ys σ H, Pv i ys σ H → ys.length ≤ i)
    (hs : ∀ i ys σ H x (R : St → List V → Hp → Prop), xs[i]? = some x → Pv i ys σ H → (∀ σ2 ys2 H5, Pv (i + 1) ys2 σ2 H5 → R σ2 ys2 H5) → te (σ.set k (some x)) H fun v H5 => R (σ.set k (some x)) (ys ++ [v]) H5)
    (hd : ∀ ys σ' H' p, Pv xs.length ys σ' H' → H' p = none → Q (.ref p) (upd H' p (.lst ys))) : rComp ix (gName k) tTrue te σ Q (Itt K a) H := by
  refine comp_by Pv hn h0 (fun i ys σ H hi p => ⟨xs, xs[i], hl i ys σ H (Nat.le_of_lt hi) p, by simp [hi]⟩) (fun ys σ H p => ⟨xs, hl _ ys σ H (Nat.le_refl _) p, Nat.le_refl _⟩) hlen (fun i ys σ H x H2 R hi p y r => ?_) hd
  obtain ⟨rfl, y⟩ := y
  unfold gName tTrue
  simp only [if_true]
  exact hs i ys σ _ x R (y xs (hl i ys σ _ (Nat.le_of_lt hi) p)) p r
theorem compR {ix : List (Option Nat)} {te : TE} {σ : St} {Q : VK} {H : Hp} {lo : Int} {n : Nat} {k : Nat} (Pv : Nat → List V → St → Hp → Prop) (hn : n ≤ 1000000) (h0 : Pv 0 [] (startC ix σ) H) (hlen : ∀ i ys σ H, Pv i ys σ H → ys.length ≤ i)
    (hs : ∀ i ys σ H (R : St → List V → Hp → Prop), i < n → Pv i ys σ H → (∀ σ2 ys2 H5, Pv (i + 1) ys2 σ2 H5 → R σ2 ys2 H5) → te (σ.set k (some (.int (lo + i)))) H fun v H5 => R (σ.set k (some (.int (lo + i)))) (ys ++ [v]) H5)
    (hd : ∀ ys σ' H' p, Pv n ys σ' H' → H' p = none → Q (.ref p) (upd H' p (.lst ys))) : rComp ix (gName k) tTrue te σ Q (Itr lo n) H := by
  refine comp_by Pv hn h0 (fun i ys σ H hi p => hi) (fun ys σ H p => Nat.le_refl _) hlen (fun i ys σ H x H2 R hi p y r => ?_) hd
  obtain ⟨rfl, rfl⟩ := y
  unfold gName tTrue
  simp only [if_true]
  exact hs i ys σ _ R hi p r
theorem compLif {K : PySem.W.Frag} {ix : List (Option Nat)} {tc : TT} {te : TE} {σ : St} {Q : VK} {H : Hp} {a : Addr} {xs : List V} {k : Nat} (Pv : Nat → List V → St → Hp → Prop) (hn : xs.length ≤ 1000000) (h0 : Pv 0 [] (startC ix σ) H)
    (hl : ∀ i ys σ H, i ≤ xs.length → Pv i ys σ H → SqL K H a xs) (hlen : ∀ i ys σ H, Pv i ys σ H → ys.length ≤ i)
    (hs : ∀ i ys σ H x (R : St → List V → Hp → Prop), xs[i]? = some x → Pv i ys σ H → (∀ σ2 ys2 H5, Pv (i + 1) ys2 σ2 H5 → R σ2 ys2 H5) →
      tc (σ.set k (some x)) H fun b H4 => if b = true then te (σ.set k (some x)) H4 fun v H5 => R (σ.set k (some x)) (ys ++ [v]) H5 else R (σ.set k (some x)) ys H4)
    (hd : ∀ ys σ' H' p, Pv xs.length ys σ' H' → H' p = none → Q (.ref p) (upd H' p (.lst ys))) : rComp ix (gName k) tc te σ Q (Itl K a) H := by
  refine comp_by Pv hn h0 (fun i ys σ H hi p => ⟨xs, xs[i], hl i ys σ H (Nat.le_of_lt hi) p, by simp [hi]⟩) (fun ys σ H p => ⟨xs, hl _ ys σ H (Nat.le_refl _) p, Nat.le_refl _⟩) hlen (fun i ys σ H x H2 R hi p y r => ?_) hd
  obtain ⟨rfl, y⟩ := y
  unfold gName
  exact hs i ys σ _ x R (y xs (hl i ys σ _ (Nat.le_of_lt hi) p)) p r
section
variable {X : Cx} {K : PySem.W.Frag} {o e : Expr} {es : List Expr} {to : TE} {t : TA} {name : Str} {apos cpos : Pos} {T id : String} {r : V → List V → Hp → VK → Prop}
theorem pe_bm0K (h : X.K = K) (pa : PlainAttrs T) (slot : Slot T name id) (hty : typeOf (.builtin id) = pure (.type "method_descriptor")) (hm : MtR X id r) (ho : PE X o to)
    (hbase : attributeBase o name X.env (eval o X.env) = eval o X.env := by rfl) (hline : (apos.endLine == cpos.line) = true := by rfl) : PE X (.Call (.Attribute o name apos) [] [] cpos) (tBM0 K T r to) := by
  subst h; exact pe_bm0 pa slot hty hm ho hbase hline
theorem pe_bmK (h : X.K = K) (pa : PlainAttrs T) (slot : Slot T name id) (hty : typeOf (.builtin id) = pure (.type "method_descriptor")) (hm : MtR X id r) (ho : PE X o to) (ha : PA X (e :: es) t)
    (hbase : attributeBase o name X.env (eval o X.env) = eval o X.env := by rfl)
    (hfew : ((backTo cpos (starEach (e :: es) X.env)).all (fun x => !x.1) && (backToKw cpos (keywordEach [] X.env)).all (fun x => x.1.isSome)
      && decide ((e :: es).length + ([] : List Keyword).length + (if ([] : List Keyword).isEmpty then 0 else 1) < 30)) = true := by rfl)
    (hline : (apos.endLine == cpos.line) = true := by rfl) (hs : starEach (e :: es) X.env = (false, eval e X.env) :: starEach es X.env := by rfl) (hplain : (backTo cpos (starEach es X.env)).any (·.1) = false := by rfl) :
    PE X (.Call (.Attribute o name apos) (e :: es) [] cpos) (tBM K T r to t) := by
  subst h; exact pe_bm pa slot hty hm ho ha hbase hfew hline hs hplain
theorem sl_listK (h : X.K = K) : SlR X (rSlL K) := by subst h; exact sl_list
end
end L2
namespace Sw
open PySem L2
theorem ivl_nodup (a b : Int) : (ivl a b).Nodup := by
  unfold ivl
  refine List.Pairwise.map _ ?_ (List.nodup_range (n := (b - a).toNat))
  intro x y h z
  apply h
  omega
def Ord (n : Int) (xs : List Int) : Prop := xs.Perm (ivl 1 (n + 1))
theorem Ord.length {n : Int} {xs : List Int} (o : Ord n xs) : xs.length = n.toNat := by
  rw [List.Perm.length_eq o, ivl_length]; congr 1; omega
theorem Ord.mem {n : Int} {xs : List Int} (o : Ord n xs) {x : Int} : x ∈ xs ↔ 1 ≤ x ∧ x ≤ n := by
  rw [List.Perm.mem_iff o, mem_ivl]; omega
theorem Ord.nodup {n : Int} {xs : List Int} (o : Ord n xs) : xs.Nodup := (List.Perm.nodup_iff o).mpr (ivl_nodup _ _)
theorem erase_perm {α : Type} : ∀ {l : List α} {k : Nat} {y : α}, l[k]? = some y → (y :: l.eraseIdx k).Perm l
  | [], _, _, h => by simp at h
  | a :: l, 0, y, h => by simp at h; subst h; exact List.Perm.refl _
  | a :: l, k + 1, y, h => by
    have q := erase_perm (l := l) (k := k) (y := y) (by simpa using h)
    rw [List.eraseIdx_cons_succ]
    exact (List.Perm.swap a y _).trans (q.cons a)
theorem pop_perm {n : Int} {fs ls : List Int} {k : Nat} {y : Int} (o : Ord n (fs ++ ls)) (h : ls[k]? = some y) : Ord n ((fs ++ [y]) ++ ls.eraseIdx k) := by
  unfold Ord at *
  rw [List.append_assoc, List.singleton_append]
  exact ((erase_perm h).append_left fs).trans o
theorem swap_perm {n : Int} {ls : List Int} {i j : Nat} {x y : Int} (o : Ord n ls) (hi : ls[i]? = some x) (hj : ls[j]? = some y) : Ord n ((ls.set i y).set j x) := by
  obtain ⟨h1, rfl⟩ := List.getElem?_eq_some_iff.mp hi
  obtain ⟨h2, rfl⟩ := List.getElem?_eq_some_iff.mp hj
  exact (List.set_set_perm h1 h2).trans o
def nxt (xs : List Int) (x : Int) : Int := xs.getD ((xs.idxOf x + 1) % xs.length) 0
theorem nxt_at {xs : List Int} (nd : xs.Nodup) {j : Nat} {x : Int} (h : xs[j]? = some x) : nxt xs x = xs.getD ((j + 1) % xs.length) 0 := by
  obtain ⟨h1, rfl⟩ := List.getElem?_eq_some_iff.mp h
  unfold nxt
  rw [List.Nodup.idxOf_getElem nd]
theorem nxt_map {xs : List Int} (nd : xs.Nodup) : (xs.map (nxt xs)).Perm xs := by
  match xs, nd with
  | [], _ => exact List.Perm.refl _
  | y :: t, nd =>
    have e : (y :: t).map (nxt (y :: t)) = t ++ [y] := by
      apply List.ext_getElem?
      intro j
      rw [List.getElem?_map]
      by_cases hj : j < (y :: t).length
      · have h : (y :: t)[j]? = some (y :: t)[j] := List.getElem?_eq_getElem hj
        rw [h, Option.map_some, nxt_at nd h]
        by_cases h2 : j + 1 < (y :: t).length
        · rw [Nat.mod_eq_of_lt h2]
          have : j < t.length := by simpa using h2
          rw [List.getElem?_append_left this]
          simp [List.getD_eq_getElem?_getD, this]
        · have e2 : j + 1 = (y :: t).length := by omega
          rw [e2, Nat.mod_self]
          have : j = t.length := by simpa using e2
          subst this
          simp
      · rw [List.getElem?_eq_none (by omega), List.getElem?_eq_none (by simp; simp at hj; omega)]
        rfl
    rw [e]
    exact List.perm_append_comm (l₁ := t) (l₂ := [y])
theorem nxt_ord {n : Int} {xs : List Int} (o : Ord n xs) : Ord n ((ivl 1 (n + 1)).map (nxt xs)) :=
  ((List.Perm.map (nxt xs) (List.Perm.symm o)).trans (nxt_map o.nodup)).trans o
theorem ord_plain (n : Int) : Ord n (ivl 1 (n + 1)) := List.Perm.refl _
theorem idx_of {xs : List Int} {x : Int} (h : x ∈ xs) : ∃ j, xs[j]? = some x ∧ j < xs.length := by
  obtain ⟨j, hj, e⟩ := List.mem_iff_getElem.mp h
  exact ⟨j, by rw [List.getElem?_eq_getElem hj, e], hj⟩
end Sw
namespace L2
open PySem PySem.Spec PyProof.Rows
section
variable {X : Cx} {K : PySem.W.Frag}
theorem op_isnotB : OpR X (compareOp .IsNot) (fun x y H Q => ∃ a b, x = .bl a ∧ y = .bl b ∧ Q (.bl (a != b)) H) := by
  intro pins s σ H x y v u Q I rx ry h
  obtain ⟨a, b, rfl, rfl, q⟩ := h
  cases rx; cases ry
  exact isnot_bool ⟨.bl (a != b), H, I, rfl, q⟩
theorem vals_toks : ∀ {ns : List Int} {us : List Value}, Vals (ns.map V.int) us → ∃ xs : List (Int × Tok), us = xs.map (fun p => Value.int p.1 p.2) ∧ xs.map (·.1) = ns
  | [], us, r => by cases r; exact ⟨[], rfl, rfl⟩
  | n :: ns, us, r => by
    cases r with
    | cons r1 r2 =>
      obtain ⟨t, rfl⟩ := r1
      obtain ⟨xs, rfl, e⟩ := vals_toks r2
      exact ⟨(n, t) :: xs, rfl, by rw [List.map_cons, e]⟩
def rMinL (K : PySem.W.Frag) : List V → Hp → VK → Prop := fun xs H Q => ∃ (p : Addr) (ns : List Int) (M : Int), xs = [.ref p] ∧ SqL K H p (ns.map V.int) ∧ M ∈ ns ∧ (∀ a ∈ ns, M ≤ a) ∧ Q (.int M) H
theorem call_minL (hc : X.calm = true) (hK : X.K = K) : CallR X (.builtin "min") (rMinL K) := by
  subst hK
  intro pins s σ H xs us Q I r h
  obtain ⟨p, ns, M, rfl, hl, hM, hm, q⟩ := h
  obtain ⟨u, rfl, rx⟩ := vals1 r
  cases rx
  obtain ⟨its, rv, pl, hz⟩ := I.list hl
  obtain ⟨xs, rfl, e⟩ := vals_toks rv
  have hpos : 0 < xs.length := by
    rw [← List.length_map (f := (·.1)), e]
    exact List.length_pos_of_mem hM
  refine min_intList (l := p) (xs := xs.toArray) (I.ok.hd hc) ?_ (by simpa using hpos) fun v h' tk hv hk => ?_
  · have := pl.isList
    unfold intItems
    simpa using this
  · have num : ∀ i, numAt xs.toArray i = ns.getD i 0 := by
      intro i
      unfold numAt
      rw [List.getElem?_toArray, ← e, List.getD_eq_getElem?_getD, List.getElem?_map]
    obtain ⟨b1, b2⟩ := argBest_lt (numAt xs.toArray) (xs.toArray.size - 1)
    generalize argBest (fun i j => decide (numAt xs.toArray i < numAt xs.toArray j)) (xs.toArray.size - 1) = k at b1 b2 hv
    have lk : k < xs.length := by simp at b1; omega
    have hv' : v = Value.int xs[k].1 xs[k].2 := by
      unfold intItems at hv
      simp at hv
      rw [List.getElem?_eq_getElem lk] at hv
      obtain ⟨a, b, h1, h2⟩ := hv
      have h1 := Option.some.inj h1
      rw [h1]
      exact h2.symm
    subst hv'
    have lx : xs.length = ns.length := by rw [← e, List.length_map]
    have ek : xs[k].1 = ns[k] := by
      have : (xs.map (·.1))[k]'(by rw [List.length_map]; exact lk) = ns[k] := by simp only [e]
      simpa using this
    have eM : xs[k].1 = M := by
      rw [ek]
      refine Int.le_antisymm ?_ (hm _ (List.getElem_mem _))
      obtain ⟨j, hj, ej⟩ := List.mem_iff_getElem.mp hM
      have := b2 j (by simp; omega)
      rw [num, num] at this
      rw [← ej]
      rw [List.getD_eq_getElem?_getD, List.getElem?_eq_getElem (by omega), List.getD_eq_getElem?_getD, List.getElem?_eq_getElem hj] at this
      exact this
    rw [eM]
    refine ⟨.int M, H, ?_, ⟨_, rfl⟩, q⟩
    exact (I.kept (t' := s.toks) (h' := h') fun b o e => hk b o e).tok tk
end
end L2
namespace L2
open PySem PySem.Spec PyProof.Rows
section
variable {X : Cx} {K : PySem.W.Frag}
theorem ints_are : ∀ {ns : List Int} {us : List Value}, Vals (ns.map V.int) us → IntsAre us ns
  | [], us, r => by cases r; exact .nil
  | n :: ns, us, r => by
    cases r with
    | cons r1 r2 =>
      obtain ⟨t, rfl⟩ := r1
      exact .cons n t (ints_are r2)
theorem vals_are : ∀ {us : List Value} {ns : List Int}, IntsAre us ns → Vals (ns.map V.int) us
  | _, _, .nil => .nil
  | _, _, .cons n t r => .cons ⟨t, rfl⟩ (vals_are r)
def rSort (K : PySem.W.Frag) : List V → Hp → VK → Prop := fun xs H Q => ∃ (p : Addr) (ns : List Int), xs = [.ref p] ∧ SqL K H p (ns.map V.int) ∧ ns.length < 64 ∧ ∀ (l : Addr) (ns' : List Int), H l = none → ns'.Perm ns → ns'.Pairwise (· ≤ ·) → Q (.ref l) (upd H l (.lst (ns'.map V.int)))
theorem call_sorted (hK : X.K = K) : CallR X (.builtin "sorted") (rSort K) := by
  subst hK
  intro pins s σ H xs us Q I r h
  obtain ⟨p, ns, rfl, hl, hz, q⟩ := h
  obtain ⟨u, rfl, rx⟩ := vals1 r
  cases rx
  obtain ⟨its, rv, pl, _⟩ := I.list hl
  have len := rv.length
  rw [List.length_map] at len
  refine sorted_ints pl.isList (ints_are rv) (by omega) fun out ns' ia pm pw => ?_
  obtain ⟨e, he⟩ := sortedAll_at s.heap its out
  have lp := pm.length_eq
  have big : (64 : Nat) ≤ sizeLine := by decide
  refine ⟨.ref (s.heap.objs.size + 1), _, I.laid (o := .lst (ns'.map V.int)) (fun b u e => sortedAll_old e) (Nat.le_succ _) ⟨by rw [List.length_map]; omega, out.toList, e, vals_are ia, by simpa using he⟩, rfl, q _ ns' (I.hok.fresh (Nat.le_succ _)) pm pw⟩
theorem callWith_builtin_kw {M : Model} {A : Around} {E : Value → Shared → Prop} {s : Shared} {pos : Pos} {id : String} {args : List (Bool × Sem Value)} {kws : List (Option Str × Sem Value)} {Q : Value → Shared → Prop} (hplain : args.any (·.1) = false) (hkw : kws.any (·.1.isNone) = false)
    (h : wpAny M A (evalArgs (.builtin id) true args kws) (fun a s₁ => wpAny M A (call (.builtin id) a.pos a.kw) Q E s₁) E s) : wpAny M A (callWith pos (.builtin id) [] args kws) Q E s := by
  unfold callWith
  refine wpAny_bind (wpAny_holding (wpAny_mono h (fun a s₁ h₁ => wpAny_bind (wpAny_standAt ?_)) fun _ _ x => x))
  simp only [hplain, hkw, Bool.or_false]
  refine wpAny_bind (wpAny_pure ?_)
  exact wpAny_bind (wpAny_mono h₁ (fun r s₂ hr => wpAny_bind (wpAny_holding (wpAny_point (wpAny_pure hr)))) fun _ _ x => x)
end
end L2
namespace L2
open PySem PySem.Spec PyProof.Rows
def kitB (T C : String) : Option Bool := if (Value.type T == Value.type C) = true then some true else if PySem.W.kitMeta C = true then (fastBuiltinMro T).map (·.contains (Value.type C)) else none
theorem kit_type (K : PySem.W.Frag) {T C : String} {b : Bool} (h : kitB T C = some b) : PySem.W.kitOne K (.type T) (.type C) = some b := h
theorem kit_int_bool (K : PySem.W.Frag) : PySem.W.kitOne K (.type "int") (.type "bool") = some false := kit_type K (by decide +kernel)
end L2
namespace Sw
open PySem L2
def ld (xs : List Int) (x : Int) : Int := xs.getD (x - 1).toNat 0
def itn (f : Int → Int) : Nat → Int → Int
  | 0, x => x
  | k + 1, x => f (itn f k x)
theorem itn_add (f : Int → Int) (j : Nat) (x : Int) : ∀ k, itn f (k + j) x = itn f k (itn f j x)
  | 0 => by rw [Nat.zero_add]; rfl
  | k + 1 => by rw [Nat.succ_add]; show f _ = f _; rw [itn_add f j x k]
theorem ld_get {n : Int} {xs : List Int} (o : Ord n xs) {x : Int} (h1 : 1 ≤ x) (h2 : x ≤ n) : xs[(x - 1).toNat]? = some (ld xs x) := by
  have := o.length
  unfold ld
  rw [List.getD_eq_getElem?_getD, List.getElem?_eq_getElem (by omega)]
  rfl
theorem ld_in {n : Int} {xs : List Int} (o : Ord n xs) {x : Int} (h1 : 1 ≤ x) (h2 : x ≤ n) : 1 ≤ ld xs x ∧ ld xs x ≤ n := o.mem.mp (List.mem_of_getElem? (ld_get o h1 h2))
theorem ld_inj {n : Int} {xs : List Int} (o : Ord n xs) {x y : Int} (h1 : 1 ≤ x) (h2 : x ≤ n) (h3 : 1 ≤ y) (h4 : y ≤ n) (e : ld xs x = ld xs y) : x = y := by
  have a := ld_get o h1 h2
  have b := ld_get o h3 h4
  rw [e] at a
  obtain ⟨p, pa⟩ := List.getElem?_eq_some_iff.mp a
  obtain ⟨q, qa⟩ := List.getElem?_eq_some_iff.mp b
  have := (List.getElem_inj (i := (x - 1).toNat) (j := (y - 1).toNat) (h₀ := p) (h₁ := q) o.nodup).mp (pa.trans qa.symm)
  omega
theorem itn_in {n : Int} {xs : List Int} (o : Ord n xs) {x : Int} (h1 : 1 ≤ x) (h2 : x ≤ n) : ∀ k, 1 ≤ itn (ld xs) k x ∧ itn (ld xs) k x ≤ n
  | 0 => ⟨h1, h2⟩
  | k + 1 => ld_in o (itn_in o h1 h2 k).1 (itn_in o h1 h2 k).2
theorem itn_inj {n : Int} {xs : List Int} (o : Ord n xs) {x y : Int} (h1 : 1 ≤ x) (h2 : x ≤ n) (h3 : 1 ≤ y) (h4 : y ≤ n) : ∀ k, itn (ld xs) k x = itn (ld xs) k y → x = y
  | 0, e => e
  | k + 1, e => itn_inj o h1 h2 h3 h4 k (ld_inj o (itn_in o h1 h2 k).1 (itn_in o h1 h2 k).2 (itn_in o h3 h4 k).1 (itn_in o h3 h4 k).2 e)
theorem ex_per {n : Int} {xs : List Int} (o : Ord n xs) {x : Int} (h1 : 1 ≤ x) (h2 : x ≤ n) : ∃ k, k < n.toNat ∧ itn (ld xs) (k + 1) x = x := by
  apply Classical.byContradiction
  intro no
  have hne : ∀ i j, i < j → j ≤ n.toNat → itn (ld xs) i x ≠ itn (ld xs) j x := by
    intro i j hij hj e
    apply no
    refine ⟨j - i - 1, by omega, ?_⟩
    have e2 : itn (ld xs) (i + (j - i)) x = itn (ld xs) i (itn (ld xs) (j - i) x) := itn_add _ _ _ _
    rw [show i + (j - i) = j by omega, ← e] at e2
    have q := itn_in o h1 h2 (j - i)
    have := itn_inj o h1 h2 q.1 q.2 i e2
    rw [show j - i - 1 + 1 = j - i by omega]
    exact this.symm
  have nd : ((List.range (n.toNat + 1)).map (fun k => itn (ld xs) k x)).Nodup := by
    rw [List.Nodup, List.pairwise_iff_getElem]
    intro i j hi hj hij
    simp only [List.getElem_map, List.getElem_range]
    simp at hj
    exact hne i j hij (by omega)
  have le := List.Nodup.length_le_of_subset nd (l₂ := ivl 1 (n + 1)) (by
    intro y hy
    obtain ⟨k, _, rfl⟩ := List.mem_map.mp hy
    have := itn_in o h1 h2 k
    exact mem_ivl.mpr (by omega))
  rw [List.length_map, List.length_range, ivl_length] at le
  omega
def per (xs : List Int) (x : Int) : Nat := (List.range xs.length).findIdx (fun k => itn (ld xs) (k + 1) x == x) + 1
def orb (xs : List Int) (x : Int) : List Int := (List.range (per xs x)).map fun k => itn (ld xs) k x
theorem per_le {n : Int} {xs : List Int} (o : Ord n xs) {x : Int} (h1 : 1 ≤ x) (h2 : x ≤ n) : per xs x ≤ n.toNat := by
  obtain ⟨k, hk, e⟩ := ex_per o h1 h2
  have := List.findIdx_lt_length_of_exists (xs := List.range xs.length) (p := fun k => itn (ld xs) (k + 1) x == x) ⟨k, List.mem_range.mpr (by rw [o.length]; exact hk), by simpa using e⟩
  rw [List.length_range, o.length] at this
  unfold per
  rw [o.length]
  omega
theorem per_eq {n : Int} {xs : List Int} (o : Ord n xs) {x : Int} (h1 : 1 ≤ x) (h2 : x ≤ n) : itn (ld xs) (per xs x) x = x := by
  obtain ⟨k, hk, e⟩ := ex_per o h1 h2
  have lt := List.findIdx_lt_length_of_exists (xs := List.range xs.length) (p := fun k => itn (ld xs) (k + 1) x == x) ⟨k, List.mem_range.mpr (by rw [o.length]; exact hk), by simpa using e⟩
  have := List.findIdx_getElem (xs := List.range xs.length) (p := fun k => itn (ld xs) (k + 1) x == x) (w := lt)
  rw [List.getElem_range] at this
  unfold per
  simpa using this
theorem per_ne {xs : List Int} {x : Int} {j : Nat} (h0 : 0 < j) (h : j < per xs x) : itn (ld xs) j x ≠ x := by
  unfold per at h
  have lt : j - 1 < (List.range xs.length).findIdx (fun k => itn (ld xs) (k + 1) x == x) := by omega
  have := List.not_of_lt_findIdx lt
  rw [List.getElem_range] at this
  rw [show j - 1 + 1 = j by omega] at this
  simpa using this
theorem itn_mod {n : Int} {xs : List Int} (o : Ord n xs) {x : Int} (h1 : 1 ≤ x) (h2 : x ≤ n) (k : Nat) : ∃ j, j < per xs x ∧ itn (ld xs) k x = itn (ld xs) j x := by
  induction k with
  | zero => exact ⟨0, by unfold per; omega, rfl⟩
  | succ k ih =>
    obtain ⟨j, hj, e⟩ := ih
    by_cases h : j + 1 < per xs x
    · exact ⟨j + 1, h, by show ld xs _ = ld xs _; rw [e]⟩
    · refine ⟨0, by unfold per; omega, ?_⟩
      show ld xs _ = x
      rw [e]
      have : j + 1 = per xs x := by omega
      have q := per_eq o h1 h2
      rw [← this] at q
      exact q
theorem orb_mem {n : Int} {xs : List Int} (o : Ord n xs) {x : Int} (h1 : 1 ≤ x) (h2 : x ≤ n) {y : Int} : y ∈ orb xs x ↔ ∃ k, itn (ld xs) k x = y := by
  unfold orb
  rw [List.mem_map]
  constructor
  · rintro ⟨k, _, e⟩
    exact ⟨k, e⟩
  · rintro ⟨k, e⟩
    obtain ⟨j, hj, e2⟩ := itn_mod o h1 h2 k
    exact ⟨j, List.mem_range.mpr hj, e2.symm.trans e⟩
def least (xs : List Int) (x : Int) : Bool := (orb xs x).all fun y => decide (x ≤ y)
theorem least_iff {n : Int} {xs : List Int} (o : Ord n xs) {x : Int} (h1 : 1 ≤ x) (h2 : x ≤ n) : least xs x = true ↔ ∀ k, x ≤ itn (ld xs) k x := by
  unfold least
  rw [List.all_eq_true]
  constructor
  · intro h k
    exact of_decide_eq_true (h _ ((orb_mem o h1 h2).mpr ⟨k, rfl⟩))
  · intro h y hy
    obtain ⟨k, rfl⟩ := (orb_mem o h1 h2).mp hy
    exact decide_eq_true (h k)
def rndM (n : Int) (xs : List Int) : List (List Int) := ((ivl 1 (n + 1)).filter (least xs)).map (orb xs)
theorem map_ord {n : Int} {xs : List Int} (o : Ord n xs) {e : Int × Int} (h : 1 ≤ e.1 ∧ e.1 < e.2 ∧ e.2 ≤ n) : Ord n (xs.map (swp · e)) := by
  have nd : (xs.map (swp · e)).Nodup := by
    refine List.Pairwise.map _ ?_ o.nodup
    intro a b ne z
    apply ne
    have := congrArg (swp · e) z
    simpa [swp_swp] using this
  refine (List.perm_ext_iff_of_nodup nd (ivl_nodup _ _)).mpr fun y => ?_
  rw [mem_ivl, List.mem_map]
  constructor
  · rintro ⟨x, hx, rfl⟩
    have hx := o.mem.mp hx
    have := swp_in h hx.1 hx.2
    omega
  · rintro ⟨a, b⟩
    have := swp_in h a (by omega)
    exact ⟨swp y e, o.mem.mpr this, swp_swp _ _⟩
theorem ld_map {n : Int} {xs : List Int} (o : Ord n xs) (f : Int → Int) {x : Int} (h1 : 1 ≤ x) (h2 : x ≤ n) : ld (xs.map f) x = f (ld xs x) := by
  have g := ld_get o h1 h2
  show (xs.map f).getD _ 0 = _
  rw [List.getD_eq_getElem?_getD, List.getElem?_map, g]
  rfl
theorem ld_led {n : Int} {row : List (Int × Int)} {x : Int} (h1 : 1 ≤ x) (h2 : x ≤ n) : ld (ledM n row) x = go row x := by
  unfold ld
  rw [List.getD_eq_getElem?_getD, ledM_get (by omega)]
  rw [show 1 + (((x - 1).toNat : Nat) : Int) = x by omega]
  rfl
theorem ord_ext {n : Int} {xs ys : List Int} (a : xs.length = n.toNat) (b : ys.length = n.toNat) (h : ∀ x, 1 ≤ x → x ≤ n → ld xs x = ld ys x) : xs = ys := by
  apply List.ext_getElem
  · rw [a, b]
  intro i h1 h2
  have := h (1 + i) (by omega) (by omega)
  unfold ld at this
  rw [show (1 + (i : Int) - 1).toNat = i by omega, List.getD_eq_getElem?_getD, List.getD_eq_getElem?_getD, List.getElem?_eq_getElem h1, List.getElem?_eq_getElem h2] at this
  exact this
theorem led_ord {n : Int} {row : List (Int × Int)} (g : Good n row) : Ord n (ledM n row) := by
  have nd : (ledM n row).Nodup := by
    unfold ledM
    refine List.Pairwise.map _ ?_ (ivl_nodup 1 (n + 1))
    intro a b ne z
    apply ne
    have := congrArg (go row.reverse) z
    rwa [go_back, go_back] at this
  refine (List.perm_ext_iff_of_nodup nd (ivl_nodup _ _)).mpr fun y => ?_
  rw [mem_ivl]
  constructor
  · intro h
    have := ledM_mem g h
    omega
  · rintro ⟨a, b⟩
    unfold ledM
    have := go_in (row := row.reverse) g.reverse a (by omega : y ≤ n)
    exact List.mem_map.mpr ⟨go row.reverse y, mem_ivl.mpr (by omega), go_back' row y⟩
end Sw
namespace Sw
open PySem L2
def homeS : Nat → List Int → List (Int × Int)
  | 0, _ => []
  | m + 1, xs => if ld xs ((m : Int) + 1) = (m : Int) + 1 then homeS m xs else homeS m (xs.map (swp · (ld xs ((m : Int) + 1), (m : Int) + 1))) ++ [(ld xs ((m : Int) + 1), (m : Int) + 1)]
def Fix (n : Int) (m : Nat) (xs : List Int) : Prop := ∀ x, (m : Int) < x → x ≤ n → ld xs x = x
theorem step_lt {n : Int} {xs : List Int} {m : Nat} (o : Ord n xs) (f : Fix n (m + 1) xs) (hm : (m : Int) + 1 ≤ n) (ne : ld xs ((m : Int) + 1) ≠ (m : Int) + 1) : 1 ≤ ld xs ((m : Int) + 1) ∧ ld xs ((m : Int) + 1) < (m : Int) + 1 := by
  have r := ld_in o (x := (m : Int) + 1) (by omega) hm
  refine ⟨r.1, ?_⟩
  apply Classical.byContradiction
  intro h
  have e := f (ld xs ((m : Int) + 1)) (by omega) r.2
  have := ld_inj o (x := ld xs ((m : Int) + 1)) (y := (m : Int) + 1) r.1 r.2 (by omega) hm e
  omega
theorem swp_ne {x : Int} {e : Int × Int} (h1 : x ≠ e.1) (h2 : x ≠ e.2) : swp x e = x := by
  unfold swp; rw [if_neg h1, if_neg h2]
theorem step_fix {n : Int} {xs : List Int} {m : Nat} (o : Ord n xs) (f : Fix n (m + 1) xs) (hm : (m : Int) + 1 ≤ n) (ne : ld xs ((m : Int) + 1) ≠ (m : Int) + 1) : Fix n m (xs.map (swp · (ld xs ((m : Int) + 1), (m : Int) + 1))) := by
  intro x h1 h2
  rw [ld_map o _ (by omega) h2]
  have lt := step_lt o f hm ne
  by_cases h : x = (m : Int) + 1
  · rw [h]; unfold swp; rw [if_pos rfl]
  · have e := f x (by omega) h2
    rw [e]
    exact swp_ne (by dsimp only; omega) (by dsimp only; exact h)
theorem fix_down {n : Int} {xs : List Int} {m : Nat} (f : Fix n (m + 1) xs) (e : ld xs ((m : Int) + 1) = (m : Int) + 1) : Fix n m xs := by
  intro x h1 h2
  by_cases h : x = (m : Int) + 1
  · rw [h]; exact e
  · exact f x (by omega) h2
inductive Rise : Int → List (Int × Int) → Prop
  | nil {m : Int} : Rise m []
  | snoc {m a b : Int} {r : List (Int × Int)} : Rise (b - 1) r → 1 ≤ a → a < b → b ≤ m → Rise m (r ++ [(a, b)])
theorem Rise.mono {m m' : Int} {r : List (Int × Int)} (h : Rise m r) (l : m ≤ m') : Rise m' r := by
  cases h with
  | nil => exact .nil
  | snoc a b c d => exact .snoc a b c (by omega)
theorem homeS_rise {n : Int} : ∀ (m : Nat) (xs : List Int), (m : Int) ≤ n → Ord n xs → Fix n m xs → Rise m (homeS m xs)
  | 0, xs, _, o, f => .nil
  | m + 1, xs, hm, o, f => by
    unfold homeS
    have hm' : (m : Int) + 1 ≤ n := by omega
    split
    · rename_i e
      exact (homeS_rise m xs (by omega) o (fix_down f e)).mono (by omega)
    · rename_i ne
      have lt := step_lt o f hm' ne
      have gd : 1 ≤ (ld xs ((m : Int) + 1), (m : Int) + 1).1 ∧ (ld xs ((m : Int) + 1), (m : Int) + 1).1 < (ld xs ((m : Int) + 1), (m : Int) + 1).2 ∧ (ld xs ((m : Int) + 1), (m : Int) + 1).2 ≤ n := ⟨lt.1, lt.2, hm'⟩
      exact .snoc ((homeS_rise m _ (by omega) (map_ord o gd) (step_fix o f hm' ne)).mono (by omega)) lt.1 lt.2 (by omega)
theorem Rise.go_fix {m : Int} {r : List (Int × Int)} (h : Rise m r) : ∀ {x : Int}, m < x → go r x = x := by
  induction h with
  | nil => intro x hx; rfl
  | snoc a b c d ih =>
    intro x hx
    rw [go_append, ih (by omega)]
    exact swp_ne (by dsimp only; omega) (by dsimp only; omega)
theorem homeS_of {n : Int} : ∀ (m : Nat) (r : List (Int × Int)), (m : Int) ≤ n → Rise m r → homeS m (ledM n r) = r
  | 0, r, _, h => by
    cases h with
    | nil => rfl
    | snoc a b c d => omega
  | m + 1, r, hm, h => by
    unfold homeS
    rw [ld_led (by omega) (by omega)]
    cases h with
    | nil => rw [if_pos (show go [] ((m : Int) + 1) = (m : Int) + 1 from rfl)]; exact homeS_of m [] (by omega) .nil
    | @snoc _ a b r' h' ha hb hc =>
      by_cases e : b = (m : Int) + 1
      · subst e
        have g1 : go (r' ++ [(a, (m : Int) + 1)]) ((m : Int) + 1) = a := by
          rw [go_append, h'.go_fix (by omega)]
          show swp _ _ = a
          unfold swp
          rw [if_neg (by dsimp only; omega), if_pos rfl]
        rw [g1, if_neg (by omega)]
        have e2 : (ledM n (r' ++ [(a, (m : Int) + 1)])).map (swp · (a, (m : Int) + 1)) = ledM n r' := by
          unfold ledM
          rw [List.map_map]
          apply List.map_congr_left
          intro x _
          show swp (go (r' ++ [(a, (m : Int) + 1)]) x) _ = _
          rw [go_append]
          exact swp_swp _ _
        rw [e2, homeS_of m r' (by omega) (h'.mono (by omega))]
      · have hr : Rise (m : Int) (r' ++ [(a, b)]) := .snoc h' ha hb (by omega)
        rw [if_pos (hr.go_fix (by omega))]
        exact homeS_of m _ (by omega) hr
def cnt (n : Int) (xs : List Int) : Nat := ((ivl 1 (n + 1)).filter (least xs)).length
theorem filter_one {α : Type} [DecidableEq α] {p q : α → Bool} {g : α} (hp : p g = false) (hq : q g = true) : ∀ (l : List α), l.Nodup → g ∈ l → (∀ x ∈ l, x ≠ g → p x = q x) → (l.filter q).length = (l.filter p).length + 1
  | [], _, h, _ => by cases h
  | a :: l, nd, h, k => by
    rw [List.nodup_cons] at nd
    by_cases e : a = g
    · subst e
      rw [List.filter_cons_of_pos hq, List.filter_cons_of_neg (by rw [hp]; decide), List.length_cons]
      congr 1
      congr 1
      apply List.filter_congr
      intro x hx
      exact (k x (List.mem_cons_of_mem _ hx) (by intro z; subst z; exact nd.1 hx)).symm
    · have ih := filter_one hp hq l nd.2 (by cases h with | head => exact absurd rfl e | tail _ h => exact h) fun x hx => k x (List.mem_cons_of_mem _ hx)
      have ea := k a List.mem_cons_self e
      rw [List.filter_cons, List.filter_cons, ea]
      split
      · rw [List.length_cons, List.length_cons, ih]
      · exact ih
section
variable {n : Int} {xs : List Int} {m : Nat}
theorem cut_ld (o : Ord n xs) (hm : (m : Int) + 1 ≤ n) {x : Int} (h1 : 1 ≤ x) (h2 : x ≤ n) (hx : x ≠ (m : Int) + 1) :
    ld (xs.map (swp · (ld xs ((m : Int) + 1), (m : Int) + 1))) x = if ld xs x = (m : Int) + 1 then ld xs ((m : Int) + 1) else ld xs x := by
  rw [ld_map o _ h1 h2]
  have ne : ld xs x ≠ ld xs ((m : Int) + 1) := fun e => hx (ld_inj o h1 h2 (by omega) hm e)
  unfold swp
  rw [if_neg ne]
theorem cut_itn (o : Ord n xs) (f : Fix n (m + 1) xs) (hm : (m : Int) + 1 ≤ n) (ne : ld xs ((m : Int) + 1) ≠ (m : Int) + 1) {x : Int} (h1 : 1 ≤ x) (h2 : x ≤ n) (hx : x ≠ (m : Int) + 1) :
    ∀ k, itn (ld (xs.map (swp · (ld xs ((m : Int) + 1), (m : Int) + 1)))) k x ≠ (m : Int) + 1 ∧ ∃ j, itn (ld (xs.map (swp · (ld xs ((m : Int) + 1), (m : Int) + 1)))) k x = itn (ld xs) j x
  | 0 => ⟨hx, 0, rfl⟩
  | k + 1 => by
    obtain ⟨a, j, e⟩ := cut_itn o f hm ne h1 h2 hx k
    have r := itn_in o h1 h2 j
    show ld _ (itn _ k x) ≠ _ ∧ ∃ j, ld _ (itn _ k x) = _
    rw [e] at a ⊢
    rw [cut_ld o hm r.1 r.2 a]
    by_cases h : ld xs (itn (ld xs) j x) = (m : Int) + 1
    · rw [if_pos h]
      refine ⟨ne, j + 2, ?_⟩
      show _ = ld xs (ld xs (itn (ld xs) j x))
      rw [h]
    · rw [if_neg h]
      exact ⟨h, j + 1, rfl⟩
theorem itn_cut (o : Ord n xs) (f : Fix n (m + 1) xs) (hm : (m : Int) + 1 ≤ n) (ne : ld xs ((m : Int) + 1) ≠ (m : Int) + 1) {x : Int} (h1 : 1 ≤ x) (h2 : x ≤ n) (hx : x ≠ (m : Int) + 1) :
    ∀ j, (∃ k, itn (ld xs) j x = itn (ld (xs.map (swp · (ld xs ((m : Int) + 1), (m : Int) + 1)))) k x) ∨ (itn (ld xs) j x = (m : Int) + 1 ∧ ∃ k, itn (ld (xs.map (swp · (ld xs ((m : Int) + 1), (m : Int) + 1)))) k x = ld xs ((m : Int) + 1))
  | 0 => .inl ⟨0, rfl⟩
  | j + 1 => by
    have r := itn_in o h1 h2 j
    rcases itn_cut o f hm ne h1 h2 hx j with ⟨k, e⟩ | ⟨e, k, e2⟩
    · have a := (cut_itn o f hm ne h1 h2 hx k).1
      have e3 : itn (ld (xs.map (swp · (ld xs ((m : Int) + 1), (m : Int) + 1)))) (k + 1) x = if ld xs (itn (ld xs) j x) = (m : Int) + 1 then ld xs ((m : Int) + 1) else ld xs (itn (ld xs) j x) := by
        show ld _ (itn _ k x) = _
        rw [← e] at a ⊢
        exact cut_ld o hm r.1 r.2 a
      by_cases h : ld xs (itn (ld xs) j x) = (m : Int) + 1
      · rw [if_pos h] at e3
        exact .inr ⟨h, k + 1, e3⟩
      · rw [if_neg h] at e3
        exact .inl ⟨k + 1, e3.symm⟩
    · refine .inl ⟨k, ?_⟩
      show ld xs (itn (ld xs) j x) = _
      rw [e, e2]
theorem cut_cnt (o : Ord n xs) (f : Fix n (m + 1) xs) (hm : (m : Int) + 1 ≤ n) (ne : ld xs ((m : Int) + 1) ≠ (m : Int) + 1) : cnt n (xs.map (swp · (ld xs ((m : Int) + 1), (m : Int) + 1))) = cnt n xs + 1 := by
  have lt := step_lt o f hm ne
  have gd : 1 ≤ (ld xs ((m : Int) + 1), (m : Int) + 1).1 ∧ (ld xs ((m : Int) + 1), (m : Int) + 1).1 < (ld xs ((m : Int) + 1), (m : Int) + 1).2 ∧ (ld xs ((m : Int) + 1), (m : Int) + 1).2 ≤ n := ⟨lt.1, lt.2, hm⟩
  have o' := map_ord o gd
  have f' := step_fix o f hm ne
  unfold cnt
  refine filter_one (g := (m : Int) + 1) ?_ ?_ _ (ivl_nodup _ _) (mem_ivl.mpr (by omega)) ?_
  · cases h : least xs ((m : Int) + 1) with
    | false => rfl
    | true =>
      have := (least_iff o (by omega) hm).mp h 1
      exact absurd this (by show ¬ _ ≤ ld xs ((m : Int) + 1); omega)
  · refine (least_iff o' (by omega) hm).mpr fun k => ?_
    have : ∀ k, itn (ld (xs.map (swp · (ld xs ((m : Int) + 1), (m : Int) + 1)))) k ((m : Int) + 1) = (m : Int) + 1 := by
      intro k
      induction k with
      | zero => rfl
      | succ k ih => show ld _ (itn _ k _) = _; rw [ih]; exact f' _ (by omega) hm
    rw [this k]
    exact Int.le_refl _
  · intro x hx hne
    have hx := mem_ivl.mp hx
    have h1 : 1 ≤ x := hx.1
    have h2 : x ≤ n := by omega
    rw [Bool.eq_iff_iff, least_iff o h1 h2, least_iff o' h1 h2]
    constructor
    · intro h k
      obtain ⟨_, j, e⟩ := cut_itn o f hm ne h1 h2 hne k
      rw [e]
      exact h j
    · intro h j
      rcases itn_cut o f hm ne h1 h2 hne j with ⟨k, e⟩ | ⟨e, k, e2⟩
      · rw [e]; exact h k
      · have := h k
        rw [e2] at this
        rw [e]
        omega
end
theorem homeS_cnt {n : Int} : ∀ (m : Nat) (xs : List Int), (m : Int) ≤ n → Ord n xs → Fix n m xs → (homeS m xs).length + cnt n xs = n.toNat
  | 0, xs, _, o, f => by
    have : (ivl 1 (n + 1)).filter (least xs) = ivl 1 (n + 1) := by
      rw [List.filter_eq_self]
      intro x hx
      have hx := mem_ivl.mp hx
      refine (least_iff o hx.1 (by omega)).mpr fun k => ?_
      have : ∀ k, itn (ld xs) k x = x := by
        intro k
        induction k with
        | zero => rfl
        | succ k ih => show ld _ (itn _ k _) = _; rw [ih]; exact f _ (by omega) (by omega)
      rw [this k]
      exact Int.le_refl _
    unfold cnt
    rw [this, ivl_length]
    show 0 + _ = _
    omega
  | m + 1, xs, hm, o, f => by
    unfold homeS
    have hm' : (m : Int) + 1 ≤ n := by omega
    split
    · rename_i e
      exact homeS_cnt m xs (by omega) o (fix_down f e)
    · rename_i ne
      have lt := step_lt o f hm' ne
      have gd : 1 ≤ (ld xs ((m : Int) + 1), (m : Int) + 1).1 ∧ (ld xs ((m : Int) + 1), (m : Int) + 1).1 < (ld xs ((m : Int) + 1), (m : Int) + 1).2 ∧ (ld xs ((m : Int) + 1), (m : Int) + 1).2 ≤ n := ⟨lt.1, lt.2, hm'⟩
      have ih := homeS_cnt m _ (by omega) (map_ord o gd) (step_fix o f hm' ne)
      rw [cut_cnt o f hm' ne] at ih
      rw [List.length_append, List.length_singleton]
      omega
def homeM (xs : List Int) : List (Int × Int) := homeS xs.length xs
section
variable {n : Int} {xs : List Int}
theorem fix_top (o : Ord n xs) : Fix n xs.length xs := fun x h1 h2 => by have := o.length; omega
theorem homeM_rise (hn : 0 ≤ n) (o : Ord n xs) : Rise n (homeM xs) := (homeS_rise _ xs (by have := o.length; omega) o (fix_top o)).mono (by have := o.length; omega)
theorem homeM_cnt (hn : 0 ≤ n) (o : Ord n xs) : (homeM xs).length + cnt n xs = n.toNat := homeS_cnt _ xs (by have := o.length; omega) o (fix_top o)
theorem homeM_of (hn : 0 ≤ n) {r : List (Int × Int)} (h : Rise n r) : homeM (ledM n r) = r := by
  unfold homeM
  rw [ledM_length]
  exact homeS_of _ r (by omega) (h.mono (by omega))
end
theorem least_ex : ∀ {l : List Int}, l ≠ [] → ∃ M, M ∈ l ∧ ∀ b ∈ l, M ≤ b
  | [], h => absurd rfl h
  | [a], _ => ⟨a, List.mem_singleton.mpr rfl, fun b hb => by rw [List.mem_singleton.mp hb]; exact Int.le_refl _⟩
  | a :: b :: r, _ => by
    obtain ⟨M, h1, h2⟩ := least_ex (l := b :: r) (by simp)
    by_cases h : a ≤ M
    · refine ⟨a, List.mem_cons_self, fun c hc => ?_⟩
      rcases List.mem_cons.mp hc with rfl | hc
      · exact Int.le_refl _
      · exact Int.le_trans h (h2 c hc)
    · refine ⟨M, List.mem_cons_of_mem _ h1, fun c hc => ?_⟩
      rcases List.mem_cons.mp hc with rfl | hc
      · omega
      · exact h2 c hc
end Sw
namespace Sw
open PySem L2
theorem orb_sym {n : Int} {xs : List Int} (o : Ord n xs) {x y : Int} (h1 : 1 ≤ x) (h2 : x ≤ n) (h : y ∈ orb xs x) : x ∈ orb xs y := by
  obtain ⟨k, rfl⟩ := (orb_mem o h1 h2).mp h
  obtain ⟨j, hj, e⟩ := itn_mod o h1 h2 k
  have r := itn_in o h1 h2 k
  refine (orb_mem o r.1 r.2).mpr ⟨per xs x - j, ?_⟩
  rw [e, ← itn_add, show per xs x - j + j = per xs x by omega]
  exact per_eq o h1 h2
theorem orb_trans {n : Int} {xs : List Int} (o : Ord n xs) {x y z : Int} (h1 : 1 ≤ x) (h2 : x ≤ n) (h : y ∈ orb xs x) (h' : z ∈ orb xs y) : z ∈ orb xs x := by
  obtain ⟨k, rfl⟩ := (orb_mem o h1 h2).mp h
  have r := itn_in o h1 h2 k
  obtain ⟨j, rfl⟩ := (orb_mem o r.1 r.2).mp h'
  exact (orb_mem o h1 h2).mpr ⟨j + k, itn_add _ _ _ _⟩
theorem orb_in {n : Int} {xs : List Int} (o : Ord n xs) {x y : Int} (h1 : 1 ≤ x) (h2 : x ≤ n) (h : y ∈ orb xs x) : 1 ≤ y ∧ y ≤ n := by
  obtain ⟨k, rfl⟩ := (orb_mem o h1 h2).mp h
  exact itn_in o h1 h2 k
theorem orb_self {xs : List Int} (x : Int) : x ∈ orb xs x := by
  unfold orb
  exact List.mem_map.mpr ⟨0, List.mem_range.mpr (by unfold per; omega), rfl⟩
theorem orb_length (xs : List Int) (x : Int) : (orb xs x).length = per xs x := by unfold orb; rw [List.length_map, List.length_range]
theorem low_ex {n : Int} {xs : List Int} (o : Ord n xs) {x : Int} (h1 : 1 ≤ x) (h2 : x ≤ n) : ∃ m, m ∈ orb xs x ∧ least xs m = true ∧ m ≤ x := by
  obtain ⟨M, m1, m2⟩ := least_ex (l := orb xs x) (List.ne_nil_of_mem (orb_self x))
  refine ⟨M, m1, ?_, m2 x (orb_self x)⟩
  unfold least
  rw [List.all_eq_true]
  intro y hy
  exact decide_eq_true (m2 y (orb_trans o h1 h2 m1 hy))
theorem met_least {n : Int} {xs : List Int} (o : Ord n xs) {i : Nat} (hi : (i : Int) < n) : least xs (1 + i) = true ↔ ¬ ∃ m ∈ ((ivl 1 (n + 1)).take i).filter (least xs), (1 + (i : Int)) ∈ orb xs m := by
  have b1 : (1 : Int) ≤ 1 + i := by omega
  have b2 : (1 : Int) + i ≤ n := by omega
  have tk : ∀ m, m ∈ (ivl 1 (n + 1)).take i ↔ 1 ≤ m ∧ m ≤ i := by
    intro m
    constructor
    · intro h
      obtain ⟨j, hj, e⟩ := List.mem_iff_getElem.mp h
      rw [List.length_take] at hj
      rw [List.getElem_take] at e
      have g := get_ivl (lo := 1) (hi := n + 1) (i := j) (by rw [ivl_length] at hj; omega)
      rw [List.getElem?_eq_getElem (by omega)] at g
      have g := Option.some.inj g
      rw [e] at g
      omega
    · rintro ⟨h3, h4⟩
      refine List.mem_iff_getElem.mpr ⟨(m - 1).toNat, by rw [List.length_take, ivl_length]; omega, ?_⟩
      rw [List.getElem_take]
      have g := get_ivl (lo := 1) (hi := n + 1) (i := (m - 1).toNat) (by omega)
      rw [List.getElem?_eq_getElem (by rw [ivl_length]; omega)] at g
      have g := Option.some.inj g
      rw [g]
      omega
  constructor
  · rintro h ⟨m, hm, hmo⟩
    rw [List.mem_filter, tk] at hm
    have s := orb_sym o hm.1.1 (by omega) hmo
    unfold least at h
    have := of_decide_eq_true (List.all_eq_true.mp h m s)
    omega
  · intro h
    obtain ⟨m, m1, m2, m3⟩ := low_ex o b1 b2
    by_cases e : m = 1 + (i : Int)
    · rw [← e]; exact m2
    · exfalso
      apply h
      have mi := orb_in o b1 b2 m1
      exact ⟨m, List.mem_filter.mpr ⟨(tk m).mpr (by omega), m2⟩, orb_sym o b1 b2 m1⟩
theorem at_last {ns : List Int} {k : Nat} {z : Int} (h : ns.length = k + 1) (e : ns[k]? = some z) : atI (ns.map V.int) (-1) = some (V.int z) := by
  unfold atI ixN
  rw [if_neg (by decide), if_pos (by rw [List.length_map]; omega)]
  show (ns.map V.int)[(-1 + ((ns.map V.int).length : Int)).toNat]? = _
  rw [List.length_map, show (-1 + (ns.length : Int)).toNat = k by omega, List.getElem?_map, e]
  rfl
theorem inV_int (x : Int) (ms : List Int) : inV (.int x) (ms.map V.int) = decide (x ∈ ms) := by
  unfold inV
  rw [List.any_map, Bool.eq_iff_iff, List.any_eq_true]
  simp only [decide_eq_true_eq]
  constructor
  · rintro ⟨y, hy, e⟩
    have e : eqV (.int y) (.int x) = true := e
    unfold eqV at e
    have : y = x := by simpa using e
    rw [← this]; exact hy
  · intro h
    refine ⟨x, h, ?_⟩
    show eqV (.int x) (.int x) = true
    unfold eqV
    simp
theorem flat_ints (ms : List Int) : (ms.map V.int).all flatV = true := by
  rw [List.all_map, List.all_eq_true]
  intro x _
  rfl
def bump : Nat → List (List Int) → List (List Int)
  | _, [] => []
  | k, r :: t => (r ++ [100 + (k : Int)]) :: bump (k + 1) t
def half (l : List (List Int)) (i : Nat) : List (List Int) := bump 0 (l.take i) ++ l.drop i
end Sw
namespace Sw
open PySem L2
def Cyc (n : Int) (xs r : List Int) : Prop := r ≠ [] ∧ ∀ (i : Nat) (x : Int), r[i]? = some x → 1 ≤ x ∧ x ≤ n ∧ r[(i + 1) % r.length]? = some (ld xs x)
structure Rnds (n : Int) (xs : List Int) (rs : List (List Int)) : Prop where
  cyc : ∀ r ∈ rs, Cyc n xs r
  nd : rs.flatten.Nodup
  rest : ∀ x, 1 ≤ x → x ≤ n → x ∉ rs.flatten → ld xs x = x
structure Part (n : Int) (xs : List Int) (rf rl : List (List Int)) : Prop where
  cf : ∀ r ∈ rf, Cyc n xs r
  cl : ∀ r ∈ rl, Cyc n xs r
  nd : (rf.flatten ++ rl.flatten).Nodup
  rest : ∀ x, 1 ≤ x → x ≤ n → x ∉ rf.flatten → x ∉ rl.flatten → ld xs x = x
theorem orb_nodup {n : Int} {xs : List Int} (o : Ord n xs) {x : Int} (h1 : 1 ≤ x) (h2 : x ≤ n) : (orb xs x).Nodup := by
  unfold orb
  rw [List.Nodup, List.pairwise_map]
  refine (List.Pairwise.and_mem.mp (List.pairwise_lt_range (n := per xs x))).imp ?_
  rintro i j ⟨hi, hj, hij⟩ e
  have hi := List.mem_range.mp hi
  have hj := List.mem_range.mp hj
  have e2 : itn (ld xs) (i + (j - i)) x = itn (ld xs) i (itn (ld xs) (j - i) x) := itn_add _ _ _ _
  rw [show i + (j - i) = j by omega, ← e] at e2
  have q := itn_in o h1 h2 (j - i)
  have := itn_inj o h1 h2 q.1 q.2 i e2
  exact per_ne (by omega) (by omega) this.symm
theorem nil_rnds (n : Int) : Rnds n (ivl 1 (n + 1)) [] := by
  refine ⟨fun r h => (by cases h), by simp, fun x h1 h2 _ => ?_⟩
  unfold ld
  rw [List.getD_eq_getElem?_getD, get_ivl (by omega)]
  show 1 + (((x - 1).toNat : Nat) : Int) = x
  omega
end Sw
namespace L2
open PySem PySem.Spec PyProof.Rows
mutual
inductive DT (H : Hp) (P : Addr → Prop) : V → PyData → Prop
  | non : DT H P .non .none
  | bl (b : Bool) : DT H P (.bl b) (.bool b)
  | int (i : Int) : DT H P (.int i) (.int i)
  | str (x : Str) : DT H P (.str x) (.str x)
  | lst {a : Addr} {vs : List V} {ds : List PyData} : H a = some (.lst vs) → P a → DTs H P vs ds → DT H P (.ref a) (.list ds)
  | tup {a : Addr} {vs : List V} {ds : List PyData} : H a = some (.tup vs) → P a → DTs H P vs ds → DT H P (.ref a) (.tuple ds)
inductive DTs (H : Hp) (P : Addr → Prop) : List V → List PyData → Prop
  | nil : DTs H P [] []
  | cons {v : V} {d : PyData} {vs : List V} {ds : List PyData} : DT H P v d → DTs H P vs ds → DTs H P (v :: vs) (d :: ds)
end
mutual
theorem DT.keep {H H' : Hp} {P : Addr → Prop} (k : Keep P H H') : ∀ {v : V} {d : PyData}, DT H P v d → DT H' P v d
  | _, _, .non => .non
  | _, _, .bl b => .bl b
  | _, _, .int i => .int i
  | _, _, .str x => .str x
  | _, _, .lst h p r => .lst (k _ _ p h) p (r.keep k)
  | _, _, .tup h p r => .tup (k _ _ p h) p (r.keep k)
theorem DTs.keep {H H' : Hp} {P : Addr → Prop} (k : Keep P H H') : ∀ {vs : List V} {ds : List PyData}, DTs H P vs ds → DTs H' P vs ds
  | _, _, .nil => .nil
  | _, _, .cons h r => .cons (h.keep k) (r.keep k)
end
mutual
theorem DT.dat {K : PySem.W.Frag} {H : Hp} {P : Addr → Prop} : ∀ {v : V} {d : PyData}, DT H P v d → Dat K H P v d
  | _, _, .non => .non
  | _, _, .bl b => .bl b
  | _, _, .int i => .int i
  | _, _, .str x => .str x
  | _, _, .lst h p r => .lst (SqL.of h) p r.dat
  | _, _, .tup h p r => .tup (SqT.of h) p r.dat
theorem DTs.dat {K : PySem.W.Frag} {H : Hp} {P : Addr → Prop} : ∀ {vs : List V} {ds : List PyData}, DTs H P vs ds → DatAll K H P vs ds
  | _, _, .nil => .nil
  | _, _, .cons h r => .cons h.dat r.dat
end
theorem DTs.length {H : Hp} {P : Addr → Prop} : ∀ {vs : List V} {ds : List PyData}, DTs H P vs ds → vs.length = ds.length
  | _, _, .nil => rfl
  | _, _, .cons h r => by rw [List.length_cons, List.length_cons, r.length]
theorem DTs.append {H : Hp} {P : Addr → Prop} : ∀ {vs ws : List V} {ds es : List PyData}, DTs H P vs ds → DTs H P ws es → DTs H P (vs ++ ws) (ds ++ es)
  | _, _, _, _, .nil, y => y
  | _, _, _, _, .cons h x, y => .cons h (x.append y)
theorem DTs.get {H : Hp} {P : Addr → Prop} : ∀ {vs : List V} {ds : List PyData} {i : Nat} {x : V}, DTs H P vs ds → vs[i]? = some x → ∃ d, ds[i]? = some d ∧ DT H P x d
  | _, _, _, _, .nil, e => by simp at e
  | _, _, 0, _, .cons h x, e => by simp at e; subst e; exact ⟨_, rfl, h⟩
  | _, _, i + 1, _, .cons h x, e => by
    obtain ⟨d, e1, e2⟩ := x.get (i := i) (by simpa using e)
    exact ⟨d, by simpa using e1, e2⟩
def tyD : PyData → String
  | .none => "NoneType"
  | .bool _ => "bool"
  | .int _ => "int"
  | .str _ => "str"
  | .list _ => "list"
  | .tuple _ => "tuple"
  | .dict _ => "dict"
theorem DT.ty {K : PySem.W.Frag} {H : Hp} {P : Addr → Prop} {v : V} {d : PyData} (h : DT H P v d) : TyOf K H v (.type (tyD d)) := by
  cases h with
  | non => exact .non
  | bl b => exact .bl b
  | int i => exact .int i
  | str x => exact .str x
  | lst h p r => exact .lst h
  | tup h p r => exact .tup h
def isL : PyData → Bool
  | .list _ => true
  | _ => false
theorem kit_list (K : PySem.W.Frag) {H : Hp} {P : Addr → Prop} {v : V} {d : PyData} (h : DT H P v d) : PySem.W.kitOne K (.type (tyD d)) (.type "list") = some (isL d) := by
  cases h with
  | non => exact kit_type K (show kitB "NoneType" "list" = some false by decide +kernel)
  | bl b => exact kit_type K (show kitB "bool" "list" = some false by decide +kernel)
  | int i => exact kit_type K (show kitB "int" "list" = some false by decide +kernel)
  | str x => exact kit_type K (show kitB "str" "list" = some false by decide +kernel)
  | lst h p r => exact kit_type K (show kitB "list" "list" = some true by decide +kernel)
  | tup h p r => exact kit_type K (show kitB "tuple" "list" = some false by decide +kernel)
def isT : PyData → Bool
  | .tuple _ => true
  | _ => false
theorem kit_tuple (K : PySem.W.Frag) {H : Hp} {P : Addr → Prop} {v : V} {d : PyData} (h : DT H P v d) : PySem.W.kitOne K (.type (tyD d)) (.type "tuple") = some (isT d) := by
  cases h with
  | non => exact kit_type K (show kitB "NoneType" "tuple" = some false by decide +kernel)
  | bl b => exact kit_type K (show kitB "bool" "tuple" = some false by decide +kernel)
  | int i => exact kit_type K (show kitB "int" "tuple" = some false by decide +kernel)
  | str x => exact kit_type K (show kitB "str" "tuple" = some false by decide +kernel)
  | lst h p r => exact kit_type K (show kitB "list" "tuple" = some false by decide +kernel)
  | tup h p r => exact kit_type K (show kitB "tuple" "tuple" = some true by decide +kernel)
def isI : PyData → Bool
  | .int _ => true
  | .bool _ => true
  | _ => false
theorem kit_int (K : PySem.W.Frag) {H : Hp} {P : Addr → Prop} {v : V} {d : PyData} (h : DT H P v d) : PySem.W.kitOne K (.type (tyD d)) (.type "int") = some (isI d) := by
  cases h with
  | non => exact kit_type K (show kitB "NoneType" "int" = some false by decide +kernel)
  | bl b => exact kit_type K (show kitB "bool" "int" = some true by decide +kernel)
  | int i => exact kit_type K (show kitB "int" "int" = some true by decide +kernel)
  | str x => exact kit_type K (show kitB "str" "int" = some false by decide +kernel)
  | lst h p r => exact kit_type K (show kitB "list" "int" = some false by decide +kernel)
  | tup h p r => exact kit_type K (show kitB "tuple" "int" = some false by decide +kernel)
def isB : PyData → Bool
  | .bool _ => true
  | _ => false
theorem kit_bool (K : PySem.W.Frag) {H : Hp} {P : Addr → Prop} {v : V} {d : PyData} (h : DT H P v d) : PySem.W.kitOne K (.type (tyD d)) (.type "bool") = some (isB d) := by
  cases h with
  | non => exact kit_type K (show kitB "NoneType" "bool" = some false by decide +kernel)
  | bl b => exact kit_type K (show kitB "bool" "bool" = some true by decide +kernel)
  | int i => exact kit_type K (show kitB "int" "bool" = some false by decide +kernel)
  | str x => exact kit_type K (show kitB "str" "bool" = some false by decide +kernel)
  | lst h p r => exact kit_type K (show kitB "list" "bool" = some false by decide +kernel)
  | tup h p r => exact kit_type K (show kitB "tuple" "bool" = some false by decide +kernel)
structure Fit (B : Nat) (d : PyData) : Prop where
  sh : d.showable = true
  nd : d.hasDict = false
  dp : d.depth ≤ 20
  ls : PyData.leavesShort 40 d = true
  wt : d.weight ≤ B
structure Fits (B k : Nat) (ds : List PyData) : Prop where
  sh : PyData.showableAll ds = true
  nd : PyData.hasDictAll ds = false
  dp : PyData.depthAll ds ≤ k
  ls : PyData.leavesShortAll 40 ds = true
  wt : PyData.weightAll ds ≤ B * ds.length
end L2
namespace L2
open PySem PySem.Spec PyProof.Rows
section
variable {prog : Program} {w : World} {A : Around} {E : Value → Shared → Prop} {s : Shared}
theorem cat_tup0 {t b : Addr} {ws : List Value} {Q : Value → Shared → Prop} (ht : IsTup s.heap t ([] : List Value).toArray) (hb : IsTup s.heap b ws.toArray) (h : Q (.ref b) s) : wpAny (model prog w) A (binaryOp .Add (.ref t) (.ref b)) Q E s := by
  obtain ⟨⟨cls, dd, data, sl⟩, ho, hc, n, hd⟩ := id ht
  obtain ⟨⟨cls2, dd2, data2, sl2⟩, ho2, hc2, n2, hd2⟩ := id hb
  simp only at hc hd hc2 hd2
  subst hc hd hc2 hd2
  exact concat_meets ⟨_, ho, rfl⟩ ⟨_, ho2, rfl⟩ noFill_tuple_add seq_tuple_add PySem.F.slot_tuple_add PySem.F.entry_tuple_add (PySem.F.args_tuple_add_2 _ _)
    (tuple_addW0 t b ([] : List Value).toArray ws.toArray n n2 dd dd2 sl sl2 (by simp)) ⟨ho, ho2, h⟩
end
section
variable {X : Cx} {K : PySem.W.Frag}
def rCatA (K : PySem.W.Frag) : R2 := fun x y H Q => ∃ a b xs ys, x = .ref a ∧ y = .ref b ∧ SqT K H a xs ∧ SqT K H b ys ∧ xs.length + ys.length ≤ sizeLine ∧
  (xs = [] → Q (.ref b) H) ∧ (xs ≠ [] → ys = [] → Q (.ref a) H) ∧ (xs ≠ [] → ys ≠ [] → ∀ p, H p = none → Q (.ref p) (upd H p (.tup (xs ++ ys))))
theorem op_catA (hK : X.K = K) : OpR X (binaryOp .Add) (rCatA K) := by
  subst hK
  intro pins s σ H x y v u Q I rx ry h
  obtain ⟨a, b, xs, ys, rfl, rfl, ha, hb, hz, q0, q1, q2⟩ := h
  cases rx
  cases ry
  obtain ⟨its, r1, p1, _⟩ := I.tuple ha
  obtain ⟨its2, r2, p2, _⟩ := I.tuple hb
  by_cases e : xs = []
  · have ei : its = [] := r1.nil_iff.mpr e
    subst ei
    exact cat_tup0 p1 p2 ⟨.ref b, H, I, rfl, q0 e⟩
  · refine HT.cat_tup p1 p2 (fun z => e (r1.nil_iff.mp z)) (fun z => ⟨.ref a, H, I, rfl, q1 e (r2.nil_iff.mp z)⟩) (fun z => ?_) (by rw [← r1.length, ← r2.length]; exact hz)
    refine ⟨.ref s.heap.objs.size, _, I.laid (t' := s.toks) (o := .tup (xs ++ ys)) (fun b ob q => Heap.get?_push_of_some _ q) (Nat.le_refl _) ?_, rfl, q2 e (fun w => z (r2.nil_iff.mpr w)) _ (I.hok.fresh (Nat.le_refl _))⟩
    exact ⟨by rw [List.length_append]; exact hz, _, r1.append r2, IsTup.new _ _⟩
end
end L2
namespace L2
open PySem PySem.Spec PyProof.Rows
def Lone (h : Heap) (e : Addr) : Prop := ∃ o vs, h.get? e = some o ∧ o.data = .fields vs ∧ vs[2]? = some .none
section
variable {M : Model} {A : Around} {E : Value → Shared → Prop} {s : Shared} {B : Heap} {env : Env} {outer : List Env} {L e : Addr} {cls a0 : Value}
abbrev tbObj (head : Value) (L : Addr) (pl : List Value) : Obj := { cls := .type "traceback", dict := none, data := .fields ([head, .ref L, .none, rawInt L, .none] ++ (if pl.isEmpty then List.replicate 6 Value.none else pl)).toArray }
theorem entry_lone {o : Obj} {vs : Array Value} {head : Value} {hadNext : Bool} {Q : Unit → Shared → Prop}
    (fr : A.frames = some (env :: outer)) (ff : s.heap.FunFrames B (env :: outer)) (ef : env.frame = some L) (eo : s.heap.get? e = some o) (kb : B.StaysIn s.heap) (en : B.get? e = none) (ed : o.data = .fields vs) (z0 : vs[0]? = some a0) (z2 : vs[2]? = some .none)
    (k : ∀ h', Heap.NotedW B (env :: outer) e o.cls a0 (rawInt L) s.heap h' → Lone h' e → Q () { s with heap := h' }) :
    wpAny M A (do let a ← frameOf env; let pl ← entryPlaceOf L hadNext; let b ← EntryCells.newEntry head a .none (rawInt L) .none pl; setField (.ref e) 1 b) Q E s := by
  have n2 : 2 < vs.size := (Array.getElem?_eq_some_iff.mp z2).1
  have n1 : 1 < vs.size := by omega
  have eno : e ∉ (env :: outer).filterMap (·.frame) := fun hm => by
    obtain ⟨_, o', ho, hnf⟩ := ff.mem hm
    rw [eo] at ho
    cases ho
    exact hnf vs ed
  refine wpAny_bind (wpAny_frameOf_fun fr ff ef fun g hs => wpAny_bind (wpAny_entryPlaceOf fun pl hpl => ?_))
  unfold EntryCells.newEntry newFields
  refine wpAny_bind (wpAny_newObj_type ?_ (hpl.sizeOk5 _ _ _ _ _))
  have eo1 : g.get? e = some o := (hs.2.1 e eno).trans eo
  have kb1 : B.StaysIn g := fun b u hb => (hs.2.1 b fun hm => by rw [(ff.mem hm).1] at hb; cases hb).trans (kb b u hb)
  have eo2 := Heap.get?_push_of_some (h := g) (tbObj head L pl) eo1
  have nT : g.objs.size ≠ e := Nat.ne_of_gt (Heap.lt_size eo1)
  have d3 := Obj.data_mapFields ed (·.setIfInBounds 1 (Value.ref g.objs.size))
  have eo3 := Heap.get?_update_self (Obj.mapFields (·.setIfInBounds 1 (Value.ref g.objs.size))) eo2 (Obj.isFreed_of_fields d3)
  have tb3 := (Heap.get?_update_other (g.push (tbObj head L pl)) (Obj.mapFields (·.setIfInBounds 1 (Value.ref g.objs.size))) (Ne.symm nT)).trans (Heap.get?_push_size g rfl)
  have stay : ∀ b u, b ≠ e → g.get? b = some u → ((g.push (tbObj head L pl)).update e (Obj.mapFields (·.setIfInBounds 1 (Value.ref g.objs.size)))).get? b = some u := fun b u hbe hb =>
    (Heap.get?_update_other _ _ (Ne.symm hbe)).trans (Heap.get?_push_of_some _ hb)
  have noE : ∀ b u, s.heap.get? b = some u → (∀ ws, u.data ≠ .fields ws) → b ≠ e := fun b u hb hnf q => by
    rw [q, eo] at hb
    cases hb
    exact hnf vs ed
  refine wpAny_setField eo2 ed n1 (k _ ⟨fun b u hb => stay b u (fun q => by rw [q, en] at hb; cases hb) (kb1 b u hb), ff.of_keeps fun b u hb hnf => ?_, ?_, fun b u hb hnf => ?_⟩ ⟨_, _, eo3, d3, ?_⟩)
  · obtain ⟨sl, hq⟩ := hs.2.2 b u hb
    exact ⟨_, stay b _ (noE b u hb hnf) hq, rfl⟩
  · refine ⟨_, _, g.objs.size, _, _, eo3, ⟨Obj.cls_mapFields _ _, ?_⟩, d3, by simp [n1], kb1.fresh, nT, tb3, rfl, ?_⟩
    · rw [Array.getElem?_setIfInBounds_ne (by decide)]; exact z0
    · rcases hpl with rfl | ⟨_, _, _, _, _, _, _, rfl⟩ <;> simp
  · obtain ⟨sl, hq⟩ := hs.2.2 b u hb
    exact ⟨sl, stay b _ (noE b u hb hnf) hq⟩
  · rw [Array.getElem?_setIfInBounds_ne (by decide)]; exact z2
theorem Lone.sees {h : Heap} (l : Lone h e) (t : h.TracedW B e cls a0) : ∃ oe vs T oT ts, h.get? e = some oe ∧ oe.cls = cls ∧ vs[0]? = some a0 ∧ vs[2]? = some .none ∧ oe.data = .fields vs ∧ vs[1]? = some (.ref T) ∧ B.get? T = none ∧ T ≠ e ∧ h.get? T = some oT ∧ oT.data = .fields ts ∧ ts[3]? = some .none := by
  obtain ⟨o, vs, h1, h2, h3⟩ := l
  obtain ⟨oe, ws, T, oT, ts, g1, ⟨g2, g3⟩, g4, g5, g6, g7, g8, g9, g10⟩ := t
  rw [h1] at g1
  cases g1
  rw [h2] at g4
  cases g4
  exact ⟨o, vs, T, oT, ts, h1, g2, g3, h3, h2, g5, g6, g7, g8, g9, g10⟩
theorem note_lone {Q : Unit → Shared → Prop} (fr : A.frames = some (env :: outer)) (ef : env.frame = some L) (fl : Heap.FlyingW B (env :: outer) e cls a0 s.heap) (l : Lone s.heap e)
    (k : ∀ h', Heap.HeldW B (env :: outer) e cls a0 L h' → s.heap.UpToSlots h' → Lone h' e → Q () { s with heap := h' }) : wpAny M A (noteFrame (.ref e) env) Q E s := by
  obtain ⟨kb, en, ff, t⟩ := fl
  obtain ⟨oe, vs, T, oT, ts, eo, rfl, z0, z2, ed, z1, tn, nT, et, dT, z3⟩ := l.sees t
  unfold noteFrame
  simp only [ef]
  refine wpAny_bind (wpAny_field eo ed z1 ?_)
  rw [if_pos (by simp)]
  refine wpAny_bind (wpAny_field et dT z3 ?_)
  rw [if_neg (by simp [rawInt])]
  refine wpAny_bind (wpAny_setField et dT (Array.getElem?_eq_some_iff.mp z3).1 ?_)
  have oth : ∀ b, b ≠ T → (s.heap.update T (Obj.mapFields (·.setIfInBounds 3 Value.none))).get? b = s.heap.get? b := fun b hb => Heap.get?_update_other _ _ (Ne.symm hb)
  have noT : ∀ b u, s.heap.get? b = some u → (∀ ws, u.data ≠ .fields ws) → b ≠ T := fun b u hb hnf q => by
    rw [q, et] at hb
    cases hb
    exact hnf ts dT
  refine entry_lone fr (ff.of_keeps fun b u hb hnf => ⟨u, (oth b (noT b u hb hnf)).trans hb, rfl⟩) ef ((oth e (Ne.symm nT)).trans eo) (fun b u hb => (oth b fun q => by rw [q, tn] at hb; cases hb).trans (kb b u hb)) en ed z0 z2 fun h' ⟨x1, x2, x3, x4⟩ l' => ?_
  exact k h' ⟨x1, en, x2, x3⟩ (fun b u hb hnf => x4 b u ((oth b (noT b u hb hnf)).trans hb) hnf) l'
theorem land_lone {fl : Value} {l : List Env} {Q : Unit → Shared → Prop} (kb : B.StaysIn s.heap) (en : B.get? e = none) (ff : s.heap.FunFrames B l) (t : s.heap.TracedAtW B e cls a0 fl) (lo : Lone s.heap e)
    (k : ∀ h', Heap.FlyingW B l e cls a0 h' → s.heap.UpToSlots h' → Lone h' e → Q () { s with heap := h' }) : wpAny M A (setFlight (.ref e) none) Q E s := by
  obtain ⟨o, vs, h1, h2, h3⟩ := lo
  obtain ⟨oe, ws, T, oT, ts, g1, g2, g4, g5, g6, g7, g8, g9, g10⟩ := t
  rw [h1] at g1
  cases g1
  rw [h2] at g4
  cases g4
  have sz : 3 < ts.size := (Array.getElem?_eq_some_iff.mp g10).1
  have oth : ∀ b, b ≠ T → (s.heap.update T (Obj.mapFields (·.setIfInBounds 3 ((none : Option Addr).elim Value.none fun f => rawInt f)))).get? b = s.heap.get? b := fun b hb => Heap.get?_update_other _ _ (Ne.symm hb)
  have noT : ∀ b u, s.heap.get? b = some u → (∀ ws, u.data ≠ .fields ws) → b ≠ T := fun b u hb hnf q => by
    rw [q, g8] at hb
    cases hb
    exact hnf ts g9
  have e' := (oth e (Ne.symm g7)).trans h1
  unfold setFlight
  refine wpAny_bind (wpAny_field h1 h2 g5 ?_)
  rw [if_pos (by simp)]
  refine wpAny_setField g8 g9 sz (k _ ⟨fun b u hb => (oth b fun q => by rw [q, g6] at hb; cases hb).trans (kb b u hb), en, ff.of_keeps fun b u hb hnf => ⟨u, (oth b (noT b u hb hnf)).trans hb, rfl⟩, ?_⟩ (fun b u hb hnf => ⟨u.slots, (oth b (noT b u hb hnf)).trans hb⟩) ⟨o, vs, e', h2, h3⟩)
  exact ⟨o, vs, T, _, _, e', g2, h2, g5, g6, g7, Heap.get?_update_self _ g8 (Obj.isFreed_of_fields (Obj.data_mapFields g9 _)), Obj.data_mapFields g9 _, by simp [sz]⟩
theorem leave_lone {Q : Unit → Shared → Prop} (fr : A.frames = some (env :: outer)) (ef : env.frame = some L) (fl : Heap.FlyingW B (env :: outer) e cls a0 s.heap) (l : Lone s.heap e)
    (k : ∀ h', Heap.FlyingW B (env :: outer) e cls a0 h' → s.heap.UpToSlots h' → Lone h' e → Q () { s with heap := h' }) : wpAny M A (leaving env (.ref e)) Q E s := by
  unfold leaving
  refine wpAny_bind (note_lone fr ef fl l fun g hh sm l' => ?_)
  obtain ⟨f1, f2, f3, f4⟩ := hh
  exact land_lone (s := { s with heap := g }) f1 f2 f3 f4 l' fun h' a1 a2 a3 => k h' a1 (sm.trans a2) a3
theorem leave_made {o : Obj} {vs : Array Value} {Q : Unit → Shared → Prop} (fr : A.frames = some (env :: outer)) (ff : s.heap.FunFrames B (env :: outer)) (ef : env.frame = some L) (eo : s.heap.get? e = some o) (kb : B.StaysIn s.heap) (en : B.get? e = none) (ed : o.data = .fields vs) (z0 : vs[0]? = some a0) (z1 : vs[1]? = some .none) (z2 : vs[2]? = some .none)
    (k : ∀ h', Heap.FlyingW B (env :: outer) e o.cls a0 h' → s.heap.UpToSlots h' → Lone h' e → Q () { s with heap := h' }) : wpAny M A (leaving env (.ref e)) Q E s := by
  unfold leaving noteFrame
  simp only [ef]
  refine wpAny_bind (wpAny_bind (wpAny_field eo ed z1 ?_))
  rw [if_neg (by decide)]
  refine entry_lone fr ff ef eo kb en ed z0 z2 fun g hn l' => ?_
  obtain ⟨f1, f3, f4, sm⟩ := hn
  exact land_lone (s := { s with heap := g }) f1 en f3 f4 l' fun h' a1 a2 a3 => k h' a1 (Heap.UpToSlots.trans sm a2) a3
end
end L2
namespace L2
open PySem PySem.Spec PyProof.Rows
theorem ObjOk.here {P : Program} {w : World} {H : Hp} {h : Heap} {a : Addr} {o : HO} (x : ObjOk P w H h a o) : ∃ ob, h.get? a = some ob := by
  cases o with
  | lst xs => obtain ⟨_, _, _, _, e⟩ := x; exact ⟨_, e⟩
  | tup xs => obtain ⟨_, _, _, ob, e, _⟩ := x; exact ⟨_, e⟩
  | dK kvs => obtain ⟨_, _, _, _, o, _, _, e, _⟩ := x; exact ⟨_, e⟩
  | dT kvs => obtain ⟨_, _, _, _, o, _, _, e, _⟩ := x; exact ⟨_, e⟩
  | set S n => obtain ⟨o, _, _, _, e, _⟩ := x; exact ⟨_, e⟩
  | ins C dx fs => obtain ⟨_, _, _, e, _⟩ := x; exact ⟨_, e⟩
  | own y => obtain ⟨_, e⟩ := x; exact ⟨_, e⟩
  | xd fs => obtain ⟨_, ⟨_, _, _, e, _⟩, _⟩ := x; exact ⟨_, e⟩
  | rng lo hi => obtain ⟨_, _, _, e⟩ := x; exact ⟨_, e⟩
  | frz ob u => obtain ⟨e, _⟩ := x; exact ⟨_, e⟩
  | tbl ps => exact ⟨_, (show h.get? a = some _ from x)⟩
  | met f y => exact ⟨_, (show h.get? a = some _ from x)⟩
  | ext φ => obtain ⟨_, ⟨_, e⟩, _⟩ := x; exact ⟨_, e⟩
structure Fly (P : Program) (w : World) (fr : List Env) (H : Hp) (h : Heap) (e : Addr) (cls a0 : Value) (B : Heap) (H' : Hp) (h' : Heap) : Prop where
  un : Un (frs fr) [] H H' h h'
  hok : HOk P w H' h'
  fl : Heap.FlyingW B fr e cls a0 h'
  old : ∀ b o o', h.get? b = some o → b ∉ frs fr → h'.get? b = some o' → B.get? b = some o'
  trk : ∀ b u o', H' b = some u → h'.get? b = some o' → B.get? b = some o'
  frf : ∀ b ∈ frs fr, H' b = none
  lo : Lone h' e
section
variable {P : Program} {w : World} {fr : List Env} {H H' : Hp} {h h' h'' : Heap} {e : Addr} {cls a0 : Value} {B : Heap}
theorem Fly.move0 (fun_ : Un (frs fr) [] H H' h h') (fhok : HOk P w H' h') (ff : h'.FunFrames B fr) (fold : ∀ b o o', h.get? b = some o → b ∉ frs fr → h'.get? b = some o' → B.get? b = some o')
    (ftrk : ∀ b u o', H' b = some u → h'.get? b = some o' → B.get? b = some o') (ffrf : ∀ b ∈ frs fr, H' b = none) (fl : Heap.FlyingW B fr e cls a0 h'') (sm : h'.UpToSlots h'') (lo : Lone h'' e) : Fly P w fr H h e cls a0 B H' h'' where
  un := by
    refine ⟨fun b o q n hb hx => ?_, fun b o q n hb hx => ?_, fun_.free, fun b o q hx => ?_, fun_.tups, fun_.frzs, fun_.tbls⟩
    · have e1 := fun_.keep b o q n hb hx
      exact fl.1 b o (fold b o o q hb e1)
    · obtain ⟨sl, e1⟩ := fun_.slot b o q n hb hx
      obtain ⟨_, o1, e2, nf⟩ := ff.mem hb
      rw [e1] at e2; cases e2
      obtain ⟨sl', e3⟩ := sm b _ e1 nf
      exact ⟨sl', e3⟩
    · obtain ⟨o1, e1⟩ := fun_.there b o q hx
      by_cases hb : b ∈ frs fr
      · obtain ⟨_, o2, e2, nf⟩ := ff.mem hb
        rw [e1] at e2; cases e2
        obtain ⟨sl', e3⟩ := sm b _ e1 nf
        exact ⟨_, e3⟩
      · exact ⟨o1, fl.1 b o1 (fold b o o1 q hb e1)⟩
  hok := fun a o q => (fhok a o q).stay (fun b u hb z => by
      rcases hb with rfl | hb
      · exact fl.1 b u (ftrk b _ u q z)
      · exact fl.1 b u (ftrk b _ u hb z)) (fun _ z => z) fun _ _ z => z
  fl := fl
  old := fun b o o' q hb z => by
    obtain ⟨o1, e1⟩ := fun_.there b o q (by simp)
    have e2 := fold b o o1 q hb e1
    have e3 := fl.1 b o1 e2
    rw [z] at e3; cases e3
    exact e2
  trk := fun b u o' q z => by
    obtain ⟨o1, e1⟩ := (fhok b u q).here
    have e2 := ftrk b u o1 q e1
    have e3 := fl.1 b o1 e2
    rw [z] at e3; cases e3
    exact e2
  frf := ffrf
  lo := lo
theorem Fly.move (F : Fly P w fr H h e cls a0 B H' h') (fl : Heap.FlyingW B fr e cls a0 h'') (sm : h'.UpToSlots h'') (lo : Lone h'' e) : Fly P w fr H h e cls a0 B H' h'' := Fly.move0 F.un F.hok F.fl.2.2.1 F.old F.trk F.frf fl sm lo
theorem Fly.out {X : Cx} {pins : List (Addr × Obj)} {σ : St} {s : Shared} (I : Inv X pins σ H s) (hst : X.stack = X.env :: X.outer) (hex : X.ex = []) (F : Fly P w X.stack H s.heap e cls a0 B H' h') : Fly P w X.outer X.H₀ X.s₀.heap e cls a0 B H' h' := by
  have nx : ∀ b : Addr, b ∉ X.ex := fun b z => by rw [hex] at z; cases z
  have ns : ∀ b o, X.s₀.heap.get? b = some o → b ∉ frs X.outer → b ∉ frs X.stack := fun b o q hb z => by
    rcases List.mem_cons.mp (I.stkSub b z) with r | r
    · subst r
      exact absurd (Nat.lt_of_lt_of_le (Heap.lt_size q) I.ok.above) (Nat.lt_irrefl _)
    · exact hb r
  have so : ∀ b ∈ frs X.outer, b ∈ frs X.stack := fun b z => by
    rw [hst]
    unfold frs at z ⊢
    rw [List.filterMap_cons]
    split
    · exact z
    · exact List.mem_cons_of_mem _ z
  refine ⟨⟨fun b o q n hb hx => ?_, fun b o q n hb hx => ?_, fun b o q n hx => ?_, fun b o q hx => ?_, fun b xs q => F.un.tups b xs (I.base.tups b xs q), fun b o u q => F.un.frzs b o u (I.base.frzs b o u q), fun b ps q => ?_⟩, F.hok, ?_, fun b o o' q hb z => ?_, F.trk, fun b hb => F.frf b (so b hb), F.lo⟩
  · exact F.un.keep b o (I.base.keep b o q n hb (nx b)) (I.base.free b o q n (nx b)) (ns b o q hb) (by simp)
  · obtain ⟨sl, e1⟩ := I.base.slot b o q n hb (nx b)
    obtain ⟨sl', e2⟩ := F.un.any e1 (I.base.free b o q n (nx b)) (by simp)
    exact ⟨sl', e2⟩
  · obtain ⟨o1, e1⟩ := I.base.there b o q (nx b)
    exact F.un.free b o1 e1 (I.base.free b o q n (nx b)) (by simp)
  · obtain ⟨o1, e1⟩ := I.base.there b o q (nx b)
    exact F.un.there b o1 e1 (by simp)
  · obtain ⟨m1, e1⟩ := I.base.tbls b ps q
    obtain ⟨m2, e2⟩ := F.un.tbls b _ e1
    exact ⟨m1 ++ m2, by rw [e2, Array.append_assoc]⟩
  · have f := F.fl
    rw [hst] at f
    exact ⟨f.1, f.2.1, f.2.2.1.2.2, f.2.2.2⟩
  · obtain ⟨o1, e1⟩ := I.base.there b o q (nx b)
    exact F.old b o1 o' e1 (ns b o q hb) z
end
def CX1 (P : Program) (w : World) : CXT := fun fr H s E ev s' => ∃ (e : Addr) (cls a0 : Value) (B : Heap) (H' : Hp), ev = .ref e ∧ s'.os = s.os ∧ AllBare s'.gens ∧ Fly P w fr H s.heap e cls a0 B H' s'.heap ∧ E cls none H'
theorem pass10 {P : Program} {w : World} {X : Cx} : Passes (CX1 P w) X E0 := fun _ _ _ _ _ _ _ h => by
  obtain ⟨_, _, _, _, _, _, _, _, _, q⟩ := h
  exact False.elim q
section
variable {P : Program} {w : World} {K : PySem.W.Frag} {mg : Str → Option Value} {base : Heap} {N : List Str} {qual : Str} {scope : Scope} {f : Addr} {cdv : Value} {A : Around} {outer : List Env} {s : Shared} {H : Hp} {E : XK}
abbrev cx1 (P : Program) (w : World) (K : PySem.W.Frag) (mg : Str → Option Value) (base : Heap) (N : List Str) (qual : Str) (scope : Scope) (f : Addr) (cdv : Value) (A : Around) (outer : List Env) (s : Shared) (H : Hp) (E : XK) : Cx := cxOf (CX1 P w) P w K mg base N qual scope f cdv A outer s H E
theorem pass1 : Passes (CX1 P w) (cx1 P w K mg base N qual scope f cdv A outer s H E) E := by
  intro pins σ H₁ s₁ ev s' I h
  obtain ⟨e, cls, a0, B, H', rfl, os, bare, F, q⟩ := h
  show wpAny _ _ (leaving _ (.ref e)) _ _ s'
  refine leave_lone (B := B) I.ok.frames rfl F.fl F.lo fun h'' fl sm lo => ?_
  exact ⟨e, cls, a0, B, H', rfl, os.trans I.os, bare, Fly.out I rfl rfl (F.move fl sm lo), q⟩
theorem leaves1 {pins : List (Addr × Obj)} {σ : St} {H₁ : Hp} {s₁ : Shared} {h' : Heap} {e : Addr} {cls : Value} {args : List Value} (I : Inv (cx1 P w K mg base N qual scope f cdv A outer s H E) pins σ H₁ s₁)
    (M : Heap.MadeExcOf s₁.heap h' e cls args) (q : E cls none H₁) : (cx1 P w K mg base N qual scope f cdv A outer s H E).xe (.ref e) { s₁ with heap := h' } := by
  obtain ⟨t, he, htn, ht⟩ := M.there
  show wpAny _ _ (leaving _ (.ref e)) _ _ _
  have st := I.stack
  have ff := PySem.W.funFrames_hide (as := frs (cx1 P w K mg base N qual scope f cdv A outer s H E).stack) st fun env hm a ha => List.mem_filterMap.mpr ⟨env, hm, ha⟩
  have hen : (PySem.W.hideAll s₁.heap (frs (cx1 P w K mg base N qual scope f cdv A outer s H E).stack)).get? e = none := by
    cases z : (PySem.W.hideAll s₁.heap (frs (cx1 P w K mg base N qual scope f cdv A outer s H E).stack)).get? e with
    | none => rfl
    | some o => have := PySem.W.of_hideAll _ z; rw [M.new] at this; cases this
  refine leave_made (B := PySem.W.hideAll s₁.heap (frs (cx1 P w K mg base N qual scope f cdv A outer s H E).stack)) (a0 := .ref t) I.ok.frames (ff.of_keeps fun b o hb _ => ⟨o, M.keeps b o hb, rfl⟩) rfl he (fun b o z => M.keeps b o (PySem.W.of_hideAll _ z)) hen rfl rfl rfl rfl fun h'' fl k4 lo => ?_
  refine ⟨e, cls, .ref t, PySem.W.hideAll s₁.heap (frs (cx1 P w K mg base N qual scope f cdv A outer s H E).stack), H₁, rfl, I.os, I.bare, Fly.out I rfl rfl (Fly.move0 (h' := h') (Un.kept M.keeps) (I.hok.kept M.keeps) (ff.of_keeps fun b o hb _ => ⟨o, M.keeps b o hb, rfl⟩) (fun b o o' z hb zz => ?_) (fun b u o' z zz => ?_) I.stkFree fl k4 lo), q⟩
  · have := M.keeps b o z
    rw [zz] at this; cases this
    exact PySem.W.hideAll_get _ z hb
  · obtain ⟨o1, e1⟩ := (I.hok b u z).here
    have := M.keeps b o1 e1
    rw [zz] at this; cases this
    exact PySem.W.hideAll_get _ e1 fun hb => by rw [I.stkFree b hb] at z; cases z
end
end L2
namespace L2
open PySem PySem.Spec PyProof.Rows
abbrev bmV : List Value := [.type "ValueError", .type "Exception", .type "BaseException", .type "object"]
abbrev ExcC (K : PySem.W.Frag) (C : Addr) : Prop := PySem.W.excIn K C bmV "ValueError.__new__" = true
theorem own_in {K : PySem.W.Frag} {h : Heap} {mg : Str → Option Value} {x : Str} {C : Addr} {bmB : List Value} {newId : String} (X : K.In h) (hm : mg x = some (.ref C)) (q : PySem.W.excIn K C bmB newId = true) : OwnCls x C bmB newId mg h := by
  refine ⟨hm, ?_⟩
  unfold PySem.W.excIn at q
  split at q
  · rename_i dd cd sl ho
    split at q
    · rename_i C' bm k0 k1 k2 k3 n k5 hm hs
      simp only [Bool.and_eq_true, beq_iff_eq, Bool.not_eq_true'] at q
      obtain ⟨⟨⟨⟨⟨rfl, rfl⟩, hdel⟩, ht⟩, hok⟩, hni⟩ := q
      obtain ⟨nm, bs, mro, ns, qn, hd, sn, sub, ab, col, del⟩ := cd
      dsimp only at hm hdel hok hni
      subst hm hdel
      have hsl : sl = #[k0, k1, k2, k3, some (.builtin n), k5] := by
        obtain ⟨l⟩ := sl
        simp only at hs
        rw [hs]
      subst hsl
      exact ⟨bm, ns, nm, qn, bs, hd, sn, sub, ab, col, dd, k0, k1, k2, k3, k5, _, X _ _ ho, .of_isNs (PySem.W.isNs_of_in X hok), PySem.W.nsMap_none_of_in X hok hni, PySem.W.tail_of_in X ht⟩
    · cases q
  · cases q
def tRaise (E : XK) (cls : Value) (ta : TA) : TS := fun _ σ H => ta σ H fun vs H1 => vs.length ≤ sizeLine ∧ E cls none H1
section
variable {X : Cx} {E : XK} {C : Addr} {x : Str} {np cpos pos : Pos} {e₀ : Expr} {rest : List Expr} {ta : TA}
def Lvs (X : Cx) (E : XK) : Prop := ∀ (pins : List (Addr × Obj)) (σ : St) (H : Hp) (s : Shared) (h' : Heap) (e : Addr) (cls : Value) (args : List Value), Inv X pins σ H s → Heap.MadeExcOf s.heap h' e cls args → E cls none H → X.xe (.ref e) { s with heap := h' }
theorem ps_raise (L : Lvs X E) (O : ExcC X.K C) (hc : X.calm = true) (hg : Gl X x) (hm : X.mg x = some (.ref C)) (ha : PA X (e₀ :: rest) ta) (hdb : (x == ("__debug__" : Str)) = false := by decide)
    (he : starEach (e₀ :: rest) X.env = (false, eval e₀ X.env) :: starEach rest X.env := by rfl) (hpl : (backTo cpos (starEach rest X.env)).any (·.1) = false := by rfl) :
    PS X (.Raise (some (.Call (.Name x np) (e₀ :: rest) [] cpos)) none pos) (tRaise E (.ref C) ta) := by
  intro pins s σ H D I h
  obtain ⟨tl, N, nm, q, bs, hdct, sn, sub, ab, col, dd, k0, k1, k2, k3, k5, mN, hC, hN, hni, T⟩ := (own_in I.mod.kin hm O).obj
  refine wpAny_Raise_call_subT (C := C) (nm := nm) (q := q) (N := N) (bs := bs) (bm := tl) (hdct := hdct) (sn := sn) (sub := sub) (ab := ab) (col := col) (dd := dd) (k0 := k0) (k1 := k1) (k2 := k2) (k3 := k3) (k5 := k5)
    PySem.F.excBase_ValueError (mN := mN) (T.hasType (by decide)) (I.ok.hd hc) (by rw [he]; show (false || (backTo cpos (starEach rest X.env)).any (·.1)) = false; rw [hpl]; rfl) hni (ld_glob I hg hm ⟨rfl, ?_⟩ hdb)
  have hq := ha cpos pins s σ H _ I h
  rw [he] at hq ⊢
  refine Calls.evalArgs_plain (wpAny_mono hq (fun us s₂ h₂ => ?_) fun _ _ y => y)
  obtain ⟨vs, H2, I2, r, z, ez⟩ := h₂
  refine ⟨rfl, by rw [← r.length]; exact z, I2.bk _ _ hC, hN.keeps I2.bk, T.keeps I2.bk, fun h' e M => L pins σ H2 s₂ h' e _ _ I2 M ez⟩
end
section
variable {P : Program} {w : World} {K : PySem.W.Frag} {mg : Str → Option Value} {base : Heap} {N : List Str} {qual : Str} {scope : Scope} {f : Addr} {cdv : Value} {A : Around} {outer : List Env} {s : Shared} {H : Hp} {E : XK}
theorem lvs1 : Lvs (cx1 P w K mg base N qual scope f cdv A outer s H E) E := fun _ _ _ _ _ _ _ _ I M q => leaves1 I M q
theorem own1 : PassesOwn (model P w) (cx1 P w K mg base N qual scope f cdv A outer s H E).A (cx1 P w K mg base N qual scope f cdv A outer s H E).env (cx1 P w K mg base N qual scope f cdv A outer s H E).xe := PassesOwn.leaving
theorem Fun.okX {x qual : Str} {st : Stmt} {f : Addr} {fd : FuncData} {N ps : List Str} {k : Nat} {sp : Sp} (F : Fun K x qual st f fd) (S : FnScope N ps (defScope st)) (len : ∀ vs H Q E, sp vs H Q E → vs.length = ps.length)
    (hbody : ∀ (cdv : Value) (A : Around) (outer : List Env) (s : Shared) (H : Hp) (vs : List V) (Q : VK) (E : XK), Room k (A.deeper (envOfC qual (defScope st) s.heap.objs.size f cdv)) → sp vs H Q E →
      ∃ t, PSs (cx1 P w K mg base N qual (defScope st) f cdv A outer s H E) (defBody st) t ∧ t { nx := fun _ H' => Q .non H', rt := Q } (start N vs) H) : FnOk P w K mg base (CX1 P w) (k + 1) f fd ps sp := by
  obtain ⟨oc, od, kV, doc, pm, an, cdv, ct, osl, rfl, lk, hcd⟩ := F.ex
  exact fn_of lk hcd S len fun A outer s H vs Q E hr hsp => hbody cdv A outer s H vs Q E hr hsp
end
end L2
namespace L2
open PySem PySem.Spec PyProof.Rows PySem.W PySem.Builtin PySem.Builtin.ObjectAttr PySem.Builtin.Getset_descriptor
structure ExcI (K : Frag) (C : Addr) : Prop where
  ga : findIn K (.ref C) "__getattribute__" = some (some (.builtin "BaseException.__getattribute__"))
  gt : findIn K (.ref C) "__getattr__" = some none
  fd : findIn K (.ref C) "__class__" = some (some (.builtin "object.__class__"))
  sp : specialIn K (.builtin "object.__class__") "__get__" = some (some (.builtin "getset_descriptor.__get__"))
  tk : takesIn K (.builtin "object.__class__") = some true
  mo : mroIn K C (.type "object") = some true
  mb : mroIn K C (.type "BaseException") = some true
  cl : (clsIn K C).isSome = true
def EAt (h : Heap) (x C : Addr) : Prop := ∃ ox, h.get? x = some ox ∧ ox.cls = .ref C ∧ ∃ vs, ox.data = .fields vs ∧ vs[2]? = some .none
theorem EAt.type {M : Model} {h : Heap} {x C : Addr} (I : EAt h x C) : Looks M h (typeOf (.ref x)) (.ref C) := by
  obtain ⟨ox, h1, h2, _⟩ := I
  exact h2 ▸ (Looks.ld h1).andThen .now
end L2
namespace L2
open PySem PySem.Spec PyProof.Rows PySem.W
structure ExcM (K : Frag) (C D : Addr) (b : Bool) : Prop where
  ty : typeIn K (.ref D) = some (.type "type")
  cd : (clsIn K D).isSome = true
  mb : mroIn K D (.type "BaseException") = some true
  mc : mroIn K C (.ref D) = some b
section
variable {M : Model} {A : Around} {E : Value → Shared → Prop} {s : Shared} {K : Frag} {e C D : Addr} {b : Bool}
theorem isType_in {h : Heap} (X : K.In h) (c : (clsIn K D).isSome = true) : Looks M h (isType (.ref D)) true := by
  obtain ⟨cdD, hcD⟩ := Option.isSome_iff_exists.mp c
  unfold clsIn at hcD
  split at hcD
  · rename_i c' d' cd' sl' ho
    intro A' Q' E' s' k q
    unfold isType loadHead
    exact wpAny_bind (wpAny_loadPart (k _ _ (X _ _ ho)) (wpAny_pure q))
  · cases hcD
theorem exc_matches {Q : Bool → Shared → Prop} (m : ExcM K C D b) (X : K.In s.heap) (I : EAt s.heap e C) (hq : Q b s) : wpAny M A (excMatches (.ref e) (.ref D)) Q E s := by
  obtain ⟨h, g, d, t, os⟩ := s
  have L1 : Looks M h (isInstance (.ref D) (.type "tuple")) false := (looks_typeIn X m.ty).andThen (Looks.of_pure tc_notTuple)
  have L2 := isType_in (M := M) X m.cd
  have L3 := looks_mroIn (M := M) X m.mb
  have L4 := I.type (M := M)
  have L5 := looks_mroIn (M := M) X m.mc
  have L6 : Looks M h (isExcClass (.ref D)) true := L2.andThen L3
  unfold excMatches
  refine wpAny_bind (L1.at ?_)
  rw [if_neg Bool.false_ne_true]
  refine wpAny_bind (wpAny_pure ?_)
  simp only [List.forIn_cons, List.forIn_nil]
  refine wpAny_bind (wpAny_bind (wpAny_bind (L6.at ?_)))
  simp only [Bool.not_true, Bool.false_eq_true, if_false]
  refine wpAny_pure (wpAny_pure (wpAny_bind (L4.at ?_)))
  refine wpAny_bind (wpAny_bind (wpAny_bind (L5.at ?_)))
  cases b
  · exact wpAny_pure (wpAny_pure (wpAny_pure hq))
  · exact wpAny_pure (wpAny_pure (wpAny_pure hq))
end
def Held (X : Cx) (pins : List (Addr × Obj)) (σ : St) (H : Hp) (s : Shared) (e : Addr) (cls : Value) : Prop :=
  ∃ (H₁ : Hp) (s₁ : Shared) (B : Heap) (a0 : Value), Inv X pins σ H₁ s₁ ∧ s.os = s₁.os ∧ AllBare s.gens ∧ Fly X.prog X.w X.stack H₁ s₁.heap e cls a0 B H s.heap
section
variable {X : Cx} {pins : List (Addr × Obj)} {σ : St} {H : Hp} {s : Shared} {e : Addr} {cls : Value}
theorem Held.inv (h : Held X pins σ H s e cls) : Inv X pins σ H s := by
  obtain ⟨H₁, s₁, B, a0, I, os, bare, F⟩ := h
  exact I.call' (ch := []) os F.un F.hok bare fun b z => absurd z (by simp)
theorem Held.eat {C : Addr} (h : Held X pins σ H s e (.ref C)) : EAt s.heap e C := by
  obtain ⟨H₁, s₁, B, a0, I, os, bare, F⟩ := h
  obtain ⟨o, h1, h2⟩ := F.fl.there
  obtain ⟨o', vs, g1, g2, g3⟩ := F.lo
  rw [h1] at g1
  cases g1
  exact ⟨o, h1, h2, vs, g2, g3⟩
theorem Held.free (h : Held X pins σ H s e cls) : H e = none := by
  obtain ⟨H₁, s₁, B, a0, I, os, bare, F⟩ := h
  cases q : H e with
  | none => rfl
  | some u =>
    obtain ⟨o, ho⟩ := (F.hok e u q).here
    have := F.trk e u o q ho
    rw [F.fl.2.1] at this; cases this
theorem Held.lands {M : Model} {A : Around} {E : Value → Shared → Prop} {Q : Unit → Shared → Prop} (h : Held X pins σ H s e cls) (k : ∀ h', Held X pins σ H { s with heap := h' } e cls → Q () { s with heap := h' }) : wpAny M A (setFlight (.ref e) none) Q E s := by
  obtain ⟨H₁, s₁, B, a0, I, os, bare, F⟩ := h
  exact land_lone F.fl.1 F.fl.2.1 F.fl.2.2.1 F.fl.2.2.2.at F.lo fun h' fl sm lo => k h' ⟨H₁, s₁, B, a0, I, os, bare, F.move fl sm lo⟩
end
abbrev Xh (X : Cx) (e : Addr) : Cx := { X with A := X.A.mark (some (.ref e)), calm := false, xe := fun _ _ => False }
section
variable {X : Cx} {pins : List (Addr × Obj)} {σ : St} {H : Hp} {s : Shared} {e : Addr} {D : Ends}
theorem Inv.toH (I : Inv X pins σ H s) (e : Addr) : Inv (Xh X e) pins σ H s :=
  ⟨⟨I.ok.mod, I.ok.kind, I.ok.glob, I.ok.blt, I.ok.above, I.ok.inj, I.ok.has, I.ok.cab, (fun h => Bool.noConfusion h), I.ok.frames, I.ok.stk, I.ok.exf, I.ok.bs, I.ok.bsz, I.ok.noex, I.ok.exfs, I.ok.funs, I.ok.frf⟩, I.os, I.bare, I.base, I.loc, I.cell, I.free, I.freeC, I.pin, I.hok, I.len⟩
theorem Inv.ofH (I : Inv (Xh X e) pins σ H s) (ok : X.Ok) : Inv X pins σ H s := ⟨ok, I.os, I.bare, I.base, I.loc, I.cell, I.free, I.freeC, I.pin, I.hok, I.len⟩
theorem SP.ofH {f : Flow} {s' : Shared} (h : SP (Xh X e) pins D f s') (ok : X.Ok) : SP X pins D f s' := by
  cases f with
  | next => obtain ⟨σ', H', I, q⟩ := h; exact ⟨σ', H', I.ofH ok, q⟩
  | brk => obtain ⟨σ', H', I, q⟩ := h; exact ⟨σ', H', I.ofH ok, q⟩
  | cont => obtain ⟨σ', H', I, q⟩ := h; exact ⟨σ', H', I.ofH ok, q⟩
  | ret u => obtain ⟨v, σ', H', I, r, q⟩ := h; exact ⟨v, σ', H', I.ofH ok, r, q⟩
end
abbrev TH := Ends → St → Value → Addr → Hp → Prop
def PH (X : Cx) (hs : List ExceptHandler) (th : TH) : Prop :=
  ∀ (pins : List (Addr × Obj)) (s : Shared) (σ : St) (H : Hp) (D : Ends) (e : Addr) (cls : Value), Held X pins σ H s e cls → th D σ cls e H → wpAny (model X.prog X.w) X.A (handleBy (.ref e) X.env hs) (SP X pins D) X.xe s
def thNil : TH := fun _ _ _ _ _ => False
def tHd (K : Frag) (D : Addr) (ts : TS) (th : TH) : TH := fun Dn σ cls e H => ∃ C b, cls = .ref C ∧ ExcM K C D b ∧ if b = true then ts Dn σ H else th Dn σ cls e H
section
variable {X : Cx} {hs : List ExceptHandler} {th : TH} {ts : TS} {D : Addr} {x n : Str} {np pos : Pos} {b₀ : Stmt} {suite : List Stmt} {i : Nat}
theorem ph_nil : PH X [] thNil := fun _ _ _ _ _ _ _ _ h => h.elim
theorem ph_cons (hg : Gl X x) (hm : X.mg x = some (.ref D)) (hb : ∀ e, PSs (Xh X e) (b₀ :: suite) ts) (hr : PH X hs th) (hdb : (x == ("__debug__" : Str)) = false := by decide) :
    PH X (.ExceptHandler (some (.Name x np)) none (b₀ :: suite) pos :: hs) (tHd X.K D ts th) := by
  intro pins s σ H Dn e cls hh h
  obtain ⟨C, b, rfl, m, h⟩ := h
  have I := hh.inv
  refine wpAny_handleBy_cons (codeAny_handlers_test (ld_glob (X := Xh X e) (I.toH e) hg hm ?_ hdb)) (by intro q; cases q)
  refine exc_matches m I.kIn hh.eat ?_
  cases b with
  | false => exact hr pins s σ H Dn e _ hh (by rw [if_neg Bool.false_ne_true] at h; exact h)
  | true =>
    rw [if_pos rfl] at h
    refine codeAny_handlers_suite (hh.lands fun h' hh' => ?_)
    exact wpAny_mono (hb e pins _ σ H Dn (hh'.inv.toH e) h) (fun f s₂ z => z.ofH I.ok) fun _ _ z => False.elim z
end
def xeT (X : Cx) (pins : List (Addr × Obj)) (Es : St → XK) : Value → Shared → Prop := fun ev s' => ∃ (σ : St) (H₁ : Hp) (s₁ : Shared), Inv X pins σ H₁ s₁ ∧ CX1 X.prog X.w X.stack H₁ s₁ (Es σ) ev s'
abbrev Xt (X : Cx) (pins : List (Addr × Obj)) (Es : St → XK) : Cx := { X with pn := X.pn ++ pins, xe := xeT X pins Es }
def tTry (tb : (St → XK) → TS) (th : TH) : TS := fun D σ H => tb (fun σ' cls _ H' => ∀ e, H' e = none → th D σ' cls e H') D σ H
def tCallT (sp : Sp) (Es : St → XK) (t : TA) : TE := fun σ H Q => t σ H fun vs H1 => sp vs H1 Q (Es σ)
section
variable {X : Cx} {pins : List (Addr × Obj)} {Es : St → XK} {σ : St} {H : Hp} {s : Shared}
theorem Inv.toT (I : Inv X pins σ H s) : Inv (Xt X pins Es) [] σ H s :=
  ⟨⟨I.ok.mod, I.ok.kind, I.ok.glob, I.ok.blt, I.ok.above, I.ok.inj, I.ok.has, I.ok.cab, I.ok.hd, I.ok.frames, I.ok.stk, I.ok.exf, I.ok.bs, I.ok.bsz, I.ok.noex, I.ok.exfs, I.ok.funs, I.ok.frf⟩, I.os, I.bare, I.base, I.loc, I.cell, I.free, I.freeC, fun p hp => I.pin p (by simpa using hp), I.hok, I.len⟩
theorem Inv.ofT {ps' : List (Addr × Obj)} (I : Inv (Xt X pins Es) ps' σ H s) : Inv X pins σ H s :=
  ⟨⟨I.ok.mod, I.ok.kind, I.ok.glob, I.ok.blt, I.ok.above, I.ok.inj, I.ok.has, I.ok.cab, I.ok.hd, I.ok.frames, I.ok.stk, I.ok.exf, I.ok.bs, I.ok.bsz, I.ok.noex, I.ok.exfs, I.ok.funs, I.ok.frf⟩, I.os, I.bare, I.base, I.loc, I.cell, I.free, I.freeC, fun p hp => I.pin p (List.mem_append_left _ hp), I.hok, I.len⟩
theorem SP.ofT {D : Ends} {f : Flow} {s' : Shared} (h : SP (Xt X pins Es) [] D f s') : SP X pins D f s' := by
  cases f with
  | next => obtain ⟨σ', H', I, q⟩ := h; exact ⟨σ', H', I.ofT, q⟩
  | brk => obtain ⟨σ', H', I, q⟩ := h; exact ⟨σ', H', I.ofT, q⟩
  | cont => obtain ⟨σ', H', I, q⟩ := h; exact ⟨σ', H', I.ofT, q⟩
  | ret u => obtain ⟨v, σ', H', I, r, q⟩ := h; exact ⟨v, σ', H', I.ofT, r, q⟩
theorem ps_try {body : List Stmt} {h₀ : ExceptHandler} {hs : List ExceptHandler} {pos : Pos} {tb : (St → XK) → TS} {th : TH} (hb : ∀ pins Es, PSs (Xt X pins Es) body (tb Es)) (hh : PH X (h₀ :: hs) th)
    (hst : X.stack = X.env :: X.outer := by rfl) (hfr : X.env.frame = some X.env.locals := by rfl) : PS X (.Try body (h₀ :: hs) [] [] pos) (tTry tb th) := by
  intro pins s σ H D I h
  refine wpAny_Try_except (wpAny_mono (hb pins _ [] s σ H D I.toT h) (fun f s₁ z => ?_) fun ev s₁ z => ?_)
  · have z := z.ofT
    cases f with
    | next => exact wpAny_execs_nil z
    | brk => exact z
    | cont => exact z
    | ret u => exact z
  · obtain ⟨σ', H₁, s₁', I', e, cls, a0, B, H', rfl, os, bare, F, q⟩ := z
    have ff := I'.ok.frames
    have fl := F.fl
    rw [hst] at ff fl
    refine note_lone ff hfr fl F.lo fun h₄ held sm lo => ?_
    refine land_lone (s := { s₁ with heap := h₄ }) held.1 held.2.1 held.2.2.1 held.2.2.2 lo fun h₅ fl5 sm5 lo5 => ?_
    have hd : Held X pins σ' H' { s₁ with heap := h₅ } e cls := ⟨H₁, s₁', B, a0, I', os, bare, F.move (by rw [hst]; exact fl5) (sm.trans sm5) lo5⟩
    exact hh pins _ σ' H' D e cls hd (q e hd.free)
theorem pe_callT {CXk : Nat} {f : Addr} {fd : FuncData} {ps : List Str} {sp : Sp} {x : Str} {e : Expr} {es : List Expr} {p pos : Pos} {t : TA} (F : FnOk X.prog X.w X.K X.mg X.base (CX1 X.prog X.w) CXk f fd ps sp) (hr : Room CXk X.A) (hg : Gl X x) (hm : X.mg x = some (.ref f)) (hk : PySem.W.keepIn X.K (.ref f) = true) (hb : Binds X.K fd ps [])
    (ha : PA (Xt X pins Es) (e :: es) t) (hdb : (x == ("__debug__" : Str)) = false := by decide) (he : starEach (e :: es) X.env = (false, eval e X.env) :: starEach es X.env := by rfl) (hpl : (backTo pos (starEach es X.env)).any (·.1) = false := by rfl) :
    PE (Xt X pins Es) (.Call (.Name x p) (e :: es) [] pos) (tCallT sp Es t) := by
  intro pins' s σ H Q I h
  refine wpAny_Call_Name_kw (ld_glob I hg hm ?_ hdb)
  refine PySem.W.callWith_K (h₀ := X.base) I.ok.mod.kin hk (thn (ha pos pins' s σ H _ I h) fun us s1 ⟨vs, H1, I1, r, q⟩ => ⟨I1.kIn, ?_⟩) he hpl
  have hl : us.length = ps.length := by rw [← r.length]; exact F.len _ _ _ _ q
  have bb := hb s1 us I1.kIn (by rw [List.append_nil]; exact hl)
  rw [List.append_nil] at bb
  refine wpAny_call (codeAny_mono (F.run X.A X.stack s1 H1 ⟨us, []⟩ us vs Q (Es σ) hr I1.env0 bb r q) fun r s' hq => ?_)
  cases r with
  | error ev => exact ⟨σ, H1, s1, I1.ofT, hq⟩
  | ok fl =>
    cases fl with
    | ret u => exact I1.after hq
    | next => exact False.elim hq
    | brk => exact False.elim hq
    | cont => exact False.elim hq
end
end L2
namespace L2
open PySem PySem.Spec PyProof.Rows
structure RoomH (k : Nat) (A : Around) : Prop where
  gd : A.guards = some []
  dp : A.depth + 3 * k + 5 < recursionLimit
  un : A.units + 16 * k + 200 < cLine
structure FnOkH (P : Program) (w : World) (K : PySem.W.Frag) (mg : Str → Option Value) (base : Heap) (k : Nat) (f : Addr) (fd : FuncData) (ps : List Str) (sp : Sp) : Prop where
  len : ∀ vs H Q E, sp vs H Q E → vs.length = ps.length
  run : ∀ (A : Around) (outer : List Env) (s : Shared) (H : Hp) (args : Args) (us : List Value) (vs : List V) (Q : VK) (E : XK), RoomH k A → Env0 P w K mg base A outer s H → BindsTo s fd args (ps.zip us) → Vals vs us → sp vs H Q E →
    codeAny (model P w) A (.call (.ref f) args) (CR CX0 outer P w H s Q E) s
structure FnAtH (P : Program) (w : World) (K : PySem.W.Frag) (mg : Str → Option Value) (base : Heap) (x : Str) (k : Nat) (ps : List Str) (sp : Sp) : Prop where
  ex : ∃ (f : Addr) (fd : FuncData), FnOkH P w K mg base k f fd ps sp ∧ mg x = some (.ref f) ∧ PySem.W.keepIn K (.ref f) = true ∧ Binds K fd ps []
structure FnAtX (P : Program) (w : World) (K : PySem.W.Frag) (mg : Str → Option Value) (base : Heap) (x : Str) (k : Nat) (ps : List Str) (sp : Sp) : Prop where
  ex : ∃ (f : Addr) (fd : FuncData), FnOk P w K mg base (CX1 P w) k f fd ps sp ∧ mg x = some (.ref f) ∧ PySem.W.keepIn K (.ref f) = true ∧ Binds K fd ps []
section
variable {X : Cx} {x : Str} {k : Nat} {ps : List Str} {sp : Sp} {e : Expr} {es : List Expr} {t : TA} {p pos : Pos}
theorem pe_callX0 (F : FnAtX X.prog X.w X.K X.mg X.base x k ps sp) (hr : Room k X.A) (hg : Gl X x) (ha : PA X (e :: es) t) (hdb : (x == ("__debug__" : Str)) = false := by decide +kernel) (he : starEach (e :: es) X.env = (false, eval e X.env) :: starEach es X.env := by rfl) (hpl : (backTo pos (starEach es X.env)).any (·.1) = false := by rfl) :
    PE X (.Call (.Name x p) (e :: es) [] pos) (tCall sp [] E0 t) := by
  obtain ⟨f, fd, F, hm, hk, hb⟩ := F.ex
  exact pe_call F hr hg hm hk hb .nil pass10 ha hdb he hpl
theorem pe_callX1 {E : XK} (F : FnAtX X.prog X.w X.K X.mg X.base x k ps sp) (hx : Passes (CX1 X.prog X.w) X E) (hr : Room k X.A) (hg : Gl X x) (ha : PA X (e :: es) t) (hdb : (x == ("__debug__" : Str)) = false := by decide +kernel) (he : starEach (e :: es) X.env = (false, eval e X.env) :: starEach es X.env := by rfl) (hpl : (backTo pos (starEach es X.env)).any (·.1) = false := by rfl) :
    PE X (.Call (.Name x p) (e :: es) [] pos) (tCall sp [] E t) := by
  obtain ⟨f, fd, F, hm, hk, hb⟩ := F.ex
  exact pe_call F hr hg hm hk hb .nil hx ha hdb he hpl
theorem pe_callXT {pins : List (Addr × Obj)} {Es : St → XK} (F : FnAtX X.prog X.w X.K X.mg X.base x k ps sp) (hr : Room k X.A) (hg : Gl X x) (ha : PA (Xt X pins Es) (e :: es) t) (hdb : (x == ("__debug__" : Str)) = false := by decide +kernel) (he : starEach (e :: es) X.env = (false, eval e X.env) :: starEach es X.env := by rfl) (hpl : (backTo pos (starEach es X.env)).any (·.1) = false := by rfl) :
    PE (Xt X pins Es) (.Call (.Name x p) (e :: es) [] pos) (tCallT sp Es t) := by
  obtain ⟨f, fd, F, hm, hk, hb⟩ := F.ex
  exact pe_callT F hr hg hm hk hb ha hdb he hpl
end
end L2
namespace L2
open PySem PySem.Spec PyProof.Rows PySem.SeqAt
section
variable {X : Cx} {K : PySem.W.Frag}
def rInsert : V → List V → Hp → VK → Prop := fun x vs H Q => ∃ (l : Addr) (xs : List V) (i : Int) (y : V), x = .ref l ∧ vs = [.int i, y] ∧ H l = some (.lst xs) ∧ 0 ≤ i ∧ i ≤ xs.length ∧ xs.length ≤ 1000000 ∧ Q .non (upd H l (.lst (xs.take i.toNat ++ y :: xs.drop i.toNat)))
theorem ins_eq (its : List Value) (k : Nat) (y : Value) : (its.toArray.extract 0 k).push y ++ its.toArray.extract k = (its.take k ++ y :: its.drop k).toArray := by
  apply Array.toList_inj.mp
  simp [List.take_of_length_le]
theorem mt_insert : MtR X "list.insert" rInsert := by
  intro pins s σ H x vs v us Q I rx rv h
  obtain ⟨l, xs, i, y, rfl, rfl, hH, h0, h1, hz, q⟩ := h
  cases rx
  obtain ⟨u, u', rfl, ⟨t, rfl⟩, ru⟩ := vals2 rv
  obtain ⟨z, its, n, r, hl, e⟩ := I.lstM hH
  have big : (10000000 : Nat) ≤ sizeLine := by decide
  refine call_meets F.slot_list_insert ⟨_, e, rfl⟩ F.entry_list_insert (F.args_list_insert_3 _ _ _) (PySem.AutoSeq1.list_insert_list_int_val_1 l its.toArray n i t u' (by rw [fitsIndex_both (by omega) (by omega)]; simp) (by rw [List.size_toArray]; omega)) ⟨e, ?_⟩
  refine ⟨.non, _, I.lset (its' := its.take i.toNat ++ u' :: its.drop i.toNat) hH e ?_ ((r.take _).append (.cons ru (r.drop _))) ?_, rfl, q⟩
  · dsimp only
    rw [if_neg (by omega)]
    have : min i.toNat its.toArray.size = i.toNat := by rw [List.size_toArray]; omega
    rw [this]
    exact ins_eq its _ u'
  · rw [List.length_append, List.length_take, List.length_cons, List.length_drop]
    omega
end
end L2
namespace L2
open PySem PySem.Spec PyProof.Rows PySem.SeqAt
theorem st_con {c k p es env} : starEach (.Constant c k p :: es) env = (false, eval (.Constant c k p) env) :: starEach es env := rfl
theorem st_name {x p es env} : starEach (.Name x p :: es) env = (false, eval (.Name x p) env) :: starEach es env := rfl
theorem st_bin {a o b p es env} : starEach (.BinOp a o b p :: es) env = (false, eval (.BinOp a o b p) env) :: starEach es env := rfl
theorem st_call {f a k p es env} : starEach (.Call f a k p :: es) env = (false, eval (.Call f a k p) env) :: starEach es env := rfl
theorem st_sub {a b p es env} : starEach (.Subscript a b p :: es) env = (false, eval (.Subscript a b p) env) :: starEach es env := rfl
theorem st_tup {a x p es env} : starEach (.Tuple a x p :: es) env = (false, eval (.Tuple a x p) env) :: starEach es env := rfl
end L2
namespace Sw
open PySem L2
def top (i : Nat) : Stmt := PySem.Challenge.pw_swapstars_k18_whole_least_rows_walk.main.body.getD i (.Pass ⟨0, 0, 0, 0⟩)
theorem b01 (b : Bool) : -(2 ^ 64) < (if b = true then (1 : Int) else 0) ∧ (if b = true then (1 : Int) else 0) < 2 ^ 64 ∧ 0 ≤ (if b = true then (1 : Int) else 0) := by cases b <;> decide
structure Purse (H : Hp) (p : Addr) (c : Nat) : Prop where
  ex : ∃ (a b d : Int), H p = some (.lst [.int a, .int b, .int d]) ∧ 0 ≤ a ∧ 0 ≤ b ∧ b < 2147483647 ∧ 0 ≤ d ∧ d ≤ c ∧ c ≤ 100000
def spPurse (K : PySem.W.Frag) : Sp := fun vs H Q _ => ∃ (a : Addr) (ns : List Int) (i : Int), vs = [.ref a, .int i] ∧ SqL K H a (ns.map V.int) ∧ 0 ≤ i ∧ i ≤ 1000 ∧ ∀ p H', H p = none → Purse H' p 0 → Same H H' → Q (.ref p) H'
def spTake : Sp := fun vs H Q _ => ∃ (p : Addr) (c : Nat) (m : Int), vs = [.ref p, .int m] ∧ Purse H p c ∧ c < 100000 ∧ 0 < m ∧ m < 2 ^ 200 ∧ ∀ r H', 0 ≤ r → r < m → Purse H' p (c + 1) → SameX p H H' → Q (.int r) H'
section
variable {P : Program} {w : World} {K : PySem.W.Frag} {mg : Str → Option Value} {base : Heap}
theorem sc__law_take : FnScope ["_law_purse_here", "_law_many", "_law_turn", "_law_one", "_law_other", "_law_digit"] ["_law_purse_here", "_law_many"] (defScope (top 72)) := ⟨rfl, rfl, rfl, by decide +kernel, rfl, by decide +kernel, by decide +kernel⟩
theorem ok_take {f : Addr} {fd : FuncData} (F : Fun K "_law_take" "_law_take" (top 72) f fd) : FnOk P w K mg base CX0 1 f fd ["_law_purse_here", "_law_many"] spTake := by
  refine F.ok sc__law_take (fun vs H Q E h => ?_) (fun cdv A outer s H vs Q E hr h => ?_)
  · obtain ⟨p, c, m, rfl, _⟩ := h
    rfl
  · obtain ⟨p, c, m, rfl, ⟨a, b, d, hp, ha, hb, hb2, hd, hdc, hc0⟩, hc, hm, hm2, k⟩ := h
    refine ⟨_, (pss_cons (ps_if (pt_cmpR op_gt (pe_ix (ix_listK (K := K) rfl) (pv 0) pe_int (fun _ _ => rfl)) pe_int (nomark _)) (pss_cons (ps_set (i := 5) sc__law_take.nd rfl (Or.inl rfl) (pe_op op_mod (pe_ix (ix_listK (K := K) rfl) (pv 0) pe_int (fun _ _ => rfl)) (pv 1)))
      (pss_cons (ps_asg (pe_op op_fdivL (pe_ix (ix_listK (K := K) rfl) (pv 0) pe_int (fun _ _ => rfl)) (pv 1)) (pg_sub (pv 0) pe_int set_list))
      (pss_one (ps_ret (pv 5))))) pss_nil)
      (pss_cons (ps_asg (pe_op op_add (pe_ix (ix_listK (K := K) rfl) (pv 0) pe_int (fun _ _ => rfl)) pe_int) (pg_sub (pv 0) pe_int set_list))
      (pss_cons (ps_set (i := 2) sc__law_take.nd rfl (Or.inl rfl) (pe_ix (ix_listK (K := K) rfl) (pv 0) pe_int (fun _ _ => rfl)))
      (pss_cons (ps_set (i := 3) sc__law_take.nd rfl (Or.inl rfl) (pe_op op_mod (pe_op op_pow (pe_op op_add (pe_op op_add (pe_ix (ix_listK (K := K) rfl) (pv 0) pe_int (fun _ _ => rfl)) (pe_op op_mul (pe_op op_mul pe_int (pv 2)) (pv 2))) pe_int) pe_int) pe_int))
      (pss_cons (ps_set (i := 4) sc__law_take.nd rfl (Or.inl rfl) (pe_op op_mod (pe_op op_pow (pe_op op_add (pe_op op_mul (pv 3) (pe_op op_add (pe_op op_mul pe_int (pv 2)) pe_int)) (pv 2)) pe_int) pe_int))
      (pss_one (ps_ret (pe_op op_mod (pe_op op_fdivL (pe_op op_add (pe_op op_mul (pv 3) pe_int) (pv 4)) pe_int) (pv 1))))))))), ?_⟩
    refine ⟨_, rfl, p, _, _, _, rfl, rfl, SqL.of hp, rfl, _, _, rfl, rfl, _, rfl, ?_⟩
    refine ite2 (fun _ => ?_) (fun _ => ?_)
    · refine ⟨_, rfl, p, _, _, _, rfl, rfl, SqL.of hp, rfl, _, rfl, _, _, rfl, rfl, hm, ?_⟩
      refine ⟨_, rfl, p, _, _, _, rfl, rfl, SqL.of hp, rfl, _, rfl, _, _, rfl, rfl, ⟨hm, hm2⟩, _, rfl, p, _, _, 0, rfl, rfl, hp, rfl, ?_⟩
      refine ⟨_, rfl, ?_⟩
      exact k _ _ (Int.emod_nonneg _ (by omega)) (Int.emod_lt_of_pos _ hm) ⟨_, _, _, upd_same, Int.ediv_nonneg ha (by omega), hb, hb2, hd, by omega, by omega⟩ SameX.upd
    · refine ⟨_, rfl, p, _, _, _, rfl, rfl, SqL.of hp, rfl, _, _, rfl, rfl, _, rfl, p, _, _, 2, rfl, rfl, hp, rfl, ?_⟩
      have h1 : upd H p (.lst [.int a, .int b, .int (d + 1)]) p = some (.lst [.int a, .int b, .int (d + 1)]) := upd_same
      refine ⟨_, rfl, p, _, _, _, rfl, rfl, SqL.of h1, rfl, ?_⟩
      have posM : (0 : Int) < 2147483647 := by decide
      have posN : (0 : Int) < 998244353 := by decide
      have t0 : 0 ≤ d + 1 := by omega
      have t1 : d + 1 ≤ 200000 := by omega
      have t2 : 0 ≤ 48271 * (d + 1) * (d + 1) := Int.mul_nonneg (by omega) t0
      have t3 : 48271 * (d + 1) * (d + 1) ≤ 48271 * 200000 * 200000 := Int.mul_le_mul (by omega) t1 t0 (by omega)
      refine ⟨_, rfl, p, _, _, _, rfl, rfl, SqL.of h1, rfl, _, rfl, _, _, rfl, rfl, .inl ⟨by omega, by omega⟩, _, rfl, _, _, rfl, rfl, .inr ⟨by omega, by omega⟩, _, _, rfl, rfl, _, _, rfl, rfl, _, _, rfl, rfl, ⟨by omega, by omega, by omega⟩, _, _, rfl, rfl, posM, ?_⟩
      have o0 : 0 ≤ ((b + 48271 * (d + 1) * (d + 1) + 1) ^ Int.toNat 5 % 2147483647) := Int.emod_nonneg _ (by decide)
      have o1 : ((b + 48271 * (d + 1) * (d + 1) + 1) ^ Int.toNat 5 % 2147483647) < 2147483647 := Int.emod_lt_of_pos _ (by decide)
      have u0 : 0 ≤ ((b + 48271 * (d + 1) * (d + 1) + 1) ^ Int.toNat 5 % 2147483647) * (2 * (d + 1) + 30011) := Int.mul_nonneg o0 (by omega)
      have u1 : ((b + 48271 * (d + 1) * (d + 1) + 1) ^ Int.toNat 5 % 2147483647) * (2 * (d + 1) + 30011) ≤ 2147483647 * 430011 := Int.mul_le_mul (by omega) (by omega) (by omega) (by omega)
      refine ⟨_, rfl, _, rfl, _, _, rfl, rfl, .inl ⟨by omega, by omega⟩, _, _, rfl, rfl, _, _, rfl, rfl, .inl ⟨by omega, by omega⟩, _, rfl, _, _, rfl, rfl, _, _, rfl, rfl, ⟨by omega, by omega, by omega⟩, _, _, rfl, rfl, posN, ?_⟩
      refine ⟨_, rfl, _, _, rfl, rfl, .inl ⟨by omega, by omega⟩, _, rfl, _, _, rfl, rfl, _, _, rfl, rfl, ⟨by decide, by decide⟩, _, rfl, _, _, rfl, rfl, hm, ?_⟩
      exact k _ _ (Int.emod_nonneg _ (by omega)) (Int.emod_lt_of_pos _ hm) ⟨_, _, _, h1, ha, hb, hb2, t0, by omega, by omega⟩ SameX.upd
structure TPurse (mg : Str → Option Value) : Prop where
  b_len : mg "len" = none
  b_abs : mg "abs" = none
  b_int : mg "int" = none
theorem sc__law_purse : FnScope ["_law_script", "_law_at", "_law_cell", "_law_far"] ["_law_script", "_law_at"] (defScope (top 71)) := ⟨rfl, rfl, rfl, by decide +kernel, rfl, by decide +kernel, by decide +kernel⟩
theorem ok_purse {f : Addr} {fd : FuncData} (F : Fun K "_law_purse" "_law_purse" (top 71) f fd) (T : TPurse mg) : FnOk P w K mg base CX0 1 f fd ["_law_script", "_law_at"] (spPurse K) := by
  refine F.ok sc__law_purse (fun vs H Q E h => ?_) (fun cdv A outer s H vs Q E hr h => ?_)
  · obtain ⟨a, ns, i, rfl, _⟩ := h
    rfl
  · obtain ⟨a, ns, i, rfl, hs, hi, hi2, k⟩ := h
    refine ⟨_, (pss_cons (ps_set (i := 2) sc__law_purse.nd rfl (Or.inl rfl) pe_int)
      (pss_cons (ps_if (pt_cmpR op_lt (pv 1) (pe_callB (call_lenK (K := K) rfl) rfl T.b_len (by decide +kernel) (pa_cons (pv 0) pa_nil)) (nomark _)) (pss_one (ps_set (i := 2) sc__law_purse.nd rfl (Or.inl rfl) (pe_ix (ix_listK (K := K) rfl) (pv 0) (pv 1) (fun _ _ => rfl)))) pss_nil)
      (pss_cons (ps_set (i := 3) sc__law_purse.nd rfl (Or.inl rfl) (pe_callB call_abs rfl T.b_abs (by decide +kernel) (pa_cons (pv 2) pa_nil)))
      (pss_one (ps_ret (pe_lst (@pa_cons _ _ _ _ _ (pe_op op_mul (pv 3) (pe_callTy call_int1 rfl T.b_int (by decide +kernel) (pa_cons (pe_cmpR op_ge (pv 3) (pe_op op_pow pe_int pe_int) (nomark _)) pa_nil))) (@pa_cons _ _ _ _ _ (pe_op op_mod (pe_op op_add (pe_op op_add (pe_op op_mod (pv 2) pe_int) (pe_op op_mul pe_int (pv 1))) pe_int) pe_int) (@pa_cons _ _ _ _ _ pe_int pa_nil st_con) st_bin) st_bin))))))), ?_⟩
    have posM : (0 : Int) < 2147483647 := by decide
    -- cell = 0; if at < len(script): cell = script[at]
    refine ⟨_, rfl, _, rfl, a, _, rfl, .inl hs, _, _, rfl, rfl, _, rfl, ?_⟩
    refine ite2 (fun hlt => ?_) (fun _ => ?_)
    · have hlt : i < ((ns.map V.int).length : Int) := of_decide_eq_true hlt
      rw [List.length_map] at hlt
      have hx : ∃ x, ns[i.toNat]? = some x := by
        rw [List.getElem?_eq_getElem (by omega)]
        exact ⟨_, rfl⟩
      obtain ⟨x, hx⟩ := hx
      have ha : atI (ns.map V.int) i = some (V.int x) := by
        have e : ((i.toNat : Nat) : Int) = i := Int.toNat_of_nonneg hi
        rw [← e]
        exact atI_nat (by rw [List.getElem?_map, hx]; rfl)
      refine ⟨_, rfl, _, rfl, a, _, _, _, rfl, rfl, hs, ha, ?_⟩
      refine ⟨_, rfl, x, rfl, ?_⟩
      refine ⟨_, rfl, _, rfl, _, _, rfl, rfl, ⟨by decide, by decide, by decide⟩, _, _, rfl, rfl, .inr ⟨_, rfl, _, _, rfl, rfl, .inr ⟨?b1, ?b2⟩, _, rfl, _, _, rfl, rfl, posM, _, rfl, _, _, rfl, rfl, .inl ⟨by decide, by decide⟩, _, _, rfl, rfl, _, _, rfl, rfl, _, _, rfl, rfl, posM, (by show 3 ≤ sizeLine; decide), fun p hp => ?_⟩⟩
      (case b1 => exact (b01 _).1)
      (case b2 => exact (b01 _).2.1)
      refine k p _ hp ⟨⟨_, _, _, upd_same, ?_, Int.emod_nonneg _ (by decide), Int.emod_lt_of_pos _ (by decide), Int.le_refl _, by decide, by decide⟩⟩ (Same.new hp)
      refine Int.mul_nonneg ?_ ?_
      · split <;> omega
      · exact (b01 _).2.2
    · refine ⟨_, rfl, 0, rfl, ?_⟩
      refine ⟨_, rfl, _, rfl, _, _, rfl, rfl, ⟨by decide, by decide, by decide⟩, _, _, rfl, rfl, .inr ⟨_, rfl, _, _, rfl, rfl, .inr ⟨?b1, ?b2⟩, _, rfl, _, _, rfl, rfl, posM, _, rfl, _, _, rfl, rfl, .inl ⟨by decide, by decide⟩, _, _, rfl, rfl, _, _, rfl, rfl, _, _, rfl, rfl, posM, (by show 3 ≤ sizeLine; decide), fun p hp => ?_⟩⟩
      (case b1 => exact (b01 _).1)
      (case b2 => exact (b01 _).2.1)
      refine k p _ hp ⟨⟨_, _, _, upd_same, ?_, Int.emod_nonneg _ (by decide), Int.emod_lt_of_pos _ (by decide), Int.le_refl _, by decide, by decide⟩⟩ (Same.new hp)
      refine Int.mul_nonneg ?_ ?_
      · split <;> omega
      · exact (b01 _).2.2
end
end Sw
namespace L2
open PySem
theorem call_list_ofK {X : Cx} {K : PySem.W.Frag} (h : X.K = K) : CallR X (.type "list") (fun xs H Q => ∃ p ys, xs = [.ref p] ∧ (SqL K H p ys ∨ SqT K H p ys) ∧ ∀ l, H l = none → Q (.ref l) (upd H l (.lst ys))) := by subst h; exact call_list_of
theorem call_tuple_ofK {X : Cx} {K : PySem.W.Frag} (h : X.K = K) : CallR X (.type "tuple") (fun xs H Q => ∃ p ys, xs = [.ref p] ∧ ((SqL K H p ys ∧ ∀ l, H l = none → Q (.ref l) (upd H l (.tup ys))) ∨ (SqT K H p ys ∧ Q (.ref p) H))) := by subst h; exact call_tuple_of
end L2
namespace Sw
open PySem L2
def spPlain : Sp := fun vs H Q _ => ∃ (n : Int), vs = [.int n] ∧ 0 ≤ n ∧ n ≤ 1000 ∧ ∀ t H', H t = none → H' t = some (.tup ((ivl 1 (n + 1)).map V.int)) → Same H H' → Q (.ref t) H'
def spEx : Sp := fun vs H Q _ => ∃ (t : Addr) (a b x : Int), vs = [.ref t, .int x] ∧ H t = some (.tup [.int a, .int b]) ∧ Q (.int (swp x (a, b))) H
def spLed : Sp := fun vs H Q _ => ∃ (n : Int) (l : Addr) (es : List V) (row : List (Int × Int)), vs = [.int n, .ref l] ∧ 0 ≤ n ∧ n ≤ 1000 ∧ H l = some (.lst es) ∧ Exs H es row ∧ Good n row ∧ ∀ t H', H t = none → H' t = some (.tup ((ledM n row).map V.int)) → Same H H' → Q (.ref t) H'
structure T1 (mg : Str → Option Value) (K : PySem.W.Frag) : Prop extends TPurse mg where
  b_all : mg "all" = none
  b_isinstance : mg "isinstance" = none
  b_bool : mg "bool" = none
  b_tuple : mg "tuple" = none
  b_list : mg "list" = none
  b_range : mg "range" = none
  k_ib : PySem.W.kitOne K (.type "int") (.type "bool") = some false
theorem take_succ_map {α β : Type} (f : α → β) {l : List α} {i : Nat} {x : α} (h : l[i]? = some x) : (l.take (i + 1)).map f = (l.take i).map f ++ [f x] := by
  rw [List.take_succ, h, List.map_append]; rfl
theorem go_take {row : List (Int × Int)} {i : Nat} {e : Int × Int} (h : row[i]? = some e) (x : Int) : go (row.take (i + 1)) x = swp (go (row.take i) x) e := by
  rw [List.take_succ, h, go_append]; rfl
theorem dict_swp (a b x : Int) (hab : a ≠ b) : (valV (mergeK [] [((Sum.inl a : Key), V.int b), (Sum.inl b, V.int a)]) (Sum.inl x)).getD (V.int x) = V.int (swp x (a, b)) := by
  show (valV (putK (putK [] (Sum.inl a : Key) (V.int b)) (Sum.inl b) (V.int a)) (Sum.inl x)).getD (V.int x) = V.int (swp x (a, b))
  rw [valV_put, valV_put, valV_nil]
  unfold swp
  have l : ∀ p q : Int, ((Sum.inl p : Key) = Sum.inl q) = (p = q) := fun p q => by simp
  simp only [l]
  by_cases h1 : x = b
  · have h2 : ¬ x = a := by omega
    simp [h1, h2]
    intro z; omega
  · by_cases h2 : x = a
    · simp [h1, h2, hab]
    · simp [h1, h2]
theorem Purse.mono {H : Hp} {p : Addr} {c c' : Nat} (h : Purse H p c) (a : c ≤ c') (b : c' ≤ 100000) : Purse H p c' := by
  obtain ⟨x, y, z, e, h1, h2, h3, h4, h5, h6⟩ := h.ex
  exact ⟨x, y, z, e, h1, h2, h3, h4, by omega, b⟩
theorem Purse.keep {H H' : Hp} {p : Addr} {c : Nat} (h : Purse H p c) (k : Same H H') : Purse H' p c := by
  obtain ⟨x, y, z, e, r⟩ := h.ex
  exact ⟨x, y, z, k _ _ e, r⟩
theorem Purse.at {H : Hp} {p : Addr} {c : Nat} (h : Purse H p c) : ∃ xs, H p = some (.lst xs) := by
  obtain ⟨x, y, z, e, r⟩ := h.ex
  exact ⟨_, e⟩
theorem Purse.upd {H : Hp} {p q : Addr} {c : Nat} {o : HO} (h : Purse H p c) (n : p ≠ q) : Purse (L2.upd H q o) p c := by
  obtain ⟨x, y, z, e, r⟩ := h.ex
  exact ⟨x, y, z, by rw [upd_ne n]; exact e, r⟩
theorem Purse.ne {H : Hp} {p q : Addr} {c : Nat} (h : Purse H p c) (n : H q = none) : p ≠ q := by
  obtain ⟨xs, e⟩ := h.at
  exact ne_of_none e n
theorem SameX.exs {p : Addr} {H H' : Hp} {c : Nat} (s : SameX p H H') (h : Purse H p c) {vs : List V} {r : List (Int × Int)} (x : Exs H vs r) : Exs H' vs r := by
  obtain ⟨xs, e⟩ := h.at
  exact x.keep (SameX.tups s e)
theorem SameX.put {p l : Addr} {H H' : Hp} {o : HO} (s : SameX p H H') (h : H l = none) : SameX p H (upd H' l o) := fun b o' hb e => by
  rw [upd_ne (ne_of_none e h)]
  exact s b o' hb e
theorem free_of {p l : Addr} {H H' : Hp} (s : SameX p H H') (n : p ≠ l) (h : H' l = none) : H l = none := by
  cases e : H l with
  | none => rfl
  | some o => rw [s l o n.symm e] at h; cases h
theorem eraseIdx_map {ls : List Int} : ∀ {k : Nat}, (ls.map V.int).eraseIdx k = (ls.eraseIdx k).map V.int := by
  induction ls with
  | nil => intro k; rfl
  | cons a t ih =>
    intro k
    cases k with
    | zero => rfl
    | succ k =>
      rw [List.map_cons, List.eraseIdx_cons_succ, List.eraseIdx_cons_succ, List.map_cons, ih]
theorem mem_int {ns : List Int} {i : Nat} {x : V} (h : (ns.map V.int)[i]? = some x) : ∃ z, x = .int z ∧ ns[i]? = some z := by
  rw [List.getElem?_map] at h
  cases e : ns[i]? with
  | none => rw [e] at h; cases h
  | some z => rw [e] at h; exact ⟨z, (Option.some.inj h).symm, rfl⟩
theorem at_int {ns : List Int} {i : Int} {z : Int} (h0 : 0 ≤ i) (h : ns[i.toNat]? = some z) : atI (ns.map V.int) i = some (V.int z) := by
  have e : ((i.toNat : Nat) : Int) = i := Int.toNat_of_nonneg h0
  rw [← e]
  exact atI_nat (by rw [List.getElem?_map, h]; rfl)
theorem get_lt {ns : List Int} {k : Nat} (h : k < ns.length) : ∃ z, ns[k]? = some z := ⟨_, List.getElem?_eq_getElem h⟩
theorem ixN_lt {n : Nat} {i : Int} (h0 : 0 ≤ i) (h : i < n) : ixN n i = some i.toNat := by
  unfold ixN
  rw [if_pos h0, if_pos h]
theorem map_get {ns : List Int} {k : Nat} {z : Int} (h : ns[k]? = some z) : (ns.map V.int)[k]? = some (V.int z) := by rw [List.getElem?_map, h]; rfl
def spOrder : Sp := fun vs H Q _ => ∃ (p : Addr) (c : Nat) (n : Int), vs = [.ref p, .int n] ∧ Purse H p c ∧ c ≤ 90000 ∧ 1 ≤ n ∧ n ≤ 100 ∧
  ∀ t xs H', H t = none → H' t = some (.tup (xs.map V.int)) → Ord n xs → Purse H' p (c + 300) → SameX p H H' → Q (.ref t) H'
inductive Lsts (H : Hp) : List V → List (List Int) → Prop
  | nil : Lsts H [] []
  | cons {a : Addr} {ns : List Int} {vs : List V} {r : List (List Int)} : H a = some (.lst (ns.map V.int)) → Lsts H vs r → Lsts H (.ref a :: vs) (ns :: r)
theorem Lsts.length {H : Hp} : ∀ {vs : List V} {r : List (List Int)}, Lsts H vs r → vs.length = r.length
  | _, _, .nil => rfl
  | _, _, .cons _ x => by rw [List.length_cons, List.length_cons, x.length]
theorem Lsts.keep {H H' : Hp} (k : Same H H') : ∀ {vs : List V} {r : List (List Int)}, Lsts H vs r → Lsts H' vs r
  | _, _, .nil => .nil
  | _, _, .cons h x => .cons (k _ _ h) (x.keep k)
theorem Lsts.append {H : Hp} : ∀ {vs ws : List V} {r q : List (List Int)}, Lsts H vs r → Lsts H ws q → Lsts H (vs ++ ws) (r ++ q)
  | _, _, _, _, .nil, y => y
  | _, _, _, _, .cons h x, y => .cons h (x.append y)
theorem Lsts.snoc {H : Hp} {vs : List V} {r : List (List Int)} {a : Addr} {ns : List Int} (x : Lsts H vs r) (h : H a = some (.lst (ns.map V.int))) : Lsts H (vs ++ [.ref a]) (r ++ [ns]) := x.append (.cons h .nil)
theorem Lsts.get {H : Hp} : ∀ {vs : List V} {r : List (List Int)} {i : Nat} {x : V}, Lsts H vs r → vs[i]? = some x → ∃ a ns, x = .ref a ∧ H a = some (.lst (ns.map V.int)) ∧ r[i]? = some ns
  | _, _, _, _, .nil, e => by simp at e
  | _, _, 0, _, .cons h x, e => by simp at e; subst e; exact ⟨_, _, rfl, h, rfl⟩
  | _, _, i + 1, _, .cons h x, e => by
    obtain ⟨t, a, e1, e2, e3⟩ := x.get (i := i) (by simpa using e)
    exact ⟨t, a, e1, e2, by simpa using e3⟩
theorem Lsts.mem {H : Hp} {vs : List V} {r : List (List Int)} (x : Lsts H vs r) {a : Addr} (h : V.ref a ∈ vs) : ∃ ns, H a = some (.lst ns) := by
  obtain ⟨i, hi, e⟩ := List.mem_iff_getElem.mp h
  obtain ⟨b, ns, e1, e2, _⟩ := x.get (i := i) (by rw [List.getElem?_eq_getElem hi, e])
  cases e1
  exact ⟨_, e2⟩
theorem Lsts.off {H : Hp} {a : Addr} {o : HO} : ∀ {vs : List V} {r : List (List Int)}, Lsts H vs r → V.ref a ∉ vs → Lsts (upd H a o) vs r
  | _, _, .nil, _ => .nil
  | _, _, .cons (a := b) h x, n => by
    refine .cons ?_ (x.off fun z => n (List.mem_cons_of_mem _ z))
    rw [upd_ne (by intro z; subst z; exact n List.mem_cons_self)]
    exact h
def Fresh (H : Hp) (vs : List V) : Prop := vs.Nodup ∧ ∀ v ∈ vs, ∃ a, v = .ref a ∧ H a = none
theorem Fresh.nil {H : Hp} : Fresh H [] := ⟨List.nodup_nil, fun v h => by cases h⟩
theorem Fresh.snoc {H H' : Hp} {vs : List V} {r : List (List Int)} {a : Addr} (f : Fresh H vs) (x : Lsts H' vs r) (h' : H' a = none) (h : H a = none) : Fresh H (vs ++ [.ref a]) := by
  refine ⟨List.nodup_append.mpr ⟨f.1, by simp, ?_⟩, fun v hv => ?_⟩
  · intro y hy z hz e
    rw [List.mem_singleton.mp hz] at e
    subst e
    obtain ⟨ns, e⟩ := x.mem hy
    rw [h'] at e
    cases e
  · rcases List.mem_append.mp hv with z | z
    · exact f.2 v z
    · exact ⟨a, List.mem_singleton.mp z, h⟩
theorem Fresh.sub {H : Hp} {vs ws : List V} (f : Fresh H vs) (s : ws.Sublist vs) : Fresh H ws := ⟨f.1.sublist s, fun v h => f.2 v (s.subset h)⟩
def spRf : Sp := fun vs H Q _ => ∃ (t : Addr) (n x : Int) (xs : List Int), vs = [.ref t, .int x] ∧ H t = some (.tup (xs.map V.int)) ∧ Ord n xs ∧ n ≤ 1000 ∧ 1 ≤ x ∧ x ≤ n ∧ ∀ l H', H l = none → H' l = some (.lst ((orb xs x).map V.int)) → Same H H' → Q (.ref l) H'
def spRounds : Sp := fun vs H Q _ => ∃ (t : Addr) (n : Int) (xs : List Int), vs = [.ref t] ∧ H t = some (.tup (xs.map V.int)) ∧ Ord n xs ∧ n ≤ 1000 ∧ ∀ l ws H', H l = none → H' l = some (.lst ws) → Lsts H' ws (rndM n xs) → Fresh H ws → V.ref l ∉ ws → Same H H' → Q (.ref l) H'
def spLeast : Sp := fun vs H Q _ => ∃ (n : Int) (l : Addr) (es : List V) (row : List (Int × Int)), vs = [.int n, .ref l] ∧ 0 ≤ n ∧ n ≤ 1000 ∧ H l = some (.lst es) ∧ Exs H es row ∧ Good n row ∧ ∀ H', Same H H' → Q (.bl (decide ((row.length : Int) = n - cnt n (ledM n row)))) H'
theorem iteP {A B : Prop} {b : Bool} (h : b = true) (x : A) : if b = true then A else B := by rw [if_pos h]; exact x
theorem iteE {A B : Prop} {b : Bool} (h : b = false) (x : B) : if b = true then A else B := by rw [h, if_neg Bool.false_ne_true]; exact x
theorem Lsts.stay {H H' : Hp} : ∀ {vs : List V} {r : List (List Int)}, Lsts H vs r → (∀ {b : Addr} {zs : List V}, V.ref b ∈ vs → H b = some (.lst zs) → H' b = some (.lst zs)) → Lsts H' vs r
  | _, _, .nil, _ => .nil
  | _, _, .cons h x, k => .cons (k List.mem_cons_self h) (x.stay fun hb e => k (List.mem_cons_of_mem _ hb) e)
theorem Lsts.eraseIdx {H : Hp} : ∀ {vs : List V} {r : List (List Int)} (k : Nat), Lsts H vs r → Lsts H (vs.eraseIdx k) (r.eraseIdx k)
  | _, _, _, .nil => .nil
  | _, _, 0, .cons h x => x
  | _, _, k + 1, .cons h x => .cons h (x.eraseIdx k)
def spBt : Sp := fun vs H Q _ => ∃ x lo hi : Int, vs = [.int x, .int lo, .int hi] ∧ Q (.bl (decide (lo ≤ x ∧ x ≤ hi))) H
theorem rnd_len {n : Int} {xs : List Int} (h : n ≤ 50) : (rndM n xs).length ≤ 50 := by
  unfold rndM
  rw [List.length_map]
  have := List.length_filter_le (least xs) (ivl 1 (n + 1))
  rw [ivl_length] at this
  omega
theorem rnd_each {n : Int} {xs r : List Int} (o : Ord n xs) (h : n ≤ 50) (m : r ∈ rndM n xs) : r.length ≤ 50 := by
  unfold rndM at m
  obtain ⟨x, hx, rfl⟩ := List.mem_map.mp m
  have hx := mem_ivl.mp (List.mem_filter.mp hx).1
  rw [orb_length]
  have := per_le o hx.1 (by omega)
  omega
def spLaw (K : PySem.W.Frag) : Sp := fun vs H Q _ => ∃ (a : Addr) (ns : List Int), vs = [.ref a] ∧ SqL K H a (ns.map V.int) ∧ ns.length ≤ 63 ∧ ∀ H', Q (.bl true) H'
theorem Same.of {p : Addr} {H0 H H' : Hp} (a : Same H0 H) (n : H0 p = none) (b : SameX p H H') : Same H0 H' := fun c o e => b c o (ne_of_none e n) (a c o e)
theorem add_at {x y z : Int} {H : Hp} {Q : VK} (h : x + y = z) (q : Q (.int z) H) : rI0 (fun i j => .int (i + j)) (.int x) (.int y) H Q := by subst h; exact ⟨_, _, rfl, rfl, q⟩
theorem Same.put {l : Addr} {H H' : Hp} {o : HO} (s : Same H H') (h : H l = none) : Same H (upd H' l o) := fun b o' e => by
  rw [upd_ne (ne_of_none e h)]
  exact s b o' e
end Sw
namespace Sw
open PySem L2
theorem Exs.take {H : Hp} : ∀ {vs : List V} {r : List (Int × Int)} (k : Nat), Exs H vs r → Exs H (vs.take k) (r.take k)
  | _, _, _, .nil => by rw [List.take_nil, List.take_nil]; exact .nil
  | _, _, 0, .cons _ _ => .nil
  | _, _, k + 1, .cons h x => .cons h (x.take k)
theorem Exs.drop {H : Hp} : ∀ {vs : List V} {r : List (Int × Int)} (k : Nat), Exs H vs r → Exs H (vs.drop k) (r.drop k)
  | _, _, _, .nil => by rw [List.drop_nil, List.drop_nil]; exact .nil
  | _, _, 0, .cons h x => .cons h x
  | _, _, k + 1, .cons h x => x.drop k
end Sw
namespace Sw
open PySem L2
def isw : PyData → Bool
  | .int _ => true
  | _ => false
def btw (lo hi : Int) : PyData → Bool
  | .int i => decide (lo ≤ i ∧ i ≤ hi)
  | _ => false
def lt2 : PyData → PyData → Bool
  | .int a, .int b => decide (a < b)
  | _, _ => false
def isex (n : Int) : PyData → Bool
  | .tuple [x, y] => (btw 1 n x && btw 1 n y) && lt2 x y
  | _ => false
def isrow (n : Int) : PyData → Bool
  | .list ds => decide (ds.length ≤ 60) && ds.all (isex n)
  | _ => false
def spIwD : Sp := fun vs H Q _ => ∃ (v : V) (P : Addr → Prop) (d : PyData), vs = [v] ∧ DT H P v d ∧ Q (.bl (isw d)) H
def spBtD : Sp := fun vs H Q _ => ∃ (v : V) (P : Addr → Prop) (d : PyData) (lo hi : Int), vs = [v, .int lo, .int hi] ∧ DT H P v d ∧ Q (.bl (btw lo hi d)) H
def spIsEx : Sp := fun vs H Q _ => ∃ (v : V) (P : Addr → Prop) (d : PyData) (n : Int), vs = [.int n, v] ∧ DT H P v d ∧ ∀ H', Same H H' → Q (.bl (isex n d)) H'
def spIsRow : Sp := fun vs H Q _ => ∃ (v : V) (P : Addr → Prop) (d : PyData) (n : Int), vs = [.int n, v] ∧ DT H P v d ∧ (∀ ds, d = .list ds → ds.length ≤ 1000) ∧ ∀ H', Same H H' → Q (.bl (isrow n d)) H'
theorem DT.same {H H' : Hp} {P : Addr → Prop} {v : V} {d : PyData} (h : DT H P v d) (s : Same H H') : DT H' P v d := h.keep fun b o _ e => s b o e
theorem all_take {α : Type} {q : α → Bool} {l : List α} {i : Nat} {x : α} (h : l[i]? = some x) : (l.take (i + 1)).map q = (l.take i).map q ++ [q x] := by
  rw [List.take_succ, h, List.map_append]; rfl
structure TD (P : Program) (w : World) (K : PySem.W.Frag) (mg : Str → Option Value) (base : Heap) : Prop extends T1 mg K where
  f_is_whole : FnAt P w K mg base "is_whole" 1 ["thing"] spIwD
structure TD2 (P : Program) (w : World) (K : PySem.W.Frag) (mg : Str → Option Value) (base : Heap) : Prop extends T1 mg K where
  f_is_between : FnAt P w K mg base "is_between" 2 ["thing", "low", "high"] spBtD
structure TD3 (P : Program) (w : World) (K : PySem.W.Frag) (mg : Str → Option Value) (base : Heap) (u : Value) : Prop extends T1 mg K where
  g_MOST_EXCHANGES : mg "MOST_EXCHANGES" = some u
  r_MOST_EXCHANGES : RelV (.int 60) u
  f_is_exchange : FnAt P w K mg base "is_exchange" 4 ["n", "thing"] spIsEx
end Sw
namespace Sw
open PySem L2
structure Lay (p : Addr) (c : Nat) (H0 H : Hp) (vs : List V) (ds : List PyData) : Prop where
  pu : Purse H p c
  sx : SameX p H0 H
  dt : DTs H (· ≠ p) vs ds
theorem cutT {xs : List V} {a : Int} (h0 : 0 ≤ a) (h : a ≤ xs.length) : cutV xs none (some a) = xs.take a.toNat := by
  have e : HT.sIx xs.length 0 none = 0 := rfl
  have e2 : HT.sIx xs.length xs.length (some a) = a.toNat := by
    simp [HT.sIx]
    rw [if_neg (by omega)]
    omega
  unfold cutV
  rw [e, e2, List.drop_zero, Nat.sub_zero]
theorem cutD {xs : List V} {a : Int} (h0 : 0 ≤ a) : cutV xs (some a) none = xs.drop a.toNat := by
  have e : HT.sIx xs.length 0 (some a) = min a.toNat xs.length := by
    show (if a < 0 then (a + (xs.length : Int)).toNat else min a.toNat xs.length) = _
    rw [if_neg (by omega)]
  have e2 : HT.sIx xs.length xs.length none = xs.length := rfl
  unfold cutV
  rw [e, e2, List.take_of_length_le (by rw [List.length_drop]; exact Nat.le_refl _)]
  by_cases h : a.toNat ≤ xs.length
  · rw [Nat.min_eq_left h]
  · rw [Nat.min_eq_right (by omega), List.drop_length, List.drop_eq_nil_of_le (by omega)]
end Sw
namespace L2
open PySem PySem.Spec PyProof.Rows PySem.SeqAt
open PySem.AutoSeq1 (wpAny_loadPart')
open PySem.MeetsSeq PySem.MeetsSeq2 PySem.MeetsSeq3
def HdAt (h : Heap) (v : Value) (a : Int) : Prop := ∃ (l : Addr) (xs : Array Value) (n : Nat) (t : Tok), v = .ref l ∧ h.get? l = some { cls := .type "list", data := .seq xs n } ∧ xs[0]? = some (.int a t)
structure Rising (h : Heap) (vs : List Value) (hs : List Int) : Prop where
  len : hs.length = vs.length
  up : ∀ (i : Nat) (a c : Int), hs[i]? = some a → hs[i + 1]? = some c → a < c
  head : ∀ (i : Nat) (v : Value) (a : Int), vs[i]? = some v → hs[i]? = some a → HdAt h v a
end L2
namespace L2
open PySem PySem.W PyProof.Rows
section
variable {N : Nat} {rk : Nat → Int}
def KP (rk : Nat → Int) (p : Array Nat) (i : Nat) : Int := rk (p.getD i 0)
def Fal (rk : Nat → Int) (k : Nat) (p : Array Nat) : Prop := ∀ i j, i ≤ j → j < k → KP rk p j ≤ KP rk p i
structure DescOk (rk : Nat → Int) (p₀ p : Array Nat) (n q : Nat) : Prop where
  perm : p.Perm p₀
  size : p.size = p₀.size
  fal : Fal rk n p
  same : ∀ i, n - (q + 1) ≤ i → i < n → KP rk p i = KP rk p (n - 1)
  q1 : q + 1 ≤ n
end
end L2
namespace L2
open PySem PySem.Spec PyProof.Rows PySem.SeqAt
open PySem.AutoSeq1 (wpAny_loadPart')
open PySem.MeetsSeq PySem.MeetsSeq2 PySem.MeetsSeq3
def lexB : List Int → List Int → Bool
  | [], [] => false
  | [], _ :: _ => true
  | _ :: _, [] => false
  | a :: r, c :: q => if a = c then lexB r q else decide (a < c)
end L2
namespace L2
open PySem PySem.Spec PyProof.Rows PySem.SeqAt
structure Hds (H : Hp) (vs : List V) (hs : List Int) : Prop where
  len : hs.length = vs.length
  up : ∀ (i : Nat) (a c : Int), hs[i]? = some a → hs[i + 1]? = some c → a < c
  head : ∀ (i : Nat) (v : V) (a : Int), vs[i]? = some v → hs[i]? = some a → ∃ (b : Addr) (ns : List Int), v = .ref b ∧ H b = some (.lst (ns.map V.int)) ∧ ns[0]? = some a
end L2
namespace L2
open PySem PySem.Spec PyProof.Rows PySem.SeqAt PySem.W
theorem lexB_irr : ∀ a : List Int, lexB a a = false
  | [] => rfl
  | x :: a => by show (if x = x then lexB a a else _) = false; rw [if_pos rfl]; exact lexB_irr a
theorem lexB_trans : ∀ {a b c : List Int}, lexB a b = true → lexB b c = true → lexB a c = true
  | [], _ :: _, _ :: _, _, _ => rfl
  | [], [], _, h, _ => by cases h
  | [], _ :: _, [], _, h => by cases h
  | _ :: _, [], _, h, _ => by cases h
  | _ :: _, _ :: _, [], _, h => by cases h
  | x :: a, y :: b, z :: c, h1, h2 => by
    have h1 : (if x = y then lexB a b else decide (x < y)) = true := h1
    have h2 : (if y = z then lexB b c else decide (y < z)) = true := h2
    show (if x = z then lexB a c else decide (x < z)) = true
    by_cases e1 : x = y
    · rw [if_pos e1] at h1
      by_cases e2 : y = z
      · rw [if_pos e2] at h2
        rw [if_pos (e1.trans e2)]
        exact lexB_trans h1 h2
      · rw [if_neg e2] at h2
        rw [if_neg (by rw [e1]; exact e2), e1]
        exact h2
    · rw [if_neg e1] at h1
      have l1 : x < y := of_decide_eq_true h1
      by_cases e2 : y = z
      · rw [if_neg (by rw [← e2]; exact e1), ← e2]
        exact h1
      · rw [if_neg e2] at h2
        have l2 : y < z := of_decide_eq_true h2
        rw [if_neg (by omega)]
        exact decide_eq_true (by omega)
end L2
namespace L2
open PySem PySem.Spec PyProof.Rows PySem.SeqAt
inductive TxtEs (pr : Params) : List DictEntry → List (Str × Str) → Prop
  | nil : TxtEs pr [] []
  | cons {x y : Str} {t u : Tok} {es : List DictEntry} {ps : List (Str × Str)} : TxtEs pr es ps → TxtEs pr ({ hash := PyData.keyHash pr x, key := .str x t, val := .str y u } :: es) ((x, y) :: ps)
structure KTxt (K : PySem.W.Frag) (pr : Params) (a : Addr) (ps : List (Str × Str)) : Prop where
  sys : (a == sysModules) = false
  nd : (ps.map (·.1)).Nodup
  ex : ∃ (es : List DictEntry) (ep : Nat), K.lookup a = some { cls := .type "dict", data := .dict es.toArray ep } ∧ TxtEs pr es ps
def txtK (ps : List (Str × Str)) : List (Key × V) := ps.map fun p => (Sum.inr p.1, V.str p.2)
section
variable {X : Cx} {K : PySem.W.Frag}
theorem TxtEs.go {pr : Params} {P : Program} {w : World} (hp : w.params = pr) : ∀ {es : List DictEntry} {ps : List (Str × Str)}, TxtEs pr es ps → ∃ vs : List (Key × Value), KV (txtK ps) vs ∧ (∀ e ∈ es, ∃ k, (mixKind P w).is k e.key = true ∧ e.hash = (mixKind P w).hash k) ∧ Pairs (mixKind P w) es vs ∧ vs.map (·.1) = ps.map fun p => Sum.inr p.1
  | _, _, .nil => ⟨[], .nil, by simp, .nil, rfl⟩
  | _, _, .cons (x := x) (y := y) (t := t) (u := u) r => by
    obtain ⟨vs, h1, h2, h3, h4⟩ := TxtEs.go (P := P) hp r
    have hi : (mixKind P w).is (Sum.inr x) (Value.str x t) = true := by
      show Value.isStrOf x (Value.str x t) = true
      simp [Value.isStrOf]
    refine ⟨(Sum.inr x, .str y u) :: vs, ?_, ?_, .cons hi rfl h3, by rw [List.map_cons, h4]; rfl⟩
    · exact Paired.cons ⟨rfl, ⟨u, rfl⟩⟩ h1
    · intro e he
      rcases List.mem_cons.mp he with rfl | he
      · refine ⟨Sum.inr x, hi, ?_⟩
        subst hp
        rfl
      · exact h2 e he
theorem KTxt.dict {pins : List (Addr × Obj)} {σ : St} {H : Hp} {s : Shared} {a : Addr} {ps : List (Str × Str)} (k : KTxt X.K X.w.params a ps) (I : Inv X pins σ H s) : ∃ vs : List (Key × Value), KV (txtK ps) vs ∧ s.heap.DictOf (mixKind X.prog X.w) a vs := by
  obtain ⟨es, ep, hl, ht⟩ := k.ex
  obtain ⟨vs, h1, h2, h3, h4⟩ := TxtEs.go (P := X.prog) (w := X.w) rfl ht
  refine ⟨vs, h1, _, es.toArray, ep, I.kIn a _ hl, ⟨rfl, rfl, rfl⟩, rfl, fun e he => h2 e (by simpa using he), by simpa using h3, ?_⟩
  rw [h4]
  have := k.nd
  rw [show (ps.map fun p => (Sum.inr p.1 : Key)) = (ps.map (·.1)).map Sum.inr by rw [List.map_map]; rfl]
  exact this.map _ fun x y h e => h (Sum.inr.inj e)
theorem txt_val (ps : List (Str × Str)) (k : Str) : (valV (txtK ps) (Sum.inr k : Key)).isSome = decide (k ∈ ps.map (·.1)) := by
  unfold txtK valV
  induction ps with
  | nil => rfl
  | cons p t ih =>
    rw [List.map_cons, List.find?_cons]
    by_cases h : p.1 = k
    · have : decide ((Sum.inr p.1 : Key) = Sum.inr k) = true := decide_eq_true (by rw [h])
      simp only [this]
      simp [h]
    · have : decide ((Sum.inr p.1 : Key) = Sum.inr k) = false := decide_eq_false fun z => h (Sum.inr.inj z)
      simp only [this]
      rw [ih, List.map_cons, Bool.eq_iff_iff, decide_eq_true_eq, decide_eq_true_eq, List.mem_cons]
      exact ⟨.inr, fun z => z.resolve_left fun z => h z.symm⟩
def tKNotIn (a : Addr) (ps : List (Str × Str)) (ty td : TE) : TE := fun σ H Q => ty σ H fun y H1 => td σ H1 fun x H2 => ∃ k, x = .ref a ∧ y = .str k ∧ Q (.bl (!decide (k ∈ ps.map (·.1)))) H2
theorem pc_knotin {i o : Expr} {ty td : TE} {a : Addr} {ps : List (Str × Str)} (kt : KTxt X.K X.w.params a ps) (hi : PE X i ty) (ho : PE X o td) : PC X .NotIn i o (tKNotIn a ps ty td) := by
  intro pins s σ H Q I h
  refine thn (hi pins s σ H _ I h) fun iv s1 ⟨y, H1, I1, ry, q1⟩ => thn (ho pins s1 σ H1 _ I1 q1) fun u s2 ⟨x, H2, I2, rx, k, ex, ey, q2⟩ => ?_
  subst ex
  subst ey
  obtain rfl : u = Value.ref a := rx
  obtain ⟨vs, rel, dd⟩ := kt.dict I2
  refine wpAny_notIn_of (kV_is (k := Sum.inr k) ry) kt.sys dd.mapOf ?_
  rw [← (rel.val (Sum.inr k)).isSome_eq, txt_val]
  exact ⟨.bl _, H2, I2.tok _, rfl, q2⟩
def tKGet (a : Addr) (ps : List (Str × Str)) (td ty : TE) : TE := fun σ H Q => td σ H fun x H1 => ty σ H1 fun y H2 => ∃ k v, x = .ref a ∧ y = .str k ∧ valV (txtK ps) (Sum.inr k : Key) = some (.str v) ∧ Q (.str v) H2
theorem pe_kget {i o : Expr} {ty td : TE} {a : Addr} {pos : Pos} {ps : List (Str × Str)} (kt : KTxt X.K X.w.params a ps) (ho : PE X o td) (hi : PE X i ty) (hs : NoSl i) : PE X (.Subscript o i pos) (tKGet a ps td ty) := by
  intro pins s σ H Q I h
  refine subD_of PySem.F.slot_dict_getitem.lookup hs (thn (ho pins s σ H _ I h) fun u s1 ⟨x, H1, I1, rx, q1⟩ => thn (hi pins s1 σ H1 _ I1 q1) fun iv s2 ⟨y, H2, I2, ry, k, v, ex, ey, g, q2⟩ => ?_)
  subst ex
  subst ey
  obtain rfl : u = Value.ref a := rx
  obtain ⟨vs, rel, dd⟩ := kt.dict I2
  obtain ⟨w', hw, rw'⟩ := RelO.some_of (v := .str v) (o := valueAt vs (Sum.inr k)) (by rw [← g]; exact rel.val (Sum.inr k))
  exact ⟨dd.typeIs, wpAny_getItem_of (kV_is (k := Sum.inr k) ry) dd.mapOf hw ⟨.str v, H2, I2.tok _, rw', q2⟩⟩
end
end L2
namespace Sw
open PySem L2
def star1 (r : List Int) : List (Int × Int) := r.tail.map fun y => (r.headD 0, y)
def starM (n : Int) (xs : List Int) : List (Int × Int) := ((rndM n xs).map star1).flatten
theorem go_off {m : Int} : ∀ {t : List Int} {x : Int}, x ≠ m → x ∉ t → go (t.map fun y => (m, y)) x = x
  | [], _, _, _ => rfl
  | a :: t, x, h1, h2 => by
    show go (t.map fun y => (m, y)) (swp x (m, a)) = x
    rw [swp_ne h1 (fun z => h2 (by rw [show x = a from z]; exact List.mem_cons_self))]
    exact go_off h1 fun z => h2 (List.mem_cons_of_mem _ z)
theorem go_first {m : Int} : ∀ {t : List Int}, m ∉ t → t.Nodup → go (t.map fun y => (m, y)) m = t.headD m
  | [], _, _ => rfl
  | a :: t, h1, h2 => by
    show go (t.map fun y => (m, y)) (swp m (m, a)) = a
    have : swp m (m, a) = a := by unfold swp; rw [if_pos rfl]
    rw [this]
    exact go_off (fun z => h1 (by rw [← z]; exact List.mem_cons_self)) (List.nodup_cons.mp h2).1
theorem go_mid {m y : Int} : ∀ {a b : List Int}, m ∉ a ++ y :: b → (a ++ y :: b).Nodup → go ((a ++ y :: b).map fun z => (m, z)) y = b.headD m
  | [], b, h1, h2 => by
    show go (b.map fun z => (m, z)) (swp y (m, y)) = b.headD m
    have ne : y ≠ m := fun z => h1 (by rw [z]; exact List.mem_cons_self)
    have : swp y (m, y) = m := by unfold swp; rw [if_neg (by exact ne), if_pos rfl]
    rw [this]
    exact go_first (fun z => h1 (List.mem_cons_of_mem _ z)) (List.nodup_cons.mp h2).2
  | c :: a, b, h1, h2 => by
    show go ((a ++ y :: b).map fun z => (m, z)) (swp y (m, c)) = b.headD m
    have h2' := List.nodup_cons.mp h2
    have ne : y ≠ m := fun z => h1 (by rw [← z]; exact List.mem_cons_of_mem _ (List.mem_append_right _ List.mem_cons_self))
    have ne2 : y ≠ c := fun z => h2'.1 (by rw [← z]; exact List.mem_append_right _ List.mem_cons_self)
    rw [swp_ne ne ne2]
    exact go_mid (fun z => h1 (List.mem_cons_of_mem _ z)) h2'.2
end Sw
namespace L2
open PySem PySem.Spec PyProof.Rows
open AutoSeq1 (wpAny_loadPart')
theorem meets_enumL1 (l : Addr) (items : Array Value) (n : Nat) (t : Tok) (dd : Option Addr) (sl : Array (Option Value)) :
    Meets (Builtin.«enumerate.__new__» ⟨[.type "enumerate", .ref l], [(Str.ofString "start", .int 1 t)]⟩) (fun _ R s => s.heap.get? l = some { cls := .type "list", dict := dd, data := .seq items n, slots := sl } ∧
      R (.ok (.ret (.ref (s.heap.push { cls := .type "list_iterator", data := .fields #[.ref l, .int 0 0] }).objs.size)))
        { s with heap := (s.heap.push { cls := .type "list_iterator", data := .fields #[.ref l, .int 0 0] }).push { cls := .type "enumerate", data := .fields #[.none, .bool false, .ref s.heap.objs.size, rawInt 1, .none, .none] } }) :=
  .of_wp fun prog w A R s h => by
    obtain ⟨hp, g, d, tk, os⟩ := s; obtain ⟨hl, h⟩ := h
    have hsub := sub_enumerate
    have hL : Heap.IsList (Shared.heap ⟨hp, g, d, tk, os⟩) l items := ⟨_, hl, rfl, n, rfl⟩
    wp_walk using wpAny_loadPart' hl
    refine wpAny_stack_any fun st => wpAny_pure ?_
    split
    · rename_i c' _ _ _ _ _
      cases (c' == Value.type "enumerate")
      · wp_walk using wpAny_loadPart' hl, wpAny_pyIter_list hL
        exact ⟨_, rfl, h⟩
      · wp_walk using wpAny_loadPart' hl, wpAny_pyIter_list hL
        exact ⟨_, rfl, h⟩
    · wp_walk using wpAny_loadPart' hl, wpAny_pyIter_list hL
      exact ⟨_, rfl, h⟩
section
variable {prog : Program} {w : World} {A : Around} {E : Value → Shared → Prop} {s : Shared}
theorem call_enumL1 {l : Addr} {items : Array Value} {n : Nat} {t : Tok} {dd : Option Addr} {sl : Array (Option Value)} {Q : Value → Shared → Prop} (hl : s.heap.get? l = some { cls := .type "list", dict := dd, data := .seq items n, slots := sl })
    (hQ : Q (.ref (s.heap.push { cls := .type "list_iterator", data := .fields #[.ref l, .int 0 0] }).objs.size)
        { s with heap := (s.heap.push { cls := .type "list_iterator", data := .fields #[.ref l, .int 0 0] }).push { cls := .type "enumerate", data := .fields #[.none, .bool false, .ref s.heap.objs.size, rawInt 1, .none, .none] } }) :
    wpAny (model prog w) A (call (.type "enumerate") [.ref l] [(Str.ofString "start", .int 1 t)]) Q E s := by
  have ft := F.called_enumerate
  obtain ⟨c, tl, hmro⟩ := ft.mro
  have hmade := ft.made
  have hsub := ft.sub
  have hct := typeCall_enum_kw (.ref l) (.int 1 t)
  refine wpAny_call (codeAny_of_tree ?_)
  show wpAny _ _ (callAny (.type "enumerate") _) _ _ _
  refine wpAny_pure ⟨Code.quiet_builtin _ (by decide +kernel), codeAny_builtin F.entry_type_call ?_⟩
  rw [Around.under_plain (weight_type_call_type "enumerate" [.ref l] _) (units_type_call_type "enumerate" [.ref l] _)]
  have h1 := ft.notType
  have h2 := ft.canCreate
  repeat (any_goals (first | assumption | wp_step))
  refine codeAny_mono (codeAny_call_builtin (R := wants (fun obj s₁ => s₁.TypeIs obj "enumerate" ∧ Q obj s₁) E) ft.plain F.entry_enumerate_new (wpAny_of_eq (newCall_enum_kw _ _) (meets_enumL1 l items n t dd sl prog w A.in1 _ s ⟨hl, ⟨_, Heap.get?_push_size _ rfl, rfl⟩, hQ⟩))) fun r s₁ hr => ?_
  cases r with
  | error e => exact hr
  | ok fl =>
    cases fl with
    | ret obj =>
      obtain ⟨hT, hq⟩ := hr
      have hli := ft.init.lookup
      have hbi := ft.init.bind obj
      repeat (any_goals (first | assumption | wp_step))
      refine codeAny_mono (codeAny_call_builtin (R := wants (fun r s₂ => r = .none ∧ Q obj s₂) E) ft.init.plain F.entry_object_init (ft.init.check _ _ _ _ _ _ _ _ hT (init_enum_kw _ _ _) (init_meets_kw ft.init.lookup ft.made (by decide) prog w A.in1 _ s₁ ⟨hT, rfl, hq⟩))) fun r₂ s₂ hr₂ => ?_
      cases r₂ with
      | error e => exact hr₂
      | ok fl₂ =>
        cases fl₂ with
        | ret r =>
          obtain ⟨rfl, hq⟩ := hr₂
          repeat (any_goals (first | assumption | wp_step))
        | _ => exact hr₂.elim
    | _ => exact hr.elim
end
theorem draws_listC {prog : Program} {w : World} {A : Around} (hh : A.handled = none) (it t : Addr) (hne : t ≠ it) (items : Array Value) (c : Nat) :
    Draws prog w A it [it, t] (items.size + c) (fun j v => ∃ i, j = i + c ∧ items[i]? = some v) (fun j h => ∃ i, j = i + c ∧ h.IsListIter it t i ∧ h.IsList t items) where
  live := fun j h ⟨i, _, ⟨o, e, _⟩, _⟩ => ⟨o, e⟩
  frame := fun j h h' ⟨i, e, a, b⟩ k => ⟨i, e, a.at fun o q => k it (by simp) o q, b.at fun o q => k t (by simp) o q⟩
  item := fun j s Q E hj ⟨i, e, a, b⟩ hQ => by
    subst e
    have hi : i < items.size := by omega
    refine wpAny_nextOf_list_item a b (x := items[i]) (by simp [hi]) fun h' a' sb => ?_
    exact hQ _ h' s.toks ⟨i, rfl, by simp [hi]⟩ ⟨i + 1, by omega, a', b.extBut sb.extBut hne⟩ sb
  done := fun s Q E ⟨i, e, a, b⟩ hE => by
    have e : i = items.size := by omega
    subst e
    exact wpAny_nextOf_list_end hh a b (by simp) hE
def Iten (K : PySem.W.Frag) (c : Nat) (a : Addr) (xs : List V) : It :=
  ⟨fun i H => i < xs.length ∧ SqL K H a xs, fun i H x H' => ∃ t v, H t = none ∧ x = .ref t ∧ xs[i]? = some v ∧ H' = upd H t (.tup [.int ((i : Int) + c), v]), fun i H => i = xs.length ∧ SqL K H a xs⟩
theorem turn_enumL {P : Program} {w : World} {K : PySem.W.Frag} {elts : List Expr} {k : Nat} {pos : Pos} (c : Nat) (a e it : Addr) (xs : List V) (hei : e ≠ it) (hae : a ≠ e) (hai : a ≠ it) :
    Turn P w K (.Tuple elts k pos) (Iten K c a xs) [e, it] e (fun i h => (∃ old, IsEnum h e it (((i + c : Nat) : Int)) old) ∧ h.IsListIter it a i) where
  mem := by simp
  obj := fun i h st b hb => by
    obtain ⟨⟨old, he⟩, ⟨o, e2, c', d⟩⟩ := st
    rcases List.mem_cons.mp hb with z | z
    · subst z
      exact ⟨_, he, fun v z => by cases z⟩
    · have z : b = it := by simpa using z
      subst z
      exact ⟨o, e2, fun v z => by rw [d] at z; cases z⟩
  keep := fun i h h' st kk => ⟨by obtain ⟨⟨old, he⟩, _⟩ := st; exact ⟨old, kk e (by simp) _ he⟩, st.2.at fun o q => kk it (by simp) o q⟩
  item := by
    intro X hP hw hK hc i pins s σ H E I hf st hg
    subst hP hw hK
    obtain ⟨hi, hq⟩ := hg
    obtain ⟨its, rv, ht, hz⟩ := I.list hq
    have hl := rv.length
    obtain ⟨⟨old, he⟩, hit⟩ := st
    have W := WalksT.enumerateD (A := X.A) (draws_listC (prog := X.prog) (w := X.w) (A := X.A.in1) (show X.A.in1.handled = none from I.ok.hd hc) it a hai its.toArray c) e hei (by simp; exact ⟨hei, hae.symm⟩) (by simp)
    refine W.item (i + c) s _ _ (by simp; omega) ⟨⟨old, he⟩, i, rfl, hit, ht.isList⟩ fun T vals h' tk hPt hsz hT hMid hk => ?_
    obtain ⟨t, x, ⟨i', ei, hx⟩, rfl⟩ := hPt
    have ei : i' = i := by omega
    subst ei
    obtain ⟨v, hv, rvx⟩ : ∃ v, xs[i']? = some v ∧ RelV v x := by
      rw [List.getElem?_eq_getElem hi]
      obtain ⟨u, hu, ru⟩ := rv.get (List.getElem?_eq_getElem hi)
      have : its[i']? = some x := by simpa using hx
      rw [this] at hu
      cases hu
      exact ⟨_, rfl, ru⟩
    refine ⟨.ref T, rfl, W.go elts k pos (i' + c) T _ _ _ hMid fun h'' hSt hk'' => ?_⟩
    have hTe := hMid.2.2.1
    have hTi := hMid.2.2.2
    have I1 : Inv X pins σ H { s with heap := h'', toks := tk } := I.turnedL (fp := [e, it]) (fun b o hb q => hk'' b o hb (hk b o hb q)) hf
    have fT : FpOk X pins H T := I.fpOk hsz (I.hok.fresh hsz)
    have hT' : IsTup h'' T #[.int ((i' + c : Nat) : Int) t, x] := by
      obtain ⟨o, e1, e2, e3⟩ := hT
      exact ⟨o, hk'' T o (by simp; exact ⟨hTe, hTi⟩) e1, e2, e3⟩
    obtain ⟨⟨old', he'⟩, i2, ei2, hit2, _⟩ := hSt
    have ei2 : i2 = i' + 1 := by omega
    subst ei2
    refine ⟨.ref T, upd H T (.tup [.int ((i' : Int) + c), v]), I1.track fT ⟨(by show 2 ≤ sizeLine; decide), [.int ((i' + c : Nat) : Int) t, x], .cons ⟨t, by simp⟩ (.cons rvx .nil), hT'⟩, rfl, ⟨T, v, fT.1, rfl, hv, rfl⟩, ⟨⟨old', by rw [show i' + 1 + c = i' + c + 1 by omega]; exact he'⟩, hit2⟩, fun b hb => ?_⟩
    have hbT : b ≠ T := by
      rcases List.mem_cons.mp hb with z | z
      · rw [z]; exact hTe.symm
      · have z : b = it := by simpa using z
        rw [z]; exact hTi.symm
    rw [upd_ne hbT]
    exact (hf b hb).1
  done := by
    intro X hP hw hK hc i pins s σ H E I hf st hg
    subst hP hw hK
    obtain ⟨hi, hq⟩ := hg
    obtain ⟨its, rv, ht, hz⟩ := I.list hq
    have hl := rv.length
    obtain ⟨⟨old, he⟩, hit⟩ := st
    have W := WalksT.enumerateD (A := X.A) (draws_listC (prog := X.prog) (w := X.w) (A := X.A.in1) (show X.A.in1.handled = none from I.ok.hd hc) it a hai its.toArray c) e hei (by simp; exact ⟨hei, hae.symm⟩) (by simp)
    have en : i + c = its.toArray.size + c := by simp; omega
    refine W.done s _ _ ⟨⟨old, by rw [← en]; exact he⟩, i, by omega, hit, ht.isList⟩ fun h' tk hk => ⟨rfl, I.turnedL (fp := [e, it]) (fun b o hb q => hk b o hb q) hf⟩
  self := fun A i s Q E st hQ => by
    obtain ⟨⟨old, he⟩, _⟩ := st
    exact wpAny_pyIter_enum he hQ
def iEnumL (K : PySem.W.Frag) (c : Nat) (ta : TA) : TI := fun σ H R => ta σ H fun vs H1 => ∃ (a : Addr) (xs : List V), vs = [.ref a] ∧ SqL K H1 a xs ∧ R (Iten K c a xs) H1
theorem pi_enumL1 {X : Cx} {K : PySem.W.Frag} {e : Expr} {ta : TA} {p pos kpos cp : Pos} {j kk : Nat} {elts : List Expr} {tp : Pos} (hK : X.K = K) (hg : Gl X "enumerate") (hm : X.mg "enumerate" = none) (ha : PA X [e] ta)
    (hs : starEach [e] X.env = [(false, eval e X.env)] := by rfl) :
    PI X (.Tuple elts kk tp) (.Call (.Name "enumerate" p) [e] [⟨some "start", .Constant (.int 1) j cp, kpos⟩] pos) (iEnumL K 1 ta) := by
  subst hK
  intro pins s σ H R I h
  refine wpAny_Call_Name_kw (ld_blt I hg hm (by decide +kernel : bootBuiltins "enumerate" = some (.type "enumerate")) ?_ (by decide +kernel) (by decide +kernel))
  refine callWith_type_kw (by rw [hs]; rfl) (by rfl) ?_
  have hb : backTo pos (starEach [e] X.env) = (false, eval e X.env) :: [] := by rw [hs]; rfl
  have run := ha pos pins s σ H _ I h
  rw [hb] at run ⊢
  refine evalArgs_kwB (by rfl) (thn run fun us s1 ⟨vs, H1, I1, r1, a, xs, e1, hq, hR⟩ => ?_)
  subst e1
  obtain ⟨u, rfl, ru⟩ := vals1 r1
  cases ru
  have kw : PK X [⟨some "start", .Constant (.int 1) j cp, kpos⟩] (tCons (tC (.int 1)) tNil) := pk_cons pe_int pk_nil
  refine thn (kw pos pins s1 σ H1 (fun vs H2 => vs = [.int 1] ∧ H2 = H1) I1 ⟨rfl, rfl⟩) fun ws s2 ⟨zs, H2, I2, r2, e2, e3⟩ => ?_
  subst e2 e3
  obtain ⟨u, rfl, t, rfl⟩ := vals1 r2
  obtain ⟨its, rv, ⟨o, n, ho, hc, hdd, hd⟩, hz⟩ := I2.list hq
  obtain ⟨cls, dd, data, sl⟩ := o
  simp only at hc hd hdd
  subst hc hd hdd
  refine call_enumL1 (items := its.toArray) (n := n) (dd := none) (sl := sl) ho ?_
  generalize hh1 : s2.heap.push { cls := .type "list_iterator", data := .fields #[.ref a, .int 0 0] } = g1
  have z1 : g1.objs.size = s2.heap.objs.size + 1 := by rw [← hh1, Heap.size_push]
  have e0 : IsEnum (g1.push { cls := .type "enumerate", data := .fields #[.none, .bool false, .ref s2.heap.objs.size, rawInt 1, .none, .none] }) g1.objs.size s2.heap.objs.size 1 .none := Heap.get?_push_size _ rfl
  have it0 : g1.get? s2.heap.objs.size = some { cls := .type "list_iterator", data := .fields #[.ref a, .int 0 0] } := by rw [← hh1]; exact Heap.get?_push_size _ rfl
  have k0 : ∀ b o, s2.heap.get? b = some o → (g1.push { cls := .type "enumerate", data := .fields #[.none, .bool false, .ref s2.heap.objs.size, rawInt 1, .none, .none] }).get? b = some o := fun b o q => Heap.get?_push_of_some _ (by rw [← hh1]; exact Heap.get?_push_of_some _ q)
  have lta : @LT.lt Nat _ a s2.heap.objs.size := Heap.lt_size ho
  have n1 : g1.objs.size ≠ s2.heap.objs.size := by rw [z1]; exact Nat.succ_ne_self _
  refine wpAny_pyIter_enum e0 ?_
  refine ⟨g1.objs.size, [g1.objs.size, s2.heap.objs.size], _, _, H2, rfl, I2.kept (t' := s2.toks) k0, turn_enumL 1 a g1.objs.size s2.heap.objs.size xs n1 (Nat.ne_of_lt (by rw [z1]; exact Nat.lt_succ_of_lt lta)) (Nat.ne_of_lt lta), ⟨⟨.none, e0⟩, ⟨_, Heap.get?_push_of_some _ it0, rfl, rfl⟩⟩, fun b hb => ?_, hR⟩
  rcases List.mem_cons.mp hb with z | z
  · rw [z]; exact I2.fpOk (by rw [z1]; exact Nat.le_succ _) (I2.hok.fresh (by rw [z1]; exact Nat.le_succ _))
  · have z : b = s2.heap.objs.size := by simpa using z
    rw [z]; exact I2.fpOk (Nat.le_refl _) (I2.hok.fresh (Nat.le_refl _))
end L2
namespace L2
open PySem PySem.Spec PyProof.Rows PySem.SeqAt
inductive NumEs (pr : Params) : List DictEntry → List (Str × Int) → Prop
  | nil : NumEs pr [] []
  | cons {x : Str} {y : Int} {t u : Tok} {es : List DictEntry} {ps : List (Str × Int)} : NumEs pr es ps → NumEs pr ({ hash := PyData.keyHash pr x, key := .str x t, val := .int y u } :: es) ((x, y) :: ps)
structure KNum (K : PySem.W.Frag) (pr : Params) (a : Addr) (ps : List (Str × Int)) : Prop where
  sys : (a == sysModules) = false
  nd : (ps.map (·.1)).Nodup
  ex : ∃ (es : List DictEntry) (ep : Nat), K.lookup a = some { cls := .type "dict", data := .dict es.toArray ep } ∧ NumEs pr es ps
def numK (ps : List (Str × Int)) : List (Key × V) := ps.map fun p => (Sum.inr p.1, V.int p.2)
section
variable {X : Cx} {K : PySem.W.Frag}
theorem NumEs.go {pr : Params} {P : Program} {w : World} (hp : w.params = pr) : ∀ {es : List DictEntry} {ps : List (Str × Int)}, NumEs pr es ps → ∃ vs : List (Key × Value), KV (numK ps) vs ∧ (∀ e ∈ es, ∃ k, (mixKind P w).is k e.key = true ∧ e.hash = (mixKind P w).hash k) ∧ Pairs (mixKind P w) es vs ∧ vs.map (·.1) = ps.map fun p => Sum.inr p.1
  | _, _, .nil => ⟨[], .nil, by simp, .nil, rfl⟩
  | _, _, .cons (x := x) (y := y) (t := t) (u := u) r => by
    obtain ⟨vs, h1, h2, h3, h4⟩ := NumEs.go (P := P) hp r
    have hi : (mixKind P w).is (Sum.inr x) (Value.str x t) = true := by
      show Value.isStrOf x (Value.str x t) = true
      simp [Value.isStrOf]
    refine ⟨(Sum.inr x, .int y u) :: vs, ?_, ?_, .cons hi rfl h3, by rw [List.map_cons, h4]; rfl⟩
    · exact Paired.cons ⟨rfl, ⟨u, rfl⟩⟩ h1
    · intro e he
      rcases List.mem_cons.mp he with rfl | he
      · refine ⟨Sum.inr x, hi, ?_⟩
        subst hp
        rfl
      · exact h2 e he
theorem KNum.dict {pins : List (Addr × Obj)} {σ : St} {H : Hp} {s : Shared} {a : Addr} {ps : List (Str × Int)} (k : KNum X.K X.w.params a ps) (I : Inv X pins σ H s) : ∃ vs : List (Key × Value), KV (numK ps) vs ∧ s.heap.DictOf (mixKind X.prog X.w) a vs := by
  obtain ⟨es, ep, hl, ht⟩ := k.ex
  obtain ⟨vs, h1, h2, h3, h4⟩ := NumEs.go (P := X.prog) (w := X.w) rfl ht
  refine ⟨vs, h1, _, es.toArray, ep, I.kIn a _ hl, ⟨rfl, rfl, rfl⟩, rfl, fun e he => h2 e (by simpa using he), by simpa using h3, ?_⟩
  rw [h4]
  have := k.nd
  rw [show (ps.map fun p => (Sum.inr p.1 : Key)) = (ps.map (·.1)).map Sum.inr by rw [List.map_map]; rfl]
  exact this.map _ fun x y h e => h (Sum.inr.inj e)
def numOf (ps : List (Str × Int)) (k : Str) : Option Int := (ps.find? fun p => p.1 = k).map (·.2)
theorem num_val (ps : List (Str × Int)) (k : Str) : valV (numK ps) (Sum.inr k : Key) = (numOf ps k).map V.int := by
  unfold numK numOf valV
  induction ps with
  | nil => rfl
  | cons p t ih =>
    rw [List.map_cons, List.find?_cons, List.find?_cons]
    by_cases h : p.1 = k
    · have : decide ((Sum.inr p.1 : Key) = Sum.inr k) = true := decide_eq_true (by rw [h])
      simp only [this, h, decide_true]
      rfl
    · have : decide ((Sum.inr p.1 : Key) = Sum.inr k) = false := decide_eq_false fun z => h (Sum.inr.inj z)
      simp only [this, decide_eq_false h]
      exact ih
def tKGet1 (a : Addr) (ps : List (Str × Int)) (td ty : TE) : TE := fun σ H Q => td σ H fun x H1 => x = .ref a ∧ ty σ H1 fun y H2 => ∃ k, y = .str k ∧ Q (((numOf ps k).map V.int).getD .non) H2
theorem pe_kget1 {o e : Expr} {td ty : TE} {a : Addr} {apos cpos : Pos} {ps : List (Str × Int)} (kt : KNum X.K X.w.params a ps) (hu : X.A.units + 1 < cLine) (ho : PE X o td) (he : PE X e ty) (m : M1 X o "get" apos e cpos) : PE X (.Call (.Attribute o "get" apos) [e] [] cpos) (tKGet1 a ps td ty) := by
  intro pins s σ H Q I h
  refine wpAny_Call_method m.base m.few m.line PySem.F.plainAttrs_dict PySem.F.slot_dict_get PySem.F.type_dict_get (thn (ho pins s σ H _ I h) fun u s1 ⟨x, H1, I1, rx, ex, q1⟩ => ?_)
  subst ex
  obtain rfl : u = Value.ref a := rx
  obtain ⟨_, _, d1⟩ := kt.dict I1
  have t2 : ∀ b, Value.ref a = .ref b → ∃ ob, s1.heap.get? b = some ob ∧ ob.dict = none := fun b q => by
    cases q
    obtain ⟨ob, _, _, h1, h2, _⟩ := d1
    exact ⟨ob, h1, h2.2.1⟩
  refine ⟨d1.typeIs, t2, ?_⟩
  rw [m.trees]
  refine Calls.callWith_builtin rfl (Calls.evalArgs_plain (Calls.spliced_cons (thn (he pins s1 σ H1 _ I1 q1) fun iv s2 ⟨y, H2, I2, ry, k, ey, q2⟩ => Calls.spliced_nil ?_)))
  subst ey
  obtain ⟨vs, rel, dd⟩ := kt.dict I2
  refine call_meetsIn PySem.F.slot_dict_get dd.typeIs PySem.F.entry_dict_get (PySem.F.args_dict_get_2 _ _) (meets_dict_get (mixKind X.prog X.w) a (kV_is (k := Sum.inr k) ry) kt.sys) ⟨_, dd.mapOf, ⟨_, H2, I2.tok _, ?_, q2⟩⟩
  rw [← num_val]
  exact (rel.val (Sum.inr k)).getD rfl
end
end L2
namespace L2
open PySem PySem.Spec PyProof.Rows
def Up (l : List Nat) : Prop := l.Pairwise (· < ·)
def TUp (t : SetTable) : Prop := Up t.place.toList
end L2
namespace L2
open PySem PySem.Spec PyProof.Rows
structure TabOk (w : World) (t : SetTable) (n : Nat) : Prop where
  fits : t.fits n = true
  up : TUp t
  led : t.led = !(w.params.followText "set-order")
end L2
namespace L2
open PySem PySem.Spec PyProof.Rows
def keyI (e : Int × Value) : Int := match e.2 with | .int n _ => n | _ => 0
structure RelI (prog : Program) (w : World) (ns : List Int) (i : Nat) (es : Array (Int × Value)) (t : SetTable) : Prop where
  tab : TabOk w t es.size
  few : es.size ≤ i
  els : ElemsOf (intKind prog w) es.toList
  one : (es.toList.map keyI).Nodup
  mem : ∀ k, k ∈ es.toList.map keyI ↔ k ∈ ns.take i
end L2
namespace L2
open PySem PySem.Spec PyProof.Rows PySem.SeqAt PySem.W
section
variable {prog : Program} {w : World} {A : Around} {E : Value → Shared → Prop} {s : Shared}
def TupAt (h : Heap) (v : Value) (ns : List Int) : Prop := ∃ (a : Addr) (o : Obj) (xs : Array Value) (n : Nat), v = .ref a ∧ h.get? a = some o ∧ o.cls = .type "tuple" ∧ o.data = .seq xs n ∧ IntsAre xs.toList ns
theorem TupAt.keep {h h' : Heap} {v : Value} {ns : List Int} (x : TupAt h v ns) (k : ∀ b o, h.get? b = some o → h'.get? b = some o) : TupAt h' v ns := by
  obtain ⟨a, o, xs, n, e1, e2, r⟩ := x
  exact ⟨a, o, xs, n, e1, k _ _ e2, r⟩
def AllTup (h : Heap) (vs : List Value) (Ls : List (List Int)) : Prop := Ls.length = vs.length ∧ ∀ (i : Nat) (v : Value) (L : List Int), vs[i]? = some v → Ls[i]? = some L → TupAt h v L ∧ L ≠ []
theorem AllTup.keep {h h' : Heap} {vs : List Value} {Ls : List (List Int)} (x : AllTup h vs Ls) (k : ∀ b o, h.get? b = some o → h'.get? b = some o) : AllTup h' vs Ls := ⟨x.1, fun i v L e1 e2 => ⟨(x.2 i v L e1 e2).1.keep k, (x.2 i v L e1 e2).2⟩⟩
end
end L2
namespace L2
open PySem PySem.Spec PyProof.Rows
section
variable {prog : Program} {w : World} {A : Around} {E : Value → Shared → Prop} {s : Shared} {W : Addr → List Int → Prop}
abbrev TupK (prog : Program) (w : World) (h : Heap) (ks : List Int) (a : Addr) : Prop := IsTupleKey (intKind prog w) h ks a
def hshT (ns : List Int) : Int := reduceHash (Builtin.Tuple.tupleHashOf (ns.map hashInt))
def hAt (ks : List (List Int)) (i : Nat) : Int := ((ks[i]?).map hshT).getD 0
def addP (ks : List (List Int)) (t : SetTable) (x : List Int) : Option (List (List Int) × SetTable) :=
  if t.gaveWay then none else
  match t.probe (hAt ks) (hshT x) (t.probeStart (hshT x)) with
  | some (.candidate _ i _) => if ks[i]? = some x then some (ks, t) else none
  | some (.empty j none) =>
    let kn := ks.take (t.put j).2 ++ x :: ks.drop (t.put j).2
    if (t.put j).1.fits (ks.length + 1) then
      if (t.put j).1.tooFull then
        if SetTable.sizeAbove (SetTable.grown (ks.length + 1)) ≤ 100000 then
          match (t.put j).1.relaid (kn.map hshT).toArray (SetTable.grown (ks.length + 1)) with
          | some (t2, o) => if (o.toList.filterMap (kn[·]?)).length = ks.length + 1 ∧ t2.fits (ks.length + 1) = true then some (o.toList.filterMap (kn[·]?), t2) else none
          | none => none
        else none
      else some (kn, (t.put j).1)
    else none
  | _ => none
def EsT (prog : Program) (w : World) (W : Addr → List Int → Prop) (h : Heap) (es : Array (Int × Value)) (ks : List (List Int)) : Prop := Paired (fun (e : Int × Value) (k : List Int) => e.1 = hshT k ∧ ∃ a, e.2 = .ref a ∧ TupK prog w h k a ∧ W a k) es.toList ks
theorem Paired.at' {α β : Type} {F : α → β → Prop} : ∀ {l : List α} {m : List β} (i : Nat), Paired F l m → (∃ a b, l[i]? = some a ∧ m[i]? = some b ∧ F a b) ∨ (l[i]? = none ∧ m[i]? = none)
  | _, _, i, .nil => .inr ⟨by simp, by simp⟩
  | _, _, 0, .cons r _ => .inl ⟨_, _, rfl, rfl, r⟩
  | _, _, i + 1, .cons _ t => by simpa using Paired.at' i t
theorem Paired.app' {α β : Type} {F : α → β → Prop} : ∀ {l l' : List α} {m m' : List β}, Paired F l m → Paired F l' m' → Paired F (l ++ l') (m ++ m')
  | _, _, _, _, .nil, y => y
  | _, _, _, _, .cons r t, y => .cons r (Paired.app' t y)
end
end L2
namespace L2
open PySem PySem.Spec PyProof.Rows
theorem Paired.len' {α β : Type} {F : α → β → Prop} : ∀ {l : List α} {m : List β}, Paired F l m → l.length = m.length
  | _, _, .nil => rfl
  | _, _, .cons _ t => by rw [List.length_cons, List.length_cons, Paired.len' t]
section
variable {prog : Program} {w : World} {A : Around} {E : Value → Shared → Prop} {s : Shared} {W : Addr → List Int → Prop}
def simT (led : Bool) (xs : List (List Int)) : Option (List (List Int) × SetTable) := xs.foldlM (fun st x => addP st.1 st.2 x) ([], SetTable.fresh 0 0 led)
structure RelT (prog : Program) (w : World) (W : Addr → List Int → Prop) (h₀ : Heap) (led : Bool) (xs : List (List Int)) (i : Nat) (es : Array (Int × Value)) (t : SetTable) : Prop where
  ex : ∃ ks, EsT prog w W h₀ es ks ∧ t.fits ks.length = true ∧ ks.length ≤ i ∧ simT led (xs.take i) = some (ks, t)
end
end L2
namespace L2
open PySem PySem.Spec PyProof.Rows PySem.SeqAt PySem.W
def TupsV (H : Hp) (vs : List V) (ks : List (List Int)) : Prop := Paired (fun (v : V) (k : List Int) => ∃ a : Addr, v = .ref a ∧ H a = some (.tup (k.map V.int))) vs ks
theorem TupsV.len {H : Hp} {vs : List V} {ks : List (List Int)} (x : TupsV H vs ks) : vs.length = ks.length := Paired.len' x
theorem TupsV.keep {H H' : Hp} {vs : List V} {ks : List (List Int)} (x : TupsV H vs ks) (k : ∀ b xs, H b = some (.tup xs) → H' b = some (.tup xs)) : TupsV H' vs ks := Paired.mapP x fun _ _ ⟨a, e, z⟩ => ⟨a, e, k _ _ z⟩
theorem TupsV.snoc {H : Hp} {vs : List V} {ks : List (List Int)} {a : Addr} {k : List Int} (x : TupsV H vs ks) (h : H a = some (.tup (k.map V.int))) : TupsV H (vs ++ [.ref a]) (ks ++ [k]) := Paired.app' x (.cons ⟨a, rfl, h⟩ .nil)
end L2
namespace L2
open PySem PySem.Spec PyProof.Rows
def EmW (prog : Program) (w : World) (A : Around) (elt : Expr) (gens : List Comprehension) (scope : Scope) (pos : Pos) (d : Nat) (acc : Value) (env : Env) (Q : Shared → Prop) (s : Shared) : Prop :=
  match gens[d + 1]? with
  | some g' => wpAny (model prog w) A (eval g'.iter env) (fun x s₃ => wpAny (model prog w) A (pyIter x) (fun it2 s₄ =>
      codeAny (model prog w) A (.compStart (.ListComp elt gens scope pos) (d + 1) it2 acc env) (fun r s₅ => r = .ok .next ∧ Q s₅) s₄) (fun _ _ => False) s₃) (fun _ _ => False) s
  | none => wpAny (model prog w) A (eval elt env) (fun x s₄ => wpAny (model prog w) A (call (.builtin "list.append") [acc, x]) (fun _ s₅ => Q s₅) (fun _ _ => False) s₄) (fun _ _ => False) s
section
variable {prog : Program} {w : World} {A : Around} {R : Result → Shared → Prop} {s : Shared} {elt t i : Expr} {ifs : List Expr} {gens : List Comprehension} {scope : Scope} {pos : Pos} {d : Nat} {it acc : Value} {env : Env}
theorem compLoopN_any (hd : gens[d]? = some ⟨t, i, ifs, 0⟩) (ha : ∀ g', gens[d + 1]? = some g' → g'.is_async = 0 ∧ ∀ x, foldedSetIterable g'.iter env x = pure x) (I : Nat → Shared → Prop)
    (turn : ∀ n s, I n s → wpAny (model prog w) A (pyNext it) (fun r s₁ => match r with
      | none => R (.ok .next) s₁
      | some v => wpAny (model prog w) A (letOwnedTupleGo t it v) (fun _ s₁ => wpAny (model prog w) A (assign t env v) (fun _ s₂ =>
          wpAny (model prog w) A (forIn ifs true fun c r => if r = true then do let ok ← isTrue c env (eval c env); pure (ForInStep.yield ok) else pure (ForInStep.yield r)) (fun ok s₃ =>
            if ok = true then EmW prog w A elt gens scope pos d acc env (fun s₄ => ∃ m, m < n ∧ I m s₄) s₃
            else ∃ m, m < n ∧ I m s₃) (fun _ _ => False) s₂) (fun _ _ => False) s₁) (fun _ _ => False) s₁) (fun _ _ => False) s)
    (n : Nat) (h : I n s) :
    codeAny (model prog w) A (.compLoop (.ListComp elt gens scope pos) d it acc env) R s := by
  refine codeAny_loop rfl I (fun n s hI => ?_) n h
  show wpAny _ A ((compTurn (.ListComp elt gens scope pos) d it acc env).onRaise (fun x => do noteFrame x env; theTreesLotGoes x)) _ _ s
  refine wpAny_noted ?_
  unfold compTurn
  simp only [hd, bne_self_eq_false, Bool.false_eq_true, if_false]
  refine wpAny_bind (wpAny_standAt (wpAny_bind (wpAny_mono (turn n s hI) (fun r s₁ h₁ => ?_) fun _ _ h' => h'.elim)))
  cases r with
  | none => exact wpAny_pure h₁
  | some v =>
    refine wpAny_bind (wpAny_mono h₁ (fun _ s₁ h₁ => ?_) fun _ _ h' => h'.elim)
    refine wpAny_bind (wpAny_mono h₁ (fun _ s₂ h₂ => wpAny_bind (wpAny_mono h₂ (fun ok s₃ h₃ => ?_) fun _ _ h' => h'.elim)) fun _ _ h' => h'.elim)
    cases ok with
    | false => exact wpAny_pure ⟨rfl, h₃⟩
    | true =>
      rw [if_pos rfl] at h₃ ⊢
      unfold EmW at h₃
      cases hg : gens[d + 1]? with
      | none =>
        rw [hg] at h₃
        refine wpAny_bind (wpAny_bind (wpAny_mono h₃ (fun x s₄ h₄ => wpAny_bind (wpAny_mono h₄ (fun _ s₅ h₅ => ?_) fun _ _ h' => h'.elim)) fun _ _ h' => h'.elim))
        exact wpAny_pure (wpAny_pure ⟨rfl, h₅⟩)
      | some g' =>
        rw [hg] at h₃
        obtain ⟨as, hs⟩ := ha g' hg
        simp only [as, bne_self_eq_false, Bool.false_eq_true, if_false]
        refine wpAny_bind (wpAny_mono h₃ (fun x s₃ h₃ => wpAny_bind (wpAny_standAt (wpAny_bind (wpAny_of_eq (hs x) (wpAny_bind (wpAny_holding (wpAny_mono h₃ (fun it2 s₄ h₄ => ?_) fun _ _ h' => h'.elim))))))) fun _ _ h' => h'.elim)
        refine wpAny_bind (wpAny_runOwn (codeAny_mono h₄ fun r s₅ h₅ => ?_))
        obtain ⟨rfl, h₅⟩ := h₅
        exact wpAny_pure ⟨rfl, h₅⟩
theorem compStartN (hd : gens[d]? = some ⟨t, i, ifs, 0⟩) (hf : (Code.compStart (.ListComp elt gens scope pos) d it acc env).isFrame = false)
    (h1 : codeAny (model prog w) A (.compLoop (.ListComp elt gens scope pos) d it acc env) R s)
    (h2 : wpAny (model prog w) A (pyIter it) (fun it' s' => codeAny (model prog w) A (.compLoop (.ListComp elt gens scope pos) d it' acc env) R s') (fun _ _ => False) s) :
    codeAny (model prog w) A (.compStart (.ListComp elt gens scope pos) d it acc env) R s := by
  refine codeAny_of_tree ?_
  show wpAny _ A ((compStart (.ListComp elt gens scope pos) d it acc env).onRaise (fun x => do noteFrame x env; standAt theWindowsPlace)) _ _ s
  refine wpAny_onRaise ?_
  unfold compStart
  have hc : clausesOf (.ListComp elt gens scope pos) = gens := rfl
  simp only [hc, hd, Option.elim, bne_self_eq_false, Bool.false_eq_true, if_false]
  refine wpAny_bind (wpAny_askSetting ?_)
  split
  · exact wpAny_pure ⟨rfl, h1⟩
  · refine wpAny_bind (wpAny_rule (wpAny_bind (wpAny_standAt (wpAny_bind (wpAny_mono h2 (fun it' s' h' => ?_) fun _ _ z => z.elim)))))
    exact wpAny_pure ⟨rfl, h'⟩
end
end L2
namespace L2
open PySem PySem.Spec PyProof.Rows
theorem EmW.mono {prog : Program} {w : World} {A : Around} {elt : Expr} {gens : List Comprehension} {scope : Scope} {pos : Pos} {d : Nat} {acc : Value} {env : Env} {Q Q' : Shared → Prop} {s : Shared} (h : EmW prog w A elt gens scope pos d acc env Q s) (hQ : ∀ s', Q s' → Q' s') : EmW prog w A elt gens scope pos d acc env Q' s := by
  unfold EmW at h ⊢
  cases hg : gens[d + 1]? with
  | none =>
    rw [hg] at h
    exact thn h fun x s₄ h₄ => thn h₄ fun _ s₅ h₅ => hQ _ h₅
  | some g' =>
    rw [hg] at h
    exact thn h fun x s₃ h₃ => thn h₃ fun it2 s₄ h₄ => codeAny_mono h₄ fun r s₅ h₅ => ⟨h₅.1, hQ _ h₅.2⟩
abbrev WK := List V → St → Hp → Prop
abbrev IN := List V → St → Hp → WK → Prop
def wElt (te : TE) : IN := fun ys σ H R => ys.length < sizeLine ∧ te σ H fun v H5 => R (ys ++ [v]) σ H5
def wLoop (g : TG) (tc : TT) (inn : IN) (J : It) : IN := fun ys σ H R =>
  ∃ W : WC, (∃ m, W 0 m ys σ H) ∧ ∀ i m ys' σ' H', W i m ys' σ' H' →
    (J.stop i H' ∧ R ys' σ' H') ∨
    (J.go i H' ∧ ∀ x H2, J.yld i H' x H2 → g x σ' H2 fun σ2 H3 => tc σ2 H3 fun b H4 => if b = true then inn ys' σ2 H4 (fun ys2 σ3 H5 => ∃ m', m' < m ∧ W (i + 1) m' ys2 σ3 H5) else ∃ m', m' < m ∧ W (i + 1) m' ys' σ2 H4)
def wGen (wi : TI) (g : TG) (tc : TT) (inn : IN) : IN := fun ys σ H R => wi σ H fun J H4 => wLoop g tc inn J ys σ H4 R
def Lob (its : List Value) (k : Nat) : Obj := { cls := .type "list", data := .seq its.toArray k }
structure DOk (Y : Cx) (base : List (Addr × Obj)) (D : Addr) : Prop where
  loc : D ≠ Y.env.locals
  sz : Y.s₀.heap.objs.size ≤ D
  cel : ∀ x c, Y.env.cells.lookup x = some c → c ≠ D
  pin : ∀ p ∈ Y.pn ++ base, p.1 ≠ D
inductive Chain (Y : Cx) (gens : List Comprehension) (elt : Expr) : Nat → IN → Prop
  | last {d : Nat} {te : TE} (hn : gens[d + 1]? = none) (he : PE Y elt te) : Chain Y gens elt d (wElt te)
  | more {d : Nat} {t i : Expr} {ifs : List Expr} {wi : TI} {g : TG} {tc : TT} {inn : IN} (hd : gens[d + 1]? = some ⟨t, i, ifs, 0⟩) (hi : PI Y t i wi) (hg : PG Y t g) (ht : PIf Y ifs tc) (hs : ∀ x, foldedSetIterable i Y.env x = pure x) (rest : Chain Y gens elt (d + 1) inn) : Chain Y gens elt d (wGen wi g tc inn)
theorem Chain.next {Y : Cx} {gens : List Comprehension} {elt : Expr} {d : Nat} {inn : IN} (c : Chain Y gens elt d inn) : ∀ g', gens[d + 1]? = some g' → g'.is_async = 0 ∧ ∀ x, foldedSetIterable g'.iter Y.env x = pure x := by
  intro g' h
  cases c with
  | last hn _ => rw [hn] at h; cases h
  | more hd _ _ _ hs _ => rw [hd] at h; cases h; exact ⟨rfl, hs⟩
section
variable {Y : Cx} {base : List (Addr × Obj)} {D : Addr} {elt : Expr} {gens : List Comprehension} {scope : Scope} {pos : Pos}
def At (Y : Cx) (base : List (Addr × Obj)) (D : Addr) (P : List (Addr × Obj)) (R : WK) (s' : Shared) : Prop :=
  ∃ σ' H' ys' its' k', Inv Y (base ++ ((D, Lob its' k') :: P)) σ' H' s' ∧ Vals ys' its' ∧ R ys' σ' H'
def BodyP (Y : Cx) (base : List (Addr × Obj)) (D : Addr) (elt : Expr) (gens : List Comprehension) (scope : Scope) (pos : Pos) (d : Nat) (inn : IN) : Prop :=
  ∀ (P : List (Addr × Obj)) (s : Shared) (σ : St) (H : Hp) (ys : List V) (its : List Value) (k : Nat) (R : WK), (∀ p ∈ P, p.1 ≠ D) → Inv Y (base ++ ((D, Lob its k) :: P)) σ H s → Vals ys its → inn ys σ H R →
    EmW Y.prog Y.w Y.A elt gens scope pos d (.ref D) Y.env (At Y base D P R) s
theorem mem_D {p : Addr × Obj} {P : List (Addr × Obj)} {o : Obj} (h : p ∈ base ++ ((D, o) :: P)) : p ∈ base ∨ p = (D, o) ∨ p ∈ P := by
  rcases List.mem_append.mp h with z | z
  · exact .inl z
  · exact .inr (List.mem_cons.mp z)
theorem loop_of_body {d : Nat} {t i : Expr} {ifs : List Expr} {g : TG} {tc : TT} {inn : IN} (hxe : Y.xe = fun _ _ => False) (hc : Y.calm = true) (hd : gens[d]? = some ⟨t, i, ifs, 0⟩) (ch : ∀ g', gens[d + 1]? = some g' → g'.is_async = 0 ∧ ∀ x, foldedSetIterable g'.iter Y.env x = pure x)
    (hg : PG Y t g) (ht : PIf Y ifs tc) (body : BodyP Y base D elt gens scope pos d inn)
    {P : List (Addr × Obj)} {J : It} {fp : List Addr} {it : Addr} {tn : Nat → Heap → Prop} {s : Shared} {σ : St} {H : Hp} {ys : List V} {its : List Value} {k : Nat} {R : WK} (hP : ∀ p ∈ P, p.1 ≠ D)
    (I : Inv Y (base ++ ((D, Lob its k) :: P)) σ H s) (rv : Vals ys its) (T : Turn Y.prog Y.w Y.K t J fp it tn) (st : tn 0 s.heap) (f : ∀ b ∈ fp, FpOk Y (base ++ ((D, Lob its k) :: P)) H b) (w : wLoop g tc inn J ys σ H R) :
    codeAny (model Y.prog Y.w) Y.A (.compLoop (.ListComp elt gens scope pos) d (.ref it) (.ref D) Y.env) (fun r s' => r = .ok .next ∧ At Y base D P R s') s := by
  obtain ⟨W, ⟨m0, w0⟩, turn⟩ := w
  have stat : ∀ {H' : Hp} {oD : Obj}, (∀ b ∈ fp, H' b = none) → ∀ b ∈ fp, FpOk Y (base ++ ((D, oD) :: P)) H' b := fun {H' oD} hn b hb => by
    obtain ⟨f0, f1, f2, f3, f4, f5⟩ := f b hb
    refine ⟨hn b hb, f1, f2, f3, f4, fun p hp => ?_⟩
    rcases List.mem_append.mp hp with z | z
    · exact f5 p (List.mem_append_left _ z)
    · rcases mem_D z with z | z | z
      · exact f5 p (List.mem_append_right _ (List.mem_append_left _ z))
      · have := f5 (D, Lob its k) (List.mem_append_right _ (List.mem_append_right _ List.mem_cons_self))
        rw [z]; exact this
      · exact f5 p (List.mem_append_right _ (List.mem_append_right _ (List.mem_cons_of_mem _ z)))
  have fD : ∀ b ∈ fp, b ≠ D := fun b hb => by
    obtain ⟨_, _, _, _, _, f5⟩ := f b hb
    exact (f5 (D, Lob its k) (List.mem_append_right _ (List.mem_append_right _ List.mem_cons_self))).symm
  refine compLoopN_any hd ch (fun n s' => ∃ j σ' H' ys' its' k', Inv Y (base ++ ((D, Lob its' k') :: P)) σ' H' s' ∧ tn j s'.heap ∧ (∀ b ∈ fp, H' b = none) ∧ Vals ys' its' ∧ W j n ys' σ' H') ?_ m0 ⟨0, σ, H, ys, its, k, I, st, fun b hb => (f b hb).1, rv, w0⟩
  rintro n s' ⟨j, σj, Hj, ysj, itsj, kj, Ij, stj, frj, rvj, wj⟩
  rcases turn j n ysj σj Hj wj with ⟨stop, q⟩ | ⟨go, step⟩
  · refine thn (T.done Y rfl rfl rfl hc j _ s' σj Hj _ Ij (stat frj) stj stop) fun r s2 ⟨hr, I2⟩ => ?_
    subst hr
    exact ⟨rfl, σj, Hj, ysj, itsj, kj, I2, rvj, q⟩
  · refine thn (T.item Y rfl rfl rfl hc j _ s' σj Hj _ Ij (stat frj) stj go) fun r s4 ⟨u, hr, h4⟩ => ?_
    subst hr
    refine thn h4 fun _ s5 ⟨x, H5, I5, r5, y5, st5, fr5⟩ => ?_
    have I5' := I5.pinned (stat fr5) (T.obj _ _ st5)
    rw [List.append_assoc, List.cons_append] at I5'
    have hP' : ∀ p ∈ P ++ pinsAt fp s5.heap, p.1 ≠ D := fun p hp => by
      rcases List.mem_append.mp hp with z | z
      · exact hP p z
      · obtain ⟨hb, _⟩ := of_pinsAt z
        exact fD _ hb
    have keep : ∀ {s' : Shared} {σ' : St} {H' : Hp} {oD : Obj}, Inv Y (base ++ ((D, oD) :: (P ++ pinsAt fp s5.heap))) σ' H' s' → tn (j + 1) s'.heap ∧ (∀ b ∈ fp, H' b = none) ∧ Inv Y (base ++ ((D, oD) :: P)) σ' H' s' := fun {s' σ' H' oD} I' => by
      have pin : ∀ p ∈ pinsAt fp s5.heap, p ∈ Y.pn ++ (base ++ ((D, oD) :: (P ++ pinsAt fp s5.heap))) := fun p hp => List.mem_append_right _ (List.mem_append_right _ (List.mem_cons_of_mem _ (List.mem_append_right _ hp)))
      refine ⟨T.keep _ _ _ st5 fun b hb o e => (I'.pin (b, o) (pin _ (mem_pinsAt hb e))).1, fun b hb => ?_, ?_⟩
      · obtain ⟨o, e, d⟩ := T.obj _ _ st5 b hb
        exact (I'.pin (b, o) (pin _ (mem_pinsAt hb e))).2.1
      · have := I'
        rw [← List.cons_append, ← List.append_assoc] at this
        exact this.unpinned
    have h6 := hg _ s5 σj H5 x u _ I5' r5 (step x H5 y5)
    rw [hxe] at h6
    refine thn h6 fun _ s6 ⟨σ6, H6, I6, q6⟩ => ?_
    have h7 := ht _ s6 σ6 H6 _ I6 q6
    rw [hxe] at h7
    refine thn h7 fun ok s7 ⟨H7, I7, q7⟩ => ?_
    cases ok with
    | false =>
      rw [if_neg Bool.false_ne_true] at q7 ⊢
      obtain ⟨m', hm, wm⟩ := q7
      obtain ⟨k1, k2, k3⟩ := keep I7
      exact ⟨m', hm, j + 1, σ6, H7, ysj, itsj, kj, k3, k1, k2, rvj, wm⟩
    | true =>
      rw [if_pos rfl] at q7 ⊢
      refine (body (P ++ pinsAt fp s5.heap) s7 σ6 H7 ysj itsj kj _ hP' I7 rvj q7).mono fun s8 ⟨σ8, H8, ys8, its8, k8, I8, rv8, m', hm, wm⟩ => ?_
      obtain ⟨k1, k2, k3⟩ := keep I8
      exact ⟨m', hm, j + 1, σ8, H8, ys8, its8, k8, k3, k1, k2, rv8, wm⟩
theorem bodyN (hxe : Y.xe = fun _ _ => False) (hc : Y.calm = true) (dk : DOk Y base D) (hfr : ∀ d it acc env, (Code.compStart (.ListComp elt gens scope pos) d it acc env).isFrame = false) {d : Nat} {inn : IN} (c : Chain Y gens elt d inn) : BodyP Y base D elt gens scope pos d inn := by
  induction c with
  | @last d te hn he =>
    intro P s σ H ys its k R hP I rv h
    unfold EmW
    rw [hn]
    obtain ⟨hz, h⟩ := h
    have h1 := he _ s σ H _ I h
    rw [hxe] at h1
    refine thn h1 fun z s13 ⟨v13, H13, I13, r13, w13⟩ => ?_
    have inD : (D, Lob its k) ∈ Y.pn ++ (base ++ ((D, Lob its k) :: P)) := List.mem_append_right _ (List.mem_append_right _ List.mem_cons_self)
    have pD := I13.pin _ inD
    have I13v : Inv Y base σ H13 s13 := I13.unpinned
    have len := rv.length
    refine wpAny_list_append_plain (items := its.toArray) (hsz := by simp; omega) ⟨k, pD.1⟩ fun h9 hl9 hs9 => ?_
    obtain ⟨k9, e9⟩ := hl9
    have I9 : Inv Y base σ H13 { s13 with heap := h9 } := I13v.turned (t' := s13.toks) (it := D) (fun b o hb e => hs9.extBut b o hb e) pD.2.1 dk.loc (.inr dk.sz) dk.cel dk.pin
    have e9' : h9.get? D = some (Lob (its ++ [z]) k9) := by
      rw [e9]; unfold Lob; simp
    refine ⟨σ, H13, ys ++ [v13], its ++ [z], k9, I9.pins_of fun p hp => ?_, rv.append (.cons r13 .nil), w13⟩
    rcases mem_D hp with q | q | q
    · exact I9.pin p (List.mem_append_right _ q)
    · subst q
      exact ⟨e9', pD.2.1, pD.2.2.1, pD.2.2.2.1, fun v z => by cases z⟩
    · obtain ⟨a1, a2, a3, a4, a5⟩ := I13.pin p (List.mem_append_right _ (List.mem_append_right _ (List.mem_cons_of_mem _ q)))
      exact ⟨hs9.extBut p.1 p.2 (hP p q) a1, a2, a3, a4, a5⟩
  | @more d t i ifs wi g tc inn hd hi hg ht hs rest ih =>
    intro P s σ H ys its k R hP I rv h
    unfold EmW
    rw [hd]
    have h1 := hi _ s σ H _ I h
    rw [hxe] at h1
    refine thn h1 fun v s7 h7 => thn h7 fun itv2 s8 h8 => ?_
    obtain ⟨it2, fp2, tn2, J2, H8, rfl, I8, T2, st8, f8, w8⟩ := h8
    have lp := loop_of_body (s := s8) hxe hc hd rest.next hg ht ih hP I8 rv T2 st8 f8 w8
    exact compStartN hd (hfr _ _ _ _) lp (T2.self _ 0 _ _ _ st8 lp)
end
end L2
namespace L2
open PySem PySem.Spec PyProof.Rows
def fin (Q : VK) : WK := fun ys _ H' => ys.length ≤ sizeLine ∧ ∀ p, H' p = none → Q (.ref p) (upd H' p (.lst ys))
def tCompN (ix : List (Option Nat)) (wi : TI) (g : TG) (tc : TT) (inn : IN) : TE := fun σ H Q => wi σ H fun J H1 => wLoop g tc inn J [] (startC ix σ) H1 (fin Q)
section
variable {X : Cx} {scope : Scope} {N : List Str} {ix : List (Option Nat)} {elt tg iter : Expr} {ifs : List Expr} {gens : List Comprehension} {g : TG} {tc : TT} {inn : IN} {pos : Pos}
theorem comp_blockN {pins : List (Addr × Obj)} {σ : St} {s2 : Shared} {Q : VK} {itv : Value} {RR : Value → Addr → Result → Shared → Prop} {E : Value → Shared → Prop} (c : CompOk X scope N ix) (hc : X.calm = true)
    (hd0 : gens[0]? = some ⟨tg, iter, ifs, 0⟩) (hg : ∀ C fp s H, PG (cxC X N scope C fp s H) tg g) (ht : ∀ C fp s H, PIf (cxC X N scope C fp s H) ifs tc) (hch : ∀ C fp s H, Chain (cxC X N scope C fp s H) gens elt 0 inn)
    (h2 : PIE X pins σ tg (fun J H1 => wLoop g tc inn J [] (startC ix σ) H1 (fin Q)) itv s2)
    (hR : ∀ (D C : Addr) (s' : Shared) (H' : Hp) (m : Str → Option Value), Inv X pins σ H' s' → s'.heap.Ns C m → H' C = none → X.s₀.heap.objs.size ≤ C → (∀ p ∈ X.pn ++ pins, p.1 ≠ C) → C ≠ X.env.locals → (∀ x c, X.env.cells.lookup x = some c → c ≠ C) → Q (.ref D) H' → RR (.ref D) C (.ok .next) s') :
    wpAny (model X.prog X.w) X.A (newList []) (fun acc s₃ => wpAny (model X.prog X.w) X.A (newFunctionEnv scope X.env.globals (closL X.env.cells scope.names []) [] X.env.qual none .none (some X.env)) (fun cenv s₄ =>
      codeAny (model X.prog X.w) X.A (.compStart (.ListComp elt gens scope pos) 0 itv acc { cenv with scope := relabel scope X.env }) (RR acc cenv.locals) s₄) E s₃) E s2 := by
  obtain ⟨it, fp, tn, J, H2, rfl, I2, T, st2, f2, wl⟩ := h2
  refine wpAny_newObj_type (wpAny_newFunctionEnv c.nocell (by intro y hy; simp at hy) (fun h₁ hns₁ hsb₁ => ?_) c.kind)
  dsimp only at hns₁ hsb₁ ⊢
  generalize hH2 : s2.heap.push { cls := .type "list", dict := none, data := .seq ([] : List Value).toArray } = G2 at hns₁ hsb₁ ⊢
  have hCs : G2.objs.size = s2.heap.objs.size + 1 := by rw [← hH2, Heap.size_push]
  generalize hCe : G2.objs.size = C at hns₁ hsb₁ hCs ⊢
  generalize hDe : s2.heap.objs.size = D at hCs ⊢
  have ltC : ∀ b, @LT.lt Nat _ b D → b ≠ C := fun b hb => Nat.ne_of_lt (by rw [hCs]; exact Nat.lt_succ_of_lt hb)
  have ltS : ∀ b o, s2.heap.get? b = some o → @LT.lt Nat _ b D := fun b o e => by rw [← hDe]; exact Heap.lt_size e
  have hDC : D ≠ C := Nat.ne_of_lt (by rw [hCs]; exact Nat.lt_succ_self _)
  have old : ∀ b o, s2.heap.get? b = some o → h₁.get? b = some o := fun b o e => hsb₁.extBut b o (ltC b (ltS b o e)) (Heap.get?_push_of_some _ (hH2 ▸ Heap.get?_push_of_some _ e))
  have hoD : h₁.get? D = some { cls := .type "list", dict := none, data := .seq ([] : List Value).toArray } := by
    refine hsb₁.extBut _ _ hDC (Heap.get?_push_of_some _ ?_)
    rw [← hH2, ← hDe]
    exact Heap.get?_push_size _ rfl
  have I4 : Inv (cxC X N scope C fp s2 H2) (pins ++ [(D, { cls := .type "list", data := .seq ([] : List Value).toArray })]) (startC ix σ) H2 { s2 with heap := h₁, toks := s2.toks + ([] : List (Str × Value)).length } :=
    c.enter I2 f2 (T.obj _ _ st2) (by rw [hCs, hDe]) hDe.symm old hns₁ hoD fun v z => by cases z
  have st4 : tn 0 h₁ := T.keep _ _ _ st2 fun b _ o e => old b o e
  have pinD : ∀ p ∈ X.pn ++ pins, p.1 ≠ D := fun p hp => Nat.ne_of_lt (ltS _ _ (I2.pin p hp).1)
  have pinC : ∀ p ∈ X.pn ++ pins, p.1 ≠ C := fun p hp => ltC _ (ltS _ _ (I2.pin p hp).1)
  have celD : ∀ x d, X.env.cells.lookup x = some d → @LT.lt Nat _ d D := fun x d e => by
    obtain ⟨v, o, ho, _⟩ := I2.cell x d e
    exact ltS d o ho
  have fpD : ∀ b ∈ fp, @LT.lt Nat _ b D := fun b hb => by
    obtain ⟨o, e, _⟩ := T.obj _ _ st2 b hb
    exact ltS b o e
  have sub : ∀ x d, (closL X.env.cells scope.names []).lookup x = some d → X.env.cells.lookup x = some d := fun x d e => by
    rcases closL_sub e with z | z
    · simp at z
    · exact z
  have stat : ∀ {H' : Hp} {oD : Obj}, (∀ b ∈ fp, H' b = none) → ∀ b ∈ fp, FpOk (cxC X N scope C fp s2 H2) (pins ++ [(D, oD)]) H' b := fun {H' oD} hn b hb => by
    obtain ⟨f0, f1, f2, f3, f4, f5⟩ := f2 b hb
    refine ⟨hn b hb, ltC b (fpD b hb), fun z => ?_, .inl hb, fun x d e => f4 x d (sub x d e), fun p hp => ?_⟩
    · rcases List.mem_cons.mp (I2.stkSub b z) with e | e
      · exact f1 e
      · exact f2 e
    · have hp : p ∈ X.pn ++ (pins ++ [(D, oD)]) := hp
      rw [← List.append_assoc] at hp
      rcases List.mem_append.mp hp with z | z
      · exact f5 p z
      · have e : p = (D, oD) := by simpa using z
        subst e
        exact Nat.ne_of_gt (fpD b hb)
  have dk : DOk (cxC X N scope C fp s2 H2) pins D := ⟨hDC, by show s2.heap.objs.size ≤ D; rw [hDe]; exact Nat.le_refl _, fun x d e => Nat.ne_of_lt (celD x d (sub x d e)), pinD⟩
  have lp : ∀ s3 : Shared, s3 = { s2 with heap := h₁, toks := s2.toks + ([] : List (Str × Value)).length } →
      codeAny (model X.prog X.w) X.A (.compLoop (.ListComp elt gens scope pos) 0 (.ref it) (.ref D) (cxC X N scope C fp s2 H2).env) (RR (.ref D) C) s3 := by
    rintro s3 rfl
    refine codeAny_mono (loop_of_body (Y := cxC X N scope C fp s2 H2) (base := pins) (D := D) (P := []) (its := []) (k := 0) rfl (show (cxC X N scope C fp s2 H2).calm = true from hc) hd0 (hch C fp s2 H2).next (hg C fp s2 H2) (ht C fp s2 H2) (bodyN (Y := cxC X N scope C fp s2 H2) rfl (show (cxC X N scope C fp s2 H2).calm = true from hc) dk (fun _ _ _ _ => rfl) (hch C fp s2 H2)) (fun p hp => nomatch hp) I4 .nil T st4 (stat fun b hb => (f2 b hb).1) wl) fun r s4 ⟨hr, σ4, H4, ys4, its4, k4, I4, rv4, hz, qn⟩ => ?_
    subst hr
    have hDn : H4 D = none := (I4.pin (D, _) (List.mem_append_right _ (List.mem_append_right _ List.mem_cons_self))).2.1
    obtain ⟨m4, hn4, _⟩ := id I4.loc
    refine hR D C s4 _ m4 (c.leave I2 f2 (by rw [hCs, hDe]) hDe.symm I4 rv4 hz) hn4 ?_ ?_ pinC ?_ (fun x d e => ltC d (celD x d e)) (qn D hDn)
    · rw [upd_ne hDC.symm]; exact I4.free
    · refine Nat.le_trans I2.sz ?_
      rw [hDe, hCs]; exact Nat.le_succ _
    · refine Nat.ne_of_gt (Nat.lt_of_lt_of_le I2.lt ?_)
      rw [hDe, hCs]; exact Nat.le_succ _
  exact compStartN hd0 rfl (lp _ rfl) (T.self _ 0 _ _ _ st4 (lp _ rfl))
variable {wi : TI}
theorem ps_compN {gs : List Comprehension} {i : Nat} {x : Str} {px spos : Pos} (hN : X.N.Nodup) (hx0 : X.N[i]? = some x) (hx : X.env.scope.names.lookup x = some .local) (c : CompOk X scope N ix) (hc : X.calm = true) (hi : PI X tg iter wi) (hg : ∀ C fp s H, PG (cxC X N scope C fp s H) tg g) (ht : ∀ C fp s H, PIf (cxC X N scope C fp s H) ifs tc) (hch : ∀ C fp s H, Chain (cxC X N scope C fp s H) (⟨tg, iter, ifs, 0⟩ :: gs) elt 0 inn)
    (hsw : swapsWith (.ListComp elt (⟨tg, iter, ifs, 0⟩ :: gs) scope pos) (some (.Name x px)) spos.line X.env = pure true := by rfl)
    (hs : ∀ x, foldedSetIterable iter X.env x = pure x := by intro _; rfl) : PS X (.Assign [.Name x px] (.ListComp elt (⟨tg, iter, ifs, 0⟩ :: gs) scope pos) spos) (tAsg (tCompN ix wi g tc inn) (gName i)) := by
  intro pins s σ H D0 I h
  rw [exec_Assign_Name_used _ _ _ _ hsw]
  refine wpAny_bind (wpAny_standAt (wpAny_bind ?_))
  show wpAny _ _ (do let _ ← comprehension (.ListComp elt (⟨tg, iter, ifs, 0⟩ :: gs) scope pos) scope X.env _ (newList []) false (eval iter X.env) (some (assign (.Name x px) X.env))) _ _ s
  have hcl : ∀ y ∈ scope.names, y.2 = NameKind.free → ∃ d, X.env.cells.lookup y.1 = some d := fun y hy e => I.ok.has _ (c.fr y hy e)
  refine wpAny_bind (wpAny_mono (wpAny_comprehension_free (use := some (assign (.Name x px) X.env)) (Q := fun _ s' => SP X pins D0 .next s') rfl hs (closureFor_eq hcl) c.kind c.names
    (thn (hi pins s σ H _ I h) fun v s1 h1 => thn h1 fun itv s2 h2 => ?_)) (fun _ s' hq => wpAny_pure (wpAny_pure hq)) fun _ _ e => e)
  refine comp_blockN (RR := fun acc C => compPost (model X.prog X.w) X.A X.xe (some (assign (.Name x px) X.env)) (fun _ s' => SP X pins D0 .next s') acc C) c hc rfl hg ht hch h2 ?_
  intro D C s' H' m I' hn hC hz hp hL hcells q
  show wpAny _ _ (assign (.Name x px) X.env (.ref D)) _ _ _
  refine wpAny_assign_Name (store_ok2 (v := .ref D) I' hN hx0 (.inl hx) rfl (fun s'' I'' hsb => ?_) (.inr hx))
  obtain ⟨a, sb, ha⟩ := hsb
  have haC : a ≠ C := by
    rcases ha with e | e
    · rw [e]; exact hL.symm
    · exact hcells x a e
  refine ⟨m, hn.sameBut sb haC.symm, fun h' hs' => ⟨_, H', I''.turned (t' := s''.toks) (fun b o hb e => hs'.extBut b o hb e) hC hL (.inr hz) hcells hp, q⟩⟩
end
end L2
namespace L2
open PySem PySem.Spec PyProof.Rows
structure DObj (P : Program) (w : World) (o : Obj) (xs : List (List Key × Addr × Value)) : Prop where
  ex : ∃ es ep, o.ExactDict ∧ o.data = .dict es ep ∧ es.toList = xs.map (entryOfKey (tupleKind (mixKind P w))) ∧ (xs.map (·.1)).Nodup
end L2
namespace L2
open PySem PySem.Spec PyProof.Rows PySem.SeqAt
theorem TupsV.get {H : Hp} {vs : List V} {ks : List (List Int)} (x : TupsV H vs ks) {i : Nat} {v : V} (h : vs[i]? = some v) : ∃ a p, v = .ref a ∧ H a = some (.tup (p.map V.int)) ∧ ks[i]? = some p := by
  rcases Paired.at' i x with ⟨v', p, e1, e2, a, e3, ha⟩ | ⟨e1, _⟩
  · rw [h] at e1; cases e1
    exact ⟨a, p, e3, ha, e2⟩
  · rw [h] at e1; cases e1
theorem TupsV.same {H H' : Hp} {vs : List V} {ks : List (List Int)} (x : TupsV H vs ks) (s : Same H H') : TupsV H' vs ks := x.keep fun _ _ e => s _ _ e
end L2
namespace L2
open PySem PySem.Spec PyProof.Rows
theorem lexLt_B : ∀ a b : List Int, HT.lexLt a b = lexB a b
  | [], [] => rfl
  | [], _ :: _ => rfl
  | _ :: _, [] => rfl
  | a :: r, c :: q => by rw [HT.lexLt_cons, lexLt_B r q]; rfl
section
variable {prog : Program} {w : World} {A : Around} {R : Result → Shared → Prop} {E : Value → Shared → Prop}
theorem rc_tup {s : Shared} {v u : Value} {ns ms : List Int} {Q : Value → Shared → Prop} (hv : TupAt s.heap v ns) (hw : TupAt s.heap u ms) (hu : A.units < cLine) (q : Q (.bool (lexB ns ms)) s) : wpAny (model prog w) A (richCompare .Lt v u) Q E s := by
  obtain ⟨a, o, xs, n, rfl, e2, e3, e4, ia⟩ := hv
  obtain ⟨b, p, ys, m, rfl, f2, f3, f4, ib⟩ := hw
  rw [← lexLt_B] at q
  exact HT.lt_tupInts ⟨o, e2, e3, n, e4⟩ ⟨p, f2, f3, m, f4⟩ ia ib hu q
theorem min_args (a d : Value) : argsOk "min" ⟨[a], [(Str.ofString "default", d)]⟩ := by unfold argsOk; kernel_rfl
theorem min_loopD {h0 : Heap} {l I S : Addr} {vs : List Value} {Ls : List (List Int)} {d : Value} (hh : A.in1.handled = none) (hu : A.in1.units < cLine) (all : AllTup h0 vs Ls) (hlI : l ≠ I) (hSI : S ≠ I) (hSl : S ≠ l) (nI : h0.get? I = none) (nS : h0.get? S = none) :
    ∀ (k j i : Nat) (s : Shared) (vb : Value) (c : Nat), vs.length - (j + 1) = k → j + 1 ≤ vs.length → s.heap.IsListIter I l (j + 1) ∧ s.heap.IsList l vs.toArray → (∀ b o, h0.get? b = some o → s.heap.get? b = some o) →
    vs[i]? = some vb → (∀ m, m ≤ j → lexB (Ls.getD m []) (Ls.getD i []) = false) →
    s.heap.get? S = some { cls := .type "list", dict := none, data := .seq #[vb, vb] c, slots := #[] } →
    (∀ i v h' tk, vs[i]? = some v → (∀ m, m < vs.length → lexB (Ls.getD m []) (Ls.getD i []) = false) → (∀ b o, h0.get? b = some o → h'.get? b = some o) → R (.ok (.ret v)) { s with heap := h', toks := tk }) →
    codeAny (model prog w) A (.builtin "min.loop" ⟨[.ref I, .none, .ref S], [(Str.ofString "default", d)]⟩) R s := by
  have hname : (toString "min" ++ toString ".loop" : String) = "min.loop" := by decide
  have W := Walks.list (prog := prog) (w := w) (A := A.in1) hh I l hlI vs.toArray
  have hsz : vs.toArray.size = vs.length := List.size_toArray ..
  have old : ∀ {h h' : Heap}, (∀ b o, h0.get? b = some o → h.get? b = some o) → (∀ b o, b ∉ [I] → h.get? b = some o → h'.get? b = some o) → ∀ b o, h0.get? b = some o → h'.get? b = some o := fun k1 k2 b o e => k2 b o (fun z => by
    have z : b = I := by simpa using z
    rw [z, nI] at e; cases e) (k1 b o e)
  have oldS : ∀ {h h' : Heap}, (∀ b o, h0.get? b = some o → h.get? b = some o) → (∀ b o, b ≠ S → h.get? b = some o → h'.get? b = some o) → ∀ b o, h0.get? b = some o → h'.get? b = some o := fun k1 k2 b o e => k2 b o (fun z => by rw [z, nS] at e; cases e) (k1 b o e)
  have tup : ∀ {h : Heap} {i : Nat} {v : Value}, (∀ b o, h0.get? b = some o → h.get? b = some o) → vs[i]? = some v → TupAt h v (Ls.getD i []) := fun {h i v} k e => by
    have lt := (List.getElem?_eq_some_iff.mp e).1
    have ll := all.1
    refine ((all.keep k).2 i v _ e ?_).1
    rw [List.getD_eq_getElem?_getD, List.getElem?_eq_getElem (by omega)]; rfl
  intro k
  induction k with
  | zero =>
    intro j i s vb c hk hj hst k0 hvb hm hS hR
    have hin : j + 1 = vs.length := by omega
    refine codeAny_builtin F.entry_min_loop ?_
    rw [Around.under_plainId F.plain_min_loop _]
    show wpAny _ A.in1 (seqItems? (.ref S) >>= _) _ _ s
    refine wpAny_bind (wpAny_seqItems hS rfl ?_)
    show wpAny _ A.in1 (tryCatch (pyNext (.ref I)) _ >>= _) _ _ s
    refine wpAny_bind (wpAny_tryCatch (W.done s _ _ (by rw [hsz, ← hin]; exact hst) fun h' tk hk' => ?_))
    have hS' := hk' S _ (by simpa using hSI) hS
    show wpAny _ A.in1 (updateSeq S (fun _ => #[]) >>= _) _ _ _
    refine wpAny_bind ?_
    refine wpAny_updateSeq hS' rfl (wpAny_bind (wpAny_letGo (wpAny_pure ?_)))
    exact hR i vb _ tk hvb (fun m hm' => hm m (by omega)) (oldS (old k0 hk') fun b o hb e => (Heap.get?_update_other _ _ (Ne.symm hb)).trans e)
  | succ k ih =>
    intro j i s vb c hk hj hst k0 hvb hm hS hR
    have hlt : j + 1 < vs.length := by omega
    refine codeAny_builtin F.entry_min_loop ?_
    rw [Around.under_plainId F.plain_min_loop _]
    show wpAny _ A.in1 (seqItems? (.ref S) >>= _) _ _ s
    refine wpAny_bind (wpAny_seqItems hS rfl ?_)
    show wpAny _ A.in1 (tryCatch (pyNext (.ref I)) _ >>= _) _ _ s
    refine wpAny_bind (wpAny_tryCatch (W.item (j + 1) s _ _ (by rw [hsz]; exact hlt) hst fun v h' tk hP hst' hk' => ?_))
    have hP : vs[j + 1]? = some v := by simpa using hP
    have hS' := hk' S _ (by simpa using hSI) hS
    have k1 := old k0 hk'
    show wpAny _ A.in1 (tryCatch (holding [v, v] (richCompare .Lt v vb >>= _)) _ >>= _) _ _ _
    refine wpAny_bind (wpAny_tryCatch (wpAny_holding (wpAny_bind (rc_tup (tup k1 hP) (tup k1 hvb) hu ?_))))
    refine wpAny_bind (wpAny_holding (wpAny_truthy_bool ?_))
    refine wpAny_bind (wpAny_letGo (wpAny_pure ?_))
    cases hb : lexB (Ls.getD (j + 1) []) (Ls.getD i []) with
    | true =>
      simp only [if_true]
      refine wpAny_bind ?_
      refine wpAny_updateSeq hS' rfl (wpAny_bind (wpAny_letGo ?_))
      rw [hname]
      refine wpAny_pure ⟨plainId_quiet F.plain_min_loop _, ih (j + 1) (j + 1) _ v _ (by omega) hlt (W.frame _ _ _ hst' fun b hbf o e => ?_) (oldS k1 fun b o hb e => (Heap.get?_update_other _ _ (Ne.symm hb)).trans e) hP (fun m hm' => ?_) (Heap.get?_update_self _ hS' rfl) hR⟩
      · refine (Heap.get?_update_other _ _ (fun h : S = b => ?_)).trans e
        rcases List.mem_cons.mp hbf with z | z
        · exact hSI (h.trans z)
        · exact hSl (h.trans (by simpa using z))
      · by_cases e : m = j + 1
        · rw [e]; exact lexB_irr _
        · cases z : lexB (Ls.getD m []) (Ls.getD (j + 1) []) with
          | false => rfl
          | true =>
            have := lexB_trans z hb
            rw [hm m (by omega)] at this; cases this
    | false =>
      simp only [Bool.false_eq_true, if_false]
      refine wpAny_bind (wpAny_letGo ?_)
      rw [hname]
      refine wpAny_pure ⟨plainId_quiet F.plain_min_loop _, ih (j + 1) i _ vb c (by omega) hlt hst' k1 hvb (fun m hm' => ?_) hS' hR⟩
      by_cases e : m = j + 1
      · rw [e]; exact hb
      · exact hm m (by omega)
theorem min_tupsD {s : Shared} {l : Addr} {vs : List Value} {Ls : List (List Int)} {d : Value} {Q : Value → Shared → Prop} (hh : A.in1.handled = none) (hu : A.in1.units < cLine) (hl : s.heap.IsList l vs.toArray) (all : AllTup s.heap vs Ls)
    (h0 : vs = [] → ∀ h' tk, (∀ b o, s.heap.get? b = some o → h'.get? b = some o) → Q d { s with heap := h', toks := tk })
    (h1 : ∀ i v h' tk, vs[i]? = some v → (∀ m, m < vs.length → lexB (Ls.getD m []) (Ls.getD i []) = false) → (∀ b o, s.heap.get? b = some o → h'.get? b = some o) → Q v { s with heap := h', toks := tk }) :
    wpAny (model prog w) A (call (.builtin "min") [.ref l] [(Str.ofString "default", d)]) Q E s := by
  have hname : (toString "min" ++ toString ".loop" : String) = "min.loop" := by decide
  obtain ⟨ol, hol, _⟩ := id hl
  have hll : l < s.heap.objs.size := Heap.lt_size hol
  refine kmk_tree F.kind_min F.plain_min F.entry_min (min_args _ _) ?_
  show wpAny _ A.in1 (Builtin.Builtins.bindParams "min" ["key", "default"] 0 ⟨[], [(Str.ofString "default", d)]⟩ >>= _) _ _ s
  refine wpAny_bind (wpAny_of_eq (show Builtin.Builtins.bindParams "min" ["key", "default"] 0 ⟨[], [(Str.ofString "default", d)]⟩ = pure [none, some d] from rfl) ?_)
  refine wpAny_bind (wpAny_pure ?_)
  refine wpAny_bind (wpAny_pyIter_list hl ?_)
  refine wpAny_bind (wpAny_newList ?_ (Nat.zero_le _))
  rw [hname]
  generalize hg1 : s.heap.push { cls := .type "list_iterator", data := .fields #[.ref l, .int 0 0] } = g1
  have z1 : g1.objs.size = s.heap.objs.size + 1 := by rw [← hg1, Heap.size_push]
  have hlI : l ≠ s.heap.objs.size := Nat.ne_of_lt hll
  have hSI : g1.objs.size ≠ s.heap.objs.size := by rw [z1]; exact Nat.succ_ne_self _
  have hSl : g1.objs.size ≠ l := by rw [z1]; exact Nat.ne_of_gt (Nat.lt_succ_of_lt hll)
  have nI : s.heap.get? s.heap.objs.size = none := Heap.get?_none_of_le (Nat.le_refl _)
  have nS : s.heap.get? g1.objs.size = none := Heap.get?_none_of_le (by rw [z1]; exact Nat.le_succ _)
  have gI : g1.get? s.heap.objs.size = some { cls := .type "list_iterator", data := .fields #[.ref l, .int 0 0] } := by rw [← hg1]; exact Heap.get?_push_size _ rfl
  have k1 : ∀ b o, s.heap.get? b = some o → (g1.push (seqObj "list" #[] 0)).get? b = some o := fun b o e => Heap.get?_push_of_some _ (by rw [← hg1]; exact Heap.get?_push_of_some _ e)
  have gS : (g1.push (seqObj "list" #[] 0)).get? g1.objs.size = some (seqObj "list" #[] 0) := Heap.get?_push_size _ rfl
  have W := Walks.list (prog := prog) (w := w) (A := A.in1) hh s.heap.objs.size l hlI vs.toArray
  have hsz : vs.toArray.size = vs.length := List.size_toArray ..
  have st0 : (g1.push (seqObj "list" #[] 0)).IsListIter s.heap.objs.size l 0 ∧ (g1.push (seqObj "list" #[] 0)).IsList l vs.toArray := ⟨⟨_, Heap.get?_push_of_some _ gI, rfl, rfl⟩, hl.at fun o e => k1 _ _ e⟩
  have old : ∀ {h' : Heap}, (∀ b o, b ∉ [s.heap.objs.size] → (g1.push (seqObj "list" #[] 0)).get? b = some o → h'.get? b = some o) → ∀ b o, s.heap.get? b = some o → h'.get? b = some o := fun k2 b o e => k2 b o (fun z => by
    have z : b = s.heap.objs.size := by simpa using z
    rw [z, nI] at e; cases e) (k1 b o e)
  refine wpAny_pure ⟨plainId_quiet F.plain_min_loop _, ?_⟩
  show codeAny _ A (.builtin "min.loop" ⟨[.ref s.heap.objs.size, .none, .ref g1.objs.size], [(Str.ofString "default", d)]⟩) _ _
  by_cases hn : vs = []
  · refine codeAny_builtin F.entry_min_loop ?_
    rw [Around.under_plainId F.plain_min_loop _]
    show wpAny _ A.in1 (seqItems? (.ref g1.objs.size) >>= _) _ _ _
    refine wpAny_bind (wpAny_seqItems gS rfl ?_)
    show wpAny _ A.in1 (tryCatch (pyNext (.ref s.heap.objs.size)) _ >>= _) _ _ _
    refine wpAny_bind (wpAny_tryCatch (W.done _ _ _ (by rw [hsz, hn]; rw [hn] at st0; exact st0) fun h' tk hk' => ?_))
    show wpAny _ A.in1 (rule _ >>= _) _ _ _
    refine wpAny_bind (wpAny_rule ?_)
    exact wpAny_pure (h0 hn _ _ (old hk'))
  · have hlt : 0 < vs.length := List.length_pos_iff.mpr hn
    refine codeAny_builtin F.entry_min_loop ?_
    rw [Around.under_plainId F.plain_min_loop _]
    show wpAny _ A.in1 (seqItems? (.ref g1.objs.size) >>= _) _ _ _
    refine wpAny_bind (wpAny_seqItems gS rfl ?_)
    show wpAny _ A.in1 (tryCatch (pyNext (.ref s.heap.objs.size)) _ >>= _) _ _ _
    refine wpAny_bind (wpAny_tryCatch (W.item 0 _ _ _ (by rw [hsz]; exact hlt) st0 fun v h' tk hP hst' hk' => ?_))
    have hP : vs[0]? = some v := by simpa using hP
    have hS' := hk' g1.objs.size _ (by simpa using hSI) gS
    show wpAny _ A.in1 (updateSeq g1.objs.size (fun _ => #[v, v]) >>= _) _ _ _
    refine wpAny_bind ?_
    refine wpAny_updateSeq hS' rfl ?_
    rw [hname]
    refine wpAny_pure ⟨plainId_quiet F.plain_min_loop _, min_loopD hh hu all hlI hSI hSl nI nS _ 0 0 _ v _ rfl hlt (W.frame _ _ _ hst' fun b hbf o e => ?_) (fun b o e => ?_) hP (fun m hm => ?_) (Heap.get?_update_self _ hS' rfl) fun i v h' tk e1 e2 e3 => h1 i v h' tk e1 e2 e3⟩
    · refine (Heap.get?_update_other _ _ (fun h : g1.objs.size = b => ?_)).trans e
      rcases List.mem_cons.mp hbf with z | z
      · exact hSI (h.trans z)
      · exact hSl (h.trans (by simpa using z))
    · exact (Heap.get?_update_other _ _ (fun h : g1.objs.size = b => by rw [← h, nS] at e; cases e)).trans (old hk' b o e)
    · have : m = 0 := by omega
      rw [this]; exact lexB_irr _
end
section
variable {X : Cx} {K : PySem.W.Frag}
def tMinD (K : PySem.W.Frag) (ta : TA) : TE := fun σ H Q => ta σ H fun xs H1 => ∃ (p : Addr) (vs : List V) (Ls : List (List Int)), xs = [.ref p] ∧ SqL K H1 p vs ∧ TupsV H1 vs Ls ∧ (∀ L ∈ Ls, L ≠ []) ∧ (vs = [] → Q .non H1) ∧
  ∀ (i : Nat) (v : V) (L : List Int), vs[i]? = some v → Ls[i]? = some L → (∀ M ∈ Ls, lexB M L = false) → Q v H1
theorem pe_minD {e : Expr} {ta : TA} {p pos kpos cp : Pos} {j : Nat} (hK : X.K = K) (hc : X.calm = true) (hu : X.A.units + 1 < cLine) (hg : Gl X "min") (hm : X.mg "min" = none) (ha : PA X [e] ta)
    (hs : starEach [e] X.env = [(false, eval e X.env)] := by rfl) :
    PE X (.Call (.Name "min" p) [e] [⟨some "default", .Constant .none j cp, kpos⟩] pos) (tMinD K ta) := by
  subst hK
  intro pins s σ H Q I h
  refine wpAny_Call_Name_kw (ld_blt I hg hm (by decide +kernel : bootBuiltins "min" = some (.builtin "min")) ?_ (by decide +kernel) (by decide +kernel))
  refine callWith_builtin_kw (by rw [hs]; rfl) (by rfl) ?_
  have hb : backTo pos (starEach [e] X.env) = (false, eval e X.env) :: [] := by rw [hs]; rfl
  have run := ha pos pins s σ H _ I h
  rw [hb] at run ⊢
  refine evalArgs_kwB (by rfl) (thn run fun us s1 ⟨vs, H1, I1, r1, a, ws, Ls, e1, hq, tv, hne, hn, hR⟩ => ?_)
  subst e1
  obtain ⟨u, rfl, ru⟩ := vals1 r1
  cases ru
  have kw : PK X [⟨some "default", .Constant .none j cp, kpos⟩] (tCons (tC .non) tNil) := pk_cons pe_non pk_nil
  refine thn (kw pos pins s1 σ H1 (fun vs H2 => vs = [.non] ∧ H2 = H1) I1 ⟨rfl, rfl⟩) fun zs s2 ⟨zs', H2, I2, r2, e2, e3⟩ => ?_
  subst e2 e3
  obtain ⟨u, rfl, ru⟩ := vals1 r2
  cases ru
  obtain ⟨its, rv, pl, _⟩ := I2.list hq
  have len := rv.length
  have tl := tv.len
  have all : AllTup s2.heap its Ls := ⟨by omega, fun i v L e1 e2 => by
    obtain ⟨x, hx, rx⟩ : ∃ x, ws[i]? = some x ∧ RelV x v := by
      have lt := (List.getElem?_eq_some_iff.mp e1).1
      have hx : ws[i]? = some (ws[i]'(by omega)) := List.getElem?_eq_getElem _
      obtain ⟨u, hu, ru⟩ := rv.get hx
      rw [e1] at hu
      cases hu
      exact ⟨_, hx, ru⟩
    obtain ⟨b, M, rfl, hb, hM⟩ := tv.get hx
    rw [e2] at hM
    cases hM
    cases rx
    obtain ⟨it2, r2, p2, _⟩ := I2.tuple (SqT.of hb)
    obtain ⟨o, e3, e4, n, e5⟩ := p2
    exact ⟨⟨b, o, _, n, rfl, e3, e4, e5, intsAre_of r2⟩, hne L (List.mem_of_getElem? e2)⟩⟩
  refine min_tupsD (A := X.A) (I2.ok.hd hc) hu pl.isList all (fun z h' tk k => ?_) (fun i v h' tk e1 e2 k => ?_)
  · have : ws = [] := List.length_eq_zero_iff.mp (by rw [len, z]; rfl)
    exact ⟨.non, H2, I2.kept k, rfl, hn this⟩
  · have lt := (List.getElem?_eq_some_iff.mp e1).1
    have hx : ws[i]? = some (ws[i]'(by omega)) := List.getElem?_eq_getElem _
    obtain ⟨u, hu, ru⟩ := rv.get hx
    rw [e1] at hu
    cases hu
    have hL : Ls[i]? = some (Ls[i]'(by omega)) := List.getElem?_eq_getElem _
    refine ⟨_, H2, I2.kept k, ru, hR i _ _ hx hL fun M hM => ?_⟩
    obtain ⟨m, hm⟩ := List.getElem?_of_mem hM
    have ml := (List.getElem?_eq_some_iff.mp hm).1
    have := e2 m (by omega)
    rw [List.getD_eq_getElem?_getD, List.getD_eq_getElem?_getD, hm, hL] at this
    exact this
end
theorem wl_enumL {K : PySem.W.Frag} {c : Nat} {a : Addr} {xs : List V} {g : TG} {tc : TT} {inn : IN} {ys : List V} {σ : St} {H : Hp} {R : WK} (Pv : Nat → List V → St → Hp → Prop) (h0 : Pv 0 ys σ H) (hl : ∀ i ys σ H, i ≤ xs.length → Pv i ys σ H → SqL K H a xs)
    (hs : ∀ i ys σ H x t (S : WK), xs[i]? = some x → Pv i ys σ H → H t = none → (∀ ys' σ' H', Pv (i + 1) ys' σ' H' → S ys' σ' H') → g (.ref t) σ (upd H t (.tup [.int ((i : Int) + c), x])) fun σ2 H3 => tc σ2 H3 fun b H4 => if b = true then inn ys σ2 H4 S else S ys σ2 H4)
    (hd : ∀ ys σ H, Pv xs.length ys σ H → R ys σ H) : wLoop g tc inn (Iten K c a xs) ys σ H R := by
  refine ⟨fun i m ys σ H => m = xs.length - i ∧ i ≤ xs.length ∧ Pv i ys σ H, ⟨xs.length, by simp, Nat.zero_le _, h0⟩, ?_⟩
  rintro i m ys' σ' H' ⟨rfl, hi, p⟩
  have q := hl i ys' σ' H' hi p
  by_cases hlt : i < xs.length
  · refine .inr ⟨⟨hlt, q⟩, fun x H2 y => ?_⟩
    obtain ⟨t, v, ft, rfl, hv, rfl⟩ := y
    exact hs i ys' σ' _ v t _ hv p ft fun ys2 σ2 H2 q2 => ⟨xs.length - (i + 1), by omega, rfl, hlt, q2⟩
  · have e : i = xs.length := by omega
    subst e
    exact .inl ⟨⟨rfl, q⟩, hd _ _ _ p⟩
end L2
namespace Sw
open PySem L2
section
variable {n : Int} {xs : List Int} {a b : Int}
theorem el_inj (o : Ord n xs) (a1 : 1 ≤ a) (a2 : a ≤ n) {i j : Nat} (hj : j < per xs a) (hij : i < j) : itn (ld xs) i a ≠ itn (ld xs) j a := by
  intro e
  have e2 : itn (ld xs) (i + (j - i)) a = itn (ld xs) i (itn (ld xs) (j - i) a) := itn_add _ _ _ _
  rw [show i + (j - i) = j by omega, ← e] at e2
  have q := itn_in o a1 a2 (j - i)
  have := itn_inj o a1 a2 q.1 q.2 i e2
  exact per_ne (by omega) (by omega) this.symm
theorem el_ne (o : Ord n xs) (a1 : 1 ≤ a) (a2 : a ≤ n) {i j : Nat} (hi : i < per xs a) (hj : j < per xs a) (h : i ≠ j) : itn (ld xs) i a ≠ itn (ld xs) j a := by
  rcases Nat.lt_or_gt_of_ne h with z | z
  · exact el_inj o a1 a2 hj z
  · exact (el_inj o a1 a2 hi z).symm
variable (o : Ord n xs) (ga : 1 ≤ a) (gab : a < b) (gb : b ≤ n) {k : Nat} (hk0 : 0 < k) (hk : k < per xs a) (hb : itn (ld xs) k a = b)
include o ga gab gb hk0 hk hb
theorem cut_ldS {x : Int} (h1 : 1 ≤ x) (h2 : x ≤ n) : ld (xs.map (swp · (a, b))) x = if ld xs x = a then b else if ld xs x = b then a else ld xs x := by
  rw [ld_map o _ h1 h2]; rfl
theorem cut_A {l : Nat} (hl : l < k) : ld (xs.map (swp · (a, b))) (itn (ld xs) l a) = if l + 1 = k then a else itn (ld xs) (l + 1) a := by
  have r := itn_in o ga (by omega) l
  rw [cut_ldS o ga gab gb hk0 hk hb r.1 r.2]
  show (if itn (ld xs) (l + 1) a = a then b else if itn (ld xs) (l + 1) a = b then a else itn (ld xs) (l + 1) a) = _
  rw [if_neg (per_ne (by omega) (by omega))]
  by_cases e : l + 1 = k
  · rw [if_pos (by rw [e]; exact hb), if_pos e]
  · rw [if_neg (by rw [← hb]; exact el_ne o ga (by omega) (by omega) hk (by omega)), if_neg e]
theorem cut_B {l : Nat} (hl : k ≤ l) (hl2 : l < per xs a) : ld (xs.map (swp · (a, b))) (itn (ld xs) l a) = if l + 1 = per xs a then b else itn (ld xs) (l + 1) a := by
  have r := itn_in o ga (by omega) l
  rw [cut_ldS o ga gab gb hk0 hk hb r.1 r.2]
  show (if itn (ld xs) (l + 1) a = a then b else if itn (ld xs) (l + 1) a = b then a else itn (ld xs) (l + 1) a) = _
  by_cases e : l + 1 = per xs a
  · rw [if_pos (by rw [e]; exact per_eq o ga (by omega)), if_pos e]
  · rw [if_neg (per_ne (by omega) (by omega)), if_neg (by rw [← hb]; exact el_ne o ga (by omega) (by omega) hk (by omega)), if_neg e]
theorem walk_A : ∀ j, ∃ l, l < k ∧ itn (ld (xs.map (swp · (a, b)))) j a = itn (ld xs) l a
  | 0 => ⟨0, hk0, rfl⟩
  | j + 1 => by
    obtain ⟨l, hl, e⟩ := walk_A j
    show ∃ l, l < k ∧ ld _ (itn _ j a) = _
    rw [e, cut_A o ga gab gb hk0 hk hb hl]
    by_cases e2 : l + 1 = k
    · rw [if_pos e2]; exact ⟨0, hk0, rfl⟩
    · rw [if_neg e2]; exact ⟨l + 1, by omega, rfl⟩
theorem walk_A' : ∀ l, l < k → itn (ld (xs.map (swp · (a, b)))) l a = itn (ld xs) l a
  | 0, _ => rfl
  | l + 1, h => by
    show ld _ (itn _ l a) = _
    rw [walk_A' l (by omega), cut_A o ga gab gb hk0 hk hb (by omega), if_neg (by omega)]
theorem walk_B : ∀ j, ∃ l, k ≤ l ∧ l < per xs a ∧ itn (ld (xs.map (swp · (a, b)))) j b = itn (ld xs) l a
  | 0 => ⟨k, Nat.le_refl _, hk, hb.symm⟩
  | j + 1 => by
    obtain ⟨l, hl, hl2, e⟩ := walk_B j
    show ∃ l, k ≤ l ∧ l < per xs a ∧ ld _ (itn _ j b) = _
    rw [e, cut_B o ga gab gb hk0 hk hb hl hl2]
    by_cases e2 : l + 1 = per xs a
    · rw [if_pos e2]; exact ⟨k, Nat.le_refl _, hk, hb.symm⟩
    · rw [if_neg e2]; exact ⟨l + 1, by omega, by omega, rfl⟩
theorem walk_B' : ∀ l, k + l < per xs a → itn (ld (xs.map (swp · (a, b)))) l b = itn (ld xs) (k + l) a
  | 0, _ => hb.symm
  | l + 1, h => by
    show ld _ (itn _ l b) = _
    rw [walk_B' l (by omega), cut_B o ga gab gb hk0 hk hb (by omega) (by omega), if_neg (by omega)]
    rfl
theorem walk_C {x : Int} (h1 : 1 ≤ x) (h2 : x ≤ n) (hx : x ∉ orb xs a) : ∀ j, itn (ld (xs.map (swp · (a, b)))) j x = itn (ld xs) j x ∧ itn (ld xs) j x ∉ orb xs a
  | 0 => ⟨rfl, hx⟩
  | j + 1 => by
    obtain ⟨e, no⟩ := walk_C h1 h2 hx j
    have r := itn_in o h1 h2 j
    have r' := itn_in o h1 h2 (j + 1)
    have no' : itn (ld xs) (j + 1) x ∉ orb xs a := fun z => by
      -- a lies in the round of x then, and x in that of a
      have z1 : itn (ld xs) (j + 1) x ∈ orb xs x := (orb_mem o h1 h2).mpr ⟨j + 1, rfl⟩
      have z2 := orb_sym o ga (by omega) z
      have z3 := orb_trans o h1 h2 z1 z2
      exact hx (orb_sym o h1 h2 z3)
    refine ⟨?_, no'⟩
    show ld _ (itn _ j x) = _
    rw [e, cut_ldS o ga gab gb hk0 hk hb r.1 r.2]
    show (if itn (ld xs) (j + 1) x = a then b else if itn (ld xs) (j + 1) x = b then a else itn (ld xs) (j + 1) x) = _
    rw [if_neg (fun z => no' (by rw [z]; exact orb_self a)), if_neg (fun z => no' (by rw [z]; exact (orb_mem o ga (by omega)).mpr ⟨k, hb⟩))]
theorem cut_any : cnt n (xs.map (swp · (a, b))) = cnt n xs + 1 := by
  have gd : 1 ≤ ((a, b) : Int × Int).1 ∧ ((a, b) : Int × Int).1 < ((a, b) : Int × Int).2 ∧ ((a, b) : Int × Int).2 ≤ n := ⟨ga, gab, gb⟩
  have o' := map_ord o gd
  have a2 : a ≤ n := by omega
  have b1 : 1 ≤ b := by omega
  -- the two parts
  have pA : ∀ y, y ∈ orb (xs.map (swp · (a, b))) a ↔ ∃ l, l < k ∧ itn (ld xs) l a = y := fun y => by
    rw [orb_mem o' ga a2]
    constructor
    · rintro ⟨j, rfl⟩
      obtain ⟨l, hl, e⟩ := walk_A o ga gab gb hk0 hk hb j
      exact ⟨l, hl, e.symm⟩
    · rintro ⟨l, hl, rfl⟩
      exact ⟨l, walk_A' o ga gab gb hk0 hk hb l hl⟩
  have pB : ∀ y, y ∈ orb (xs.map (swp · (a, b))) b ↔ ∃ l, k ≤ l ∧ l < per xs a ∧ itn (ld xs) l a = y := fun y => by
    rw [orb_mem o' b1 gb]
    constructor
    · rintro ⟨j, rfl⟩
      obtain ⟨l, hl, hl2, e⟩ := walk_B o ga gab gb hk0 hk hb j
      exact ⟨l, hl, hl2, e.symm⟩
    · rintro ⟨l, hl, hl2, rfl⟩
      exact ⟨l - k, by rw [walk_B' o ga gab gb hk0 hk hb (l - k) (by omega), show k + (l - k) = l by omega]⟩
  have pO : ∀ y, y ∈ orb xs a ↔ y ∈ orb (xs.map (swp · (a, b))) a ∨ y ∈ orb (xs.map (swp · (a, b))) b := fun y => by
    rw [pA, pB, orb_mem o ga a2]
    constructor
    · rintro ⟨j, rfl⟩
      obtain ⟨l, hl, e⟩ := itn_mod o ga a2 j
      by_cases h : l < k
      · exact .inl ⟨l, h, e.symm⟩
      · exact .inr ⟨l, by omega, hl, e.symm⟩
    · rintro (⟨l, _, rfl⟩ | ⟨l, _, _, rfl⟩)
      · exact ⟨l, rfl⟩
      · exact ⟨l, rfl⟩
  have dis : ∀ y, y ∈ orb (xs.map (swp · (a, b))) a → y ∈ orb (xs.map (swp · (a, b))) b → False := fun y ya yb => by
    obtain ⟨l, hl, e⟩ := (pA y).mp ya
    obtain ⟨l', hl', hl2, e'⟩ := (pB y).mp yb
    exact el_ne o ga a2 (by omega) hl2 (by omega) (e.trans e'.symm)
  -- least of a round, by any of its things
  have leastOf : ∀ {zs : List Int} (oz : Ord n zs) {c x : Int}, 1 ≤ c → c ≤ n → x ∈ orb zs c → (least zs x = true ↔ ∀ y ∈ orb zs c, x ≤ y) := fun {zs} oz {c x} c1 c2 hx => by
    have hx' := orb_in oz c1 c2 hx
    unfold least
    rw [List.all_eq_true]
    constructor
    · intro h y hy
      exact of_decide_eq_true (h y (orb_trans oz hx'.1 hx'.2 (orb_sym oz c1 c2 hx) hy))
    · intro h y hy
      exact decide_eq_true (h y (orb_trans oz c1 c2 hx hy))
  obtain ⟨mA, mA1, mA2⟩ := least_ex (l := orb (xs.map (swp · (a, b))) a) (List.ne_nil_of_mem (orb_self a))
  obtain ⟨mB, mB1, mB2⟩ := least_ex (l := orb (xs.map (swp · (a, b))) b) (List.ne_nil_of_mem (orb_self b))
  have ne : mA ≠ mB := fun z => dis mA mA1 (by rw [z]; exact mB1)
  have iA := orb_in o' ga a2 mA1
  have iB := orb_in o' b1 gb mB1
  have off : ∀ x, 1 ≤ x → x ≤ n → x ∉ orb xs a → least xs x = least (xs.map (swp · (a, b))) x := fun x h1 h2 hx => by
    rw [Bool.eq_iff_iff, least_iff o h1 h2, least_iff o' h1 h2]
    constructor
    · intro h j
      rw [(walk_C o ga gab gb hk0 hk hb h1 h2 hx j).1]; exact h j
    · intro h j
      have := h j
      rwa [(walk_C o ga gab gb hk0 hk hb h1 h2 hx j).1] at this
  -- the one that begins a round anew
  have go : ∀ g m, (g = mA ∧ m = mB ∨ g = mB ∧ m = mA) → m < g → cnt n (xs.map (swp · (a, b))) = cnt n xs + 1 := by
    intro g m hgm lt
    have mO : m ∈ orb xs a := (pO m).mpr (by rcases hgm with ⟨_, rfl⟩ | ⟨_, rfl⟩; exact .inr mB1; exact .inl mA1)
    have gO : g ∈ orb xs a := (pO g).mpr (by rcases hgm with ⟨rfl, _⟩ | ⟨rfl, _⟩; exact .inl mA1; exact .inr mB1)
    have gi := orb_in o ga a2 gO
    have low : ∀ y ∈ orb xs a, m ≤ y := fun y hy => by
      rcases (pO y).mp hy with z | z
      · have := mA2 y z
        rcases hgm with ⟨rfl, rfl⟩ | ⟨rfl, rfl⟩ <;> omega
      · have := mB2 y z
        rcases hgm with ⟨rfl, rfl⟩ | ⟨rfl, rfl⟩ <;> omega
    have lA : ∀ x ∈ orb (xs.map (swp · (a, b))) a, (least (xs.map (swp · (a, b))) x = true ↔ x = mA) := fun x hx => by
      rw [leastOf o' ga a2 hx]
      constructor
      · intro h
        exact Int.le_antisymm (h mA mA1) (mA2 x hx)
      · rintro rfl
        exact mA2
    have lB : ∀ x ∈ orb (xs.map (swp · (a, b))) b, (least (xs.map (swp · (a, b))) x = true ↔ x = mB) := fun x hx => by
      rw [leastOf o' b1 gb hx]
      constructor
      · intro h
        exact Int.le_antisymm (h mB mB1) (mB2 x hx)
      · rintro rfl
        exact mB2
    have lO : ∀ x ∈ orb xs a, (least xs x = true ↔ x = m) := fun x hx => by
      rw [leastOf o ga a2 hx]
      constructor
      · intro h
        exact Int.le_antisymm (h m mO) (low x hx)
      · rintro rfl
        exact low
    unfold cnt
    refine filter_one (g := g) ?_ ?_ _ (ivl_nodup _ _) (mem_ivl.mpr (by omega)) ?_
    · cases h : least xs g with
      | false => rfl
      | true =>
        have := (lO g gO).mp h
        omega
    · rcases hgm with ⟨rfl, _⟩ | ⟨rfl, _⟩
      · exact (lA g mA1).mpr rfl
      · exact (lB g mB1).mpr rfl
    · intro x hx hne
      have hx := mem_ivl.mp hx
      by_cases hxo : x ∈ orb xs a
      · rw [Bool.eq_iff_iff, lO x hxo]
        rcases (pO x).mp hxo with z | z
        · rw [lA x z]
          rcases hgm with ⟨rfl, rfl⟩ | ⟨rfl, rfl⟩
          · constructor
            · intro e; subst e; exact (dis x z mB1).elim
            · intro e; exact absurd e hne
          · exact Iff.rfl
        · rw [lB x z]
          rcases hgm with ⟨rfl, rfl⟩ | ⟨rfl, rfl⟩
          · exact Iff.rfl
          · constructor
            · intro e; subst e; exact (dis x mA1 z).elim
            · intro e; exact absurd e hne
      · exact off x hx.1 (by omega) hxo
  rcases Int.lt_or_gt_of_ne ne with z | z
  · exact go mB mA (.inr ⟨rfl, rfl⟩) z
  · exact go mA mB (.inl ⟨rfl, rfl⟩) z
end
end Sw
namespace Sw
open PySem L2
def relab (f : Int → Int) (e : Int × Int) : Int → Int := fun x => if f x = f e.2 then f e.1 else f x
def labs (row : List (Int × Int)) : Int → Int := row.foldl relab id
theorem labs_snoc (row : List (Int × Int)) (e : Int × Int) : labs (row ++ [e]) = relab (labs row) e := by
  unfold labs
  rw [List.foldl_append]
  rfl
def addC (f : Int → Int) (acc : List (Int × List Int)) (x : Int) : List (Int × List Int) :=
  if f x ∈ acc.map (·.1) then acc.map (fun p => if p.1 = f x then (p.1, p.2 ++ [x]) else p) else acc ++ [(f x, [x])]
def grp (f : Int → Int) (L : List Int) : List (Int × List Int) := L.foldl (addC f) []
def partsM (n : Int) (row : List (Int × Int)) : List (List Int) := (grp (labs row) (ivl 1 (n + 1))).map (·.2)
section
variable {f : Int → Int} {acc : List (Int × List Int)} {x k : Int} {ms : List Int} {j : Nat}
structure Grp (f : Int → Int) (L : List Int) (acc : List (Int × List Int)) : Prop where
  nd : (acc.map (·.1)).Nodup
  mem : ∀ p ∈ acc, p.2 = L.filter (fun y => decide (f y = p.1)) ∧ p.2 ≠ []
  all : ∀ y ∈ L, f y ∈ acc.map (·.1)
theorem Grp.nil : Grp f [] [] := ⟨List.nodup_nil, fun p hp => (by cases hp), fun y hy => (by cases hy)⟩
end
end Sw
namespace Sw
open PySem L2
theorem snoc_ind {α : Type} {Pr : List α → Prop} (h0 : Pr []) (hs : ∀ l x, Pr l → Pr (l ++ [x])) (l : List α) : Pr l := by
  have : ∀ r : List α, Pr r.reverse := fun r => by
    induction r with
    | nil => exact h0
    | cons x r ih => rw [List.reverse_cons]; exact hs _ _ ih
  have q := this l.reverse
  rwa [List.reverse_reverse] at q
theorem labs_edge {row : List (Int × Int)} : ∀ e ∈ row, labs row e.1 = labs row e.2 := by
  induction row using snoc_ind with
  | h0 => intro e h; cases h
  | hs r d ih =>
    intro e he
    rw [labs_snoc]
    unfold relab
    rcases List.mem_append.mp he with he | he
    · rw [ih e he]
    · rw [List.mem_singleton.mp he, if_pos rfl]
      split <;> rfl
theorem closed_labs {row : List (Int × Int)} {S : Int → Prop} : (∀ e ∈ row, S e.1 ↔ S e.2) → ∀ {x y : Int}, labs row x = labs row y → (S x ↔ S y) := by
  induction row using snoc_ind with
  | h0 => intro _ x y e; have e : x = y := e; rw [e]
  | hs r d ih =>
    intro h x y e
    have ih : ∀ {u v : Int}, labs r u = labs r v → (S u ↔ S v) := fun z => ih (fun q hq => h q (List.mem_append_left _ hq)) z
    have hd := h d (List.mem_append_right _ (List.mem_singleton.mpr rfl))
    rw [labs_snoc] at e
    unfold relab at e
    by_cases h1 : labs r x = labs r d.2
    · by_cases h2 : labs r y = labs r d.2
      · exact (ih h1).trans (ih h2).symm
      · rw [if_pos h1, if_neg h2] at e
        exact (ih h1).trans (hd.symm.trans (ih e))
    · by_cases h2 : labs r y = labs r d.2
      · rw [if_neg h1, if_pos h2] at e
        exact (ih e).trans (hd.trans (ih h2).symm)
      · rw [if_neg h1, if_neg h2] at e
        exact ih e
theorem ivl_lt (a b : Int) : (ivl a b).Pairwise (· < ·) := by
  rw [List.pairwise_iff_getElem]
  intro i j hi hj hij
  have e1 := get_ivl (lo := a) (hi := b) (i := i) (by rw [ivl_length] at hi; exact hi)
  have e2 := get_ivl (lo := a) (hi := b) (i := j) (by rw [ivl_length] at hj; exact hj)
  rw [List.getElem?_eq_getElem hi] at e1
  rw [List.getElem?_eq_getElem hj] at e2
  rw [Option.some.inj e1, Option.some.inj e2]
  omega
end Sw
namespace Sw
open PySem L2
def car (e o : Int × Int) : Int × Int := (min (swp e.1 o) (swp e.2 o), max (swp e.1 o) (swp e.2 o))
theorem swp_injc {x y : Int} {e : Int × Int} (h : swp x e = swp y e) : x = y := by rw [← swp_swp x e, h, swp_swp]
theorem swp_sym (x a b : Int) : swp x (a, b) = swp x (b, a) := by
  unfold swp
  simp only
  by_cases h1 : x = a <;> by_cases h2 : x = b <;> simp_all
theorem swp_mm (x a b : Int) : swp x (min a b, max a b) = swp x (a, b) := by
  by_cases h : a ≤ b
  · rw [Int.min_eq_left h, Int.max_eq_right h]
  · rw [Int.min_eq_right (by omega), Int.max_eq_left (by omega), swp_sym]
theorem swp_conj (x : Int) (s t : Int × Int) : swp (swp x t) (swp s.1 t, swp s.2 t) = swp (swp x s) t := by
  have l : swp x s = if x = s.1 then s.2 else if x = s.2 then s.1 else x := rfl
  have r : swp (swp x t) (swp s.1 t, swp s.2 t) = if swp x t = swp s.1 t then swp s.2 t else if swp x t = swp s.2 t then swp s.1 t else swp x t := rfl
  rw [l, r]
  by_cases h1 : x = s.1
  · rw [if_pos h1, if_pos (by rw [h1])]
  · rw [if_neg h1, if_neg (fun z => h1 (swp_injc z))]
    by_cases h2 : x = s.2
    · rw [if_pos h2, if_pos (by rw [h2])]
    · rw [if_neg h2, if_neg (fun z => h2 (swp_injc z))]
theorem swp_car (x : Int) (s t : Int × Int) : swp (swp x t) (car s t) = swp (swp x s) t := by
  unfold car
  rw [swp_mm, swp_conj]
theorem car_good {n : Int} {s t : Int × Int} (hs : 1 ≤ s.1 ∧ s.1 < s.2 ∧ s.2 ≤ n) (ht : 1 ≤ t.1 ∧ t.1 < t.2 ∧ t.2 ≤ n) : 1 ≤ (car s t).1 ∧ (car s t).1 < (car s t).2 ∧ (car s t).2 ≤ n := by
  have a := swp_in ht (x := s.1) (by omega) (by omega)
  have b := swp_in ht (x := s.2) (by omega) (by omega)
  have ne : swp s.1 t ≠ swp s.2 t := fun z => by have := swp_injc z; omega
  unfold car
  simp only
  omega
theorem car_car {s t : Int × Int} (hs : s.1 < s.2) : car (car s t) t = s := by
  have h : ∀ p q : Int, (min (swp (min p q) t) (swp (max p q) t), max (swp (min p q) t) (swp (max p q) t)) = (min (swp p t) (swp q t), max (swp p t) (swp q t)) := by
    intro p q
    by_cases c : p ≤ q
    · rw [show min p q = p from Int.min_eq_left c, show max p q = q from Int.max_eq_right c]
    · rw [show min p q = q from Int.min_eq_right (by omega), show max p q = p from Int.max_eq_left (by omega), Int.min_comm, Int.max_comm]
  show (min (swp (min (swp s.1 t) (swp s.2 t)) t) (swp (max (swp s.1 t) (swp s.2 t)) t), max (swp (min (swp s.1 t) (swp s.2 t)) t) (swp (max (swp s.1 t) (swp s.2 t)) t)) = s
  rw [h, swp_swp, swp_swp, Int.min_eq_left (by omega), Int.max_eq_right (by omega)]
def prM (s t : Int × Int) (f : Bool) : List (Int × Int) := if f = true then [t, car s t] else [car t s, s]
theorem prM_len (s t : Int × Int) (f : Bool) : (prM s t f).length = 2 := by unfold prM; split <;> rfl
theorem prM_go (s t : Int × Int) (f : Bool) (x : Int) : go (prM s t f) x = swp (swp x s) t := by
  unfold prM
  split
  · show swp (swp x t) (car s t) = _
    exact swp_car x s t
  · show swp (swp x (car t s)) s = _
    have := swp_car (swp x s) t s
    rw [swp_swp] at this
    rw [this, swp_swp]
def mvM (row : List (Int × Int)) (i : Nat) (f : Bool) : List (Int × Int) := row.take i ++ prM (row.getD i (0, 0)) (row.getD (i + 1) (0, 0)) f ++ row.drop (i + 2)
theorem row_split {row : List (Int × Int)} {i : Nat} (h : i + 1 < row.length) : ∃ A s t B, row = A ++ s :: t :: B ∧ A.length = i := by
  refine ⟨row.take i, row[i], row[i + 1], row.drop (i + 2), ?_, by rw [List.length_take]; omega⟩
  rw [List.getElem_cons_drop, List.getElem_cons_drop, List.take_append_drop]
theorem mv_at (A B : List (Int × Int)) (s t : Int × Int) (f : Bool) : mvM (A ++ s :: t :: B) A.length f = A ++ prM s t f ++ B := by
  unfold mvM
  rw [List.take_left]
  have e1 : (A ++ s :: t :: B).getD A.length (0, 0) = s := by
    rw [List.getD_eq_getElem?_getD, List.getElem?_append_right (Nat.le_refl _), Nat.sub_self]
    rfl
  have e2 : (A ++ s :: t :: B).getD (A.length + 1) (0, 0) = t := by
    rw [List.getD_eq_getElem?_getD, List.getElem?_append_right (by omega), show A.length + 1 - A.length = 1 by omega]
    rfl
  have e3 : (A ++ s :: t :: B).drop (A.length + 2) = B := by
    rw [List.drop_append, List.drop_eq_nil_of_le (by omega), show A.length + 2 - A.length = 2 by omega]
    rfl
  rw [e1, e2, e3]
theorem mv_len {row : List (Int × Int)} {i : Nat} (h : i + 1 < row.length) (f : Bool) : (mvM row i f).length = row.length := by
  obtain ⟨A, s, t, B, rfl, rfl⟩ := row_split h
  rw [mv_at, List.length_append, List.length_append, prM_len, List.length_append, List.length_cons, List.length_cons]
  omega
theorem mv_go {row : List (Int × Int)} {i : Nat} (h : i + 1 < row.length) (f : Bool) (x : Int) : go (mvM row i f) x = go row x := by
  obtain ⟨A, s, t, B, rfl, rfl⟩ := row_split h
  rw [mv_at, go_append, go_append, prM_go, go_append]
  rfl
theorem mv_led {row : List (Int × Int)} {i : Nat} (h : i + 1 < row.length) (f : Bool) (n : Int) : ledM n (mvM row i f) = ledM n row := by
  unfold ledM
  exact List.map_congr_left fun x _ => mv_go h f x
theorem mv_good {n : Int} {row : List (Int × Int)} {i : Nat} (g : Good n row) (h : i + 1 < row.length) (f : Bool) : Good n (mvM row i f) := by
  obtain ⟨A, s, t, B, rfl, rfl⟩ := row_split h
  have gs := g s (by simp)
  have gt := g t (by simp)
  rw [mv_at]
  intro e he
  rcases List.mem_append.mp he with he | he
  · rcases List.mem_append.mp he with he | he
    · exact g e (by simp [he])
    · unfold prM at he
      split at he
      · rcases List.mem_cons.mp he with rfl | he
        · exact gt
        · rw [List.mem_singleton.mp he]; exact car_good gs gt
      · rcases List.mem_cons.mp he with rfl | he
        · exact car_good gt gs
        · rw [List.mem_singleton.mp he]; exact gs
  · exact g e (by simp [he])
theorem mv_back {n : Int} {row : List (Int × Int)} {i : Nat} (g : Good n row) (h : i + 1 < row.length) (f : Bool) : mvM (mvM row i f) i (!f) = row := by
  obtain ⟨A, s, t, B, rfl, rfl⟩ := row_split h
  have gs := g s (by simp)
  have gt := g t (by simp)
  rw [mv_at]
  cases f with
  | true =>
    rw [show A ++ prM s t true ++ B = A ++ t :: car s t :: B by simp [prM], mv_at]
    simp [prM, car_car gs.2.1]
  | false =>
    rw [show A ++ prM s t false ++ B = A ++ car t s :: s :: B by simp [prM], mv_at]
    simp [prM, car_car gt.2.1]
end Sw
namespace Sw
open PySem L2
def wayS (f : Bool) : Str := if f = true then Str.ofString "forth" else Str.ofString "back"
theorem wayS_inj {f g : Bool} (h : wayS f = wayS g) : f = g := by
  cases f <;> cases g <;> first | rfl | exact absurd h (by decide)
def stepM (row : List (Int × Int)) (m : Int × Str) : Option (List (Int × Int)) :=
  if 1 ≤ m.1 ∧ m.1 < row.length then (if m.2 = wayS true then some (mvM row (m.1 - 1).toNat true) else if m.2 = wayS false then some (mvM row (m.1 - 1).toNat false) else none) else none
theorem step_some {row : List (Int × Int)} {k : Int} {f : Bool} (h1 : 1 ≤ k) (h2 : k < row.length) : stepM row (k, wayS f) = some (mvM row (k - 1).toNat f) := by
  unfold stepM
  rw [if_pos ⟨h1, h2⟩]
  cases f with
  | true => rw [if_pos rfl]
  | false => rw [if_neg (show ¬ wayS false = wayS true by decide), if_pos rfl]
theorem step_of {row r : List (Int × Int)} {k : Int} {w : Str} (h : stepM row (k, w) = some r) : 1 ≤ k ∧ k < row.length ∧ ∃ f, w = wayS f ∧ r = mvM row (k - 1).toNat f := by
  unfold stepM at h
  split at h
  · rename_i c
    simp only at c
    split at h
    · rename_i e; cases h; exact ⟨c.1, c.2, true, e, rfl⟩
    · split at h
      · rename_i e; cases h; exact ⟨c.1, c.2, false, e, rfl⟩
      · cases h
  · cases h
theorem step_none {row : List (Int × Int)} {k : Int} {w : Str} (h : ¬ (1 ≤ k ∧ k < row.length ∧ ∃ f, w = wayS f)) : stepM row (k, w) = none := by
  cases e : stepM row (k, w) with
  | none => rfl
  | some r =>
    obtain ⟨a, b, f, c, _⟩ := step_of e
    exact absurd ⟨a, b, f, c⟩ h
def walkM : List (Int × Int) → List (Int × Str) → Option (List (Int × Int))
  | row, [] => some row
  | row, m :: ms => (stepM row m).bind fun r => walkM r ms
theorem walk_append (ms ks : List (Int × Str)) : ∀ row, walkM row (ms ++ ks) = (walkM row ms).bind fun r => walkM r ks := by
  induction ms with
  | nil => intro row; rfl
  | cons m ms ih =>
    intro row
    show (stepM row m).bind _ = ((stepM row m).bind _).bind _
    cases stepM row m with
    | none => rfl
    | some r => exact ih r
theorem walk_snoc {row r : List (Int × Int)} {ms : List (Int × Str)} {m : Int × Str} (h : walkM row ms = some r) : walkM row (ms ++ [m]) = stepM r m := by
  rw [walk_append, h]
  show (stepM r m).bind (fun r => some r) = _
  cases stepM r m <;> rfl
theorem walk_take {row r : List (Int × Int)} {ms : List (Int × Str)} {i : Nat} {m : Int × Str} (hm : ms[i]? = some m) (h : walkM row (ms.take i) = some r) : walkM row (ms.take (i + 1)) = stepM r m := by
  rw [List.take_succ, hm]
  exact walk_snoc h
theorem walk_dead {row r : List (Int × Int)} {ms : List (Int × Str)} {i : Nat} {m : Int × Str} (hm : ms[i]? = some m) (h : walkM row (ms.take i) = some r) (hs : stepM r m = none) : walkM row ms = none := by
  have := walk_take hm h
  rw [← List.take_append_drop (i + 1) ms, walk_append, this, hs]
  rfl
theorem step_len {row r : List (Int × Int)} {m : Int × Str} (h : stepM row m = some r) : r.length = row.length := by
  obtain ⟨a, b, f, _, rfl⟩ := step_of (k := m.1) (w := m.2) h
  exact mv_len (by omega) f
theorem walk_len {ms : List (Int × Str)} : ∀ {row r : List (Int × Int)}, walkM row ms = some r → r.length = row.length := by
  induction ms with
  | nil => intro row r h; cases h; rfl
  | cons m ms ih =>
    intro row r h
    have h : (stepM row m).bind (fun r => walkM r ms) = some r := h
    cases e : stepM row m with
    | none => rw [e] at h; cases h
    | some q => rw [e] at h; rw [ih h, step_len e]
theorem step_good {n : Int} {row r : List (Int × Int)} {m : Int × Str} (g : Good n row) (h : stepM row m = some r) : Good n r := by
  obtain ⟨a, b, f, _, rfl⟩ := step_of (k := m.1) (w := m.2) h
  exact mv_good g (by omega) f
theorem walk_good {n : Int} {ms : List (Int × Str)} : ∀ {row r : List (Int × Int)}, Good n row → walkM row ms = some r → Good n r := by
  induction ms with
  | nil => intro row r g h; cases h; exact g
  | cons m ms ih =>
    intro row r g h
    have h : (stepM row m).bind (fun r => walkM r ms) = some r := h
    cases e : stepM row m with
    | none => rw [e] at h; cases h
    | some q => rw [e] at h; exact ih (step_good g e) h
inductive Mvs (H : Hp) : List V → List (Int × Str) → Prop
  | nil : Mvs H [] []
  | cons {t : Addr} {k : Int} {x : Str} {vs : List V} {r : List (Int × Str)} : H t = some (.tup [.int k, .str x]) → Mvs H vs r → Mvs H (.ref t :: vs) ((k, x) :: r)
theorem Mvs.length {H : Hp} : ∀ {vs : List V} {r : List (Int × Str)}, Mvs H vs r → vs.length = r.length
  | _, _, .nil => rfl
  | _, _, .cons _ x => by rw [List.length_cons, List.length_cons, x.length]
theorem Mvs.keep {H H' : Hp} (k : ∀ b xs, H b = some (.tup xs) → H' b = some (.tup xs)) : ∀ {vs : List V} {r : List (Int × Str)}, Mvs H vs r → Mvs H' vs r
  | _, _, .nil => .nil
  | _, _, .cons h x => .cons (k _ _ h) (x.keep k)
theorem Mvs.append {H : Hp} : ∀ {vs ws : List V} {r q : List (Int × Str)}, Mvs H vs r → Mvs H ws q → Mvs H (vs ++ ws) (r ++ q)
  | _, _, _, _, .nil, y => y
  | _, _, _, _, .cons h x, y => .cons h (x.append y)
theorem Mvs.get {H : Hp} : ∀ {vs : List V} {r : List (Int × Str)} {i : Nat} {x : V}, Mvs H vs r → vs[i]? = some x → ∃ t k w, x = .ref t ∧ H t = some (.tup [.int k, .str w]) ∧ r[i]? = some (k, w)
  | _, _, _, _, .nil, e => by simp at e
  | _, _, 0, _, .cons h x, e => by simp at e; subst e; exact ⟨_, _, _, rfl, h, rfl⟩
  | _, _, i + 1, _, .cons h x, e => by
    obtain ⟨t, k, w, e1, e2, e3⟩ := x.get (i := i) (by simpa using e)
    exact ⟨t, k, w, e1, e2, by simpa using e3⟩
theorem Mvs.take {H : Hp} : ∀ {vs : List V} {r : List (Int × Str)} (k : Nat), Mvs H vs r → Mvs H (vs.take k) (r.take k)
  | _, _, 0, _ => .nil
  | _, _, _ + 1, .nil => .nil
  | _, _, k + 1, .cons h x => .cons h (x.take k)
end Sw
namespace Sw
open PySem L2
section
variable {n : Int} {xs : List Int} {a b : Int}
theorem led_snoc (n : Int) (r : List (Int × Int)) (e : Int × Int) : ledM n (r ++ [e]) = (ledM n r).map (swp · e) := by
  unfold ledM
  rw [List.map_map]
  refine List.map_congr_left fun x _ => ?_
  rw [go_append]
  rfl
theorem map_swp_swp (xs : List Int) (e : Int × Int) : (xs.map (swp · e)).map (swp · e) = xs := by
  rw [List.map_map]
  conv => rhs; rw [← List.map_id xs]
  exact List.map_congr_left fun x _ => swp_swp x e
theorem good_left {r q : List (Int × Int)} (g : Good n (r ++ q)) : Good n r := fun e he => g e (List.mem_append_left _ he)
theorem ord_swp (o : Ord n xs) (ga : 1 ≤ a) (gab : a < b) (gb : b ≤ n) : Ord n (xs.map (swp · (a, b))) := by
  have inv : ∀ x, swp (swp x (a, b)) (a, b) = x := fun x => swp_swp x _
  refine (List.perm_ext_iff_of_nodup ?_ (ivl_nodup _ _)).mpr fun y => ?_
  · rw [List.Nodup, List.pairwise_map]
    exact o.nodup.imp fun h e => h ((inv _).symm.trans ((congrArg (fun z => swp z (a, b)) e).trans (inv _)))
  · have sin : ∀ x, 1 ≤ x ∧ x ≤ n → 1 ≤ swp x (a, b) ∧ swp x (a, b) ≤ n := fun x hx => by
      unfold swp
      split
      · exact ⟨by show 1 ≤ b; omega, gb⟩
      · split
        · exact ⟨ga, by show a ≤ n; omega⟩
        · exact hx
    rw [List.mem_map, mem_ivl]
    constructor
    · rintro ⟨x, hx, rfl⟩
      have := sin x (o.mem.mp hx)
      omega
    · intro hy
      have := sin y ⟨hy.1, by omega⟩
      exact ⟨swp y (a, b), o.mem.mpr this, inv y⟩
theorem ord_led {row : List (Int × Int)} (g : Good n row) : Ord n (ledM n row) := by
  induction row using snoc_ind with
  | h0 => rw [ledM_nil]; exact ord_plain n
  | hs r e ih =>
    rw [led_snoc]
    have ge := g e (List.mem_append_right _ (List.mem_singleton.mpr rfl))
    exact ord_swp (ih (good_left g)) ge.1 ge.2.1 ge.2.2
theorem join_any (o : Ord n xs) (ga : 1 ≤ a) (gab : a < b) (gb : b ≤ n) (hb : b ∉ orb xs a) : cnt n xs = cnt n (xs.map (swp · (a, b))) + 1 := by
  have nb : ∀ k, itn (ld xs) k a ≠ b := fun k e => hb ((orb_mem o ga (by omega)).mpr ⟨k, e⟩)
  have same : ∀ j, j < per xs a → itn (ld (xs.map (swp · (a, b)))) j a = itn (ld xs) j a := by
    intro j
    induction j with
    | zero => intro _; rfl
    | succ j ih =>
      intro hj
      have r := itn_in o ga (by omega) j
      show ld _ (itn _ j a) = _
      rw [ih (by omega), ld_map o _ r.1 r.2]
      show swp (itn (ld xs) (j + 1) a) (a, b) = _
      exact swp_ne (per_ne (by omega) hj) (nb _)
  have pp : 0 < per xs a := by unfold per; omega
  have hit : itn (ld (xs.map (swp · (a, b)))) (per xs a) a = b := by
    obtain ⟨p, hp⟩ : ∃ p, per xs a = p + 1 := ⟨per xs a - 1, by omega⟩
    have r := itn_in o ga (by omega) p
    have e := per_eq o ga (by omega : a ≤ n)
    rw [hp] at e ⊢
    show ld _ (itn _ p a) = b
    rw [same p (by omega), ld_map o _ r.1 r.2]
    have e : ld xs (itn (ld xs) p a) = a := e
    rw [e]
    show (if a = a then b else _) = b
    rw [if_pos rfl]
  have o2 := ord_swp o ga gab gb
  have hin : b ∈ orb (xs.map (swp · (a, b))) a := (orb_mem o2 ga (by omega)).mpr ⟨_, hit⟩
  unfold orb at hin
  obtain ⟨k, hk, ek⟩ := List.mem_map.mp hin
  have k0 : 0 < k := Nat.pos_of_ne_zero fun z => by
    subst z
    have : a = b := ek
    omega
  have := cut_any o2 ga gab gb k0 (List.mem_range.mp hk) ek
  rw [map_swp_swp] at this
  exact this
theorem cut_in (o : Ord n xs) (ga : 1 ≤ a) (gab : a < b) (gb : b ≤ n) (hb : b ∈ orb xs a) : cnt n (xs.map (swp · (a, b))) = cnt n xs + 1 := by
  unfold orb at hb
  obtain ⟨k, hk, ek⟩ := List.mem_map.mp hb
  have k0 : 0 < k := Nat.pos_of_ne_zero fun z => by
    subst z
    have : a = b := ek
    omega
  exact cut_any o ga gab gb k0 (List.mem_range.mp hk) ek
theorem labs_go {row : List (Int × Int)} : ∀ (r : List (Int × Int)), (∀ e ∈ r, e ∈ row) → ∀ x, labs row (go r x) = labs row x
  | [], _, x => rfl
  | e :: r, h, x => by
    have : go (e :: r) x = go r (swp x e) := rfl
    rw [this, labs_go r (fun d hd => h d (List.mem_cons_of_mem _ hd)) (swp x e)]
    have le := labs_edge e (h e List.mem_cons_self)
    unfold swp
    split
    · rename_i z; rw [z, le]
    · split
      · rename_i z; rw [z, le]
      · rfl
theorem labs_orb {row : List (Int × Int)} (g : Good n row) {x y : Int} (h1 : 1 ≤ x) (h2 : x ≤ n) (h : y ∈ orb (ledM n row) x) : labs row y = labs row x := by
  have o := ord_led g
  obtain ⟨k, rfl⟩ := (orb_mem o h1 h2).mp h
  clear h
  induction k with
  | zero => rfl
  | succ k ih =>
    have r := itn_in o h1 h2 k
    show labs row (ld (ledM n row) (itn (ld (ledM n row)) k x)) = _
    rw [ld_led r.1 r.2, labs_go row (fun e he => he), ih]
def np (n : Int) (row : List (Int × Int)) : Nat := (partsM n row).length
theorem cnt_nil (h : 0 ≤ n) : cnt n (ledM n []) = n.toNat := by
  have e := homeM_of h (r := []) Rise.nil
  have := homeM_cnt h (ord_led (row := []) (fun e he => by cases he))
  rw [e] at this
  simpa using this
end
end Sw
namespace Sw
open PySem L2
section
variable {n : Int} {xs ys : List Int} {a b : Int}
theorem orb_go (o : Ord n xs) {x y : Int} (h1 : 1 ≤ x) (h2 : x ≤ n) (h : y ∈ orb xs x) : ld xs y ∈ orb xs x := by
  obtain ⟨k, e⟩ := (orb_mem o h1 h2).mp h
  exact (orb_mem o h1 h2).mpr ⟨k + 1, by show ld xs (itn (ld xs) k x) = _; rw [e]⟩
theorem cut_sub (o : Ord n ys) (ga : 1 ≤ a) (gab : a < b) (gb : b ≤ n) (hb : b ∈ orb ys a) {x y : Int} (h1 : 1 ≤ x) (h2 : x ≤ n) (h : y ∈ orb (ys.map (swp · (a, b))) x) : y ∈ orb ys x := by
  have o2 := ord_swp o ga gab gb
  obtain ⟨k, rfl⟩ := (orb_mem o2 h1 h2).mp h
  clear h
  induction k with
  | zero => exact orb_self x
  | succ k ih =>
    have r := itn_in o2 h1 h2 k
    show ld (ys.map (swp · (a, b))) (itn (ld (ys.map (swp · (a, b)))) k x) ∈ _
    generalize itn (ld (ys.map (swp · (a, b)))) k x = z at r ih ⊢
    rw [ld_map o _ r.1 r.2]
    have hz := orb_go o h1 h2 ih
    show swp (ld ys z) (a, b) ∈ orb ys x
    unfold swp
    split
    · rename_i e
      have e : ld ys z = a := e
      rw [e] at hz
      exact orb_trans o h1 h2 hz hb
    · split
      · rename_i e
        have e : ld ys z = b := e
        rw [e] at hz
        exact orb_trans o h1 h2 hz (orb_sym o ga (by omega) hb)
      · exact hz
theorem join_in (o : Ord n xs) (ga : 1 ≤ a) (gab : a < b) (gb : b ≤ n) (hb : b ∉ orb xs a) : b ∈ orb (xs.map (swp · (a, b))) a := by
  have o2 := ord_swp o ga gab gb
  by_cases h : b ∈ orb (xs.map (swp · (a, b))) a
  · exact h
  · have e1 := join_any o ga gab gb hb
    have e2 := join_any o2 ga gab gb h
    rw [map_swp_swp] at e2
    omega
theorem cnt_ge {row : List (Int × Int)} (h0 : 0 ≤ n) (g : Good n row) : n.toNat ≤ row.length + cnt n (ledM n row) := by
  induction row using snoc_ind with
  | h0 => rw [cnt_nil h0]; omega
  | hs r e ih =>
    have ih := ih (good_left g)
    obtain ⟨a, b⟩ := e
    have ge := g (a, b) (List.mem_append_right _ (List.mem_singleton.mpr rfl))
    simp only at ge
    have o := ord_led (good_left g)
    rw [List.length_append, List.length_singleton, led_snoc]
    by_cases hb : b ∈ orb (ledM n r) a
    · have := cut_in o ge.1 ge.2.1 ge.2.2 hb
      omega
    · have := join_any o ge.1 ge.2.1 ge.2.2 hb
      omega
theorem least_edge {row : List (Int × Int)} (h0 : 0 ≤ n) (g : Good n row) (hl : row.length + cnt n (ledM n row) = n.toNat) : ∀ e ∈ row, e.2 ∈ orb (ledM n row) e.1 := by
  induction row using snoc_ind with
  | h0 => intro e he; cases he
  | hs r d ih =>
    obtain ⟨a, b⟩ := d
    have ge := g (a, b) (List.mem_append_right _ (List.mem_singleton.mpr rfl))
    simp only at ge
    have gl := good_left g
    have o := ord_led gl
    have c := cnt_ge h0 gl
    rw [List.length_append, List.length_singleton, led_snoc] at hl
    have hb : b ∉ orb (ledM n r) a := fun z => by
      have := cut_in o ge.1 ge.2.1 ge.2.2 z
      omega
    have j := join_any o ge.1 ge.2.1 ge.2.2 hb
    have ih := ih gl (by omega)
    have o2 := ord_swp o ge.1 ge.2.1 ge.2.2
    have hin := join_in o ge.1 ge.2.1 ge.2.2 hb
    rw [led_snoc]
    intro e he
    rcases List.mem_append.mp he with he | he
    · have gee := gl e he
      have q := ih e he
      refine cut_sub o2 ge.1 ge.2.1 ge.2.2 hin gee.1 (by omega) ?_
      rw [map_swp_swp]
      exact q
    · rw [List.mem_singleton.mp he]
      exact hin
theorem least_labs {row : List (Int × Int)} (h0 : 0 ≤ n) (g : Good n row) (hl : row.length + cnt n (ledM n row) = n.toNat) {x y : Int} (h1 : 1 ≤ x) (h2 : x ≤ n) : labs row y = labs row x ↔ y ∈ orb (ledM n row) x := by
  have o := ord_led g
  constructor
  · intro e
    have E := least_edge h0 g hl
    refine (closed_labs (S := fun u => u ∈ orb (ledM n row) x) (fun e he => ?_) e.symm).mp (orb_self x)
    have ge := g e he
    constructor
    · intro z
      exact orb_trans o h1 h2 z (E e he)
    · intro z
      exact orb_trans o h1 h2 z (orb_sym o ge.1 (by omega) (E e he))
  · exact labs_orb g h1 h2
end
end Sw
namespace L2
open PySem PySem.Spec PyProof.Rows
def Itv (K : PySem.W.Frag) (a : Addr) (xs : List V) : It :=
  ⟨fun i H => i < xs.length ∧ SqL K H a xs, fun i H x H' => H' = H ∧ xs.reverse[i]? = some x, fun i H => i = xs.length ∧ SqL K H a xs⟩
theorem turn_rev {P : Program} {w : World} {K : PySem.W.Frag} {tg : Expr} (a it : Addr) (xs : List V) :
    Turn P w K tg (Itv K a xs) [it] it (fun i h => h.IsRevIter it a ((xs.length : Int) - 1 - (i : Int))) where
  mem := by simp
  obj := fun i h st b hb => by
    have e : b = it := by simpa using hb
    subst e
    obtain ⟨o, e, c, d⟩ := st
    exact ⟨o, e, fun v z => by rw [d] at z; cases z⟩
  keep := fun i h h' st k => st.at fun o e => k it (by simp) o e
  item := by
    intro X hP hw hK hc i pins s σ H E I hf st hg
    subst hP hw hK
    obtain ⟨hi, hq⟩ := hg
    obtain ⟨its, rv, p, hz⟩ := I.list hq
    have hl := rv.length
    have hx : xs.reverse[i]? = some xs[xs.length - 1 - i] := by
      rw [List.getElem?_reverse hi, List.getElem?_eq_getElem (by omega)]
    obtain ⟨u, hu, ru⟩ := rv.get (List.getElem?_eq_getElem (show xs.length - 1 - i < xs.length by omega))
    obtain ⟨f0, f1, f2, f3, f4, f5⟩ := hf it (by simp)
    have e1 : (xs.length : Int) - 1 - (i : Int) = ((xs.length - 1 - i : Nat) : Int) := by omega
    have st2 : s.heap.IsRevIter it a ((xs.length - 1 - i : Nat) : Int) := by rw [← e1]; exact st
    refine wpAny_pyNext_rev_item st2 p.isList (x := u) (by simpa using hu) fun h' st' sb => ?_
    have I1 : Inv X pins σ H { s with heap := h' } := I.turned (t' := s.toks) (fun b o hb e => (sb.2 b hb).trans e) f0 f1 f3 f4 f5
    have e2 : ((xs.length - 1 - i : Nat) : Int) - 1 = (xs.length : Int) - 1 - ((i + 1 : Nat) : Int) := by omega
    rw [e2] at st'
    obtain ⟨o, e, c, d⟩ := id st'
    exact ⟨u, rfl, go_of (s := { s with heap := h' }) e c d (by decide) ⟨_, H, I1, ru, ⟨rfl, hx⟩, st', fun b hb => (hf b hb).1⟩⟩
  done := by
    intro X hP hw hK hc i pins s σ H E I hf st hg
    subst hP hw hK
    obtain ⟨hi, hq⟩ := hg
    obtain ⟨f0, f1, f2, f3, f4, f5⟩ := hf it (by simp)
    have st2 : s.heap.IsRevIter it a (-1) := by
      have e : (xs.length : Int) - 1 - (i : Int) = -1 := by omega
      rw [← e]; exact st
    exact wpAny_pyNext_rev_end (I.ok.hd hc) st2 fun h' eb => ⟨rfl, I.turned (t' := s.toks) (fun b o hb e => eb b o hb e) f0 f1 f3 f4 f5⟩
  self := fun _ _ _ _ _ st h => wpAny_pyIter_revIter st h
def iRev (K : PySem.W.Frag) (ta : TA) : TI := fun σ H R => ta σ H fun vs H1 => ∃ (a : Addr) (xs : List V), vs = [.ref a] ∧ SqL K H1 a xs ∧ R (Itv K a xs) H1
theorem pi_rev {X : Cx} {K : PySem.W.Frag} {e tg : Expr} {ta : TA} {p pos : Pos} (hK : X.K = K) (hg : Gl X "reversed") (hm : X.mg "reversed" = none) (ha : PA X [e] ta)
    (hs : starEach [e] X.env = [(false, eval e X.env)] := by rfl) :
    PI X tg (.Call (.Name "reversed" p) [e] [] pos) (iRev K ta) := by
  subst hK
  intro pins s σ H R I h
  refine Call_ (ld_blt I hg hm (by decide +kernel : bootBuiltins "reversed" = some (.type "reversed")) (PyProof.Rows.callWith_type1 (thn (ha pos pins s σ H _ I h) fun us s2 ⟨vs, H2, I2, r1, a, xs, e1, hq, hR⟩ => ?_) hs rfl) (by decide +kernel) (by decide +kernel))
  subst e1
  obtain ⟨u, rfl, ru⟩ := vals1 r1
  cases ru
  obtain ⟨its, rv, pl, hz⟩ := I2.list hq
  have hl := rv.length
  refine call_reversed_list pl.isList ?_
  have st : (s2.heap.push (revObj a ((its.toArray.size : Int) - 1))).IsRevIter s2.heap.objs.size a ((xs.length : Int) - 1 - ((0 : Nat) : Int)) := ⟨_, Heap.get?_push_size _ rfl, rfl, by
    have e : (its.toArray.size : Int) - 1 = (xs.length : Int) - 1 - ((0 : Nat) : Int) := by
      have : its.toArray.size = its.length := by simp
      omega
    rw [← e]; rfl⟩
  refine wpAny_pyIter_revIter st ?_
  refine ⟨s2.heap.objs.size, [s2.heap.objs.size], _, _, H2, rfl, I2.kept (t' := s2.toks) fun b o e => Heap.get?_push_of_some _ e, turn_rev a _ xs, st, fun b hb => ?_, hR⟩
  have e : b = s2.heap.objs.size := by simpa using hb
  subst e
  exact I2.fpOk (Nat.le_refl _) (I2.hok.fresh (Nat.le_refl _))
end L2
namespace L2
open PySem PySem.Spec PyProof.Rows
theorem gNJ {i : Nat} {v : V} {σ : St} {H : Hp} {k : St → Hp → Prop} (h : k (σ.set i (some v)) H) : gName i v σ H k := h
theorem seq_byJ {t u : TS} {D : Ends} {σ : St} {H : Hp} (R : St → Hp → Prop) (h1 : ∀ D' : Ends, (∀ σ' H', R σ' H' → D'.nx σ' H') → t D' σ H) (h2 : ∀ σ' H', R σ' H' → u D σ' H') : tSeq t u D σ H := h1 _ h2
theorem sub_leA {α : Type} [DecidableEq α] : ∀ {as bs : List α}, as.Nodup → (∀ x ∈ as, x ∈ bs) → as.length ≤ bs.length
  | [], _, _, _ => Nat.zero_le _
  | a :: as, bs, nd, h => by
    rw [List.nodup_cons] at nd
    have hb := h a List.mem_cons_self
    have le := sub_leA (bs := bs.erase a) nd.2 fun x hx => by
      have ne : x ≠ a := fun z => nd.1 (by rw [← z]; exact hx)
      exact (List.mem_erase_of_ne ne).mpr (h x (List.mem_cons_of_mem _ hx))
    rw [List.length_erase_of_mem hb] at le
    have := List.length_pos_of_mem hb
    rw [List.length_cons]
    omega
end L2
namespace Sw
open PySem L2
structure LstR (n : Int) (xs : List Int) (row : List (Int × Int)) : Prop where
  n0 : 0 ≤ n
  good : Good n row
  led : ledM n row = xs
  len : row.length + cnt n xs = n.toNat
section
variable {n : Int} {xs : List Int} {row : List (Int × Int)}
theorem LstR.ord (h : LstR n xs row) : Ord n xs := by rw [← h.led]; exact ord_led h.good
theorem LstR.edge (h : LstR n xs row) {e : Int × Int} (he : e ∈ row) : e.2 ∈ orb xs e.1 := by
  have := least_edge h.n0 h.good (by rw [h.led]; exact h.len) e he
  rwa [h.led] at this
theorem LstR.edge' (h : LstR n xs row) {e : Int × Int} (he : e ∈ row) : e.1 ∈ orb xs e.2 := by
  have g := h.good e he
  exact orb_sym h.ord (by omega) (by omega) (h.edge he)
theorem LstR.labsO (h : LstR n xs row) {x y : Int} (h1 : 1 ≤ x) (h2 : x ≤ n) : labs row y = labs row x ↔ y ∈ orb xs x := by
  have := least_labs h.n0 h.good (by rw [h.led]; exact h.len) (y := y) h1 h2
  rwa [h.led] at this
theorem least_le (o : Ord n xs) {m x : Int} (h1 : 1 ≤ m) (h2 : m ≤ n) (l : least xs m = true) (h : x ∈ orb xs m) : m ≤ x := by
  obtain ⟨k, rfl⟩ := (orb_mem o h1 h2).mp h
  exact (least_iff o h1 h2).mp l k
theorem least_one (o : Ord n xs) {m m' : Int} (h1 : 1 ≤ m) (h2 : m ≤ n) (h3 : 1 ≤ m') (h4 : m' ≤ n) (l : least xs m = true) (l' : least xs m' = true) (h : m' ∈ orb xs m) : m = m' := by
  have a := least_le o h1 h2 l h
  have b := least_le o h3 h4 l' (orb_sym o h1 h2 h)
  omega
theorem LstR.not2 (h : LstR n xs row) {e : Int × Int} (he : e ∈ row) : least xs e.2 = false := by
  cases z : least xs e.2 with
  | false => rfl
  | true =>
    have g := h.good e he
    have := least_le h.ord (by omega) g.2.2 z (h.edge' he)
    omega
theorem LstR.fix (h : LstR n xs row) {t : Int × Int} (ht : t ∈ row) (nt : least xs t.1 = false) {x : Int} (l : least xs x = true) : swp x t = x :=
  swp_ne (fun z => by rw [z, nt] at l; cases l) (fun z => by rw [z, h.not2 ht] at l; cases l)
theorem LstR.swp_orb (h : LstR n xs row) {t : Int × Int} (ht : t ∈ row) (x : Int) : swp x t ∈ orb xs x := by
  unfold swp
  by_cases c : x = t.1
  · rw [if_pos c, c]; exact h.edge ht
  · rw [if_neg c]
    by_cases d : x = t.2
    · rw [if_pos d, d]; exact h.edge' ht
    · rw [if_neg d]; exact orb_self x
theorem LstR.car_is (h : LstR n xs row) {s t : Int × Int} (hs : s ∈ row) (ht : t ∈ row) (nt : least xs t.1 = false) : least xs (car s t).1 = least xs s.1 ∧ (car s t).1 ∈ orb xs s.1 := by
  have o := h.ord
  have gs := h.good s hs
  have gt := h.good t ht
  have o1 := h.swp_orb ht s.1
  have o2 : swp s.2 t ∈ orb xs s.1 := orb_trans o (by omega) (by omega) (h.edge hs) (h.swp_orb ht s.2)
  cases ls : least xs s.1 with
  | true =>
    have f := h.fix ht nt ls
    have e : (car s t).1 = s.1 := by
      show min (swp s.1 t) (swp s.2 t) = s.1
      rw [f]
      have := least_le o (by omega) (by omega) ls o2
      omega
    rw [e]
    exact ⟨ls, orb_self _⟩
  | false =>
    have nu : least xs (swp s.1 t) = false := by
      cases z : least xs (swp s.1 t) with
      | false => rfl
      | true =>
        have := h.fix ht nt z
        rw [swp_swp] at this
        rw [this, z] at ls; cases ls
    have nv : least xs (swp s.2 t) = false := by
      cases z : least xs (swp s.2 t) with
      | false => rfl
      | true =>
        have := h.fix ht nt z
        rw [swp_swp] at this
        rw [← this, h.not2 hs] at z; cases z
    have e : (car s t).1 = swp s.1 t ∨ (car s t).1 = swp s.2 t := by
      show min (swp s.1 t) (swp s.2 t) = _ ∨ min (swp s.1 t) (swp s.2 t) = _
      omega
    rcases e with e | e <;> rw [e]
    · exact ⟨nu, o1⟩
    · exact ⟨nv, o2⟩
theorem LstR.car_meet (h : LstR n xs row) {f p : Int × Int} (hf : f ∈ row) (hp : p ∈ row) (lf : least xs f.1 = true) (ne : p.1 ≠ f.1) (sh : f.2 = p.1 ∨ f.2 = p.2) : (car p f).1 = f.1 := by
  have o := h.ord
  have gf := h.good f hf
  have gp := h.good p hp
  -- p lies in f's round
  have p1 : p.1 ∈ orb xs f.1 := by
    rcases sh with e | e
    · rw [← e]; exact h.edge hf
    · exact orb_trans o (by omega) (by omega) (h.edge hf) (by rw [e]; exact h.edge' hp)
  have p2 : p.2 ∈ orb xs f.1 := orb_trans o (by omega) (by omega) p1 (h.edge hp)
  have a1 := least_le o (by omega) (by omega) lf p1
  have ne2 : p.2 ≠ f.1 := by omega
  show min (swp p.1 f) (swp p.2 f) = f.1
  rcases sh with e | e
  · have s1 : swp p.1 f = f.1 := by
      unfold swp
      rw [if_neg ne, if_pos e.symm]
    have s2 : swp p.2 f = p.2 := swp_ne ne2 (fun z => by omega)
    rw [s1, s2]; omega
  · have s2 : swp p.2 f = f.1 := by
      unfold swp
      rw [if_neg ne2, if_pos e.symm]
    have s1 : swp p.1 f = p.1 := swp_ne ne (fun z => by omega)
    rw [s1, s2]; omega
theorem LstR.near (h : LstR n xs row) {m : Int} (m1 : 1 ≤ m) (m2 : m ≤ n) (lm : least xs m = true) {e : Int × Int} (he : e ∈ row) (ne : least xs e.1 = false) (oe : e.1 ∈ orb xs m) : ∃ f ∈ row, ∃ p ∈ row, f.1 = m ∧ p.1 ≠ m ∧ (f.2 = p.1 ∨ f.2 = p.2) := by
  apply Classical.byContradiction
  intro no
  have o := h.ord
  have no' : ∀ f ∈ row, ∀ p ∈ row, f.1 = m → p.1 ≠ m → f.2 ≠ p.1 ∧ f.2 ≠ p.2 := fun f hf p hp h1 h2 => ⟨fun z => no ⟨f, hf, p, hp, h1, h2, .inl z⟩, fun z => no ⟨f, hf, p, hp, h1, h2, .inr z⟩⟩
  let S : Int → Prop := fun x => x = m ∨ (m, x) ∈ row
  have cl : ∀ d ∈ row, S d.1 ↔ S d.2 := fun d hd => by
    by_cases c : d.1 = m
    · refine ⟨fun _ => .inr ?_, fun _ => .inl c⟩
      rw [← c]; exact hd
    · have c2 : d.2 ≠ m := fun z => by
        have := h.not2 hd
        rw [z, lm] at this; cases this
      constructor
      · rintro (z | z)
        · exact absurd z c
        · exact absurd rfl (no' _ z d hd rfl c).1
      · rintro (z | z)
        · exact absurd z c2
        · exact absurd rfl (no' _ z d hd rfl c).2
  have lb : labs row e.1 = labs row m := (h.labsO m1 m2).mpr oe
  have hs : S e.1 := (closed_labs cl lb).mpr (.inl rfl)
  have nm : e.1 ≠ m := fun z => by rw [z, lm] at ne; cases ne
  rcases hs with z | z
  · exact nm z
  · exact absurd rfl (no' _ z e he rfl nm).1
def nbW (xs : List Int) (row : List (Int × Int)) : Nat := row.countP fun e => !least xs e.1
theorem nb_app (xs : List Int) (a b : List (Int × Int)) : nbW xs (a ++ b) = nbW xs a + nbW xs b := List.countP_append
theorem nb_pair (xs : List Int) (s t : Int × Int) : nbW xs [s, t] = (if least xs s.1 = true then 0 else 1) + (if least xs t.1 = true then 0 else 1) := by
  unfold nbW
  rw [List.countP_cons, List.countP_cons, List.countP_nil]
  cases least xs s.1 <;> cases least xs t.1 <;> rfl
structure FstW (n : Int) (xs : List Int) (row : List (Int × Int)) (m : Int) : Prop where
  m1 : 1 ≤ m
  m2 : m ≤ n
  lm : least xs m = true
  has : ∃ e ∈ row, least xs e.1 = false ∧ e.1 ∈ orb xs m
  low : ∀ m', 1 ≤ m' → m' < m → least xs m' = true → ∀ e ∈ row, e.1 ∈ orb xs m' → least xs e.1 = true
def QuaW (row : List (Int × Int)) (m : Int) (i j : Nat) : Prop := ∃ f p, row[i]? = some f ∧ row[j]? = some p ∧ f.1 = m ∧ p.1 ≠ m ∧ (f.2 = p.1 ∨ f.2 = p.2)
def dstW (i j : Nat) : Nat := (i - j) + (j - i)
def wtW : List (Int × Int) → Int
  | [] => 0
  | e :: r => e.1 * ((r.length : Int) + 1) + wtW r
def MeaW (n : Int) (xs : List Int) (row : List (Int × Int)) (μ : Nat) : Prop := ∃ d : Nat, (0 < nbW xs row → μ = 192 + nbW xs row * 8 + d ∧ d < 8 ∧ ∃ m i j, FstW n xs row m ∧ QuaW row m i j ∧ dstW i j ≤ d) ∧ (nbW xs row = 0 → μ = d ∧ d < 200 ∧ wtW row ≤ d)
theorem LstR.first (h : LstR n xs row) (hb : 0 < nbW xs row) : ∃ m, FstW n xs row m := by
  have o := h.ord
  have low : ∀ e ∈ row, ∃ m, 1 ≤ m ∧ m ≤ n ∧ least xs m = true ∧ e.1 ∈ orb xs m := fun e he => by
    have g := h.good e he
    obtain ⟨m, h1, h2, h3⟩ := low_ex o (x := e.1) (by omega) (by omega)
    have b := orb_in o (by omega) (by omega) h1
    exact ⟨m, b.1, b.2, h2, orb_sym o (by omega) (by omega) h1⟩
  obtain ⟨e, he, ne⟩ := List.countP_pos_iff.mp hb
  have ne : least xs e.1 = false := by simpa using ne
  obtain ⟨m0, a1, a2, a3, a4⟩ := low e he
  classical
  let P : Int → Bool := fun m => least xs m && decide (∃ e ∈ row, least xs e.1 = false ∧ e.1 ∈ orb xs m)
  have mem0 : m0 ∈ (ivl 1 (n + 1)).filter P := List.mem_filter.mpr ⟨mem_ivl.mpr ⟨a1, by omega⟩, by
    show (least xs m0 && decide _) = true
    rw [a3, decide_eq_true ⟨e, he, ne, a4⟩]; rfl⟩
  obtain ⟨M, hM, hmin⟩ := least_ex (l := (ivl 1 (n + 1)).filter P) (fun z => by rw [z] at mem0; cases mem0)
  obtain ⟨b1, b2⟩ := List.mem_filter.mp hM
  have b1 := mem_ivl.mp b1
  obtain ⟨b3, b4⟩ := Bool.and_eq_true_iff.mp b2
  refine ⟨M, b1.1, by omega, b3, of_decide_eq_true b4, fun m' c1 c2 c3 d hd od => ?_⟩
  cases z : least xs d.1 with
  | true => rfl
  | false =>
    have : m' ∈ (ivl 1 (n + 1)).filter P := List.mem_filter.mpr ⟨mem_ivl.mpr ⟨c1, by omega⟩, by
      show (least xs m' && decide _) = true
      rw [c3, decide_eq_true ⟨d, hd, z, od⟩]; rfl⟩
    have := hmin m' this
    omega
def triW : Nat → Int
  | 0 => 0
  | k + 1 => 7 * ((k : Int) + 1) + triW k
theorem wt_le : ∀ {row : List (Int × Int)}, (∀ e ∈ row, 1 ≤ e.1 ∧ e.1 ≤ 7) → 0 ≤ wtW row ∧ wtW row ≤ triW row.length
  | [], _ => ⟨Int.le_refl _, Int.le_refl _⟩
  | e :: r, h => by
    have := wt_le (row := r) (fun d hd => h d (List.mem_cons_of_mem _ hd))
    have g := h e List.mem_cons_self
    show 0 ≤ e.1 * ((r.length : Int) + 1) + wtW r ∧ e.1 * ((r.length : Int) + 1) + wtW r ≤ 7 * ((r.length : Int) + 1) + triW r.length
    have a : e.1 * ((r.length : Int) + 1) ≤ 7 * ((r.length : Int) + 1) := Int.mul_le_mul_of_nonneg_right g.2 (by omega)
    have b : 0 ≤ e.1 * ((r.length : Int) + 1) := Int.mul_nonneg (by omega) (by omega)
    omega
theorem tri_le : ∀ k : Nat, k ≤ 7 → triW k ≤ 196 := by decide
theorem LstR.short (h : LstR n xs row) (n8 : n ≤ 8) : row.length ≤ 7 := by
  have hl := h.len
  by_cases c : 1 ≤ n
  · have m : (1 : Int) ∈ (ivl 1 (n + 1)).filter (least xs) := List.mem_filter.mpr ⟨mem_ivl.mpr ⟨by omega, by omega⟩, by
      unfold least
      rw [List.all_eq_true]
      intro y hy
      exact decide_eq_true (orb_in h.ord (by omega) c hy).1⟩
    have : 0 < cnt n xs := List.length_pos_of_mem m
    omega
  · omega
theorem LstR.mea (h : LstR n xs row) (n8 : n ≤ 8) : ∃ μ, MeaW n xs row μ ∧ μ < 200 + 8 * nbW xs row := by
  have rl := h.short n8
  by_cases hb : 0 < nbW xs row
  · obtain ⟨m, fm⟩ := h.first hb
    obtain ⟨e, he, ne, oe⟩ := fm.has
    obtain ⟨f, hf, p, hp, q1, q2, q3⟩ := h.near fm.m1 fm.m2 fm.lm he ne oe
    obtain ⟨i, hi⟩ := List.getElem?_of_mem hf
    obtain ⟨j, hj⟩ := List.getElem?_of_mem hp
    have il := (List.getElem?_eq_some_iff.mp hi).1
    have jl := (List.getElem?_eq_some_iff.mp hj).1
    have d8 : dstW i j < 8 := by unfold dstW; omega
    refine ⟨192 + nbW xs row * 8 + dstW i j, ⟨dstW i j, fun _ => ⟨rfl, d8, m, i, j, fm, ⟨f, p, hi, hj, q1, q2, q3⟩, Nat.le_refl _⟩, fun z => by omega⟩, by omega⟩
  · have w := wt_le (row := row) (fun e he => by have := h.good e he; omega)
    have w2 := tri_le _ rl
    refine ⟨(wtW row).toNat, ⟨(wtW row).toNat, fun z => absurd z hb, fun _ => ⟨rfl, by omega, by omega⟩⟩, by omega⟩
end
end Sw
namespace Sw
open PySem L2
section
variable {n : Int} {xs : List Int} {row : List (Int × Int)}
theorem LstR.mv (h : LstR n xs row) {a : Nat} (ha : a + 1 < row.length) (f : Bool) : LstR n xs (mvM row a f) :=
  ⟨h.n0, mv_good h.good ha f, by rw [mv_led ha]; exact h.led, by rw [mv_len ha]; exact h.len⟩
theorem LstR.other (h : LstR n xs row) {f p : Int × Int} (hf : f ∈ row) (hp : p ∈ row) (lf : least xs f.1 = true) (ne : p.1 ≠ f.1) (sh : f.2 = p.1 ∨ f.2 = p.2) : least xs p.1 = false ∧ p.1 ∈ orb xs f.1 := by
  have o := h.ord
  have gf := h.good f hf
  have gp := h.good p hp
  have p1 : p.1 ∈ orb xs f.1 := by
    rcases sh with e | e
    · rw [← e]; exact h.edge hf
    · exact orb_trans o (by omega) (by omega) (h.edge hf) (by rw [e]; exact h.edge' hp)
  refine ⟨?_, p1⟩
  cases z : least xs p.1 with
  | false => rfl
  | true => exact absurd (least_one o (by omega) (by omega) (by omega) (by omega) lf z p1).symm ne
theorem FstW.moved (h : LstR n xs row) {m : Int} (fm : FstW n xs row m) {r' : List (Int × Int)} {p : Int × Int} (hp : p ∈ r') (np : least xs p.1 = false) (op : p.1 ∈ orb xs m)
    (hr : ∀ e ∈ r', e ∈ row ∨ ∃ s ∈ row, least xs e.1 = least xs s.1 ∧ e.1 ∈ orb xs s.1) : FstW n xs r' m := by
  have o := h.ord
  refine ⟨fm.m1, fm.m2, fm.lm, ⟨p, hp, np, op⟩, fun m' c1 c2 c3 e he oe => ?_⟩
  have m2 := fm.m2
  rcases hr e he with g | ⟨s, hs, l, os⟩
  · exact fm.low m' c1 c2 c3 e g oe
  · rw [l]
    have gs := h.good s hs
    refine fm.low m' c1 c2 c3 s hs ?_
    exact orb_trans o c1 (by omega) oe (orb_sym o (by omega) (by omega) os)
theorem step_far (h : LstR n xs row) {m : Int} {i j : Nat} (fm : FstW n xs row m) (q : QuaW row m i j) (d2 : 2 ≤ dstW i j) :
    ∃ a f j', a + 1 < row.length ∧ (i < j ∧ a + 1 = j ∧ f = true ∨ j < i ∧ a = j ∧ f = false) ∧ LstR n xs (mvM row a f) ∧ nbW xs (mvM row a f) = nbW xs row ∧ FstW n xs (mvM row a f) m ∧ QuaW (mvM row a f) m i j' ∧ dstW i j' + 1 = dstW i j := by
  obtain ⟨f, p, hi, hj, rfl, q2, q3⟩ := q
  have il := (List.getElem?_eq_some_iff.mp hi).1
  have jl := (List.getElem?_eq_some_iff.mp hj).1
  have fin := List.mem_of_getElem? hi
  have pin := List.mem_of_getElem? hj
  obtain ⟨np, op⟩ := h.other fin pin fm.lm q2 q3
  unfold dstW at d2
  by_cases c : i < j
  · have ha : j - 1 + 1 < row.length := by omega
    refine ⟨j - 1, true, j - 1, ha, .inl ⟨c, by omega, rfl⟩, h.mv ha true, ?_⟩
    obtain ⟨A, s, t, B, e, hA⟩ := row_split ha
    subst e
    have et : t = p := by
      rw [List.getElem?_append_right (by omega), hA, show j - (j - 1) = 1 by omega] at hj
      exact Option.some.inj hj
    subst et
    have sin : s ∈ A ++ s :: t :: B := List.mem_append_right _ List.mem_cons_self
    have ci := h.car_is sin pin np
    rw [← hA, mv_at]
    have e1 : A ++ prM s t true ++ B = A ++ ([t, car s t] ++ B) := by rw [List.append_assoc]; rfl
    have e2 : A ++ s :: t :: B = A ++ ([s, t] ++ B) := rfl
    rw [e1]
    refine ⟨?_, fm.moved h (p := t) ?_ np op fun e he => ?_, ⟨f, t, ?_, ?_, rfl, q2, q3⟩, by unfold dstW; omega⟩
    · rw [e2, nb_app, nb_app, nb_app, nb_app, nb_pair, nb_pair, ci.1]; omega
    · exact List.mem_append_right _ List.mem_cons_self
    · rcases List.mem_append.mp he with he | he
      · exact .inl (List.mem_append_left _ he)
      · rcases List.mem_cons.mp he with rfl | he
        · exact .inl pin
        · rcases List.mem_cons.mp he with rfl | he
          · exact .inr ⟨s, sin, ci⟩
          · exact .inl (List.mem_append_right _ (List.mem_cons_of_mem _ (List.mem_cons_of_mem _ he)))
    · rw [List.getElem?_append_left (by omega)] at hi ⊢
      exact hi
    · rw [List.getElem?_append_right (by omega), hA, Nat.sub_self]
      rfl
  · have c' : j < i := by omega
    have ha : j + 1 < row.length := by omega
    refine ⟨j, false, j + 1, ha, .inr ⟨c', rfl, rfl⟩, h.mv ha false, ?_⟩
    obtain ⟨A, s, t, B, e, hA⟩ := row_split ha
    subst e
    have es : s = p := by
      rw [List.getElem?_append_right (by omega), hA, Nat.sub_self] at hj
      exact Option.some.inj hj
    subst es
    have tin : t ∈ A ++ s :: t :: B := List.mem_append_right _ (List.mem_cons_of_mem _ List.mem_cons_self)
    have ci := h.car_is tin pin np
    rw [← hA, mv_at]
    have e1 : A ++ prM s t false ++ B = A ++ ([car t s, s] ++ B) := by rw [List.append_assoc]; rfl
    have e2 : A ++ s :: t :: B = A ++ ([s, t] ++ B) := rfl
    rw [e1]
    refine ⟨?_, fm.moved h (p := s) ?_ np op fun e he => ?_, ⟨f, s, ?_, ?_, rfl, q2, q3⟩, by rw [hA]; unfold dstW; omega⟩
    · rw [e2, nb_app, nb_app, nb_app, nb_app, nb_pair, nb_pair, ci.1]; omega
    · exact List.mem_append_right _ (List.mem_cons_of_mem _ List.mem_cons_self)
    · rcases List.mem_append.mp he with he | he
      · exact .inl (List.mem_append_left _ he)
      · rcases List.mem_cons.mp he with rfl | he
        · exact .inr ⟨t, tin, ci⟩
        · rcases List.mem_cons.mp he with rfl | he
          · exact .inl pin
          · exact .inl (List.mem_append_right _ (List.mem_cons_of_mem _ (List.mem_cons_of_mem _ he)))
    · rw [List.getElem?_append_right (by omega), hA] at hi ⊢
      rw [show i - j = (i - j - 2) + 2 by omega] at hi ⊢
      exact hi
    · rw [hA, List.getElem?_append_right (by omega), hA, show j + 1 - j = 1 by omega]
      rfl
theorem step_meet (h : LstR n xs row) {m : Int} {i j : Nat} (fm : FstW n xs row m) (q : QuaW row m i j) (d1 : dstW i j = 1) :
    ∃ a f, a + 1 < row.length ∧ (i < j ∧ a + 1 = j ∧ f = false ∨ j < i ∧ a = j ∧ f = true) ∧ LstR n xs (mvM row a f) ∧ nbW xs (mvM row a f) + 1 = nbW xs row := by
  obtain ⟨f, p, hi, hj, rfl, q2, q3⟩ := q
  have il := (List.getElem?_eq_some_iff.mp hi).1
  have jl := (List.getElem?_eq_some_iff.mp hj).1
  have fin := List.mem_of_getElem? hi
  have pin := List.mem_of_getElem? hj
  obtain ⟨np, op⟩ := h.other fin pin fm.lm q2 q3
  have cm := h.car_meet fin pin fm.lm q2 q3
  unfold dstW at d1
  by_cases c : i < j
  · have ha : j - 1 + 1 < row.length := by omega
    refine ⟨j - 1, false, ha, .inl ⟨c, by omega, rfl⟩, h.mv ha false, ?_⟩
    obtain ⟨A, s, t, B, e, hA⟩ := row_split ha
    subst e
    have et : t = p := by
      rw [List.getElem?_append_right (by omega), hA, show j - (j - 1) = 1 by omega] at hj
      exact Option.some.inj hj
    have es : s = f := by
      rw [List.getElem?_append_right (by omega), hA, show i - (j - 1) = 0 by omega] at hi
      exact Option.some.inj hi
    subst et es
    rw [← hA, mv_at]
    have e1 : A ++ prM s t false ++ B = A ++ ([car t s, s] ++ B) := by rw [List.append_assoc]; rfl
    have e2 : A ++ s :: t :: B = A ++ ([s, t] ++ B) := rfl
    rw [e1, e2, nb_app, nb_app, nb_app, nb_app, nb_pair, nb_pair, cm, fm.lm, np]
    simp
    omega
  · have c' : j < i := by omega
    have ha : j + 1 < row.length := by omega
    refine ⟨j, true, ha, .inr ⟨c', rfl, rfl⟩, h.mv ha true, ?_⟩
    obtain ⟨A, s, t, B, e, hA⟩ := row_split ha
    subst e
    have es : s = p := by
      rw [List.getElem?_append_right (by omega), hA, Nat.sub_self] at hj
      exact Option.some.inj hj
    have et : t = f := by
      rw [List.getElem?_append_right (by omega), hA, show i - j = 1 by omega] at hi
      exact Option.some.inj hi
    subst es et
    rw [← hA, mv_at]
    have e1 : A ++ prM s t true ++ B = A ++ ([t, car s t] ++ B) := by rw [List.append_assoc]; rfl
    have e2 : A ++ s :: t :: B = A ++ ([s, t] ++ B) := rfl
    rw [e1, e2, nb_app, nb_app, nb_app, nb_app, nb_pair, nb_pair, cm, fm.lm, np]
    simp
    omega
theorem nb_zero (hb : nbW xs row = 0) {e : Int × Int} (he : e ∈ row) : least xs e.1 = true := by
  cases z : least xs e.1 with
  | true => rfl
  | false =>
    have : 0 < nbW xs row := List.countP_pos_iff.mpr ⟨e, he, by rw [z]; rfl⟩
    omega
theorem wt_swap (s t : Int × Int) (B : List (Int × Int)) (hs : t.1 < s.1) : ∀ A : List (Int × Int), wtW (A ++ ([t, s] ++ B)) < wtW (A ++ ([s, t] ++ B))
  | [] => by
    show t.1 * (((s :: B).length : Int) + 1) + (s.1 * ((B.length : Int) + 1) + wtW B) < s.1 * (((t :: B).length : Int) + 1) + (t.1 * ((B.length : Int) + 1) + wtW B)
    have e1 : (((s :: B).length : Nat) : Int) = (B.length : Int) + 1 := by rw [List.length_cons]; omega
    have e2 : (((t :: B).length : Nat) : Int) = (B.length : Int) + 1 := by rw [List.length_cons]; omega
    rw [e1, e2, Int.mul_add t.1, Int.mul_add s.1 ((B.length : Int) + 1)]
    omega
  | a :: A => by
    have ih := wt_swap s t B hs A
    show a.1 * (((A ++ ([t, s] ++ B)).length : Int) + 1) + wtW (A ++ ([t, s] ++ B)) < a.1 * (((A ++ ([s, t] ++ B)).length : Int) + 1) + wtW (A ++ ([s, t] ++ B))
    have e : (A ++ ([t, s] ++ B)).length = (A ++ ([s, t] ++ B)).length := by simp
    rw [e]
    omega
theorem step_sort (h : LstR n xs row) (hb : nbW xs row = 0) {a : Nat} {s t : Int × Int} (hs : row[a]? = some s) (ht : row[a + 1]? = some t) (gt : t.1 < s.1) : a + 1 < row.length ∧ LstR n xs (mvM row a true) ∧ nbW xs (mvM row a true) = 0 ∧ wtW (mvM row a true) < wtW row := by
  have ha := (List.getElem?_eq_some_iff.mp ht).1
  refine ⟨ha, h.mv ha true, ?_⟩
  obtain ⟨A, s', t', B, e, hA⟩ := row_split ha
  subst e
  have es : s' = s := by
    rw [List.getElem?_append_right (by omega), hA, Nat.sub_self] at hs
    exact Option.some.inj hs
  have et : t' = t := by
    rw [List.getElem?_append_right (by omega), hA, show a + 1 - a = 1 by omega] at ht
    exact Option.some.inj ht
  subst es et
  have sin : s' ∈ A ++ s' :: t' :: B := List.mem_append_right _ List.mem_cons_self
  have tin : t' ∈ A ++ s' :: t' :: B := List.mem_append_right _ (List.mem_cons_of_mem _ List.mem_cons_self)
  have ls := nb_zero hb sin
  have lt := nb_zero hb tin
  have o := h.ord
  have gs := h.good s' sin
  have gt' := h.good t' tin
  have ec : car s' t' = s' := by
    have a1 : swp s'.1 t' = s'.1 := swp_ne (by omega) (fun z => by have := h.not2 tin; rw [← z, ls] at this; cases this)
    have a2 : swp s'.2 t' = s'.2 := swp_ne (fun z => by have := h.not2 sin; rw [z, lt] at this; cases this) (fun z => by
      have q : s'.1 ∈ orb xs t'.1 := orb_trans o (by omega) (by omega) (h.edge tin) (by rw [← z]; exact h.edge' sin)
      have := least_one o (by omega) (by omega) (by omega) (by omega) lt ls q
      omega)
    show (min (swp s'.1 t') (swp s'.2 t'), max (swp s'.1 t') (swp s'.2 t')) = s'
    rw [a1, a2, Int.min_eq_left (by omega), Int.max_eq_right (by omega)]
  rw [← hA, mv_at]
  have e1 : A ++ prM s' t' true ++ B = A ++ ([t', s'] ++ B) := by
    have : prM s' t' true = [t', car s' t'] := rfl
    rw [this, ec, List.append_assoc]
  have e2 : A ++ s' :: t' :: B = A ++ ([s', t'] ++ B) := rfl
  rw [e1]
  refine ⟨?_, ?_⟩
  · rw [e2] at hb
    rw [nb_app, nb_app, nb_pair] at hb ⊢
    omega
  · rw [e2]; exact wt_swap s' t' B gt A
theorem sort_split {k : Int} : ∀ {l : List (Int × Int)}, l.Pairwise (fun a b => a.1 ≤ b.1) → (∀ e ∈ l, k ≤ e.1) → l = l.filter (fun e => decide (e.1 = k)) ++ l.filter fun e => !decide (e.1 = k)
  | [], _, _ => rfl
  | a :: l, pw, h => by
    have pw' := List.pairwise_cons.mp pw
    have ih := sort_split pw'.2 fun e he => h e (List.mem_cons_of_mem _ he)
    by_cases c : a.1 = k
    · rw [List.filter_cons_of_pos (p := fun e : Int × Int => decide (e.1 = k)) (decide_eq_true c), List.filter_cons_of_neg (p := fun e : Int × Int => !decide (e.1 = k)) (by rw [decide_eq_true c]; decide), List.cons_append, ← ih]
    · have none : ∀ e ∈ a :: l, ¬ e.1 = k := fun e he => by
        have := h a List.mem_cons_self
        rcases List.mem_cons.mp he with rfl | he
        · exact c
        · have := pw'.1 e he; omega
      rw [List.filter_eq_nil_iff.mpr (fun e he => by rw [decide_eq_false (none e he)]; decide), List.filter_eq_self.mpr (fun e he => by rw [decide_eq_false (none e he)]; rfl)]
      rfl
theorem sort_blocks : ∀ {ks : List Int} {l : List (Int × Int)}, ks.Pairwise (· < ·) → l.Pairwise (fun a b => a.1 ≤ b.1) → (∀ e ∈ l, e.1 ∈ ks) → l = (ks.map fun k => l.filter fun e => decide (e.1 = k)).flatten
  | [], l, _, _, h => by
    cases l with
    | nil => rfl
    | cons a l => exact absurd (h a List.mem_cons_self) (by simp)
  | k :: ks, l, hk, pw, h => by
    have hk' := List.pairwise_cons.mp hk
    have ge : ∀ e ∈ l, k ≤ e.1 := fun e he => by
      rcases List.mem_cons.mp (h e he) with z | z
      · omega
      · have := hk'.1 _ z; omega
    have sp := sort_split pw ge
    have ih := sort_blocks (ks := ks) (l := l.filter fun e => !decide (e.1 = k)) hk'.2 (pw.sublist List.filter_sublist) fun e he => by
      obtain ⟨h1, h2⟩ := List.mem_filter.mp he
      rcases List.mem_cons.mp (h e h1) with z | z
      · rw [decide_eq_true z] at h2; cases h2
      · exact z
    rw [List.map_cons, List.flatten_cons]
    have e2 : (ks.map fun k' => (l.filter fun e => !decide (e.1 = k)).filter fun e => decide (e.1 = k')) = ks.map fun k' => l.filter fun e => decide (e.1 = k') := by
      refine List.map_congr_left fun k' hk1 => ?_
      rw [List.filter_filter]
      refine List.filter_congr fun e _ => ?_
      by_cases c : e.1 = k'
      · have : e.1 ≠ k := by have := hk'.1 k' hk1; omega
        rw [decide_eq_true c, decide_eq_false this]; rfl
      · rw [decide_eq_false c]; rfl
    rw [e2] at ih
    rw [← ih]
    exact sp
theorem nodup_cover {l t : List Int} (nt : t.Nodup) (sub : ∀ x ∈ t, x ∈ l) (len : l.length ≤ t.length) : l.Nodup := by
  rw [List.Nodup, List.pairwise_iff_getElem]
  intro i j hi hj ij e
  have : t.length ≤ (l.eraseIdx j).length := sub_leA nt fun x hx => by
    obtain ⟨k, hk, rfl⟩ := List.mem_iff_getElem.mp (sub x hx)
    by_cases c : k = j
    · subst c
      rw [← e]
      refine List.mem_iff_getElem.mpr ⟨i, ?_, ?_⟩
      · rw [List.length_eraseIdx_of_lt hk]; omega
      · rw [List.getElem_eraseIdx_of_lt _ ij]
    · rcases Nat.lt_or_gt_of_ne c with g | g
      · refine List.mem_iff_getElem.mpr ⟨k, ?_, ?_⟩
        · rw [List.length_eraseIdx_of_lt hj]; omega
        · rw [List.getElem_eraseIdx_of_lt _ g]
      · refine List.mem_iff_getElem.mpr ⟨k - 1, ?_, ?_⟩
        · rw [List.length_eraseIdx_of_lt hj]; omega
        · rw [List.getElem_eraseIdx_of_ge _ (by omega)]
          congr 1
          omega
  rw [List.length_eraseIdx_of_lt hj] at this
  omega
theorem LstR.second (h : LstR n xs row) (hb : nbW xs row = 0) {m y : Int} (m1 : 1 ≤ m) (m2 : m ≤ n) (lm : least xs m = true) (hy : y ∈ orb xs m) (ne : y ≠ m) : (m, y) ∈ row := by
  let S : Int → Prop := fun x => x = m ∨ (m, x) ∈ row
  have o := h.ord
  have cl : ∀ d ∈ row, S d.1 ↔ S d.2 := fun d hd => by
    by_cases c : d.1 = m
    · refine ⟨fun _ => .inr ?_, fun _ => .inl c⟩
      rw [← c]; exact hd
    · have gd := h.good d hd
      have ld := nb_zero hb hd
      have no : d.1 ∉ orb xs m := fun z => c (least_one o m1 m2 (by omega) (by omega) lm ld z).symm
      constructor
      · rintro (z | z)
        · exact absurd z c
        · exact absurd (h.edge z) no
      · rintro (z | z)
        · have := h.not2 hd
          rw [z, lm] at this; cases this
        · exact absurd (orb_trans o m1 m2 (show d.2 ∈ orb xs m from h.edge z) (h.edge' hd)) no
  have lb : labs row y = labs row m := (h.labsO m1 m2).mpr hy
  rcases (closed_labs cl lb).mpr (.inl rfl) with z | z
  · exact absurd z ne
  · exact z
theorem filter_split {α : Type} (p : α → Bool) (l : List α) : (l.filter p).length + (l.filter fun x => !p x).length = l.length := by
  induction l with
  | nil => rfl
  | cons a l ih =>
    cases h : p a with
    | true => rw [List.filter_cons_of_pos h, List.filter_cons_of_neg (by rw [h]; decide), List.length_cons, List.length_cons]; omega
    | false => rw [List.filter_cons_of_neg (by rw [h]; decide), List.filter_cons_of_pos (by rw [h]; rfl), List.length_cons, List.length_cons]; omega
theorem LstR.seconds (h : LstR n xs row) (hb : nbW xs row = 0) : (row.map (·.2)).Nodup := by
  have o := h.ord
  refine nodup_cover (t := (ivl 1 (n + 1)).filter fun x => !least xs x) ((ivl_nodup 1 (n + 1)).sublist List.filter_sublist) (fun y hy => ?_) ?_
  · obtain ⟨h1, h2⟩ := List.mem_filter.mp hy
    have b := mem_ivl.mp h1
    obtain ⟨m, a1, a2, a3⟩ := low_ex o (x := y) (by omega) (by omega)
    have mb := orb_in o (by omega) (by omega) a1
    have := h.second hb mb.1 mb.2 a2 (orb_sym o (by omega) (by omega) a1) (fun z => by rw [z, a2] at h2; cases h2)
    exact List.mem_map.mpr ⟨_, this, rfl⟩
  · have := filter_split (least xs) (ivl 1 (n + 1))
    rw [ivl_length] at this
    have l := h.len
    unfold cnt at l
    have := h.n0
    rw [List.length_map]
    omega
theorem LstR.go_block (h : LstR n xs row) (hb : nbW xs row = 0) {m : Int} (m1 : 1 ≤ m) (m2 : m ≤ n) (lm : least xs m = true) : ∀ (r : List (Int × Int)), (∀ e ∈ r, e ∈ row) → ∀ z, z ∈ orb xs m → go r z = go (r.filter fun e => decide (e.1 = m)) z
  | [], _, _, _ => rfl
  | e :: r, sub, z, hz => by
    have o := h.ord
    have er := sub e List.mem_cons_self
    have ge := h.good e er
    have ih := h.go_block hb m1 m2 lm r fun d hd => sub d (List.mem_cons_of_mem _ hd)
    show go r (swp z e) = _
    by_cases c : e.1 = m
    · rw [List.filter_cons_of_pos (p := fun e : Int × Int => decide (e.1 = m)) (decide_eq_true c)]
      show _ = go (r.filter fun e => decide (e.1 = m)) (swp z e)
      exact ih _ (orb_trans o m1 m2 hz (h.swp_orb er z))
    · rw [List.filter_cons_of_neg (p := fun e : Int × Int => decide (e.1 = m)) (by rw [decide_eq_false c]; decide)]
      have le := nb_zero hb er
      have no : e.1 ∉ orb xs m := fun q => c (least_one o m1 m2 (by omega) (by omega) lm le q).symm
      have : swp z e = z := swp_ne (fun q => no (by rw [← q]; exact hz)) (fun q => no (orb_trans o m1 m2 hz (by rw [q]; exact h.edge' er)))
      rw [this]
      exact ih z hz
theorem orb_of (o : Ord n xs) {m : Int} {ys : List Int} (m1 : 1 ≤ m) (m2 : m ≤ n) (nd : (m :: ys).Nodup) (hf : ld xs m = ys.headD m) (hs : ∀ a y b, ys = a ++ y :: b → ld xs y = b.headD m) : orb xs m = m :: ys := by
  have st : ∀ j, j < (m :: ys).length → (m :: ys)[j]? = some (itn (ld xs) j m) := fun j => by
    induction j with
    | zero => intro _; rfl
    | succ j ih =>
      intro hj
      have hp := ih (by omega)
      show ys[j]? = some (ld xs (itn (ld xs) j m))
      rw [List.length_cons] at hj
      cases j with
      | zero =>
        show ys[0]? = some (ld xs m)
        rw [hf]
        match ys, hj with
        | y :: _, _ => rfl
      | succ j =>
        have hp : ys[j]? = some (itn (ld xs) (j + 1) m) := hp
        have e : ys = ys.take j ++ itn (ld xs) (j + 1) m :: ys.drop (j + 1) := by
          obtain ⟨hl, he⟩ := List.getElem?_eq_some_iff.mp hp
          rw [← he, ← List.drop_eq_getElem_cons hl, List.take_append_drop]
        rw [hs _ _ _ e]
        have hl : j + 1 < ys.length := by omega
        rw [List.getElem?_eq_getElem hl, List.drop_eq_getElem_cons hl]
        rfl
  have ret : itn (ld xs) (m :: ys).length m = m := by
    have hl : (m :: ys).length = ys.length + 1 := rfl
    rw [hl]
    show ld xs (itn (ld xs) ys.length m) = m
    have hp := st ys.length (by rw [hl]; omega)
    cases hy : ys with
    | nil =>
      rw [hy] at hf
      exact hf
    | cons y r =>
      have hp' : ys[ys.length - 1]? = some (itn (ld xs) ys.length m) := by
        rw [hy] at hp ⊢
        exact hp
      obtain ⟨hl2, he⟩ := List.getElem?_eq_some_iff.mp hp'
      have e : ys = ys.take (ys.length - 1) ++ itn (ld xs) ys.length m :: ys.drop (ys.length - 1 + 1) := by
        conv => lhs; rw [← List.take_append_drop (ys.length - 1) ys, List.drop_eq_getElem_cons hl2, he]
      have := hs _ _ _ e
      rw [List.drop_of_length_le (by omega)] at this
      rw [← hy]
      exact this
  have pe : per xs m = (m :: ys).length := by
    have pp : 0 < per xs m := by unfold per; omega
    rcases Nat.lt_trichotomy (per xs m) (m :: ys).length with c | c | c
    · have h1 := st _ c
      rw [per_eq o m1 m2] at h1
      obtain ⟨hl, he⟩ := List.getElem?_eq_some_iff.mp h1
      have := List.pairwise_iff_getElem.mp nd 0 (per xs m) (by rw [List.length_cons]; omega) hl pp
      exact absurd (by rw [he]; rfl) this
    · exact c
    · exact absurd ret (per_ne (by rw [List.length_cons]; omega) c)
  unfold orb
  rw [pe]
  apply List.ext_getElem?
  intro j
  by_cases c : j < (m :: ys).length
  · rw [List.getElem?_map, List.getElem?_range c, st j c]; rfl
  · rw [List.getElem?_eq_none (by rw [List.length_map, List.length_range]; omega), List.getElem?_eq_none (by omega)]
theorem star_end (h : LstR n xs row) (hb : nbW xs row = 0) (srt : ∀ (a : Nat) (s t : Int × Int), row[a]? = some s → row[a + 1]? = some t → s.1 ≤ t.1) : row = starM n xs := by
  have o := h.ord
  have pw : row.Pairwise fun a b => a.1 ≤ b.1 := by
    rw [List.pairwise_iff_getElem]
    intro i j hi hj ij
    have key : ∀ k, (hk : i + k < row.length) → row[i].1 ≤ (row[i + k]).1 := fun k => by
      induction k with
      | zero => intro _; exact Int.le_refl _
      | succ k ih =>
        intro hk
        have := srt (i + k) _ _ (List.getElem?_eq_getElem (by omega)) (List.getElem?_eq_getElem hk)
        have := ih (by omega)
        exact Int.le_trans this (by assumption)
    have := key (j - i) (by omega)
    have e : i + (j - i) = j := by omega
    simpa [e] using this
  have blocks := sort_blocks (ks := (ivl 1 (n + 1)).filter (least xs)) ((ivl_lt 1 (n + 1)).sublist List.filter_sublist) pw fun e he => by
    have g := h.good e he
    exact List.mem_filter.mpr ⟨mem_ivl.mpr ⟨g.1, by omega⟩, nb_zero hb he⟩
  rw [blocks]
  unfold starM rndM
  rw [List.map_map]
  congr 1
  refine List.map_congr_left fun m hm => ?_
  obtain ⟨a1, lm⟩ := List.mem_filter.mp hm
  have a1 := mem_ivl.mp a1
  have m2 : m ≤ n := by omega
  obtain ⟨ys, hys⟩ : ∃ ys : List Int, ys = (row.filter fun e => decide (e.1 = m)).map (·.2) := ⟨_, rfl⟩
  have eb : (row.filter fun e => decide (e.1 = m)) = ys.map fun y => (m, y) := by
    rw [hys, List.map_map]
    conv => lhs; rw [← List.map_id (row.filter fun e => decide (e.1 = m))]
    refine List.map_congr_left fun e he => ?_
    have := of_decide_eq_true (List.mem_filter.mp he).2
    show e = (m, e.2)
    rw [← this]
  have ndy : ys.Nodup := by
    rw [hys]
    exact (h.seconds hb).sublist (List.Sublist.map _ List.filter_sublist)
  have nm : m ∉ ys := fun z => by
    rw [hys] at z
    obtain ⟨e, he, e2⟩ := List.mem_map.mp z
    have := h.not2 (List.mem_filter.mp he).1
    rw [e2, lm] at this; cases this
  have ymem : ∀ y ∈ ys, y ∈ orb xs m ∧ 1 ≤ y ∧ y ≤ n := fun y hy => by
    have : (m, y) ∈ row := by
      have : (m, y) ∈ row.filter fun e => decide (e.1 = m) := by rw [eb]; exact List.mem_map.mpr ⟨y, hy, rfl⟩
      exact (List.mem_filter.mp this).1
    have g := h.good _ this
    exact ⟨h.edge this, by have := g.1; have := g.2.1; exact Int.le_trans g.1 (Int.le_of_lt g.2.1), g.2.2⟩
  have lg : ∀ z, z ∈ orb xs m → 1 ≤ z → z ≤ n → ld xs z = go (ys.map fun y => (m, y)) z := fun z hz z1 z2 => by
    rw [← h.led, ld_led z1 z2, h.go_block hb a1.1 m2 lm row (fun e he => he) z hz, eb]
  have ob := orb_of o a1.1 m2 (List.nodup_cons.mpr ⟨nm, ndy⟩) (by rw [lg m (orb_self m) a1.1 m2]; exact go_first nm ndy) fun a y b e => by
    have hy : y ∈ ys := by rw [e]; exact List.mem_append_right _ List.mem_cons_self
    have := ymem y hy
    rw [lg y this.1 this.2.1 this.2.2, e]
    rw [e] at nm ndy
    exact go_mid nm ndy
  show _ = star1 (orb xs m)
  rw [ob, eb]
  rfl
end
end Sw
namespace Sw
open PySem L2
section
variable {n : Int} {xs : List Int} {row : List (Int × Int)}
def StepW (n : Int) (xs : List Int) (row : List (Int × Int)) (a : Nat) (f : Bool) : Prop := a + 1 < row.length ∧ LstR n xs (mvM row a f) ∧ ∀ μ, MeaW n xs row μ → ∃ μ', μ' < μ ∧ MeaW n xs (mvM row a f) μ'
theorem FstW.one {m m' : Int} (h : FstW n xs row m) (h' : FstW n xs row m') : m = m' := by
  have aux : ∀ {m m' : Int}, FstW n xs row m → FstW n xs row m' → ¬ m < m' := fun {m m'} h h' lt => by
    obtain ⟨e, he, ne, oe⟩ := h.has
    rw [h'.low m h.m1 lt h.lm e he oe] at ne; cases ne
  have a := aux h h'
  have b := aux h' h
  omega
theorem LstR.qua (h : LstR n xs row) {m : Int} (m1 : 1 ≤ m) (m2 : m ≤ n) (lm : least xs m = true) (no : ∀ i j, ¬ QuaW row m i j) : ∀ e ∈ row, e.1 ∈ orb xs m → least xs e.1 = true := fun e he oe => by
  cases z : least xs e.1 with
  | true => rfl
  | false =>
    obtain ⟨f, hf, p, hp, q1, q2, q3⟩ := h.near m1 m2 lm he z oe
    obtain ⟨i, hi⟩ := List.getElem?_of_mem hf
    obtain ⟨j, hj⟩ := List.getElem?_of_mem hp
    exact absurd ⟨f, p, hi, hj, q1, q2, q3⟩ (no i j)
theorem first_of (h : LstR n xs row) {m : Int} {i j : Nat} (m1 : 1 ≤ m) (m2 : m ≤ n) (lm : least xs m = true) (hq : QuaW row m i j) (lo : ∀ m', 1 ≤ m' → m' < m → least xs m' = true → ∀ i j, ¬ QuaW row m' i j) : FstW n xs row m := by
  obtain ⟨f, p, hi, hj, rfl, q2, q3⟩ := hq
  have fin := List.mem_of_getElem? hi
  have pin := List.mem_of_getElem? hj
  obtain ⟨np, op⟩ := h.other fin pin lm q2 q3
  exact ⟨m1, m2, lm, ⟨p, pin, np, op⟩, fun m' c1 c2 c3 => h.qua c1 (by omega) c3 (lo m' c1 c2 c3)⟩
theorem none_of (h : LstR n xs row) (no : ∀ m, 1 ≤ m → m ≤ n → least xs m = true → ∀ i j, ¬ QuaW row m i j) : nbW xs row = 0 := by
  have o := h.ord
  apply Classical.byContradiction
  intro hb
  obtain ⟨m, fm⟩ := h.first (by omega)
  obtain ⟨e, he, ne, oe⟩ := fm.has
  rw [h.qua fm.m1 fm.m2 fm.lm (no m fm.m1 fm.m2 fm.lm) e he oe] at ne; cases ne
theorem QuaW.ne {m : Int} {i j : Nat} (q : QuaW row m i j) : i ≠ j := by
  obtain ⟨f, p, hi, hj, q1, q2, _⟩ := q
  intro e
  rw [e, hj] at hi
  cases hi
  exact q2 q1
theorem stepw_join (h : LstR n xs row) (n8 : n ≤ 8) {m : Int} {i j a : Nat} {f : Bool} (fm : FstW n xs row m) (q : QuaW row m i j) (mn : ∀ i' j', QuaW row m i' j' → dstW i j ≤ dstW i' j')
    (h1 : dstW i j = 1 → (i < j ∧ a + 1 = j ∧ f = false) ∨ (j < i ∧ a = j ∧ f = true)) (h2 : dstW i j ≠ 1 → (i < j ∧ a + 1 = j ∧ f = true) ∨ (j < i ∧ a = j ∧ f = false)) : StepW n xs row a f := by
  have ne := q.ne
  obtain ⟨e, he, le, _⟩ := fm.has
  have hb : 0 < nbW xs row := List.countP_pos_iff.mpr ⟨e, he, by rw [le]; rfl⟩
  by_cases c : dstW i j = 1
  · obtain ⟨a', f', b1, b2, b3, b4⟩ := step_meet h fm q c
    have : a' = a ∧ f' = f := by
      rcases h1 c with ⟨c1, c2, c3⟩ | ⟨c1, c2, c3⟩ <;> rcases b2 with ⟨d1, d2, d3⟩ | ⟨d1, d2, d3⟩ <;> first | omega | exact ⟨by omega, by rw [c3, d3]⟩
    obtain ⟨rfl, rfl⟩ := this
    refine ⟨b1, b3, fun μ hμ => ?_⟩
    obtain ⟨μ', m1, m2⟩ := b3.mea n8
    obtain ⟨d, e1, _⟩ := hμ
    obtain ⟨e1, _⟩ := e1 hb
    exact ⟨μ', by omega, m1⟩
  · obtain ⟨a', f', j', b1, b2, b3, b4, b5, b6, b7⟩ := step_far h fm q (by unfold dstW at c ⊢; omega)
    have : a' = a ∧ f' = f := by
      rcases h2 c with ⟨c1, c2, c3⟩ | ⟨c1, c2, c3⟩ <;> rcases b2 with ⟨d1, d2, d3⟩ | ⟨d1, d2, d3⟩ <;> first | omega | exact ⟨by omega, by rw [c3, d3]⟩
    obtain ⟨rfl, rfl⟩ := this
    refine ⟨b1, b3, fun μ hμ => ?_⟩
    obtain ⟨d, e3, _⟩ := hμ
    obtain ⟨e1, e2, m', i', j2, g1, g2, g3⟩ := e3 hb
    rw [g1.one fm] at g2
    have := mn _ _ g2
    refine ⟨μ - 1, by omega, d - 1, fun _ => ⟨by rw [b4]; omega, by omega, m, i, j', b5, b6, by omega⟩, fun z => by omega⟩
theorem stepw_sort (h : LstR n xs row) (n8 : n ≤ 8) (hb : nbW xs row = 0) {a : Nat} {s t : Int × Int} (hs : row[a]? = some s) (ht : row[a + 1]? = some t) (gt : t.1 < s.1) : StepW n xs row a true := by
  obtain ⟨b1, b2, b3, b4⟩ := step_sort h hb hs ht gt
  refine ⟨b1, b2, fun μ hμ => ?_⟩
  obtain ⟨d, _, e4⟩ := hμ
  have := e4 hb
  have w := wt_le (row := mvM row a true) (fun e he => by have := b2.good e he; omega)
  exact ⟨d - 1, by omega, d - 1, fun z => by omega, fun _ => ⟨rfl, by omega, by omega⟩⟩
end
end Sw
namespace Sw
open PySem L2
theorem ix_tupN {X : Cx} {K : PySem.W.Frag} (h : X.K = K) : IxR X (rIxT K) := by subst h; exact ix_tup
def trW (a b : Nat) : List Int := [(dstW a b : Int), (a : Int) + 1, (b : Int) + 1]
def FdW (row : List (Int × Int)) (m : Int) (Ls : List (List Int)) (P : Nat → Nat → Prop) : Prop := (∀ L ∈ Ls, ∃ a b, L = trW a b ∧ QuaW row m a b) ∧ ∀ a b, P a b → QuaW row m a b → trW a b ∈ Ls
def spNo : Sp := fun vs H Q _ => ∃ (l : Addr) (es : List V) (row : List (Int × Int)) (m : Int), vs = [.ref l, .int m] ∧ H l = some (.lst es) ∧ Exs H es row ∧ row.length ≤ 1000 ∧
  ((∀ a b, ¬ QuaW row m a b) → ∀ H', Same H H' → Q .non H') ∧
  ∀ a b, QuaW row m a b → (∀ a' b', QuaW row m a' b' → dstW a b ≤ dstW a' b') → ∀ t H', H' t = some (.tup ((trW a b).map V.int)) → Same H H' → Q (.ref t) H'
structure TNo (P : Program) (w : World) (K : PySem.W.Frag) (mg : Str → Option Value) (base : Heap) : Prop extends T1 mg K where
  b_min : mg "min" = none
  b_enumerate : mg "enumerate" = none
section
variable {P : Program} {w : World} {K : PySem.W.Frag} {mg : Str → Option Value} {base : Heap}
theorem sc_nearest_other : FnScope ["row", "least", "found"] ["row", "least"] (defScope (top 31)) := ⟨rfl, rfl, rfl, by decide +kernel, rfl, by decide +kernel, by decide +kernel⟩
theorem ok_no {f : Addr} {fd : FuncData} (F : Fun K "nearest_other" "nearest_other" (top 31) f fd) (T : TNo P w K mg base) : FnOk P w K mg base CX0 1 f fd ["row", "least"] spNo := by
  refine F.ok sc_nearest_other (fun vs H Q E h => ?_) (fun cdv A outer s H vs Q E hr h => ?_)
  · obtain ⟨l, es, row, m, rfl, _⟩ := h
    rfl
  · obtain ⟨l, es, row, m, rfl, hl, hx, rl, k0, k1⟩ := h
    refine ⟨_, (pss_cons (ps_compN (i := 2) sc_nearest_other.nd rfl rfl (N := (["at", "exchange", "other", "pair", "least", "row"] : List Str)) (ix := ([none, none, none, none, some 1, some 0] : List (Option Nat))) (comp_ok rfl rfl) rfl (pi_enumL1 (K := K) rfl rfl T.b_enumerate (pa_cons (pv 0) pa_nil)) (fun _ _ _ _ => (pg_tupK (K := K) (n := 2) rfl rfl (pgs_cons (pg_name (i := 0) (show List.Nodup (["at", "exchange", "other", "pair", "least", "row"] : List Str) from by decide +kernel) rfl (Or.inl rfl)) (pgs_cons (pg_name (i := 1) (show List.Nodup (["at", "exchange", "other", "pair", "least", "row"] : List Str) from by decide +kernel) rfl (Or.inl rfl)) pgs_nil)))) (fun _ _ _ _ => (pif_one (pt_cmpR op_eq (pe_ix (ix_tupN (K := K) rfl) (pv 1) pe_int (fun _ _ => rfl)) (pv 4) (nomark _)))) (fun _ _ _ _ => (Chain.more rfl (pi_enumL1 (K := K) rfl rfl T.b_enumerate (pa_cons (pv 5) pa_nil)) (pg_tupK (K := K) (n := 2) rfl rfl (pgs_cons (pg_name (i := 2) (show List.Nodup (["at", "exchange", "other", "pair", "least", "row"] : List Str) from by decide +kernel) rfl (Or.inl rfl)) (pgs_cons (pg_name (i := 3) (show List.Nodup (["at", "exchange", "other", "pair", "least", "row"] : List Str) from by decide +kernel) rfl (Or.inl rfl)) pgs_nil))) (pif_one (PW.pt (pw_and (pt_cmpR op_ne (pe_ix (ix_tupN (K := K) rfl) (pv 3) pe_int (fun _ _ => rfl)) (pv 4) (nomark _)) (pw_and1 (pt_cmpR (op_inK (K := K) rfl) (pe_ix (ix_tupN (K := K) rfl) (pv 1) pe_int (fun _ _ => rfl)) (pv 3) rfl))))) (fun _ => rfl) (Chain.last rfl (pe_tup (@pa_cons _ _ _ _ _ (pe_callB call_abs rfl T.b_abs (by decide +kernel) (pa_cons (pe_op op_sub (pv 0) (pv 2)) pa_nil)) (@pa_cons _ _ _ _ _ (pv 0) (@pa_cons _ _ _ _ _ (pv 2) pa_nil st_name) st_name) st_call))))))
      (pss_one (ps_ret (pe_minD (K := K) rfl rfl (hu_of hr) rfl T.b_min (pa_cons (pv 2) pa_nil))))), ?_⟩
    have el := hx.length
    have big : (10000000 : Nat) ≤ sizeLine := by decide
    refine ⟨_, rfl, l, es, rfl, SqL.of hl, wl_enumL (K := K) (a := l) (xs := es) (fun i ys σ' H' => (∃ v0 v1 v2 v3, σ' = [v0, v1, v2, v3, some (.int m), some (.ref l)]) ∧ Same H H' ∧ ∃ Ls, TupsV H' ys Ls ∧ FdW row m Ls (fun a _ => a < i) ∧ Ls.length ≤ i * 1000) ⟨⟨_, _, _, _, rfl⟩, Same.refl _, [], .nil, ⟨fun L hL => (nomatch hL), fun a b z => absurd z (Nat.not_lt_zero _)⟩, Nat.zero_le _⟩ (fun i ys σ' H' _ z => SqL.of (z.2.1 _ _ hl)) ?_ ?_⟩
    · rintro i ys σ' H2 x t S hxi ⟨⟨v0, v1, v2, v3, rfl⟩, s2, Ls, tv, fd, lb⟩ ft done
      have il := (List.getElem?_eq_some_iff.mp hxi).1
      obtain ⟨te, ea, eb, rfl, hte, hri⟩ := (hx.keep (Same.tups s2)).get hxi
      have s3 : Same H2 (upd H2 t (.tup [.int ((i : Int) + (1 : Nat)), .ref te])) := Same.new ft
      have h3 : upd H2 t (.tup [.int ((i : Int) + (1 : Nat)), .ref te]) t = some (.tup [.int ((i : Int) + (1 : Nat)), .ref te]) := upd_same
      generalize upd H2 t (.tup [.int ((i : Int) + (1 : Nat)), .ref te]) = H3 at s3 h3 ⊢
      refine ⟨t, _, rfl, SqT.of h3, rfl, _, _, rfl, _, _, rfl, rfl, ?_⟩
      refine ⟨_, rfl, te, _, 0, .int ea, rfl, rfl, SqT.of (s3 _ _ hte), rfl, ?_⟩
      refine ⟨_, rfl, rfl, _, rfl, ?_⟩
      by_cases cm : ea ≠ m
      · refine iteE (decide_eq_false fun z => cm (by injection z)) (done _ _ _ ⟨⟨_, _, _, _, rfl⟩, s2.trans s3, Ls, tv.same s3, ⟨fd.1, fun a b lt q => ?_⟩, by omega⟩)
        by_cases z : a = i
        · obtain ⟨f', p', g1, _, g3, _⟩ := q
          rw [z, hri] at g1
          cases g1
          exact absurd g3 cm
        · exact fd.2 a b (by omega) q
      have cm : ea = m := Classical.byContradiction cm
      subst cm
      refine iteP (decide_eq_true rfl) ?_
      refine ⟨_, rfl, l, es, rfl, SqL.of (s3 _ _ (s2 _ _ hl)), wl_enumL (K := K) (a := l) (xs := es) (fun j ys σ' H' => (∃ v2 v3, σ' = [some (.int ((i : Int) + (1 : Nat))), some (.ref te), v2, v3, some (.int ea), some (.ref l)]) ∧ Same H3 H' ∧ ∃ Ls, TupsV H' ys Ls ∧ FdW row ea Ls (fun a b => a < i ∨ (a = i ∧ b < j)) ∧ Ls.length ≤ i * 1000 + j) ⟨⟨_, _, rfl⟩, Same.refl _, Ls, tv.same s3, ⟨fd.1, fun a b z q => fd.2 a b (by omega) q⟩, lb⟩ (fun j ys σ' H' _ z => SqL.of (z.2.1 _ _ (s3 _ _ (s2 _ _ hl)))) ?_ ?_⟩
      · rintro j ys2 σ' H4 x t2 S2 hxj ⟨⟨v2, v3, rfl⟩, s4, Ls2, tv2, fd2, lb2⟩ ft2 done2
        have jl := (List.getElem?_eq_some_iff.mp hxj).1
        obtain ⟨tp, pa, pb, rfl, htp, hrj⟩ := (hx.keep (Same.tups ((s2.trans s3).trans s4))).get hxj
        have s5 : Same H4 (upd H4 t2 (.tup [.int ((j : Int) + (1 : Nat)), .ref tp])) := Same.new ft2
        have h5 : upd H4 t2 (.tup [.int ((j : Int) + (1 : Nat)), .ref tp]) t2 = some (.tup [.int ((j : Int) + (1 : Nat)), .ref tp]) := upd_same
        generalize upd H4 t2 (.tup [.int ((j : Int) + (1 : Nat)), .ref tp]) = H5 at s5 h5 ⊢
        have hte5 := s5 _ _ (s4 _ _ (s3 _ _ hte))
        have htp5 := s5 _ _ htp
        have no : ¬ QuaW row ea i j → FdW row ea Ls2 (fun a b => a < i ∨ (a = i ∧ b < j + 1)) := fun nq => ⟨fd2.1, fun a b z q => by
          by_cases w : a = i ∧ b = j
          · obtain ⟨rfl, rfl⟩ := w
            exact absurd q nq
          · exact fd2.2 a b (by omega) q⟩
        refine ⟨t2, _, rfl, SqT.of h5, rfl, _, _, rfl, _, _, rfl, rfl, ?_⟩
        refine ⟨_, rfl, tp, _, 0, .int pa, rfl, rfl, SqT.of htp5, rfl, _, rfl, rfl, _, rfl, ?_⟩
        by_cases c1 : pa = ea
        · refine iteE (by rw [c1]; simp) (iteE rfl (done2 _ _ _ ⟨⟨_, _, rfl⟩, s4.trans s5, Ls2, tv2.same s5, no fun q => ?_, by omega⟩))
          obtain ⟨f', p', _, g2, _, g4, _⟩ := q
          rw [hrj] at g2
          cases g2
          exact g4 c1
        · refine iteP (by simpa using c1) ?_
          refine ⟨_, rfl, te, _, 1, .int eb, rfl, rfl, SqT.of hte5, rfl, _, rfl, tp, _, rfl, .inr (SqT.of htp5), rfl, rfl, _, rfl, ?_⟩
          have e1 : inV (V.int eb) [V.int pa, V.int pb] = true ↔ eb = pa ∨ eb = pb := by
            show ((pa == eb) || ((pb == eb) || false)) = true ↔ _
            rw [Bool.or_false, Bool.or_eq_true, beq_iff_eq, beq_iff_eq]
            omega
          by_cases c2 : eb = pa ∨ eb = pb
          · have qq : QuaW row ea i j := ⟨_, _, hri, hrj, rfl, c1, c2⟩
            have yl := tv2.len
            refine iteP (e1.mpr c2) ⟨by omega, _, rfl, _, rfl, _, _, rfl, rfl, _, rfl, _, rfl, _, rfl, (by show 3 ≤ sizeLine; omega), fun p fp => ?_⟩
            have ev : (if ((i : Int) + (1 : Nat)) - ((j : Int) + (1 : Nat)) < 0 then -(((i : Int) + (1 : Nat)) - ((j : Int) + (1 : Nat))) else ((i : Int) + (1 : Nat)) - ((j : Int) + (1 : Nat))) = (dstW i j : Nat) := by
              unfold dstW
              split <;> omega
            rw [ev]
            have s6 : Same H5 (upd H5 p (.tup ((trW i j).map V.int))) := Same.new fp
            have h6 : upd H5 p (.tup ((trW i j).map V.int)) p = some (.tup ((trW i j).map V.int)) := upd_same
            refine done2 _ _ _ ⟨⟨_, _, rfl⟩, (s4.trans s5).trans s6, Ls2 ++ [trW i j], (tv2.same (s5.trans s6)).snoc h6, ⟨fun L hL => ?_, fun a b z q => ?_⟩, by rw [List.length_append]; show _ + 1 ≤ _; omega⟩
            · rcases List.mem_append.mp hL with z | z
              · exact fd2.1 L z
              · exact ⟨i, j, by simpa using z, qq⟩
            · by_cases w : a = i ∧ b = j
              · obtain ⟨rfl, rfl⟩ := w
                exact List.mem_append_right _ (by simp)
              · exact List.mem_append_left _ (fd2.2 a b (by omega) q)
          · refine iteE (Bool.eq_false_iff.mpr fun z => c2 (e1.mp z)) (done2 _ _ _ ⟨⟨_, _, rfl⟩, s4.trans s5, Ls2, tv2.same s5, no fun q => ?_, by omega⟩)
            obtain ⟨f', p', g1, g2, _, _, g5⟩ := q
            rw [hri] at g1
            rw [hrj] at g2
            cases g1
            cases g2
            exact c2 g5
      · rintro ys2 σ' H4 ⟨⟨v2, v3, rfl⟩, s4, Ls2, tv2, fd2, lb2⟩
        refine done _ _ _ ⟨⟨_, _, _, _, rfl⟩, (s2.trans s3).trans s4, Ls2, tv2, ⟨fd2.1, fun a b z q => ?_⟩, by omega⟩
        obtain ⟨f', p', g1, g2, _⟩ := id q
        have bl := (List.getElem?_eq_some_iff.mp g2).1
        exact fd2.2 a b (by omega) q
    · rintro ys σ' H2 ⟨_, s2, Ls, tv, fd, lb⟩
      have yl := tv.len
      refine ⟨by omega, fun p fp => ?_⟩
      have s3 : Same H2 (upd H2 p (.lst ys)) := Same.new fp
      have h3 : upd H2 p (.lst ys) p = some (.lst ys) := upd_same
      generalize upd H2 p (.lst ys) = H3 at s3 h3 ⊢
      have all : ∀ a b, QuaW row m a b → trW a b ∈ Ls := fun a b q => by
        obtain ⟨f', p', g1, _⟩ := id q
        have al := (List.getElem?_eq_some_iff.mp g1).1
        exact fd.2 a b (by omega) q
      refine ⟨_, rfl, p, ys, Ls, rfl, SqL.of h3, tv.same s3, fun L hL => ?_, fun z => ?_, fun i v L e1 e2 e3 => ?_⟩
      · obtain ⟨a, b, rfl, _⟩ := fd.1 L hL
        intro z; cases z
      · refine k0 (fun a b q => ?_) _ (s2.trans s3)
        have := all a b q
        have l0 : Ls = [] := List.length_eq_zero_iff.mp (by rw [← yl, z]; rfl)
        rw [l0] at this
        cases this
      · obtain ⟨a, b, rfl, q⟩ := fd.1 L (List.mem_of_getElem? e2)
        obtain ⟨c, M, rfl, hc, hM⟩ := (tv.same s3).get e1
        rw [e2] at hM
        cases hM
        refine k1 a b q (fun a' b' q' => ?_) c _ hc (s2.trans s3)
        have := e3 _ (all a' b' q')
        have t : (if ((dstW a' b' : Nat) : Int) = (dstW a b : Nat) then lexB [(a' : Int) + 1, (b' : Int) + 1] [(a : Int) + 1, (b : Int) + 1] else decide (((dstW a' b' : Nat) : Int) < (dstW a b : Nat))) = false := this
        by_cases z : ((dstW a' b' : Nat) : Int) = (dstW a b : Nat)
        · omega
        · rw [if_neg z] at t
          have := of_decide_eq_false t
          omega
end
end Sw
namespace Sw
open PySem L2
def jmK (at' other : Int) : Int := if at' < other then other - 1 else other
def jmF (d at' other : Int) : Bool := if at' < other then !decide (d = 1) else decide (d = 1)
def spJm : Sp := fun vs H Q _ => ∃ (d at' other : Int), vs = [.int d, .int at', .int other] ∧ ∀ t H', H t = none → H' t = some (.tup [.int (jmK at' other), .str (wayS (jmF d at' other))]) → Same H H' → Q (.ref t) H'
section
variable {P : Program} {w : World} {K : PySem.W.Frag} {mg : Str → Option Value} {base : Heap}
theorem sc_joining_move : FnScope ["apart", "at", "other", "meets"] ["apart", "at", "other"] (defScope (top 32)) := ⟨rfl, rfl, rfl, by decide +kernel, rfl, by decide +kernel, by decide +kernel⟩
theorem ok_jm {f : Addr} {fd : FuncData} (F : Fun K "joining_move" "joining_move" (top 32) f fd) (T : T1 mg K) : FnOk P w K mg base CX0 1 f fd ["apart", "at", "other"] spJm := by
  refine F.ok sc_joining_move (fun vs H Q E h => ?_) (fun cdv A outer s H vs Q E hr h => ?_)
  · obtain ⟨d, at', other, rfl, _⟩ := h
    rfl
  · obtain ⟨d, at', other, rfl, k⟩ := h
    refine ⟨_, (pss_cons (ps_set (i := 3) sc_joining_move.nd rfl (Or.inl rfl) (pe_cmpR op_eq (pv 0) pe_int (nomark _)))
      (pss_cons (ps_if (pt_cmpR op_lt (pv 1) (pv 2) (nomark _)) (pss_one (ps_ret (pe_tup (pa_cons (pe_op op_sub (pv 2) pe_int) (pa_cons (pe_ifExp (pt_val (pv 3)) pe_str pe_str) pa_nil))))) pss_nil)
      (pss_one (ps_ret (pe_tup (pa_cons (pv 2) (pa_cons (pe_ifExp (pt_val (pv 3)) pe_str pe_str) pa_nil))))))), ?_⟩
    refine ⟨_, rfl, rfl, _, rfl, _, rfl, _, _, rfl, rfl, _, rfl, ?_⟩
    have dd : decide (V.int d = V.int 1) = decide (d = 1) := by rw [Bool.eq_iff_iff]; simp
    have fin : ∀ (k' : Int) (f' : Bool), k' = jmK at' other → f' = jmF d at' other → ∀ p, H p = none → Q (.ref p) (upd H p (.tup [.int k', .str (wayS f')])) := fun k' f' e1 e2 p fp => by
      subst e1 e2
      exact k p _ fp upd_same (Same.new fp)
    by_cases c : at' < other
    · refine iteP (decide_eq_true c) ?_
      by_cases z : d = 1
      · exact ⟨_, rfl, _, _, rfl, rfl, _, rfl, decide (V.int d = V.int 1), rfl, iteP (dd.trans (decide_eq_true z)) ⟨(by show 2 ≤ sizeLine; decide), fun p fp => fin (other - 1) false (by unfold jmK; rw [if_pos c]) (by unfold jmF; rw [if_pos c, decide_eq_true z]; rfl) p fp⟩⟩
      · exact ⟨_, rfl, _, _, rfl, rfl, _, rfl, decide (V.int d = V.int 1), rfl, iteE (dd.trans (decide_eq_false z)) ⟨(by show 2 ≤ sizeLine; decide), fun p fp => fin (other - 1) true (by unfold jmK; rw [if_pos c]) (by unfold jmF; rw [if_pos c, decide_eq_false z]; rfl) p fp⟩⟩
    · refine iteE (decide_eq_false c) ?_
      by_cases z : d = 1
      · exact ⟨_, rfl, _, rfl, decide (V.int d = V.int 1), rfl, iteP (dd.trans (decide_eq_true z)) ⟨(by show 2 ≤ sizeLine; decide), fun p fp => fin other true (by unfold jmK; rw [if_neg c]) (by unfold jmF; rw [if_neg c, decide_eq_true z]) p fp⟩⟩
      · exact ⟨_, rfl, _, rfl, decide (V.int d = V.int 1), rfl, iteE (dd.trans (decide_eq_false z)) ⟨(by show 2 ≤ sizeLine; decide), fun p fp => fin other false (by unfold jmK; rw [if_neg c]) (by unfold jmF; rw [if_neg c, decide_eq_false z]) p fp⟩⟩
end
end Sw
namespace Sw
open PySem L2
def NxtW (n : Int) (xs : List Int) (row : List (Int × Int)) (H : Hp) (v : V) : Prop := (v = .non ∧ row = starM n xs) ∨ ∃ t a f, v = .ref t ∧ H t = some (.tup [.int ((a : Nat) + 1 : Int), .str (wayS f)]) ∧ StepW n xs row a f
def spStw : Sp := fun vs H Q _ => ∃ (l m : Addr) (es : List V) (row : List (Int × Int)) (n : Int) (xs : List Int), vs = [.ref l, .ref m] ∧ H l = some (.lst es) ∧ Exs H es row ∧ H m = some (.lst (((ivl 1 (n + 1)).filter (least xs)).map V.int)) ∧ LstR n xs row ∧ n ≤ 8 ∧
  ∀ v H', NxtW n xs row H' v → Same H H' → Q v H'
structure TStw (P : Program) (w : World) (K : PySem.W.Frag) (mg : Str → Option Value) (base : Heap) : Prop extends T1 mg K where
  f_nearest_other : FnAt P w K mg base "nearest_other" 1 ["row", "least"] spNo
  f_joining_move : FnAt P w K mg base "joining_move" 1 ["apart", "at", "other"] spJm
section
variable {P : Program} {w : World} {K : PySem.W.Frag} {mg : Str → Option Value} {base : Heap}
theorem sc_starward : FnScope ["row", "leasts", "least", "k", "found", "apart", "at", "other"] ["row", "leasts"] (defScope (top 33)) := ⟨rfl, rfl, rfl, by decide +kernel, rfl, by decide +kernel, by decide +kernel⟩
theorem ok_stw {f : Addr} {fd : FuncData} (F : Fun K "starward" "starward" (top 33) f fd) (T : TStw P w K mg base) : FnOk P w K mg base CX0 2 f fd ["row", "leasts"] spStw := by
  refine F.ok sc_starward (fun vs H Q E h => ?_) (fun cdv A outer s H vs Q E hr h => ?_)
  · obtain ⟨l, m, es, row, n, xs, rfl, _⟩ := h
    rfl
  · obtain ⟨l, m, es, row, n, xs, rfl, hl, hx, hm, hL, n8, k⟩ := h
    have kN : row = starM n xs → ∀ H', Same H H' → Q .non H' := fun e H' s => k _ _ (.inl ⟨rfl, e⟩) s
    have kS : ∀ (a : Nat) (f : Bool) (t : Addr) (H' : Hp), StepW n xs row a f → H' t = some (.tup [.int ((a : Int) + 1), .str (wayS f)]) → Same H H' → Q (.ref t) H' := fun a f t H' e1 e2 s => k _ _ (.inr ⟨t, a, f, rfl, e2, e1⟩) s
    refine ⟨_, (pss_cons (ps_for PassesOwn.never rfl (pi_listK (K := K) rfl (pv 1)) (pg_name (i := 2) sc_starward.nd rfl (Or.inl rfl)) (pss_cons (ps_set (i := 4) sc_starward.nd rfl (Or.inl rfl) (pe_callF T.f_nearest_other (hr.mono (by first | decide | omega)) rfl (pa_cons (pv 0) (pa_cons (pv 2) pa_nil))))
      (pss_one (ps_if (pt_cmpR op_notN (pv 4) pe_non (nomark _)) (pss_cons (ps_asg (pv 4) (pg_tupK (K := K) (n := 3) rfl rfl (pgs_cons (pg_name (i := 5) sc_starward.nd rfl (Or.inl rfl)) (pgs_cons (pg_name (i := 6) sc_starward.nd rfl (Or.inl rfl)) (pgs_cons (pg_name (i := 7) sc_starward.nd rfl (Or.inl rfl)) pgs_nil)))))
      (pss_one (ps_ret (pe_callF T.f_joining_move (hr.mono (by first | decide | omega)) rfl (@pa_cons _ _ _ _ _ (pv 5) (@pa_cons _ _ _ _ _ (pv 6) (@pa_cons _ _ _ _ _ (pv 7) pa_nil st_name) st_name) st_name))))) pss_nil))))
      (pss_cons (ps_for PassesOwn.never rfl (pi_range2 rfl T.b_range (pa_cons pe_int (pa_cons (pe_callB (call_lenK (K := K) rfl) rfl T.b_len (by decide +kernel) (pa_cons (pv 0) pa_nil)) pa_nil))) (pg_name (i := 3) sc_starward.nd rfl (Or.inl rfl)) (pss_one (ps_if (pt_cmpR op_gt (pe_ix (ix_tupK (K := K) rfl) (pe_ix (ix_listK (K := K) rfl) (pv 0) (pe_op op_sub (pv 3) pe_int) (fun _ _ => rfl)) pe_int (fun _ _ => rfl)) (pe_ix (ix_tupK (K := K) rfl) (pe_ix (ix_listK (K := K) rfl) (pv 0) (pv 3) (fun _ _ => rfl)) pe_int (fun _ _ => rfl)) (nomark _)) (pss_one (ps_ret (pe_tup (pa_cons (pv 3) (pa_cons pe_str pa_nil))))) pss_nil)))
      (pss_one (ps_ret pe_non)))), ?_⟩
    have el := hx.length
    have rl := hL.short n8
    generalize hls : (ivl 1 (n + 1)).filter (least xs) = ls at hm
    have lsm : ∀ y, y ∈ ls ↔ (1 ≤ y ∧ y ≤ n) ∧ least xs y = true := fun y => by
      rw [← hls, List.mem_filter, mem_ivl]
      constructor
      · rintro ⟨h1, h2⟩; exact ⟨⟨h1.1, by omega⟩, h2⟩
      · rintro ⟨h1, h2⟩; exact ⟨⟨h1.1, by omega⟩, h2⟩
    have lsp : ls.Pairwise (· < ·) := by rw [← hls]; exact List.Pairwise.filter _ (ivl_lt 1 (n + 1))
    refine ⟨_, rfl, m, rfl, ⟨_, SqL.of hm⟩, for_list (K := K) (a := m) (xs := ls.map V.int) (fun i σ H' => (∃ v2 v3 v4 v5 v6 v7, σ = [some (.ref l), some (.ref m), v2, v3, v4, v5, v6, v7]) ∧ Same H H' ∧ ∀ y ∈ ls.take i, ∀ a b, ¬ QuaW row y a b)
      ⟨⟨_, _, _, _, _, _, rfl⟩, Same.refl _, fun y hy => by simp at hy⟩ (fun i σ H' _ q => SqL.of (q.2.1 _ _ hm)) ?_ ?_⟩
    · rintro i x σ H' hi ⟨⟨v2, v3, v4, v5, v6, v7, rfl⟩, s2, no⟩
      obtain ⟨y, rfl, hy⟩ := mem_int hi
      obtain ⟨⟨y1, y2⟩, ly⟩ := (lsm y).mp (List.mem_of_getElem? hy)
      refine ⟨_, rfl, _, rfl, l, es, row, y, rfl, s2 _ _ hl, hx.keep (Same.tups s2), by omega, fun nq H3 s3 => ?_, fun a b q mn t H3 ht s3 => ?_⟩
      · refine ⟨_, rfl, rfl, _, rfl, iteE rfl ⟨⟨_, _, _, _, _, _, rfl⟩, s2.trans s3, fun y' hy' a b q => ?_⟩⟩
        rw [List.take_succ, hy] at hy'
        rcases List.mem_append.mp hy' with z | z
        · exact no y' z a b q
        · have z : y' = y := by simpa using z
          rw [z] at q
          exact nq a b q
      · refine ⟨_, rfl, rfl, _, rfl, iteP rfl ⟨_, rfl, t, _, rfl, SqT.of ht, rfl, _, _, rfl, _, _, rfl, _, _, rfl, rfl, ?_⟩⟩
        refine ⟨_, rfl, _, rfl, _, rfl, _, _, _, rfl, fun t4 H4 f4 h4 s4 => ?_⟩
        have lo : ∀ m', 1 ≤ m' → m' < y → least xs m' = true → ∀ i j, ¬ QuaW row m' i j := fun m' c1 c2 c3 => by
          obtain ⟨k, hk⟩ := List.getElem?_of_mem ((lsm m').mpr ⟨⟨c1, by omega⟩, c3⟩)
          refine no m' ?_
          have kl := (List.getElem?_eq_some_iff.mp hk).1
          have il := (List.getElem?_eq_some_iff.mp hy).1
          have : k < i := by
            apply Classical.byContradiction
            intro nk
            by_cases e : k = i
            · rw [e, hy] at hk; cases hk; omega
            · have := List.pairwise_iff_getElem.mp lsp i k il kl (by omega)
              rw [(List.getElem?_eq_some_iff.mp hy).2, (List.getElem?_eq_some_iff.mp hk).2] at this
              omega
          exact List.mem_of_getElem? (i := k) (by rw [List.getElem?_take, if_pos this]; exact hk)
        have fm := first_of hL y1 y2 ly q lo
        have ne := q.ne
        by_cases c : a < b
        · have c' : (a : Int) + 1 < (b : Int) + 1 := by omega
          have e1 : jmK ((a : Int) + 1) ((b : Int) + 1) = ((b - 1 : Nat) : Int) + 1 := by unfold jmK; rw [if_pos c']; omega
          have e2 : jmF (dstW a b) ((a : Int) + 1) ((b : Int) + 1) = !decide (((dstW a b : Nat) : Int) = 1) := by unfold jmF; rw [if_pos c']
          rw [e1, e2] at h4
          refine kS (b - 1) _ t4 H4 (stepw_join hL n8 fm q mn (fun d1 => .inl ⟨c, by omega, ?_⟩) (fun d1 => .inl ⟨c, by omega, ?_⟩)) h4 ((s2.trans s3).trans s4)
          · rw [decide_eq_true (by omega)]; rfl
          · rw [decide_eq_false (by omega)]; rfl
        · have c' : ¬ (a : Int) + 1 < (b : Int) + 1 := by omega
          have e1 : jmK ((a : Int) + 1) ((b : Int) + 1) = (b : Int) + 1 := by unfold jmK; rw [if_neg c']
          have e2 : jmF (dstW a b) ((a : Int) + 1) ((b : Int) + 1) = decide (((dstW a b : Nat) : Int) = 1) := by unfold jmF; rw [if_neg c']
          rw [e1, e2] at h4
          refine kS b _ t4 H4 (stepw_join hL n8 fm q mn (fun d1 => .inr ⟨by omega, rfl, ?_⟩) (fun d1 => .inr ⟨by omega, rfl, ?_⟩)) h4 ((s2.trans s3).trans s4)
          · rw [decide_eq_true (by omega)]
          · rw [decide_eq_false (by omega)]
    · rintro σ H' ⟨⟨v2, v3, v4, v5, v6, v7, rfl⟩, s2, no⟩
      have nb : nbW xs row = 0 := none_of hL fun y y1 y2 ly => no y (by rw [List.take_of_length_le (by rw [List.length_map]; exact Nat.le_refl _)]; exact (lsm y).mpr ⟨⟨y1, y2⟩, ly⟩)
      refine ⟨_, rfl, l, _, rfl, .inl (SqL.of (s2 _ _ hl)), 1, _, rfl, ⟨by decide, by decide, by omega, by omega⟩, for_range (fun i σ H3 => (∃ v3, σ = [some (.ref l), some (.ref m), v2, v3, v4, v5, v6, v7]) ∧ H3 = H' ∧ ∀ (a : Nat) (s t : Int × Int), a < i → row[a]? = some s → row[a + 1]? = some t → s.1 ≤ t.1) ⟨⟨_, rfl⟩, rfl, fun a s t z => absurd z (Nat.not_lt_zero _)⟩ ?_ ?_⟩
      · rintro i σ H3 hi ⟨⟨v3, rfl⟩, rfl, so⟩
        have i1 : i + 1 < es.length := by omega
        obtain ⟨ts, sa, sb, es1, hts, hrs⟩ := (hx.keep (Same.tups s2)).get (List.getElem?_eq_getElem (l := es) (i := i) (by omega))
        obtain ⟨tt, ta, tb, es2, htt, hrt⟩ := (hx.keep (Same.tups s2)).get (List.getElem?_eq_getElem (l := es) (i := i + 1) i1)
        have a1 : atI es (1 + (i : Int) - 1) = some (.ref ts) := by
          rw [show 1 + (i : Int) - 1 = (i : Nat) by omega]; exact atI_nat (by rw [List.getElem?_eq_getElem (by omega), es1])
        have a2 : atI es (1 + (i : Int)) = some (.ref tt) := by
          rw [show 1 + (i : Int) = ((i + 1 : Nat) : Int) by omega]; exact atI_nat (by rw [List.getElem?_eq_getElem i1, es2])
        refine ⟨_, rfl, _, rfl, _, _, rfl, rfl, l, _, _, _, rfl, rfl, SqL.of (s2 _ _ hl), a1, ts, _, 0, .int sa, rfl, rfl, SqT.of hts, rfl, _, rfl, _, rfl, l, _, _, _, rfl, rfl, SqL.of (s2 _ _ hl), a2, tt, _, 0, .int ta, rfl, rfl, SqT.of htt, rfl, _, _, rfl, rfl, _, rfl, ?_⟩
        by_cases c : ta < sa
        · refine iteP (decide_eq_true c) ⟨_, rfl, (by show 2 ≤ sizeLine; decide), fun p fp => ?_⟩
          refine kS i true p _ (stepw_sort hL n8 nb hrs hrt c) (by rw [upd_same, show (1 : Int) + (i : Int) = (i : Int) + 1 by omega]; rfl) (s2.trans (Same.new fp))
        · refine iteE (decide_eq_false c) ⟨⟨_, rfl⟩, rfl, fun a s t lt h1 h2 => ?_⟩
          by_cases z : a = i
          · subst z
            rw [hrs] at h1
            rw [hrt] at h2
            cases h1
            cases h2
            show sa ≤ ta
            omega
          · exact so a s t (by omega) h1 h2
      · rintro σ H3 ⟨⟨v3, rfl⟩, rfl, so⟩
        refine kN (star_end hL nb fun a s t h1 h2 => so a s t ?_ h1 h2) _ s2
        have := (List.getElem?_eq_some_iff.mp h2).1
        omega
end
end Sw
namespace Sw
open PySem L2
section
variable {P : Program} {w : World} {K : PySem.W.Frag} {mg : Str → Option Value} {base : Heap}
theorem sc_exchanged : FnScope ["exchange", "thing", "a", "b"] ["exchange", "thing"] (defScope (top 23)) := ⟨rfl, rfl, rfl, by decide +kernel, rfl, by decide +kernel, by decide +kernel⟩
theorem ok_ex {f : Addr} {fd : FuncData} (F : Fun K "exchanged" "exchanged" (top 23) f fd) : FnOk P w K mg base CX0 1 f fd ["exchange", "thing"] spEx := by
  refine F.ok sc_exchanged (fun vs H Q E h => ?_) (fun cdv A outer s H vs Q E hr h => ?_)
  · obtain ⟨t, a, b, x, rfl, _⟩ := h
    rfl
  · obtain ⟨t, a, b, x, rfl, ht, k⟩ := h
    refine ⟨_, (pss_cons (ps_asg (pv 0) (pg_tupK (K := K) (n := 2) rfl rfl (pgs_cons (pg_name (i := 2) sc_exchanged.nd rfl (Or.inl rfl)) (pgs_cons (pg_name (i := 3) sc_exchanged.nd rfl (Or.inl rfl)) pgs_nil))))
      (pss_cons (ps_if (pt_cmpR op_eq (pv 1) (pv 2) (nomark _)) (pss_one (ps_ret (pv 3))) pss_nil)
      (pss_cons (ps_if (pt_cmpR op_eq (pv 1) (pv 3) (nomark _)) (pss_one (ps_ret (pv 2))) pss_nil)
      (pss_one (ps_ret (pv 1)))))), ?_⟩
    refine ⟨_, rfl, t, _, rfl, SqT.of ht, rfl, _, _, rfl, _, _, rfl, rfl, ?_⟩
    unfold swp at k
    refine ⟨_, rfl, _, rfl, rfl, _, rfl, ite2 (fun c => ?_) (fun c => ?_)⟩
    · have c : x = a := by simpa using c
      rw [if_pos c] at k
      exact ⟨_, rfl, k⟩
    · have c : ¬ x = a := by simpa using c
      rw [if_neg c] at k
      refine ⟨_, rfl, _, rfl, rfl, _, rfl, ite2 (fun c => ?_) (fun c => ?_)⟩
      · have c : x = b := by simpa using c
        rw [if_pos c] at k
        exact ⟨_, rfl, k⟩
      · have c : ¬ x = b := by simpa using c
        rw [if_neg c] at k
        exact ⟨_, rfl, k⟩
end
end Sw
namespace Sw
open PySem L2
def spCar : Sp := fun vs H Q _ => ∃ (t1 t2 : Addr) (a b c d : Int), vs = [.ref t1, .ref t2] ∧ H t1 = some (.tup [.int a, .int b]) ∧ H t2 = some (.tup [.int c, .int d]) ∧ ∀ t H', H t = none → H' t = some (.tup [.int (car (a, b) (c, d)).1, .int (car (a, b) (c, d)).2]) → Same H H' → Q (.ref t) H'
def spMvX (C : Addr) : Sp := fun vs H Q E => ∃ (l : Addr) (es : List V) (row : List (Int × Int)) (k : Int) (way : Str), vs = [.ref l, .int k, .str way] ∧ H l = some (.lst es) ∧ Exs H es row ∧ row.length ≤ 1000 ∧
  (∀ f : Bool, way = wayS f → 1 ≤ k → k < row.length → ∀ l' es' H', H l' = none → H' l' = some (.lst es') → Exs H' es' (mvM row (k - 1).toNat f) → Same H H' → Q (.ref l') H') ∧
  (¬ (1 ≤ k ∧ k < row.length ∧ ∃ f, way = wayS f) → ∀ H', Same H H' → E (.ref C) none H')
def undoing : List (Str × Str) := [(Str.ofString "forth", Str.ofString "back"), (Str.ofString "back", Str.ofString "forth")]
structure TCa (P : Program) (w : World) (K : PySem.W.Frag) (mg : Str → Option Value) (base : Heap) : Prop extends T1 mg K where
  b_sorted : mg "sorted" = none
  f_exchanged : FnAt P w K mg base "exchanged" 1 ["exchange", "thing"] spEx
structure TMv (P : Program) (w : World) (K : PySem.W.Frag) (mg : Str → Option Value) (base : Heap) (U C : Addr) : Prop extends T1 mg K where
  f_is_between : FnAt P w K mg base "is_between" 2 ["thing", "low", "high"] spBt
  f_carried : FnAt P w K mg base "carried" 2 ["exchange", "other"] spCar
  g_UNDOING : mg "UNDOING" = some (.ref U)
  r_UNDOING : RelV (.ref U) (.ref U)
  k_UNDOING : KTxt K w.params U undoing
  c_NoMove : mg "NoMove" = some (.ref C)
  x_NoMove : ExcC K C
theorem sort2 {p q : Int} {ns : List Int} (pm : ns.Perm [p, q]) (pw : ns.Pairwise (· ≤ ·)) : ns = [min p q, max p q] := by
  have hl := pm.length_eq
  match ns, hl with
  | [x, y], _ =>
    have xy : x ≤ y := (List.pairwise_cons.mp pw).1 y (by simp)
    have hx : x ∈ [p, q] := pm.mem_iff.mp (by simp)
    have hp : p ∈ [x, y] := pm.mem_iff.mpr (by simp)
    have hq : q ∈ [x, y] := pm.mem_iff.mpr (by simp)
    have hy : y ∈ [p, q] := pm.mem_iff.mp (by simp)
    simp only [List.mem_cons, List.not_mem_nil, or_false] at hx hp hq hy
    have e1 : x = min p q := by omega
    have e2 : y = max p q := by omega
    rw [e1, e2]
section
variable {P : Program} {w : World} {K : PySem.W.Frag} {mg : Str → Option Value} {base : Heap} {U C : Addr}
theorem sc_carried : FnScope ["exchange", "other"] ["exchange", "other"] (defScope (top 28)) := ⟨rfl, rfl, rfl, by decide +kernel, rfl, by decide +kernel, by decide +kernel⟩
theorem ok_car {f : Addr} {fd : FuncData} (F : Fun K "carried" "carried" (top 28) f fd) (T : TCa P w K mg base) : FnOk P w K mg base CX0 2 f fd ["exchange", "other"] spCar := by
  refine F.ok sc_carried (fun vs H Q E h => ?_) (fun cdv A outer s H vs Q E hr h => ?_)
  · obtain ⟨t1, t2, a, b, c, d, rfl, _⟩ := h
    rfl
  · obtain ⟨t1, t2, a, b, c, d, rfl, h1, h2, k⟩ := h
    refine ⟨_, (pss_one (ps_ret (pe_callTy (call_tuple_ofK (K := K) rfl) rfl T.b_tuple (by decide +kernel) (pa_cons (pe_callB (call_sorted (K := K) rfl) rfl T.b_sorted (by decide +kernel) (pa_cons (pe_comp (N := (["thing", "other"] : List Str)) (ix := ([none, some 1] : List (Option Nat))) (comp_ok rfl rfl) rfl (pi_tupK (K := K) rfl (pv 0)) (fun _ _ _ _ => (pg_name (i := 0) (show List.Nodup (["thing", "other"] : List Str) from by decide +kernel) rfl (Or.inl rfl))) (fun _ _ _ _ => pif_nil) (fun _ _ _ _ => (pe_callF T.f_exchanged (hr.mono (by first | decide | omega)) rfl (pa_cons (pv 1) (pa_cons (pv 0) pa_nil))))) pa_nil)) pa_nil)))), ?_⟩
    refine ⟨_, rfl, t1, rfl, ⟨_, SqT.of h1⟩, compT (K := K) (a := t1) (xs := [a, b].map V.int) (k := 0) (fun i ys σ' H' => ys = (([a, b].take i).map fun x => V.int (swp x (c, d))) ∧ (∃ v, σ' = [v, some (.ref t2)]) ∧ H' = H) (by show 2 ≤ 1000000; decide) ⟨rfl, ⟨none, rfl⟩, rfl⟩ (fun i ys σ' H' _ q => by rw [q.2.2]; exact SqT.of h1) (fun i ys σ' H' q => by rw [q.1, List.length_map, List.length_take]; omega) ?_ ?_⟩
    · rintro i ys σ' H' z R hz ⟨rfl, ⟨v, rfl⟩, rfl⟩ done
      obtain ⟨x, rfl, hx⟩ := mem_int hz
      refine ⟨_, rfl, _, rfl, t2, c, d, x, rfl, h2, ?_⟩
      refine done _ _ _ ⟨?_, ⟨_, rfl⟩, rfl⟩
      rw [take_succ_map _ hx]
    · rintro ys σ' Hb q ⟨rfl, ⟨v, rfl⟩, e0⟩ fq
      have e0 := e0.symm
      subst e0
      have s1 : Same H (upd H q (.lst [.int (swp a (c, d)), .int (swp b (c, d))])) := Same.new fq
      refine ⟨q, [swp a (c, d), swp b (c, d)], rfl, SqL.of upd_same, (by show 2 < 64; decide), fun l2 ns' f2 pm pw => ?_⟩
      have en := sort2 pm pw
      subst en
      have s2 := s1.trans (Same.new (o := .lst ([min (swp a (c, d)) (swp b (c, d)), max (swp a (c, d)) (swp b (c, d))].map V.int)) f2)
      refine ⟨l2, _, rfl, .inl ⟨SqL.of upd_same, fun t ft => ?_⟩⟩
      exact k t _ (s2.free ft) upd_same (s2.trans (Same.new ft))
theorem sc_moved : FnScope ["row", "k", "way", "pair", "s", "t"] ["row", "k", "way"] (defScope (top 29)) := ⟨rfl, rfl, rfl, by decide +kernel, rfl, by decide +kernel, by decide +kernel⟩
theorem ok_mvX {f : Addr} {fd : FuncData} (F : Fun K "moved" "moved" (top 29) f fd) (T : TMv P w K mg base U C) : FnOk P w K mg base (CX1 P w) 3 f fd ["row", "k", "way"] (spMvX C) := by
  refine F.okX sc_moved (fun vs H Q E h => ?_) (fun cdv A outer s H vs Q E hr h => ?_)
  · obtain ⟨l, es, row, k, way, rfl, _⟩ := h
    rfl
  · obtain ⟨l, es, row, k, way, rfl, hl, hx, rl, kQ, kE⟩ := h
    refine ⟨_, (pss_cons (ps_if (pt_not (pt_val (pe_callF T.f_is_between (hr.mono (by first | decide | omega)) rfl (@pa_cons _ _ _ _ _ (pv 1) (@pa_cons _ _ _ _ _ pe_int (@pa_cons _ _ _ _ _ (pe_op op_sub (pe_callB (call_lenK (K := K) rfl) rfl T.b_len (by decide +kernel) (pa_cons (pv 0) pa_nil)) pe_int) pa_nil st_bin) st_con) st_name)))) (pss_one (ps_raise lvs1 T.x_NoMove rfl rfl T.c_NoMove (pa_cons pe_str pa_nil))) pss_nil)
      (pss_cons (ps_if (pt_cmp (pc_knotin T.k_UNDOING (pv 2) (pe_glob rfl T.g_UNDOING T.r_UNDOING))) (pss_one (ps_raise lvs1 T.x_NoMove rfl rfl T.c_NoMove (pa_cons pe_str pa_nil))) pss_nil)
      (pss_cons (ps_par (i := 4) (j := 5) rfl sc_moved.nd rfl rfl (by decide) rfl rfl (pa_cons (pe_ix (ix_listK (K := K) rfl) (pv 0) (pe_op op_sub (pv 1) pe_int) (fun _ _ => rfl)) (pa_cons (pe_ix (ix_listK (K := K) rfl) (pv 0) (pv 1) (fun _ _ => rfl)) pa_nil)) rfl)
      (pss_cons (ps_set (i := 3) sc_moved.nd rfl (Or.inl rfl) (pe_ifExp (pt_cmpR op_eq (pv 2) pe_str (nomark _)) (pe_lst (pa_cons (pv 5) (pa_cons (pe_callF T.f_carried (hr.mono (by first | decide | omega)) rfl (pa_cons (pv 4) (pa_cons (pv 5) pa_nil))) pa_nil))) (pe_lst (pa_cons (pe_callF T.f_carried (hr.mono (by first | decide | omega)) rfl (pa_cons (pv 5) (pa_cons (pv 4) pa_nil))) (pa_cons (pv 4) pa_nil)))))
      (pss_one (ps_ret (pe_op op_cat (pe_op op_cat (pe_slice (sl_listK (K := K) rfl) (pv 0) po_none (po_some (pe_op op_sub (pv 1) pe_int))) (pv 3)) (pe_slice (sl_listK (K := K) rfl) (pv 0) (po_some (pe_op op_add (pv 1) pe_int)) po_none)))))))), ?_⟩
    have big : (10000000 : Nat) ≤ sizeLine := by decide
    have two : 2 ≤ sizeLine := by decide
    have xl := hx.length
    refine ⟨_, rfl, _, rfl, l, _, rfl, .inl (SqL.of hl), _, _, rfl, rfl, k, 1, _, rfl, _, rfl, ?_⟩
    by_cases hk : 1 ≤ k ∧ k ≤ (es.length : Int) - 1
    · refine iteE (by rw [decide_eq_true hk]; rfl) ?_
      refine ⟨_, rfl, way, rfl, rfl, _, rfl, ?_⟩
      by_cases hw : way ∈ undoing.map (·.1)
      · refine iteE (by rw [decide_eq_true hw]; rfl) ?_
        obtain ⟨v1, hv1⟩ : ∃ v, es[(k - 1).toNat]? = some v := ⟨_, List.getElem?_eq_getElem (by omega)⟩
        obtain ⟨v2, hv2⟩ : ∃ v, es[k.toNat]? = some v := ⟨_, List.getElem?_eq_getElem (by omega)⟩
        obtain ⟨ts, a, b, rfl, hts, hr1⟩ := hx.get hv1
        obtain ⟨tt, c, d, rfl, htt, hr2⟩ := hx.get hv2
        have er1 : row.getD (k - 1).toNat (0, 0) = (a, b) := by rw [List.getD_eq_getElem?_getD, hr1]; rfl
        have er2 : row.getD ((k - 1).toNat + 1) (0, 0) = (c, d) := by rw [show (k - 1).toNat + 1 = k.toNat by omega, List.getD_eq_getElem?_getD, hr2]; rfl
        have at1 : atI es (k - 1) = some (.ref ts) := by rw [← Int.toNat_of_nonneg (show 0 ≤ k - 1 by omega)]; exact atI_nat hv1
        have at2 : atI es k = some (.ref tt) := by rw [← Int.toNat_of_nonneg (show 0 ≤ k by omega)]; exact atI_nat hv2
        refine ⟨_, rfl, _, rfl, _, _, rfl, rfl, l, _, _, _, rfl, rfl, SqL.of hl, at1, _, rfl, _, rfl, l, _, _, _, rfl, rfl, SqL.of hl, at2, _, _, rfl, ?_⟩
        have s1 : Same H H := Same.refl H
        refine ⟨_, rfl, rfl, _, rfl, ite2 (fun cw => ?_) (fun cw => ?_)⟩
        · have hway : way = wayS true := by
            have := of_decide_eq_true cw
            injection this
          refine ⟨_, rfl, _, rfl, _, rfl, ts, tt, a, b, c, d, rfl, s1 _ _ hts, s1 _ _ htt, fun tn HA ftn htn sA => ⟨two, fun lp flp => ?_⟩⟩
          have s2 := (s1.trans sA).trans (Same.new (o := .lst [.ref tt, .ref tn]) flp)
          have hlp : upd HA lp (.lst [.ref tt, .ref tn]) lp = some (.lst [.ref tt, .ref tn]) := upd_same
          have htn2 := Same.new (o := .lst [.ref tt, .ref tn]) flp _ _ htn
          generalize upd HA lp (.lst [.ref tt, .ref tn]) = H2 at s2 hlp htn2 ⊢
          have xp : Exs H2 [.ref tt, .ref tn] (prM (a, b) (c, d) true) := .cons (s2 _ _ htt) (.cons htn2 .nil)
          obtain ⟨ps, eps⟩ : ∃ ps : List V, ps = [.ref tt, .ref tn] := ⟨_, rfl⟩
          rw [← eps] at hlp xp
          have psl : ps.length = 2 := by rw [eps]; rfl
          have el2 : es.length = row.length := xl
          have hl2 := s2 _ _ hl
          have hx2 := hx.keep (Same.tups s2)
          refine ⟨_, rfl, _, rfl, _, _, rfl, rfl, k - 1, rfl, l, es, rfl, SqL.of hl2, fun p1 f1 => ?_⟩
          rw [cutT (by omega) (by omega)]
          have s3 : Same H2 (upd H2 p1 (.lst (es.take (k - 1).toNat))) := Same.new f1
          have h3 : upd H2 p1 (.lst (es.take (k - 1).toNat)) p1 = some (.lst (es.take (k - 1).toNat)) := upd_same
          generalize upd H2 p1 (.lst (es.take (k - 1).toNat)) = H3 at s3 h3 ⊢
          refine ⟨_, rfl, p1, lp, _, _, rfl, rfl, h3, s3 _ _ hlp, by rw [List.length_take]; omega, fun p2 f2 => ?_⟩
          have s4 := s3.trans (Same.new (o := .lst (es.take (k - 1).toNat ++ ps)) f2)
          have h4 : upd H3 p2 (.lst (es.take (k - 1).toNat ++ ps)) p2 = some (.lst (es.take (k - 1).toNat ++ ps)) := upd_same
          generalize upd H3 p2 (.lst (es.take (k - 1).toNat ++ ps)) = H4 at s4 h4 ⊢
          refine ⟨_, rfl, _, rfl, _, _, rfl, rfl, k + 1, rfl, ?_⟩
          unfold tNoPart
          refine ⟨l, es, rfl, SqL.of (s4 _ _ hl2), fun p3 f3 => ?_⟩
          rw [cutD (by omega)]
          have s5 := s4.trans (Same.new (o := .lst (es.drop (k + 1).toNat)) f3)
          have h5 : upd H4 p3 (.lst (es.drop (k + 1).toNat)) p3 = some (.lst (es.drop (k + 1).toNat)) := upd_same
          have h45 := Same.new (o := .lst (es.drop (k + 1).toNat)) f3 _ _ h4
          generalize upd H4 p3 (.lst (es.drop (k + 1).toNat)) = H5 at s5 h5 h45 ⊢
          refine ⟨p2, p3, _, _, rfl, rfl, h45, h5, by rw [List.length_append, List.length_take, List.length_drop]; omega, fun p4 f4 => ?_⟩
          have s6 := s5.trans (Same.new (o := .lst (es.take (k - 1).toNat ++ ps ++ es.drop (k + 1).toNat)) f4)
          refine kQ true hway (by omega) (by omega) p4 _ _ ((s2.trans s5).free f4) upd_same ?_ (s2.trans s6)
          unfold mvM
          rw [er1, er2, show (k - 1).toNat + 2 = (k + 1).toNat by omega]
          exact (((hx2.keep (Same.tups s6)).take _).append (xp.keep (Same.tups s6))).append ((hx2.keep (Same.tups s6)).drop _)
        · have hway : way = wayS false := by
            have cw : ¬ way = Str.ofString "forth" := fun z => cw (decide_eq_true (by rw [z]))
            have : way = Str.ofString "forth" ∨ way = Str.ofString "back" := by simpa [undoing] using hw
            exact this.resolve_left cw
          refine ⟨_, rfl, _, rfl, tt, ts, c, d, a, b, rfl, s1 _ _ htt, s1 _ _ hts, fun tn HA ftn htn sA => ⟨_, rfl, two, fun lp flp => ?_⟩⟩
          have s2 := (s1.trans sA).trans (Same.new (o := .lst [.ref tn, .ref ts]) flp)
          have hlp : upd HA lp (.lst [.ref tn, .ref ts]) lp = some (.lst [.ref tn, .ref ts]) := upd_same
          have htn2 := Same.new (o := .lst [.ref tn, .ref ts]) flp _ _ htn
          generalize upd HA lp (.lst [.ref tn, .ref ts]) = H2 at s2 hlp htn2 ⊢
          have xp : Exs H2 [.ref tn, .ref ts] (prM (a, b) (c, d) false) := .cons htn2 (.cons (s2 _ _ hts) .nil)
          obtain ⟨ps, eps⟩ : ∃ ps : List V, ps = [.ref tn, .ref ts] := ⟨_, rfl⟩
          rw [← eps] at hlp xp
          have psl : ps.length = 2 := by rw [eps]; rfl
          have el2 : es.length = row.length := xl
          have hl2 := s2 _ _ hl
          have hx2 := hx.keep (Same.tups s2)
          refine ⟨_, rfl, _, rfl, _, _, rfl, rfl, k - 1, rfl, l, es, rfl, SqL.of hl2, fun p1 f1 => ?_⟩
          rw [cutT (by omega) (by omega)]
          have s3 : Same H2 (upd H2 p1 (.lst (es.take (k - 1).toNat))) := Same.new f1
          have h3 : upd H2 p1 (.lst (es.take (k - 1).toNat)) p1 = some (.lst (es.take (k - 1).toNat)) := upd_same
          generalize upd H2 p1 (.lst (es.take (k - 1).toNat)) = H3 at s3 h3 ⊢
          refine ⟨_, rfl, p1, lp, _, _, rfl, rfl, h3, s3 _ _ hlp, by rw [List.length_take]; omega, fun p2 f2 => ?_⟩
          have s4 := s3.trans (Same.new (o := .lst (es.take (k - 1).toNat ++ ps)) f2)
          have h4 : upd H3 p2 (.lst (es.take (k - 1).toNat ++ ps)) p2 = some (.lst (es.take (k - 1).toNat ++ ps)) := upd_same
          generalize upd H3 p2 (.lst (es.take (k - 1).toNat ++ ps)) = H4 at s4 h4 ⊢
          refine ⟨_, rfl, _, rfl, _, _, rfl, rfl, k + 1, rfl, ?_⟩
          unfold tNoPart
          refine ⟨l, es, rfl, SqL.of (s4 _ _ hl2), fun p3 f3 => ?_⟩
          rw [cutD (by omega)]
          have s5 := s4.trans (Same.new (o := .lst (es.drop (k + 1).toNat)) f3)
          have h5 : upd H4 p3 (.lst (es.drop (k + 1).toNat)) p3 = some (.lst (es.drop (k + 1).toNat)) := upd_same
          have h45 := Same.new (o := .lst (es.drop (k + 1).toNat)) f3 _ _ h4
          generalize upd H4 p3 (.lst (es.drop (k + 1).toNat)) = H5 at s5 h5 h45 ⊢
          refine ⟨p2, p3, _, _, rfl, rfl, h45, h5, by rw [List.length_append, List.length_take, List.length_drop]; omega, fun p4 f4 => ?_⟩
          have s6 := s5.trans (Same.new (o := .lst (es.take (k - 1).toNat ++ ps ++ es.drop (k + 1).toNat)) f4)
          refine kQ false hway (by omega) (by omega) p4 _ _ ((s2.trans s5).free f4) upd_same ?_ (s2.trans s6)
          unfold mvM
          rw [er1, er2, show (k - 1).toNat + 2 = (k + 1).toNat by omega]
          exact (((hx2.keep (Same.tups s6)).take _).append (xp.keep (Same.tups s6))).append ((hx2.keep (Same.tups s6)).drop _)
      · have e0 : decide (way ∈ undoing.map (·.1)) = false := decide_eq_false hw
        rw [e0]
        refine iteT ⟨(by show 1 ≤ sizeLine; decide), kE (fun z => ?_) _ (Same.refl H)⟩
        obtain ⟨_, _, f, rfl⟩ := z
        refine hw ?_
        cases f <;> simp [undoing, wayS]
    · have e0 : decide (1 ≤ k ∧ k ≤ (es.length : Int) - 1) = false := decide_eq_false hk
      rw [e0]
      refine iteT ⟨(by show 1 ≤ sizeLine; decide), kE (fun z => hk ?_) _ (Same.refl H)⟩
      omega
end
end Sw
namespace Sw
open PySem L2
def spWkX (C : Addr) : Sp := fun vs H Q E => ∃ (l m : Addr) (es ws : List V) (row : List (Int × Int)) (ms : List (Int × Str)), vs = [.ref l, .ref m] ∧ H l = some (.lst es) ∧ Exs H es row ∧ row.length ≤ 1000 ∧ H m = some (.lst ws) ∧ Mvs H ws ms ∧
  (∀ r, walkM row ms = some r → ∀ l' es' H', H l' = none → H' l' = some (.lst es') → Exs H' es' r → Same H H' → Q (.ref l') H') ∧
  (walkM row ms = none → ∀ H', Same H H' → E (.ref C) none H')
structure TWk (P : Program) (w : World) (K : PySem.W.Frag) (mg : Str → Option Value) (base : Heap) (C : Addr) : Prop extends T1 mg K where
  f_moved : FnAtX P w K mg base "moved" 3 ["row", "k", "way"] (spMvX C)
section
variable {P : Program} {w : World} {K : PySem.W.Frag} {mg : Str → Option Value} {base : Heap} {C : Addr}
theorem sc_walked : FnScope ["row", "moves", "reached", "k", "way"] ["row", "moves"] (defScope (top 30)) := ⟨rfl, rfl, rfl, by decide +kernel, rfl, by decide +kernel, by decide +kernel⟩
theorem ok_wkX {f : Addr} {fd : FuncData} (F : Fun K "walked" "walked" (top 30) f fd) (T : TWk P w K mg base C) : FnOk P w K mg base (CX1 P w) 4 f fd ["row", "moves"] (spWkX C) := by
  refine F.okX sc_walked (fun vs H Q E h => ?_) (fun cdv A outer s H vs Q E hr h => ?_)
  · obtain ⟨l, m, es, ws, row, ms, rfl, _⟩ := h
    rfl
  · obtain ⟨l, m, es, ws, row, ms, rfl, hl, hx, rl, hm, hw, kQ, kE⟩ := h
    refine ⟨_, (pss_cons (ps_set (i := 2) sc_walked.nd rfl (Or.inl rfl) (pe_callTy (call_list_ofK (K := K) rfl) rfl T.b_list (by decide +kernel) (pa_cons (pv 0) pa_nil)))
      (pss_cons (ps_for own1 rfl (pi_listK (K := K) rfl (pv 1)) (pg_tupK (K := K) (n := 2) rfl rfl (pgs_cons (pg_name (i := 3) sc_walked.nd rfl (Or.inl rfl)) (pgs_cons (pg_name (i := 4) sc_walked.nd rfl (Or.inl rfl)) pgs_nil))) (pss_one (ps_set (i := 2) sc_walked.nd rfl (Or.inl rfl) (pe_callX1 T.f_moved pass1 (hr.mono (by decide)) rfl (@pa_cons _ _ _ _ _ (pv 2) (@pa_cons _ _ _ _ _ (pv 3) (@pa_cons _ _ _ _ _ (pv 4) pa_nil st_name) st_name) st_name)))))
      (pss_one (ps_ret (pv 2))))), ?_⟩
    refine ⟨_, rfl, l, _, rfl, .inl (SqL.of hl), fun l0 f0 => ?_⟩
    have s1 : Same H (upd H l0 (.lst es)) := Same.new f0
    refine ⟨_, rfl, m, rfl, ⟨_, SqL.of (s1 _ _ hm)⟩, for_list (K := K) (a := m) (xs := ws) (fun i σ H' => ∃ lr er rr v3 v4, σ = [some (.ref l), some (.ref m), some (.ref lr), v3, v4] ∧ Same H H' ∧ H lr = none ∧ H' lr = some (.lst er) ∧ Exs H' er rr ∧ walkM row (ms.take i) = some rr)
      ⟨l0, es, row, _, _, rfl, s1, f0, upd_same, hx.keep (Same.tups s1), rfl⟩ (fun i σ H' _ q => by obtain ⟨_, _, _, _, _, _, q, _⟩ := q; exact SqL.of (q _ _ hm)) ?_ ?_⟩
    · rintro i x σ H' hi ⟨lr, er, rr, v3, v4, rfl, s2, flr, hlr, xr, wk⟩
      obtain ⟨t, k, way, rfl, ht, hmi⟩ := hw.get hi
      have rrl := walk_len wk
      refine ⟨t, _, rfl, SqT.of (s2 _ _ ht), rfl, _, _, rfl, _, _, rfl, rfl, ?_⟩
      refine ⟨_, rfl, _, rfl, _, rfl, lr, er, rr, k, way, rfl, hlr, xr, by omega, fun fw hf k1 k2 l2 e2 H2 f2 h2 x2 s3 => ?_, fun hb H2 s3 => ?_⟩
      · refine ⟨l2, e2, _, _, _, rfl, s2.trans s3, s2.free f2, h2, x2, ?_⟩
        rw [walk_take hmi wk, hf, step_some k1 k2]
      · exact kE (walk_dead hmi wk (step_none hb)) H2 (s2.trans s3)
    · rintro σ H' ⟨lr, er, rr, v3, v4, rfl, s2, flr, hlr, xr, wk⟩
      have wl := hw.length
      rw [List.take_of_length_le (by omega)] at wk
      exact ⟨_, rfl, kQ rr wk lr er H' flr hlr xr s2⟩
end
end Sw
namespace Sw
open PySem L2
def spTs (C : Addr) : Sp := fun vs H Q E => ∃ (n : Int) (l : Addr) (es : List V) (row : List (Int × Int)), vs = [.int n, .ref l] ∧ 0 ≤ n ∧ n ≤ 8 ∧ H l = some (.lst es) ∧ Exs H es row ∧ Good n row ∧ row.length ≤ 1000 ∧
  (row.length + cnt n (ledM n row) = n.toNat → ∀ (ms : List (Int × Str)) (l' : Addr) (ws : List V) (H' : Hp), H l' = none → H' l' = some (.lst ws) → Mvs H' ws ms → ms.length ≤ 300 → walkM row ms = some (starM n (ledM n row)) → Same H H' → Q (.ref l') H') ∧
  (row.length + cnt n (ledM n row) ≠ n.toNat → ∀ H', Same H H' → E (.ref C) none H')
structure TTs (P : Program) (w : World) (K : PySem.W.Frag) (mg : Str → Option Value) (base : Heap) (M C : Addr) : Prop extends T1 mg K where
  f_is_least : FnAt P w K mg base "is_least" 4 ["n", "row"] spLeast
  f_led : FnAt P w K mg base "led" 3 ["n", "row"] spLed
  f_rounds : FnAt P w K mg base "rounds" 3 ["order"] spRounds
  f_starward : FnAt P w K mg base "starward" 2 ["row", "leasts"] spStw
  f_walked : FnAtX P w K mg base "walked" 4 ["row", "moves"] (spWkX M)
  c_NotLeast : mg "NotLeast" = some (.ref C)
  x_NotLeast : ExcC K C
section
variable {P : Program} {w : World} {K : PySem.W.Frag} {mg : Str → Option Value} {base : Heap} {M C : Addr}
theorem sc_to_star : FnScope ["n", "row", "leasts", "moves", "move"] ["n", "row"] (defScope (top 34)) := ⟨rfl, rfl, rfl, by decide +kernel, rfl, by decide +kernel, by decide +kernel⟩
theorem ok_ts {f : Addr} {fd : FuncData} (F : Fun K "to_star" "to_star" (top 34) f fd) (T : TTs P w K mg base M C) : FnOk P w K mg base (CX1 P w) 5 f fd ["n", "row"] (spTs C) := by
  refine F.okX sc_to_star (fun vs H Q E h => ?_) (fun cdv A outer s H vs Q E hr h => ?_)
  · obtain ⟨n, l, es, row, rfl, _⟩ := h
    rfl
  · obtain ⟨n, l, es, row, rfl, n0, n8, hl, hx, hg, rl, kQ, kE⟩ := h
    refine ⟨_, (pss_cons (ps_if (pt_not (pt_val (pe_callF T.f_is_least (hr.mono (by first | decide | omega)) rfl (pa_cons (pv 0) (pa_cons (pv 1) pa_nil))))) (pss_one (ps_raise lvs1 T.x_NotLeast rfl rfl T.c_NotLeast (pa_cons pe_str pa_nil))) pss_nil)
      (pss_cons (ps_comp (i := 2) sc_to_star.nd rfl rfl (N := (["found"] : List Str)) (ix := ([none] : List (Option Nat))) (comp_ok rfl rfl) rfl (pi_listK (K := K) rfl (pe_callF T.f_rounds (hr.mono (by first | decide | omega)) rfl (pa_cons (pe_callF T.f_led (hr.mono (by first | decide | omega)) rfl (pa_cons (pv 0) (pa_cons (pv 1) pa_nil))) pa_nil))) (fun _ _ _ _ => (pg_name (i := 0) (show List.Nodup (["found"] : List Str) from by decide +kernel) rfl (Or.inl rfl))) (fun _ _ _ _ => pif_nil) (fun _ _ _ _ => (pe_ix (ix_listK (K := K) rfl) (pv 0) pe_int (fun _ _ => rfl))))
      (pss_cons (ps_set (i := 3) sc_to_star.nd rfl (Or.inl rfl) (pe_lst pa_nil))
      (pss_cons (ps_set (i := 4) sc_to_star.nd rfl (Or.inl rfl) (pe_callF T.f_starward (hr.mono (by first | decide | omega)) rfl (pa_cons (pv 1) (pa_cons (pv 2) pa_nil))))
      (pss_cons (ps_while own1 (pt_cmpR op_notN (pv 4) pe_non (nomark _)) (pss_cons (ps_expr (pe_bmK (K := K) rfl PySem.F.plainAttrs_list PySem.F.slot_list_append PySem.F.type_list_append mt_append (pv 3) (pa_cons (pv 4) pa_nil)))
      (pss_cons (ps_set (i := 1) sc_to_star.nd rfl (Or.inl rfl) (pe_callX1 T.f_walked pass1 (hr.mono (by decide)) rfl (pa_cons (pv 1) (pa_cons (pe_lst (pa_cons (pv 4) pa_nil)) pa_nil))))
      (pss_one (ps_set (i := 4) sc_to_star.nd rfl (Or.inl rfl) (pe_callF T.f_starward (hr.mono (by first | decide | omega)) rfl (pa_cons (pv 1) (pa_cons (pv 2) pa_nil))))))))
      (pss_one (ps_ret (pv 3)))))))), ?_⟩
    have xl := hx.length
    have big : (10000000 : Nat) ≤ sizeLine := by decide
    refine ⟨_, rfl, _, rfl, n, l, es, row, rfl, n0, by omega, hl, hx, hg, fun H1 s1 => ?_⟩
    by_cases hn : row.length + cnt n (ledM n row) = n.toNat
    · have hL : LstR n (ledM n row) row := ⟨n0, hg, rfl, hn⟩
      have o := hL.ord
      generalize hxs : ledM n row = xs at *
      refine ⟨_, rfl, iteE (by rw [decide_eq_true (by omega)]; rfl) ?_⟩
      refine ⟨_, rfl, _, rfl, n, l, es, row, rfl, n0, by omega, s1 _ _ hl, hx.keep (Same.tups s1), hg, fun t H2 ft ht s2 => ?_⟩
      rw [hxs] at ht
      refine ⟨t, n, xs, rfl, ht, o, by omega, fun l2 w2 H3 f2 h2 x2 _ _ s3 => ?_⟩
      have wl := x2.length
      have e2 : rndM n xs = ((ivl 1 (n + 1)).filter (least xs)).map (orb xs) := rfl
      generalize hls : (ivl 1 (n + 1)).filter (least xs) = ls at e2
      rw [e2] at x2 wl
      rw [List.length_map] at wl
      have ll : ls.length ≤ 8 := by
        rw [← hls]
        refine Nat.le_trans (List.length_filter_le _ _) ?_
        rw [ivl_length]; omega
      refine ⟨l2, rfl, ⟨_, SqL.of h2⟩, compL (K := K) (a := l2) (xs := w2) (k := 0) (fun i ys σ' H' => ys = (ls.take i).map V.int ∧ (∃ v, σ' = [v]) ∧ Same H3 H') (by omega) ⟨rfl, ⟨none, rfl⟩, Same.refl _⟩ (fun i ys σ' H' _ z => SqL.of (z.2.2 _ _ h2)) (fun i ys σ' H' z => by rw [z.1, List.length_map, List.length_take]; omega) ?_ ?_⟩
      · rintro i ys σ' H4 x S hi ⟨rfl, ⟨v, rfl⟩, s4⟩ done
        obtain ⟨b, r, rfl, hb, hr'⟩ := (x2.keep s4).get hi
        rw [List.getElem?_map] at hr'
        obtain ⟨y, hy, rfl⟩ := Option.map_eq_some_iff.mp hr'
        have eo : (orb xs y)[0]? = some y := by
          unfold orb
          have : per xs y = per xs y - 1 + 1 := by unfold per; omega
          rw [this, List.range_succ_eq_map, List.map_cons]
          rfl
        refine ⟨_, rfl, b, _, 0, .int y, rfl, rfl, SqL.of hb, atI_nat (j := 0) (by rw [List.getElem?_map, eo]; rfl), done _ _ _ ⟨?_, ⟨_, rfl⟩, s4⟩⟩
        rw [List.take_succ, hy, List.map_append]
        rfl
      · rintro ys σ' H4 lm ⟨rfl, ⟨v, rfl⟩, s4⟩ flm
        rw [List.take_of_length_le (by omega)]
        have sA := s1.trans (s2.trans (s3.trans s4))
        have flmH : H lm = none := sA.free flm
        have s5 : Same H4 (upd H4 lm (.lst (ls.map V.int))) := Same.new flm
        have h5 : upd H4 lm (.lst (ls.map V.int)) lm = some (.lst (ls.map V.int)) := upd_same
        generalize upd H4 lm (.lst (ls.map V.int)) = H5 at s5 h5 ⊢
        refine ⟨(by show 0 ≤ sizeLine; omega), fun lo flo => ?_⟩
        have sB := sA.trans s5
        have floH : H lo = none := sB.free flo
        have nlo : lm ≠ lo := fun z => by rw [z, flo] at h5; cases h5
        have s6 : Same H5 (upd H5 lo (.lst [])) := Same.new flo
        have h6 : upd H5 lo (.lst []) lo = some (.lst []) := upd_same
        generalize upd H5 lo (.lst []) = H6 at s6 h6 ⊢
        have sC := sB.trans s6
        obtain ⟨μ0, hμ0, μb⟩ := hL.mea n8
        have nb7 : nbW xs row ≤ 7 := Nat.le_trans List.countP_le_length (hL.short n8)
        refine ⟨_, rfl, _, rfl, l, lm, es, row, n, xs, rfl, sC _ _ hl, hx.keep (Same.tups sC), by rw [hls]; exact s6 _ _ h5, hL, n8, fun v7 H7 nx s7 => ?_⟩
        refine ⟨fun m σ H' => ∃ (lr : Addr) (er : List V) (rr : List (Int × Int)) (ws : List V) (ms : List (Int × Str)) (v : V), σ = [some (.int n), some (.ref lr), some (.ref lm), some (.ref lo), some v] ∧ Same H H' ∧ H' lr = some (.lst er) ∧ Exs H' er rr ∧ H' lm = some (.lst (ls.map V.int)) ∧ H' lo = some (.lst ws) ∧ Mvs H' ws ms ∧ walkM row ms = some rr ∧ LstR n xs rr ∧ MeaW n xs rr m ∧ ms.length + m ≤ μ0 ∧ NxtW n xs rr H' v ∧ lr ≠ lo,
          ⟨μ0, l, es, row, [], [], v7, rfl, sC.trans s7, (sC.trans s7) _ _ hl, hx.keep (Same.tups (sC.trans s7)), s7 _ _ (s6 _ _ h5), s7 _ _ h6, .nil, rfl, hL, hμ0, by simp, nx, fun z => by rw [z, floH] at hl; cases hl⟩, ?_⟩
        rintro m σ H8 ⟨lr, er, rr, ws, ms, v, rfl, s8, hlr, xr, hlm, hlo, mvs, wk, hLr, hm, mb, nx8, nlr⟩
        rcases nx8 with ⟨rfl, es8⟩ | ⟨t8, a8, f8, rfl, ht8, st8⟩
        · refine ⟨_, rfl, rfl, _, rfl, iteE rfl ?_⟩
          rw [es8] at wk
          exact ⟨_, rfl, kQ hn ms lo ws H8 floH hlo mvs (by omega) wk s8⟩
        · refine ⟨_, rfl, rfl, _, rfl, iteP rfl ?_⟩
          refine ⟨fun σ' H' => ∃ μ', μ' < m ∧ ∃ (lr : Addr) (er : List V) (rr : List (Int × Int)) (ws : List V) (ms : List (Int × Str)) (v : V), σ' = [some (.int n), some (.ref lr), some (.ref lm), some (.ref lo), some v] ∧ Same H H' ∧ H' lr = some (.lst er) ∧ Exs H' er rr ∧ H' lm = some (.lst (ls.map V.int)) ∧ H' lo = some (.lst ws) ∧ Mvs H' ws ms ∧ walkM row ms = some rr ∧ LstR n xs rr ∧ MeaW n xs rr μ' ∧ ms.length + μ' ≤ μ0 ∧ NxtW n xs rr H' v ∧ lr ≠ lo, fun σ' H' q => q, ?_⟩
          have mw := mvs.length
          obtain ⟨g1, g2, g3⟩ := st8
          obtain ⟨μ', lt, hμ'⟩ := g3 m hm
          refine ⟨_, rfl, .inl ⟨rfl, _, SqL.of hlo⟩, _, rfl, lo, _, _, rfl, rfl, hlo, by omega, ?_⟩
          have tup9 : ∀ b ys, H8 b = some (.tup ys) → upd H8 lo (.lst (ws ++ [.ref t8])) b = some (.tup ys) := fun b ys e => by rw [upd_ne fun z => by rw [z, hlo] at e; cases e]; exact e
          have s9 : Same H (upd H8 lo (.lst (ws ++ [.ref t8]))) := Same.put s8 floH
          have h9 : upd H8 lo (.lst (ws ++ [.ref t8])) lo = some (.lst (ws ++ [.ref t8])) := upd_same
          have hlr9 : upd H8 lo (.lst (ws ++ [.ref t8])) lr = some (.lst er) := by rw [upd_ne nlr]; exact hlr
          have hlm9 : upd H8 lo (.lst (ws ++ [.ref t8])) lm = some (.lst (ls.map V.int)) := by rw [upd_ne nlo]; exact hlm
          generalize upd H8 lo (.lst (ws ++ [.ref t8])) = H9 at tup9 s9 h9 hlr9 hlm9 ⊢
          have xr9 := xr.keep tup9
          have mvs9 := mvs.keep tup9
          have ht9 := tup9 _ _ ht8
          refine ⟨_, rfl, _, rfl, (by show 1 ≤ sizeLine; omega), fun lq flq => ?_⟩
          have s10 : Same H9 (upd H9 lq (.lst [.ref t8])) := Same.new flq
          have h10 : upd H9 lq (.lst [.ref t8]) lq = some (.lst [.ref t8]) := upd_same
          generalize upd H9 lq (.lst [.ref t8]) = H10 at s10 h10 ⊢
          have e10 : walkM rr [((a8 : Int) + 1, wayS f8)] = some (mvM rr a8 f8) := by
            show (stepM rr ((a8 : Int) + 1, wayS f8)).bind (fun r => walkM r []) = _
            rw [step_some (by omega) (by omega), show ((a8 : Int) + 1 - 1).toNat = a8 by omega]
            rfl
          have rl8 := walk_len wk
          refine ⟨lr, lq, er, [.ref t8], rr, [((a8 : Int) + 1, wayS f8)], rfl, s10 _ _ hlr9, xr9.keep (Same.tups s10), by omega, h10, .cons (s10 _ _ ht9) .nil, fun r er' l' es' H11 fl' hl' x' s11 => ?_, fun z => by rw [e10] at z; cases z⟩
          rw [e10] at er'
          cases er'
          have s12 := s10.trans s11
          refine ⟨_, rfl, _, rfl, l', lm, es', mvM rr a8 f8, n, xs, rfl, hl', x', by rw [hls]; exact s12 _ _ hlm9, g2, n8, fun v13 H13 nx13 s13 => ?_⟩
          have s14 := s12.trans s13
          refine ⟨μ', lt, l', es', mvM rr a8 f8, ws ++ [.ref t8], ms ++ [((a8 : Int) + 1, wayS f8)], v13, rfl, s9.trans s14, s13 _ _ hl', x'.keep (Same.tups s13), s14 _ _ hlm9, s14 _ _ h9, (mvs9.keep (Same.tups s14)).append (.cons (s14 _ _ ht9) .nil), ?_, g2, hμ', by rw [List.length_append]; show ms.length + 1 + μ' ≤ μ0; omega, nx13, fun z => by rw [z, s10 _ _ h9] at fl'; cases fl'⟩
          rw [walk_snoc wk, step_some (by omega) (by omega), show ((a8 : Int) + 1 - 1).toNat = a8 by omega]
    · refine ⟨_, rfl, iteP (by rw [decide_eq_false (by omega)]; rfl) ?_⟩
      exact ⟨(by show 1 ≤ sizeLine; decide), kE hn _ s1⟩
end
end Sw
namespace Sw
open PySem L2
def spLmv : Sp := fun vs H Q _ => ∃ (l : Addr) (es : List V) (row : List (Int × Int)) (k n : Int) (f : Bool), vs = [.ref l, .int k, .str (wayS f)] ∧ H l = some (.lst es) ∧ Exs H es row ∧ Good n row ∧ row.length ≤ 1000 ∧ 1 ≤ k ∧ k < row.length ∧ ∀ l' es' H', H l' = none → H' l' = some (.lst es') → Exs H' es' (mvM row (k - 1).toNat f) → Same H H' → Q (.ref l') H'
structure TLm (P : Program) (w : World) (K : PySem.W.Frag) (mg : Str → Option Value) (base : Heap) : Prop extends T1 mg K where
  b_min : mg "min" = none
  b_max : mg "max" = none
theorem min_if (p q : Int) : (if q < p then q else p) = min p q := by split <;> omega
theorem max_if (p q : Int) : (if q > p then q else p) = max p q := by split <;> omega
section
variable {P : Program} {w : World} {K : PySem.W.Frag} {mg : Str → Option Value} {base : Heap}
theorem sc__law_moved : FnScope ["_law_row", "_law_k", "_law_way", "_law_one", "_law_other", "_law_c", "_law_d", "_law_a", "_law_b"] ["_law_row", "_law_k", "_law_way"] (defScope (top 76)) := ⟨rfl, rfl, rfl, by decide +kernel, rfl, by decide +kernel, by decide +kernel⟩
theorem ok_lmv {f : Addr} {fd : FuncData} (F : Fun K "_law_moved" "_law_moved" (top 76) f fd) (T : TLm P w K mg base) : FnOk P w K mg base CX0 1 f fd ["_law_row", "_law_k", "_law_way"] spLmv := by
  refine F.ok sc__law_moved (fun vs H Q E h => ?_) (fun cdv A outer s H vs Q E hr h => ?_)
  · obtain ⟨l, es, row, k, n, fw, rfl, _⟩ := h
    rfl
  · obtain ⟨l, es, row, k, n, fw, rfl, hl, hx, hg, rl, k1, k2, kk⟩ := h
    have hu := hu_of hr
    refine ⟨_, (pss_cons (ps_asg (pe_tup (pa_cons (pe_ix (ix_listK (K := K) rfl) (pv 0) (pe_op op_sub (pv 1) pe_int) (fun _ _ => rfl)) (pa_cons (pe_ix (ix_listK (K := K) rfl) (pv 0) (pv 1) (fun _ _ => rfl)) pa_nil))) (pg_tupK (K := K) (n := 2) rfl rfl (pgs_cons (pg_tupK (K := K) (n := 2) rfl rfl (pgs_cons (pg_name (i := 7) sc__law_moved.nd rfl (Or.inl rfl)) (pgs_cons (pg_name (i := 8) sc__law_moved.nd rfl (Or.inl rfl)) pgs_nil))) (pgs_cons (pg_tupK (K := K) (n := 2) rfl rfl (pgs_cons (pg_name (i := 5) sc__law_moved.nd rfl (Or.inl rfl)) (pgs_cons (pg_name (i := 6) sc__law_moved.nd rfl (Or.inl rfl)) pgs_nil))) pgs_nil))))
      (pss_cons (ps_if (pt_cmpR op_eq (pv 2) pe_str (nomark _)) (pss_cons (ps_set (i := 3) sc__law_moved.nd rfl (Or.inl rfl) (pe_dget2 hu (pe_disp (pps_cons (pv 5) (pv 6) (pps_cons (pv 6) (pv 5) pps_nil)) rfl rfl (by simp) (by decide)) (pv 7) (pv 7) ⟨rfl, rfl, rfl, rfl⟩))
      (pss_cons (ps_set (i := 4) sc__law_moved.nd rfl (Or.inl rfl) (pe_dget2 hu (pe_disp (pps_cons (pv 5) (pv 6) (pps_cons (pv 6) (pv 5) pps_nil)) rfl rfl (by simp) (by decide)) (pv 8) (pv 8) ⟨rfl, rfl, rfl, rfl⟩))
      (pss_one (ps_ret (pe_op op_cat (pe_op op_cat (pe_slice (sl_listK (K := K) rfl) (pv 0) po_none (po_some (pe_op op_sub (pv 1) pe_int))) (pe_lst (pa_cons (pe_tup (pa_cons (pv 5) (pa_cons (pv 6) pa_nil))) (pa_cons (pe_tup (pa_cons (pe_callB (call_min2 rfl) rfl T.b_min (by decide +kernel) (pa_cons (pv 3) (pa_cons (pv 4) pa_nil))) (pa_cons (pe_callB (call_max2 rfl) rfl T.b_max (by decide +kernel) (pa_cons (pv 3) (pa_cons (pv 4) pa_nil))) pa_nil))) pa_nil)))) (pe_slice (sl_listK (K := K) rfl) (pv 0) (po_some (pe_op op_add (pv 1) pe_int)) po_none)))))) pss_nil)
      (pss_cons (ps_set (i := 3) sc__law_moved.nd rfl (Or.inl rfl) (pe_dget2 hu (pe_disp (pps_cons (pv 7) (pv 8) (pps_cons (pv 8) (pv 7) pps_nil)) rfl rfl (by simp) (by decide)) (pv 5) (pv 5) ⟨rfl, rfl, rfl, rfl⟩))
      (pss_cons (ps_set (i := 4) sc__law_moved.nd rfl (Or.inl rfl) (pe_dget2 hu (pe_disp (pps_cons (pv 7) (pv 8) (pps_cons (pv 8) (pv 7) pps_nil)) rfl rfl (by simp) (by decide)) (pv 6) (pv 6) ⟨rfl, rfl, rfl, rfl⟩))
      (pss_one (ps_ret (pe_op op_cat (pe_op op_cat (pe_slice (sl_listK (K := K) rfl) (pv 0) po_none (po_some (pe_op op_sub (pv 1) pe_int))) (pe_lst (pa_cons (pe_tup (pa_cons (pe_callB (call_min2 rfl) rfl T.b_min (by decide +kernel) (pa_cons (pv 3) (pa_cons (pv 4) pa_nil))) (pa_cons (pe_callB (call_max2 rfl) rfl T.b_max (by decide +kernel) (pa_cons (pv 3) (pa_cons (pv 4) pa_nil))) pa_nil))) (pa_cons (pe_tup (pa_cons (pv 7) (pa_cons (pv 8) pa_nil))) pa_nil)))) (pe_slice (sl_listK (K := K) rfl) (pv 0) (po_some (pe_op op_add (pv 1) pe_int)) po_none)))))))), ?_⟩
    have big : (10000000 : Nat) ≤ sizeLine := by decide
    have two : 2 ≤ sizeLine := by decide
    have xl := hx.length
    obtain ⟨v1, hv1⟩ : ∃ v, es[(k - 1).toNat]? = some v := ⟨_, List.getElem?_eq_getElem (by omega)⟩
    obtain ⟨v2, hv2⟩ : ∃ v, es[k.toNat]? = some v := ⟨_, List.getElem?_eq_getElem (by omega)⟩
    obtain ⟨ts, a, b, rfl, hts, hr1⟩ := hx.get hv1
    obtain ⟨tt, c, d, rfl, htt, hr2⟩ := hx.get hv2
    have er1 : row.getD (k - 1).toNat (0, 0) = (a, b) := by rw [List.getD_eq_getElem?_getD, hr1]; rfl
    have er2 : row.getD ((k - 1).toNat + 1) (0, 0) = (c, d) := by rw [show (k - 1).toNat + 1 = k.toNat by omega, List.getD_eq_getElem?_getD, hr2]; rfl
    have g1 := hg (a, b) (List.mem_of_getElem? hr1)
    have g2 := hg (c, d) (List.mem_of_getElem? hr2)
    simp only at g1 g2
    have at1 : atI es (k - 1) = some (.ref ts) := by rw [← Int.toNat_of_nonneg (show 0 ≤ k - 1 by omega)]; exact atI_nat hv1
    have at2 : atI es k = some (.ref tt) := by rw [← Int.toNat_of_nonneg (show 0 ≤ k by omega)]; exact atI_nat hv2
    refine ⟨_, rfl, _, rfl, _, _, rfl, rfl, l, _, _, _, rfl, rfl, SqL.of hl, at1, _, rfl, _, rfl, l, _, _, _, rfl, rfl, SqL.of hl, at2, two, fun tp ftp => ?_⟩
    have s1 : Same H (upd H tp (.tup [.ref ts, .ref tt])) := Same.new ftp
    have htp : upd H tp (.tup [.ref ts, .ref tt]) tp = some (.tup [.ref ts, .ref tt]) := upd_same
    generalize upd H tp (.tup [.ref ts, .ref tt]) = H1 at s1 htp ⊢
    refine ⟨tp, _, rfl, SqT.of htp, rfl, _, _, rfl, ts, _, rfl, SqT.of (s1 _ _ hts), rfl, _, _, rfl, _, _, rfl, rfl, ?_⟩
    refine ⟨_, _, rfl, tt, _, rfl, SqT.of (s1 _ _ htt), rfl, _, _, rfl, _, _, rfl, rfl, rfl, ?_⟩
    refine ⟨_, rfl, rfl, _, rfl, ?_⟩
    cases fw with
    | true =>
      refine ite2 (fun _ => ?_) (fun c => absurd (decide_eq_true rfl) c)
      have ne : c ≠ d := by omega
      refine fun p1 f1 => ⟨_, rfl, _, rfl, _, rfl, _, rfl, upd_same, [(Sum.inl c, .int d), (Sum.inl d, .int c)], rfl, (show 2 ≤ 15 by decide), p1, rfl, .inl ⟨_, .inl upd_same⟩, _, rfl, _, rfl, _, DGet.k (k := Sum.inl a) upd_same, ?_⟩
      rw [dict_swp _ _ _ ne]
      have s2 : Same H1 (upd (upd H1 p1 (.dK [])) p1 (.dK (mergeK [] [(Sum.inl c, .int d), (Sum.inl d, .int c)]))) := fun b o e => by
        rw [upd_ne (ne_of_none e f1), upd_ne (ne_of_none e f1)]; exact e
      generalize upd (upd H1 p1 (.dK [])) p1 (.dK (mergeK [] [(Sum.inl c, .int d), (Sum.inl d, .int c)])) = H2 at s2 ⊢
      refine fun p2 f2 => ⟨_, rfl, _, rfl, _, rfl, _, rfl, upd_same, [(Sum.inl c, .int d), (Sum.inl d, .int c)], rfl, (show 2 ≤ 15 by decide), p2, rfl, .inl ⟨_, .inl upd_same⟩, _, rfl, _, rfl, _, DGet.k (k := Sum.inl b) upd_same, ?_⟩
      rw [dict_swp _ _ _ ne]
      have s3 : Same H2 (upd (upd H2 p2 (.dK [])) p2 (.dK (mergeK [] [(Sum.inl c, .int d), (Sum.inl d, .int c)]))) := fun b o e => by
        rw [upd_ne (ne_of_none e f2), upd_ne (ne_of_none e f2)]; exact e
      generalize upd (upd H2 p2 (.dK [])) p2 (.dK (mergeK [] [(Sum.inl c, .int d), (Sum.inl d, .int c)])) = H3 at s3 ⊢
      have s3 := (s1.trans s2).trans s3
      refine ⟨_, rfl, _, rfl, _, _, rfl, rfl, k - 1, rfl, l, es, rfl, SqL.of (s3 _ _ hl), fun q1 e1 => ?_⟩
      rw [cutT (by omega) (by omega)]
      have s4 : Same H3 (upd H3 q1 (.lst (es.take (k - 1).toNat))) := Same.new e1
      have h4 : upd H3 q1 (.lst (es.take (k - 1).toNat)) q1 = some (.lst (es.take (k - 1).toNat)) := upd_same
      generalize upd H3 q1 (.lst (es.take (k - 1).toNat)) = H4 at s4 h4 ⊢
      refine ⟨_, rfl, _, rfl, two, fun tq1 ftq1 => ⟨_, rfl, _, rfl, _, _, rfl, _, rfl, _, rfl, _, _, rfl, two, fun tq2 ftq2 => ⟨two, fun lp flp => ?_⟩⟩⟩
      have k1 : Same H4 (upd H4 tq1 (.tup [.int c, .int d])) := Same.new ftq1
      have z1 : upd H4 tq1 (.tup [.int c, .int d]) tq1 = some (.tup [.int c, .int d]) := upd_same
      generalize upd H4 tq1 (.tup [.int c, .int d]) = H5 at k1 z1 ftq2 flp ⊢
      have k2 : Same H5 (upd H5 tq2 (.tup [.int (if swp b (c, d) < swp a (c, d) then swp b (c, d) else swp a (c, d)), .int (if swp b (c, d) > swp a (c, d) then swp b (c, d) else swp a (c, d))])) := Same.new ftq2
      have z2 : upd H5 tq2 (.tup [.int (if swp b (c, d) < swp a (c, d) then swp b (c, d) else swp a (c, d)), .int (if swp b (c, d) > swp a (c, d) then swp b (c, d) else swp a (c, d))]) tq2 = some (.tup [.int (if swp b (c, d) < swp a (c, d) then swp b (c, d) else swp a (c, d)), .int (if swp b (c, d) > swp a (c, d) then swp b (c, d) else swp a (c, d))]) := upd_same
      generalize upd H5 tq2 (.tup [.int (if swp b (c, d) < swp a (c, d) then swp b (c, d) else swp a (c, d)), .int (if swp b (c, d) > swp a (c, d) then swp b (c, d) else swp a (c, d))]) = H6 at k2 z2 flp ⊢
      have k3 : Same H6 (upd H6 lp (.lst [.ref tq1, .ref tq2])) := Same.new flp
      have hlp : upd H6 lp (.lst [.ref tq1, .ref tq2]) lp = some (.lst [.ref tq1, .ref tq2]) := upd_same
      generalize upd H6 lp (.lst [.ref tq1, .ref tq2]) = H7 at k3 hlp ⊢
      rw [min_if, max_if] at z2
      have xp : Exs H7 [.ref tq1, .ref tq2] (prM (a, b) (c, d) true) := .cons (k3 _ _ (k2 _ _ z1)) (.cons (k3 _ _ z2) .nil)
      have s7 := k1.trans (k2.trans k3)
      have a7 := (s3.trans s4).trans s7
      refine ⟨q1, lp, _, _, rfl, rfl, s7 _ _ h4, hlp, by rw [List.length_take]; show _ + 2 ≤ sizeLine; omega, fun q2 e2 => ?_⟩
      have s8 : Same H7 (upd H7 q2 (.lst (es.take (k - 1).toNat ++ [.ref tq1, .ref tq2]))) := Same.new e2
      have h8 : upd H7 q2 (.lst (es.take (k - 1).toNat ++ [.ref tq1, .ref tq2])) q2 = some (.lst (es.take (k - 1).toNat ++ [.ref tq1, .ref tq2])) := upd_same
      generalize upd H7 q2 (.lst (es.take (k - 1).toNat ++ [.ref tq1, .ref tq2])) = H8 at s8 h8 ⊢
      refine ⟨_, rfl, _, rfl, _, _, rfl, rfl, k + 1, rfl, ?_⟩
      unfold tNoPart
      refine ⟨l, es, rfl, SqL.of (s8 _ _ (a7 _ _ hl)), fun q3 e3 => ?_⟩
      rw [cutD (by omega)]
      have s9 : Same H8 (upd H8 q3 (.lst (es.drop (k + 1).toNat))) := Same.new e3
      have h9 : upd H8 q3 (.lst (es.drop (k + 1).toNat)) q3 = some (.lst (es.drop (k + 1).toNat)) := upd_same
      generalize upd H8 q3 (.lst (es.drop (k + 1).toNat)) = H9 at s9 h9 ⊢
      refine ⟨q2, q3, _, _, rfl, rfl, s9 _ _ h8, h9, by rw [List.length_append, List.length_take, List.length_drop]; show _ + 2 + _ ≤ sizeLine; omega, fun q4 e4 => ?_⟩
      have sA := s8.trans (s9.trans (Same.new (o := .lst (es.take (k - 1).toNat ++ [.ref tq1, .ref tq2] ++ es.drop (k + 1).toNat)) e4))
      refine kk q4 _ _ ((a7.trans (s8.trans s9)).free e4) upd_same ?_ (a7.trans sA)
      unfold mvM
      rw [er1, er2, show (k - 1).toNat + 2 = (k + 1).toNat by omega]
      have hxA := hx.keep (Same.tups (a7.trans sA))
      exact ((hxA.take _).append (xp.keep (Same.tups sA))).append (hxA.drop _)
    | false =>
      refine ite2 (fun c => absurd (of_decide_eq_true c) (by intro z; injection z with z; exact absurd z (by decide))) (fun _ => ?_)
      have ne : a ≠ b := by omega
      refine fun p1 f1 => ⟨_, rfl, _, rfl, _, rfl, _, rfl, upd_same, [(Sum.inl a, .int b), (Sum.inl b, .int a)], rfl, (show 2 ≤ 15 by decide), p1, rfl, .inl ⟨_, .inl upd_same⟩, _, rfl, _, rfl, _, DGet.k (k := Sum.inl c) upd_same, ?_⟩
      rw [dict_swp _ _ _ ne]
      have s2 : Same H1 (upd (upd H1 p1 (.dK [])) p1 (.dK (mergeK [] [(Sum.inl a, .int b), (Sum.inl b, .int a)]))) := fun b o e => by
        rw [upd_ne (ne_of_none e f1), upd_ne (ne_of_none e f1)]; exact e
      generalize upd (upd H1 p1 (.dK [])) p1 (.dK (mergeK [] [(Sum.inl a, .int b), (Sum.inl b, .int a)])) = H2 at s2 ⊢
      refine fun p2 f2 => ⟨_, rfl, _, rfl, _, rfl, _, rfl, upd_same, [(Sum.inl a, .int b), (Sum.inl b, .int a)], rfl, (show 2 ≤ 15 by decide), p2, rfl, .inl ⟨_, .inl upd_same⟩, _, rfl, _, rfl, _, DGet.k (k := Sum.inl d) upd_same, ?_⟩
      rw [dict_swp _ _ _ ne]
      have s3 : Same H2 (upd (upd H2 p2 (.dK [])) p2 (.dK (mergeK [] [(Sum.inl a, .int b), (Sum.inl b, .int a)]))) := fun b o e => by
        rw [upd_ne (ne_of_none e f2), upd_ne (ne_of_none e f2)]; exact e
      generalize upd (upd H2 p2 (.dK [])) p2 (.dK (mergeK [] [(Sum.inl a, .int b), (Sum.inl b, .int a)])) = H3 at s3 ⊢
      have s3 := (s1.trans s2).trans s3
      refine ⟨_, rfl, _, rfl, _, _, rfl, rfl, k - 1, rfl, l, es, rfl, SqL.of (s3 _ _ hl), fun q1 e1 => ?_⟩
      rw [cutT (by omega) (by omega)]
      have s4 : Same H3 (upd H3 q1 (.lst (es.take (k - 1).toNat))) := Same.new e1
      have h4 : upd H3 q1 (.lst (es.take (k - 1).toNat)) q1 = some (.lst (es.take (k - 1).toNat)) := upd_same
      generalize upd H3 q1 (.lst (es.take (k - 1).toNat)) = H4 at s4 h4 ⊢
      refine ⟨_, rfl, _, rfl, _, _, rfl, _, rfl, _, rfl, _, _, rfl, two, fun tq1 ftq1 => ⟨_, rfl, _, rfl, two, fun tq2 ftq2 => ⟨two, fun lp flp => ?_⟩⟩⟩
      have k1 : Same H4 (upd H4 tq1 (.tup [.int (if swp d (a, b) < swp c (a, b) then swp d (a, b) else swp c (a, b)), .int (if swp d (a, b) > swp c (a, b) then swp d (a, b) else swp c (a, b))])) := Same.new ftq1
      have z1 : upd H4 tq1 (.tup [.int (if swp d (a, b) < swp c (a, b) then swp d (a, b) else swp c (a, b)), .int (if swp d (a, b) > swp c (a, b) then swp d (a, b) else swp c (a, b))]) tq1 = some (.tup [.int (if swp d (a, b) < swp c (a, b) then swp d (a, b) else swp c (a, b)), .int (if swp d (a, b) > swp c (a, b) then swp d (a, b) else swp c (a, b))]) := upd_same
      generalize upd H4 tq1 (.tup [.int (if swp d (a, b) < swp c (a, b) then swp d (a, b) else swp c (a, b)), .int (if swp d (a, b) > swp c (a, b) then swp d (a, b) else swp c (a, b))]) = H5 at k1 z1 ftq2 flp ⊢
      have k2 : Same H5 (upd H5 tq2 (.tup [.int a, .int b])) := Same.new ftq2
      have z2 : upd H5 tq2 (.tup [.int a, .int b]) tq2 = some (.tup [.int a, .int b]) := upd_same
      generalize upd H5 tq2 (.tup [.int a, .int b]) = H6 at k2 z2 flp ⊢
      have k3 : Same H6 (upd H6 lp (.lst [.ref tq1, .ref tq2])) := Same.new flp
      have hlp : upd H6 lp (.lst [.ref tq1, .ref tq2]) lp = some (.lst [.ref tq1, .ref tq2]) := upd_same
      generalize upd H6 lp (.lst [.ref tq1, .ref tq2]) = H7 at k3 hlp ⊢
      rw [min_if, max_if] at z1
      have xp : Exs H7 [.ref tq1, .ref tq2] (prM (a, b) (c, d) false) := .cons (k3 _ _ (k2 _ _ z1)) (.cons (k3 _ _ z2) .nil)
      have s7 := k1.trans (k2.trans k3)
      have a7 := (s3.trans s4).trans s7
      refine ⟨q1, lp, _, _, rfl, rfl, s7 _ _ h4, hlp, by rw [List.length_take]; show _ + 2 ≤ sizeLine; omega, fun q2 e2 => ?_⟩
      have s8 : Same H7 (upd H7 q2 (.lst (es.take (k - 1).toNat ++ [.ref tq1, .ref tq2]))) := Same.new e2
      have h8 : upd H7 q2 (.lst (es.take (k - 1).toNat ++ [.ref tq1, .ref tq2])) q2 = some (.lst (es.take (k - 1).toNat ++ [.ref tq1, .ref tq2])) := upd_same
      generalize upd H7 q2 (.lst (es.take (k - 1).toNat ++ [.ref tq1, .ref tq2])) = H8 at s8 h8 ⊢
      refine ⟨_, rfl, _, rfl, _, _, rfl, rfl, k + 1, rfl, ?_⟩
      unfold tNoPart
      refine ⟨l, es, rfl, SqL.of (s8 _ _ (a7 _ _ hl)), fun q3 e3 => ?_⟩
      rw [cutD (by omega)]
      have s9 : Same H8 (upd H8 q3 (.lst (es.drop (k + 1).toNat))) := Same.new e3
      have h9 : upd H8 q3 (.lst (es.drop (k + 1).toNat)) q3 = some (.lst (es.drop (k + 1).toNat)) := upd_same
      generalize upd H8 q3 (.lst (es.drop (k + 1).toNat)) = H9 at s9 h9 ⊢
      refine ⟨q2, q3, _, _, rfl, rfl, s9 _ _ h8, h9, by rw [List.length_append, List.length_take, List.length_drop]; show _ + 2 + _ ≤ sizeLine; omega, fun q4 e4 => ?_⟩
      have sA := s8.trans (s9.trans (Same.new (o := .lst (es.take (k - 1).toNat ++ [.ref tq1, .ref tq2] ++ es.drop (k + 1).toNat)) e4))
      refine kk q4 _ _ ((a7.trans (s8.trans s9)).free e4) upd_same ?_ (a7.trans sA)
      unfold mvM
      rw [er1, er2, show (k - 1).toNat + 2 = (k + 1).toNat by omega]
      have hxA := hx.keep (Same.tups (a7.trans sA))
      exact ((hxA.take _).append (xp.keep (Same.tups sA))).append (hxA.drop _)
end
end Sw
namespace Sw
open PySem L2
theorem walk_pre {row r : List (Int × Int)} {ms : List (Int × Str)} (h : walkM row ms = some r) (i : Nat) : ∃ rr, walkM row (ms.take i) = some rr := by
  rw [← List.take_append_drop i ms, walk_append] at h
  obtain ⟨rr, e, _⟩ := Option.bind_eq_some_iff.mp h
  exact ⟨rr, e⟩
theorem step_inv {r r' : List (Int × Int)} {k : Int} {x : Str} (h : stepM r (k, x) = some r') : ∃ f, x = wayS f ∧ 1 ≤ k ∧ k < r.length ∧ r' = mvM r (k - 1).toNat f := by
  unfold stepM at h
  by_cases c : 1 ≤ k ∧ k < (r.length : Int)
  · rw [if_pos c] at h
    by_cases d : x = wayS true
    · rw [if_pos d] at h
      cases h
      exact ⟨true, d, c.1, c.2, rfl⟩
    · rw [if_neg d] at h
      by_cases e : x = wayS false
      · rw [if_pos e] at h
        cases h
        exact ⟨false, e, c.1, c.2, rfl⟩
      · rw [if_neg e] at h; cases h
  · rw [if_neg c] at h; cases h
def spLend : Sp := fun vs H Q _ => ∃ (l m : Addr) (es ws : List V) (row r : List (Int × Int)) (ms : List (Int × Str)) (n : Int), vs = [.ref l, .ref m] ∧ H l = some (.lst es) ∧ Exs H es row ∧ Good n row ∧ row.length ≤ 1000 ∧ H m = some (.lst ws) ∧ Mvs H ws ms ∧ ms.length ≤ 2000 ∧ walkM row ms = some r ∧
  ∀ l' es' H', H' l' = some (.lst es') → Exs H' es' r → Same H H' → Q (.ref l') H'
structure TLe (P : Program) (w : World) (K : PySem.W.Frag) (mg : Str → Option Value) (base : Heap) : Prop extends T1 mg K where
  f__law_moved : FnAt P w K mg base "_law_moved" 1 ["_law_row", "_law_k", "_law_way"] spLmv
section
variable {P : Program} {w : World} {K : PySem.W.Frag} {mg : Str → Option Value} {base : Heap}
theorem sc__law_end : FnScope ["_law_row", "_law_moves", "_law_move"] ["_law_row", "_law_moves"] (defScope (top 77)) := ⟨rfl, rfl, rfl, by decide +kernel, rfl, by decide +kernel, by decide +kernel⟩
theorem ok_lend {f : Addr} {fd : FuncData} (F : Fun K "_law_end" "_law_end" (top 77) f fd) (T : TLe P w K mg base) : FnOk P w K mg base CX0 2 f fd ["_law_row", "_law_moves"] spLend := by
  refine F.ok sc__law_end (fun vs H Q E h => ?_) (fun cdv A outer s H vs Q E hr h => ?_)
  · obtain ⟨l, m, es, ws, row, r, ms, n, rfl, _⟩ := h
    rfl
  · obtain ⟨l, m, es, ws, row, r, ms, n, rfl, hl, hx, hg, rl, hm, hw, ml, wk, k⟩ := h
    refine ⟨_, (pss_cons (ps_if (PW.pt (pw_or (pt_not (pt_val (pe_callB (call_isiK (K := K) rfl) rfl T.b_isinstance (by decide +kernel) (pa_cons (pv 1) (pa_cons (pe_bltn (v := .ty "list") rfl T.b_list (by decide +kernel) rfl) pa_nil))))) (pw_or1 (pt_cmpR op_gt (pe_callB (call_lenK (K := K) rfl) rfl T.b_len (by decide +kernel) (pa_cons (pv 1) pa_nil)) pe_int (nomark _))))) (pss_one (ps_ret pe_non)) pss_nil)
      (pss_cons (ps_for PassesOwn.never rfl (pi_listK (K := K) rfl (pv 1)) (pg_name (i := 2) sc__law_end.nd rfl (Or.inl rfl)) (pss_cons (ps_if (PW.pt (pw_or (pt_not (pt_val (pe_callB (call_isiK (K := K) rfl) rfl T.b_isinstance (by decide +kernel) (pa_cons (pv 2) (pa_cons (pe_bltn (v := .ty "tuple") rfl T.b_tuple (by decide +kernel) rfl) pa_nil))))) (pw_or (pt_cmpR op_ne (pe_callB (call_lenK (K := K) rfl) rfl T.b_len (by decide +kernel) (pa_cons (pv 2) pa_nil)) pe_int (nomark _)) (pw_or1 (pt_cmpR (op_notInK (K := K) rfl) (pe_ix (ix_tupK (K := K) rfl) (pv 2) pe_int (fun _ _ => rfl)) (pe_tup (pa_cons pe_str (pa_cons pe_str pa_nil))) rfl))))) (pss_one (ps_ret pe_non)) pss_nil)
      (pss_cons (ps_if (PW.pt (pw_or (pt_not (pt_val (pe_callB (call_isiK (K := K) rfl) rfl T.b_isinstance (by decide +kernel) (pa_cons (pe_ix (ix_tupK (K := K) rfl) (pv 2) pe_int (fun _ _ => rfl)) (pa_cons (pe_bltn (v := .ty "int") rfl T.b_int (by decide +kernel) rfl) pa_nil))))) (pw_or (pt_val (pe_callB (call_isiK (K := K) rfl) rfl T.b_isinstance (by decide +kernel) (pa_cons (pe_ix (ix_tupK (K := K) rfl) (pv 2) pe_int (fun _ _ => rfl)) (pa_cons (pe_bltn (v := .ty "bool") rfl T.b_bool (by decide +kernel) rfl) pa_nil)))) (pw_or1 (pt_not (pt_chain op_le op_lt pe_int (pe_ix (ix_tupK (K := K) rfl) (pv 2) pe_int (fun _ _ => rfl)) (pe_callB (call_lenK (K := K) rfl) rfl T.b_len (by decide +kernel) (pa_cons (pv 0) pa_nil)))))))) (pss_one (ps_ret pe_non)) pss_nil)
      (pss_one (ps_set (i := 0) sc__law_end.nd rfl (Or.inl rfl) (pe_callF T.f__law_moved (hr.mono (by first | decide | omega)) rfl (@pa_cons _ _ _ _ _ (pv 0) (@pa_cons _ _ _ _ _ (pe_ix (ix_tupK (K := K) rfl) (pv 2) pe_int (fun _ _ => rfl)) (@pa_cons _ _ _ _ _ (pe_ix (ix_tupK (K := K) rfl) (pv 2) pe_int (fun _ _ => rfl)) pa_nil st_sub) st_sub) st_name)))))))
      (pss_one (ps_ret (pv 0))))), ?_⟩
    have wl := hw.length
    have tl : TyOf K H (.ref m) (.type "list") := TyOf.lst hm
    refine ⟨_, rfl, _, _, "list", _, rfl, tl, kit_self _ _, true, rfl, ?_⟩
    refine iteF ⟨_, rfl, m, _, rfl, .inl (SqL.of hm), _, _, rfl, rfl, _, rfl, iteE (decide_eq_false (by omega)) ?_⟩
    refine ⟨_, rfl, m, rfl, ⟨_, SqL.of hm⟩, for_list (K := K) (a := m) (xs := ws) (fun i σ H' => ∃ lr er rr v2, σ = [some (.ref lr), some (.ref m), v2] ∧ Same H H' ∧ H' lr = some (.lst er) ∧ Exs H' er rr ∧ walkM row (ms.take i) = some rr) ⟨l, es, row, _, rfl, Same.refl _, hl, hx, rfl⟩ (fun i σ H' _ q => by obtain ⟨_, _, _, _, _, q, _⟩ := q; exact SqL.of (q _ _ hm)) ?_ ?_⟩
    · rintro i x σ H' hi ⟨lr, er, rr, v2, rfl, s2, hlr, xr, w2⟩
      obtain ⟨t, kk, way, rfl, ht, hmi⟩ := hw.get hi
      obtain ⟨r3, w3⟩ := walk_pre wk (i + 1)
      have st := walk_take hmi w2
      rw [w3] at st
      obtain ⟨fw, rfl, k1, k2, rfl⟩ := step_inv st.symm
      have rrl := walk_len w2
      have ht2 := s2 _ _ ht
      have rg := walk_good hg w2
      have tt : TyOf K H' (.ref t) (.type "tuple") := TyOf.tup ht2
      refine ⟨_, rfl, _, _, "tuple", _, rfl, tt, kit_self _ _, true, rfl, iteF ?_⟩
      refine ⟨_, rfl, t, _, rfl, .inr (SqT.of ht2), rfl, _, rfl, iteE (by rfl) ?_⟩
      refine ⟨_, rfl, t, _, 1, .str (wayS fw), rfl, rfl, SqT.of ht2, rfl, (by show 2 ≤ sizeLine; decide), fun tq ftq => ⟨tq, _, rfl, .inr (SqT.of upd_same), rfl, rfl, _, rfl, iteE (by cases fw <;> decide +kernel) ?_⟩⟩
      have s3 : Same H' (upd H' tq (.tup [.str (Str.ofString "forth"), .str (Str.ofString "back")])) := Same.new ftq
      generalize upd H' tq (.tup [.str (Str.ofString "forth"), .str (Str.ofString "back")]) = H3 at s3 ⊢
      have ht3 := s3 _ _ ht2
      refine ⟨_, rfl, t, _, 0, .int kk, rfl, rfl, SqT.of ht3, rfl, _, "int", "int", _, rfl, TyOf.int kk, kit_self _ _, true, rfl, iteF ?_⟩
      refine ⟨_, rfl, t, _, 0, .int kk, rfl, rfl, SqT.of ht3, rfl, _, "int", "bool", _, rfl, TyOf.int kk, T.k_ib, false, rfl, iteF ?_⟩
      refine ⟨_, rfl, t, _, 0, .int kk, rfl, rfl, SqT.of ht3, rfl, _, _, rfl, rfl, _, rfl, iteP (decide_eq_true k1) ?_⟩
      have erl := xr.length
      refine ⟨_, rfl, lr, _, rfl, .inl (SqL.of (s3 _ _ hlr)), _, _, rfl, rfl, _, rfl, iteE (by rw [decide_eq_true (by omega)]; rfl) ?_⟩
      refine ⟨_, rfl, _, rfl, t, _, 0, .int kk, rfl, rfl, SqT.of ht3, rfl, _, rfl, t, _, 1, .str (wayS fw), rfl, rfl, SqT.of ht3, rfl, lr, er, rr, kk, n, fw, rfl, s3 _ _ hlr, xr.keep (Same.tups s3), rg, by omega, k1, k2, fun l4 e4 H4 f4 h4 x4 s4 => ?_⟩
      exact ⟨l4, e4, _, _, rfl, s2.trans (s3.trans s4), h4, x4, w3⟩
    · rintro σ H' ⟨lr, er, rr, v2, rfl, s2, hlr, xr, w2⟩
      rw [List.take_of_length_le (by omega), wk] at w2
      cases w2
      exact ⟨_, rfl, k lr er H' hlr xr s2⟩
end
end Sw
namespace L2
open PySem
theorem compVT {K : PySem.W.Frag} {ix : List (Option Nat)} {g : TG} {te : TE} {σ : St} {Q : VK} {H : Hp} {a : Addr} {xs : List V} (Pv : Nat → List V → St → Hp → Prop) (hn : xs.length ≤ 1000000) (h0 : Pv 0 [] (startC ix σ) H)
    (hl : ∀ i ys σ H, i ≤ xs.length → Pv i ys σ H → SqL K H a xs) (hlen : ∀ i ys σ H, Pv i ys σ H → ys.length ≤ i)
    (hs : ∀ i ys σ H x (R : St → List V → Hp → Prop), xs.reverse[i]? = some x → Pv i ys σ H → (∀ σ2 ys2 H5, Pv (i + 1) ys2 σ2 H5 → R σ2 ys2 H5) → g x σ H fun σ2 H3 => te σ2 H3 fun v H5 => R σ2 (ys ++ [v]) H5)
    (hd : ∀ ys σ' H' p, Pv xs.length ys σ' H' → H' p = none → Q (.ref p) (upd H' p (.lst ys))) : rComp ix g tTrue te σ Q (Itv K a xs) H := by
  refine comp_by Pv hn h0 (fun i ys σ H hi p => ⟨hi, hl i ys σ H (Nat.le_of_lt hi) p⟩) (fun ys σ H p => ⟨rfl, hl _ ys σ H (Nat.le_refl _) p⟩) hlen (fun i ys σ H x H2 R hi p y r => ?_) hd
  obtain ⟨rfl, y⟩ := y
  exact hs i ys σ _ x R y p r
end L2
namespace Sw
open PySem L2
def undS (x : Str) : Str := if x = wayS true then wayS false else wayS true
theorem undS_way (f : Bool) : undS (wayS f) = wayS (!f) := by
  unfold undS
  cases f
  · rw [if_neg fun z => by cases wayS_inj z]; rfl
  · rw [if_pos rfl]; rfl
def undM (ms : List (Int × Str)) : List (Int × Str) := ms.reverse.map fun m => (m.1, undS m.2)
theorem walk_und {n : Int} : ∀ {ms : List (Int × Str)} {row r : List (Int × Int)}, Good n row → walkM row ms = some r → walkM r (undM ms) = some row
  | [], row, r, _, h => by cases h; rfl
  | m :: ms, row, r, g, h => by
    obtain ⟨r1, h1, h2⟩ := Option.bind_eq_some_iff.mp (show (stepM row m).bind (fun r => walkM r ms) = some r from h)
    obtain ⟨f, e1, e2, e3, rfl⟩ := step_inv (k := m.1) (x := m.2) h1
    have lt : (m.1 - 1).toNat + 1 < row.length := by omega
    have ih := walk_und (mv_good g lt f) h2
    have eu : undM (m :: ms) = undM ms ++ [(m.1, undS m.2)] := by unfold undM; rw [List.reverse_cons, List.map_append]; rfl
    rw [eu, walk_snoc ih, e1, undS_way, step_some e2 (by rw [mv_len lt]; exact e3), mv_back g lt]
def LeastP (n : Int) (row : List (Int × Int)) : Prop := row.length + cnt n (ledM n row) = n.toNat
def spBw (CN CU : Addr) : Sp := fun vs H Q E => ∃ (n : Int) (l m : Addr) (es fs : List V) (row q : List (Int × Int)), vs = [.int n, .ref l, .ref m] ∧ 0 ≤ n ∧ n ≤ 8 ∧ H l = some (.lst es) ∧ Exs H es row ∧ Good n row ∧ row.length ≤ 1000 ∧ H m = some (.lst fs) ∧ Exs H fs q ∧ Good n q ∧ q.length ≤ 1000 ∧
  (LeastP n row → LeastP n q → ledM n row = ledM n q → ∀ (ms : List (Int × Str)) (l' : Addr) (ws : List V) (H' : Hp), H l' = none → H' l' = some (.lst ws) → Mvs H' ws ms → ms.length ≤ 600 → walkM row ms = some q → Same H H' → Q (.ref l') H') ∧
  (¬ (LeastP n row ∧ LeastP n q) → ∀ H', Same H H' → E (.ref CN) none H') ∧
  (LeastP n row → LeastP n q → ledM n row ≠ ledM n q → ∀ H', Same H H' → E (.ref CU) none H')
structure TBw (P : Program) (w : World) (K : PySem.W.Frag) (mg : Str → Option Value) (base : Heap) (U CN CU : Addr) : Prop extends T1 mg K where
  b_reversed : mg "reversed" = none
  f_led : FnAt P w K mg base "led" 3 ["n", "row"] spLed
  f_to_star : FnAtX P w K mg base "to_star" 5 ["n", "row"] (spTs CN)
  g_UNDOING : mg "UNDOING" = some (.ref U)
  r_UNDOING : RelV (.ref U) (.ref U)
  k_UNDOING : KTxt K w.params U undoing
  c_Unlike : mg "Unlike" = some (.ref CU)
  x_Unlike : ExcC K CU
section
variable {P : Program} {w : World} {K : PySem.W.Frag} {mg : Str → Option Value} {base : Heap} {U CN CU : Addr}
theorem sc_between : FnScope ["n", "one", "other", "there", "behind"] ["n", "one", "other"] (defScope (top 35)) := ⟨rfl, rfl, rfl, by decide +kernel, rfl, by decide +kernel, by decide +kernel⟩
theorem ok_bw {f : Addr} {fd : FuncData} (F : Fun K "between" "between" (top 35) f fd) (T : TBw P w K mg base U CN CU) : FnOk P w K mg base (CX1 P w) 6 f fd ["n", "one", "other"] (spBw CN CU) := by
  refine F.okX sc_between (fun vs H Q E h => ?_) (fun cdv A outer s H vs Q E hr h => ?_)
  · obtain ⟨n, l, m, es, fs, row, q, rfl, _⟩ := h
    rfl
  · obtain ⟨n, l, m, es, fs, row, q, rfl, n0, n8, hl, hx, hg, rl, hm, hy, gq, ql, kQ, kN, kU⟩ := h
    refine ⟨_, (pss_cons (ps_set (i := 3) sc_between.nd rfl (Or.inl rfl) (pe_callX1 T.f_to_star pass1 (hr.mono (by decide)) rfl (pa_cons (pv 0) (pa_cons (pv 1) pa_nil))))
      (pss_cons (ps_set (i := 4) sc_between.nd rfl (Or.inl rfl) (pe_callX1 T.f_to_star pass1 (hr.mono (by decide)) rfl (pa_cons (pv 0) (pa_cons (pv 2) pa_nil))))
      (pss_cons (ps_if (pt_cmpR (op_neD hr.units) (pe_callF T.f_led (hr.mono (by first | decide | omega)) rfl (pa_cons (pv 0) (pa_cons (pv 1) pa_nil))) (pe_callF T.f_led (hr.mono (by first | decide | omega)) rfl (pa_cons (pv 0) (pa_cons (pv 2) pa_nil))) (nomark _)) (pss_one (ps_raise lvs1 T.x_Unlike rfl rfl T.c_Unlike (pa_cons pe_str pa_nil))) pss_nil)
      (pss_one (ps_ret (pe_op op_cat (pv 3) (pe_comp (N := (["k", "way"] : List Str)) (ix := ([none, none] : List (Option Nat))) (comp_ok rfl rfl) rfl (pi_rev (K := K) rfl rfl T.b_reversed (pa_cons (pv 4) pa_nil)) (fun _ _ _ _ => (pg_tupK (K := K) (n := 2) rfl rfl (pgs_cons (pg_name (i := 0) (show List.Nodup (["k", "way"] : List Str) from by decide +kernel) rfl (Or.inl rfl)) (pgs_cons (pg_name (i := 1) (show List.Nodup (["k", "way"] : List Str) from by decide +kernel) rfl (Or.inl rfl)) pgs_nil)))) (fun _ _ _ _ => pif_nil) (fun _ _ _ _ => (pe_tup (pa_cons (pv 0) (pa_cons (pe_kget T.k_UNDOING (pe_glob rfl T.g_UNDOING T.r_UNDOING) (pv 1) (fun _ _ => rfl)) pa_nil))))))))))), ?_⟩
    have big : (10000000 : Nat) ≤ sizeLine := by decide
    refine ⟨_, rfl, _, rfl, n, l, es, row, rfl, n0, n8, hl, hx, hg, rl, fun l1 ms1 a1 ws1 H1 fa1 ha1 mv1 ml1 wk1 s1 => ?_, fun nl H1 s1 => kN (fun z => nl z.1) H1 s1⟩
    refine ⟨_, rfl, _, rfl, n, m, fs, q, rfl, n0, n8, s1 _ _ hm, hy.keep (Same.tups s1), gq, ql, fun l2 ms2 a2 ws2 H2 fa2 ha2 mv2 ml2 wk2 s2 => ?_, fun nl H2 s2 => kN (fun z => nl z.2) H2 (s1.trans s2)⟩
    have b2 := s1.trans s2
    refine ⟨_, rfl, _, rfl, n, l, es, row, rfl, n0, by omega, b2 _ _ hl, hx.keep (Same.tups b2), hg, fun t1 H3 ft1 ht1 s3 => ?_⟩
    have b3 := b2.trans s3
    refine ⟨_, rfl, _, rfl, n, m, fs, q, rfl, n0, by omega, b3 _ _ hm, hy.keep (Same.tups b3), gq, fun t2 H4 ft2 ht2 s4 => ?_⟩
    have b4 := b3.trans s4
    refine eqT (s4 _ _ ht1) ht2 ⟨_, rfl, ?_⟩
    by_cases eqo : ledM n row = ledM n q
    · refine iteE (by rw [decide_eq_true eqo]; rfl) ?_
      have h24 := s4 _ _ (s3 _ _ ha2)
      have mv24 := (mv2.keep (Same.tups s3)).keep (Same.tups s4)
      have wl2 := mv2.length
      refine ⟨_, rfl, _, rfl, a2, ws2, rfl, SqL.of h24, compVT (K := K) (a := a2) (xs := ws2) (fun i ys σ' H' => (∃ v0 v1, σ' = [v0, v1]) ∧ Same H4 H' ∧ Mvs H' ys ((ms2.reverse.take i).map fun m => (m.1, undS m.2))) (by omega) ⟨⟨_, _, rfl⟩, Same.refl _, .nil⟩ (fun i ys σ' H' _ z => SqL.of (z.2.1 _ _ h24)) (fun i ys σ' H' z => by have := z.2.2.length; rw [List.length_map, List.length_take] at this; omega) ?_ ?_⟩
      · rintro i ys σ' H5 x R hi ⟨⟨v0, v1, rfl⟩, s5, mv5⟩ done
        have il : i < ws2.length := by have := (List.getElem?_eq_some_iff.mp hi).1; rwa [List.length_reverse] at this
        rw [List.getElem?_reverse il] at hi
        obtain ⟨t, k, wy, rfl, ht, hmi⟩ := (mv24.keep (Same.tups s5)).get hi
        obtain ⟨rr, w1⟩ := walk_pre wk2 (ws2.length - 1 - i)
        obtain ⟨r3, w3⟩ := walk_pre wk2 (ws2.length - 1 - i + 1)
        have st := walk_take hmi w1
        rw [w3] at st
        obtain ⟨fw, rfl, _⟩ := step_inv st.symm
        have hrev : ms2.reverse[i]? = some (k, wayS fw) := by rw [List.getElem?_reverse (by omega), ← wl2]; exact hmi
        refine ⟨t, _, rfl, SqT.of ht, rfl, _, _, rfl, _, _, rfl, rfl, ⟨_, rfl, _, rfl, wayS fw, wayS (!fw), rfl, rfl, by cases fw <;> rfl, (by show 2 ≤ sizeLine; omega), fun p fp => done _ _ _ ⟨⟨_, _, rfl⟩, s5.trans (Same.new fp), ?_⟩⟩⟩
        rw [List.take_succ, hrev, List.map_append, show (some (k, wayS fw)).toList.map (fun m : Int × Str => (m.1, undS m.2)) = [(k, wayS (!fw))] by rw [← undS_way]; rfl]
        exact (mv5.keep (Same.tups (Same.new fp))).append (.cons upd_same .nil)
      · rintro ys σ' H5 p ⟨_, s5, mv5⟩ fp
        rw [List.take_of_length_le (by rw [List.length_reverse]; omega)] at mv5
        have mv5 : Mvs H5 ys (undM ms2) := mv5
        have yl := mv5.length
        have ul : (undM ms2).length = ms2.length := by unfold undM; rw [List.length_map, List.length_reverse]
        have wl1 := mv1.length
        have s6 : Same H5 (upd H5 p (.lst ys)) := Same.new fp
        have h6 : upd H5 p (.lst ys) p = some (.lst ys) := upd_same
        generalize upd H5 p (.lst ys) = H6 at s6 h6 ⊢
        have b6 : Same H1 H6 := s2.trans (s3.trans (s4.trans (s5.trans s6)))
        refine ⟨a1, p, ws1, ys, rfl, rfl, b6 _ _ ha1, h6, by omega, fun g fg => ?_⟩
        refine kQ l1 l2 eqo (ms1 ++ undM ms2) g (ws1 ++ ys) _ ((s1.trans b6).free fg) upd_same (((mv1.keep (Same.tups b6)).append (mv5.keep (Same.tups s6))).keep (Same.tups (Same.new fg))) (by rw [List.length_append]; omega) ?_ ((s1.trans b6).trans (Same.new fg))
        rw [walk_append, wk1, eqo]
        exact walk_und gq wk2
    · refine iteP (by rw [decide_eq_false eqo]; rfl) ?_
      exact ⟨(by show 1 ≤ sizeLine; decide), kU l1 l2 eqo _ b4⟩
end
end Sw
namespace Sw
open PySem L2
def IsOrd (d : PyData) : Prop := ∃ ns : List Int, d = .tuple (ns.map PyData.int) ∧ 1 ≤ ns.length ∧ ns.length ≤ 12 ∧ ns.Perm (ivl 1 ((ns.length : Int) + 1))
def spIsOrd : Sp := fun vs H Q _ => ∃ (v : V) (P : Addr → Prop) (d : PyData), vs = [v] ∧ DT H P v d ∧ (∀ ds, d = .tuple ds → ds.length ≤ 1000) ∧ ∀ b H', (b = true ↔ IsOrd d) → Same H H' → Q (.bl b) H'
structure TIo (P : Program) (w : World) (K : PySem.W.Frag) (mg : Str → Option Value) (base : Heap) (u : Value) : Prop extends T1 mg K where
  b_sorted : mg "sorted" = none
  g_MOST_THINGS : mg "MOST_THINGS" = some u
  r_MOST_THINGS : RelV (.int 12) u
  f_is_whole : FnAt P w K mg base "is_whole" 1 ["thing"] spIwD
end Sw
namespace Sw
open PySem L2
section
variable {P : Program} {w : World} {K : PySem.W.Frag} {mg : Str → Option Value} {base : Heap}
theorem sc_is_whole : FnScope ["thing"] ["thing"] (defScope (top 7)) := ⟨rfl, rfl, rfl, by decide +kernel, rfl, by decide +kernel, by decide +kernel⟩
theorem ok_iwD {f : Addr} {fd : FuncData} (F : Fun K "is_whole" "is_whole" (top 7) f fd) (T : T1 mg K) : FnOk P w K mg base CX0 1 f fd ["thing"] spIwD := by
  refine F.ok sc_is_whole (fun vs H Q E h => ?_) (fun cdv A outer s H vs Q E hr h => ?_)
  · obtain ⟨v, P, d, rfl, _⟩ := h
    rfl
  · obtain ⟨v, P, d, rfl, hd, k⟩ := h
    refine ⟨_, (pss_one (ps_ret (pe_and (pe_callB (call_isiK (K := K) rfl) rfl T.b_isinstance (by decide +kernel) (pa_cons (pv 0) (pa_cons (pe_bltn (v := .ty "int") rfl T.b_int (by decide +kernel) rfl) pa_nil))) (pe_one (pe_not (pe_callB (call_isiK (K := K) rfl) rfl T.b_isinstance (by decide +kernel) (pa_cons (pv 0) (pa_cons (pe_bltn (v := .ty "bool") rfl T.b_bool (by decide +kernel) rfl) pa_nil)))))))), ?_⟩
    refine ⟨_, rfl, _, _, "int", _, rfl, hd.ty, kit_int K hd, _, rfl, ite2 (fun c => ?_) (fun c => ?_)⟩
    · refine ⟨_, rfl, _, _, "bool", _, rfl, hd.ty, kit_bool K hd, _, rfl, ?_⟩
      cases hd <;> first | exact k | exact absurd c Bool.false_ne_true
    · cases hd <;> first | exact k | exact absurd rfl c
theorem sc_is_between : FnScope ["thing", "low", "high"] ["thing", "low", "high"] (defScope (top 8)) := ⟨rfl, rfl, rfl, by decide +kernel, rfl, by decide +kernel, by decide +kernel⟩
theorem ok_btD {f : Addr} {fd : FuncData} (F : Fun K "is_between" "is_between" (top 8) f fd) (T : TD P w K mg base) : FnOk P w K mg base CX0 2 f fd ["thing", "low", "high"] spBtD := by
  refine F.ok sc_is_between (fun vs H Q E h => ?_) (fun cdv A outer s H vs Q E hr h => ?_)
  · obtain ⟨v, P, d, lo, hi, rfl, _⟩ := h
    rfl
  · obtain ⟨v, P, d, lo, hi, rfl, hd, k⟩ := h
    refine ⟨_, (pss_one (ps_ret (pe_and (pe_callF T.f_is_whole (hr.mono (by first | decide | omega)) rfl (pa_cons (pv 0) pa_nil)) (pe_one (pe_chain op_le op_le (pv 1) (pv 0) (pv 2)))))), ?_⟩
    refine ⟨_, rfl, v, P, d, rfl, hd, _, rfl, ?_⟩
    cases hd with
    | int x =>
      refine iteT ?_
      refine ⟨_, rfl, _, rfl, _, _, rfl, rfl, _, rfl, ite2 (fun c => ?_) (fun c => ?_)⟩
      · have c : lo ≤ x := of_decide_eq_true c
        have e : btw lo hi (.int x) = decide (x ≤ hi) := by show decide (lo ≤ x ∧ x ≤ hi) = _; rw [Bool.eq_iff_iff]; simp [c]
        rw [e] at k
        exact ⟨_, rfl, _, _, rfl, rfl, k⟩
      · have c : ¬ lo ≤ x := of_decide_eq_false (by simpa using c)
        have e : btw lo hi (.int x) = false := by show decide (lo ≤ x ∧ x ≤ hi) = _; simp [c]
        rw [e] at k
        exact k
    | _ => exact iteF k
theorem sc_is_exchange : FnScope ["n", "thing"] ["n", "thing"] (defScope (top 21)) := ⟨rfl, rfl, rfl, by decide +kernel, rfl, by decide +kernel, by decide +kernel⟩
theorem ok_isex {f : Addr} {fd : FuncData} (F : Fun K "is_exchange" "is_exchange" (top 21) f fd) (T : TD2 P w K mg base) : FnOk P w K mg base CX0 4 f fd ["n", "thing"] spIsEx := by
  refine F.ok sc_is_exchange (fun vs H Q E h => ?_) (fun cdv A outer s H vs Q E hr h => ?_)
  · obtain ⟨v, P, d, n, rfl, _⟩ := h
    rfl
  · obtain ⟨v, P, d, n, rfl, hd, k⟩ := h
    refine ⟨_, (pss_cons (ps_if (PW.pt (pw_or (pt_not (pt_val (pe_callB (call_isiK (K := K) rfl) rfl T.b_isinstance (by decide +kernel) (pa_cons (pv 1) (pa_cons (pe_bltn (v := .ty "tuple") rfl T.b_tuple (by decide +kernel) rfl) pa_nil))))) (pw_or1 (pt_cmpR op_ne (pe_callB (call_lenK (K := K) rfl) rfl T.b_len (by decide +kernel) (pa_cons (pv 1) pa_nil)) pe_int (nomark _))))) (pss_one (ps_ret pe_bl)) pss_nil)
      (pss_one (ps_ret (pe_and (pe_callB (call_allK (K := K) rfl rfl) rfl T.b_all (by decide +kernel) (pa_cons (pe_comp (N := (["number", "n"] : List Str)) (ix := ([none, some 0] : List (Option Nat))) (comp_ok rfl rfl) rfl (pi_tupK (K := K) rfl (pv 1)) (fun _ _ _ _ => (pg_name (i := 0) (show List.Nodup (["number", "n"] : List Str) from by decide +kernel) rfl (Or.inl rfl))) (fun _ _ _ _ => pif_nil) (fun _ _ _ _ => (pe_callF T.f_is_between (hr.mono (by first | decide | omega)) rfl (@pa_cons _ _ _ _ _ (pv 0) (@pa_cons _ _ _ _ _ pe_int (@pa_cons _ _ _ _ _ (pv 1) pa_nil st_name) st_con) st_name)))) pa_nil)) (pe_one (pe_cmpR op_lt (pe_ix (ix_tupK (K := K) rfl) (pv 1) pe_int (fun _ _ => rfl)) (pe_ix (ix_tupK (K := K) rfl) (pv 1) pe_int (fun _ _ => rfl)) (nomark _))))))), ?_⟩
    refine ⟨_, rfl, _, _, "tuple", _, rfl, hd.ty, kit_tuple K hd, _, rfl, ?_⟩
    cases hd with
    | @tup a us ds ha pa rs =>
      refine iteF ?_
      have ul := rs.length
      refine ⟨_, rfl, a, _, rfl, .inr (SqT.of ha), rfl, _, rfl, ite2 (fun c => ?_) (fun c => ?_)⟩
      · have c : ds.length ≠ 2 := by
          intro z
          rw [ul, z] at c
          exact absurd c (by decide)
        have e : isex n (.tuple ds) = false := by
          match ds, c with
          | [], _ => rfl
          | [_], _ => rfl
          | [_, _], c => exact absurd rfl c
          | _ :: _ :: _ :: _, _ => rfl
        rw [e] at k
        exact k H (Same.refl H)
      · have c : ds.length = 2 := by
          apply Classical.byContradiction
          intro z
          have : decide (V.int (us.length : Int) = V.int 2) = false := decide_eq_false (by intro q; have := V.int.inj q; omega)
          rw [this] at c
          exact absurd rfl c
        match ds, us, rs, c with
        | [x, y], [vx, vy], .cons hx (.cons hy .nil), _ =>
          refine ⟨_, rfl, a, rfl, ⟨_, SqT.of ha⟩, compT (K := K) (a := a) (xs := [vx, vy]) (k := 0) (fun i ys σ' H' => ys = (([x, y].take i).map (btw 1 n)).map V.bl ∧ (∃ v, σ' = [v, some (.int n)]) ∧ H' = H) (by show 2 ≤ 1000000; decide) ⟨rfl, ⟨none, rfl⟩, rfl⟩ (fun i ys σ' H' _ q => by rw [q.2.2]; exact SqT.of ha) (fun i ys σ' H' q => by rw [q.1, List.length_map, List.length_map, List.length_take]; omega) ?_ ?_⟩
          · rintro i ys σ' H' z R hz ⟨rfl, ⟨v, rfl⟩, rfl⟩ done
            obtain ⟨d, hd, hdz⟩ := (DTs.cons hx (DTs.cons hy DTs.nil)).get hz
            refine ⟨_, rfl, _, rfl, z, P, d, 1, n, rfl, hdz, done _ _ _ ⟨?_, ⟨_, rfl⟩, rfl⟩⟩
            rw [all_take hd, List.map_append]
            rfl
          · rintro ys σ' H' q ⟨rfl, ⟨v, rfl⟩, rfl⟩ fq
            have s1 : Same H' (upd H' q (.lst (([x, y].map (btw 1 n)).map V.bl))) := Same.new fq
            refine ⟨q, [x, y].map (btw 1 n), rfl, SqL.of upd_same, _, rfl, ite2 (fun c2 => ?_) (fun c2 => ?_)⟩
            · have c2 : btw 1 n x = true ∧ btw 1 n y = true := by simpa using c2
              refine ⟨_, rfl, a, _, _, _, rfl, rfl, SqT.of (s1 _ _ ha), rfl, _, rfl, a, _, _, _, rfl, rfl, SqT.of (s1 _ _ ha), rfl, ?_⟩
              cases hx with
              | int i =>
                cases hy with
                | int j =>
                  have e : isex n (.tuple [.int i, .int j]) = decide (i < j) := by show ((btw 1 n (.int i) && btw 1 n (.int j)) && decide (i < j)) = _; rw [c2.1, c2.2]; rfl
                  rw [e] at k
                  exact ⟨_, _, rfl, rfl, k _ s1⟩
                | _ => exact absurd c2.2 Bool.false_ne_true
              | _ => exact absurd c2.1 Bool.false_ne_true
            · have e : isex n (.tuple [x, y]) = false := by
                show ((btw 1 n x && btw 1 n y) && lt2 x y) = false
                have : (btw 1 n x && btw 1 n y) = false := by simpa using c2
                rw [this]; rfl
              rw [e] at k
              exact k _ s1
    | _ => exact iteT (k H (Same.refl H))
theorem sc_is_row : FnScope ["n", "thing"] ["n", "thing"] (defScope (top 22)) := ⟨rfl, rfl, rfl, by decide +kernel, rfl, by decide +kernel, by decide +kernel⟩
theorem ok_isrow {u : Value} {f : Addr} {fd : FuncData} (F : Fun K "is_row" "is_row" (top 22) f fd) (T : TD3 P w K mg base u) : FnOk P w K mg base CX0 6 f fd ["n", "thing"] spIsRow := by
  refine F.ok sc_is_row (fun vs H Q E h => ?_) (fun cdv A outer s H vs Q E hr h => ?_)
  · obtain ⟨v, P, d, n, rfl, _⟩ := h
    rfl
  · obtain ⟨v, P, d, n, rfl, hd, hlen, k⟩ := h
    refine ⟨_, (pss_cons (ps_if (PW.pt (pw_or (pt_not (pt_val (pe_callB (call_isiK (K := K) rfl) rfl T.b_isinstance (by decide +kernel) (pa_cons (pv 1) (pa_cons (pe_bltn (v := .ty "list") rfl T.b_list (by decide +kernel) rfl) pa_nil))))) (pw_or1 (pt_cmpR op_gt (pe_callB (call_lenK (K := K) rfl) rfl T.b_len (by decide +kernel) (pa_cons (pv 1) pa_nil)) (pe_glob rfl T.g_MOST_EXCHANGES T.r_MOST_EXCHANGES) (nomark _))))) (pss_one (ps_ret pe_bl)) pss_nil)
      (pss_one (ps_ret (pe_callB (call_allK (K := K) rfl rfl) rfl T.b_all (by decide +kernel) (pa_cons (pe_comp (N := (["exchange", "n"] : List Str)) (ix := ([none, some 0] : List (Option Nat))) (comp_ok rfl rfl) rfl (pi_listK (K := K) rfl (pv 1)) (fun _ _ _ _ => (pg_name (i := 0) (show List.Nodup (["exchange", "n"] : List Str) from by decide +kernel) rfl (Or.inl rfl))) (fun _ _ _ _ => pif_nil) (fun _ _ _ _ => (pe_callF T.f_is_exchange (hr.mono (by first | decide | omega)) rfl (pa_cons (pv 1) (pa_cons (pv 0) pa_nil))))) pa_nil))))), ?_⟩
    refine ⟨_, rfl, _, _, "list", _, rfl, hd.ty, kit_list K hd, _, rfl, ?_⟩
    cases hd with
    | @lst a us ds ha pa rs =>
      refine iteF ?_
      have ul := rs.length
      have dl := hlen ds rfl
      refine ⟨_, rfl, a, _, rfl, .inl (SqL.of ha), _, _, rfl, rfl, _, rfl, ite2 (fun c => ?_) (fun c => ?_)⟩
      · have c : 60 < us.length := by have := of_decide_eq_true c; omega
        have e : isrow n (.list ds) = false := by
          show (decide (ds.length ≤ 60) && _) = false
          rw [decide_eq_false (by omega)]; rfl
        rw [e] at k
        exact k H (Same.refl H)
      · have c : us.length ≤ 60 := by
          apply Classical.byContradiction
          intro z
          have : decide ((60 : Int) < (us.length : Int)) = true := decide_eq_true (by omega)
          exact c this
        refine ⟨_, rfl, a, rfl, ⟨_, SqL.of ha⟩, compL (K := K) (a := a) (xs := us) (k := 0) (fun i ys σ' H' => ys = ((ds.take i).map (isex n)).map V.bl ∧ (∃ v, σ' = [v, some (.int n)]) ∧ Same H H') (by omega) ⟨rfl, ⟨none, rfl⟩, Same.refl _⟩ (fun i ys σ' H' _ q => SqL.of (q.2.2 _ _ ha)) (fun i ys σ' H' q => by rw [q.1, List.length_map, List.length_map, List.length_take]; omega) ?_ ?_⟩
        · rintro i ys σ' H' z R hz ⟨rfl, ⟨v, rfl⟩, s1⟩ done
          obtain ⟨d, hd, hdz⟩ := rs.get hz
          refine ⟨_, rfl, _, rfl, z, P, d, n, rfl, DT.same hdz s1, fun H2 s2 => done _ _ _ ⟨?_, ⟨_, rfl⟩, s1.trans s2⟩⟩
          rw [all_take hd, List.map_append]
          rfl
        · rintro ys σ' H' q ⟨rfl, ⟨v, rfl⟩, s1⟩ fq
          rw [List.take_of_length_le (by omega)]
          refine ⟨q, ds.map (isex n), rfl, SqL.of upd_same, ?_⟩
          have e : isrow n (.list ds) = (ds.map (isex n)).all id := by
            show (decide (ds.length ≤ 60) && ds.all (isex n)) = _
            rw [decide_eq_true (by omega), List.all_map]; rfl
          rw [e] at k
          exact k _ (s1.trans (Same.new fq))
    | _ => exact iteT (k H (Same.refl H))
end
end Sw
namespace Sw
open PySem L2
structure T2 (P : Program) (w : World) (K : PySem.W.Frag) (mg : Str → Option Value) (base : Heap) : Prop extends T1 mg K where
  f_plain : FnAt P w K mg base "plain" 1 ["n"] spPlain
  f_exchanged : FnAt P w K mg base "exchanged" 1 ["exchange", "thing"] spEx
section
variable {P : Program} {w : World} {K : PySem.W.Frag} {mg : Str → Option Value} {base : Heap}
theorem sc_led : FnScope ["n", "row", "leads", "exchange"] ["n", "row"] (defScope (top 24)) := ⟨rfl, rfl, rfl, by decide +kernel, rfl, by decide +kernel, by decide +kernel⟩
theorem ok_led {f : Addr} {fd : FuncData} (F : Fun K "led" "led" (top 24) f fd) (T : T2 P w K mg base) : FnOk P w K mg base CX0 3 f fd ["n", "row"] spLed := by
  refine F.ok sc_led (fun vs H Q E h => ?_) (fun cdv A outer s H vs Q E hr h => ?_)
  · obtain ⟨n, l, es, row, rfl, _⟩ := h
    rfl
  · obtain ⟨n, l0, es, row, rfl, hn0, hn1, hl0, hx, hg, k⟩ := h
    refine ⟨_, (pss_cons (ps_set (i := 2) sc_led.nd rfl (Or.inl rfl) (pe_callTy (call_list_ofK (K := K) rfl) rfl T.b_list (by decide +kernel) (pa_cons (pe_callF T.f_plain (hr.mono (by first | decide | omega)) rfl (pa_cons (pv 0) pa_nil)) pa_nil)))
      (pss_cons (ps_for PassesOwn.never rfl (pi_listK (K := K) rfl (pv 1)) (pg_name (i := 3) sc_led.nd rfl (Or.inr rfl)) (pss_one (ps_comp (i := 2) sc_led.nd rfl rfl (N := (["thing", "exchange"] : List Str)) (ix := ([none, some 3] : List (Option Nat))) (comp_ok rfl rfl) rfl (pi_listK (K := K) rfl (pv 2)) (fun _ _ _ _ => (pg_name (i := 0) (show List.Nodup (["thing", "exchange"] : List Str) from by decide +kernel) rfl (Or.inl rfl))) (fun _ _ _ _ => pif_nil) (fun _ _ _ _ => (pe_callF T.f_exchanged (hr.mono (by first | decide | omega)) rfl (pa_cons (pv 1) (pa_cons (pv 0) pa_nil)))))))
      (pss_one (ps_ret (pe_callTy (call_tuple_ofK (K := K) rfl) rfl T.b_tuple (by decide +kernel) (pa_cons (pv 2) pa_nil)))))), ?_⟩
    refine ⟨_, rfl, n, rfl, hn0, hn1, fun t H1 ht ht1 s1 => ⟨t, _, rfl, .inr (SqT.of ht1), fun l hl => ?_⟩⟩
    have s2 : Same H (upd H1 l (.lst ((ivl 1 (n + 1)).map V.int))) := s1.trans (Same.new hl)
    refine ⟨_, rfl, l0, rfl, ⟨_, SqL.of (s2 _ _ hl0)⟩, for_list (K := K) (a := l0) (xs := es) (fun i σ H' => ∃ (l : Addr) (v3 : Option V), σ = [some (.int n), some (.ref l0), some (.ref l), v3] ∧ Same H H' ∧ H' l = some (.lst (((ivl 1 (n + 1)).map (go (row.take i))).map V.int)))
      ⟨l, none, rfl, s2, by rw [upd_same, List.take_zero]; rw [show (ivl 1 (n + 1)).map (go []) = ivl 1 (n + 1) from ledM_nil n]⟩ (fun i σ H' _ ⟨_, _, _, s3, _⟩ => SqL.of (s3 _ _ hl0)) ?_ ?_⟩
    · rintro i y σ H' hi ⟨l, v3, rfl, s3, hl⟩
      obtain ⟨te, a, b, rfl, hte, hrow⟩ := hx.get hi
      have hte' := s3 _ _ hte
      refine ⟨_, rfl, l, rfl, ⟨_, SqL.of hl⟩, comp_list (K := K) (xs := ((ivl 1 (n + 1)).map (go (row.take i))).map V.int) (k := 0)
        (fun j ys σ' H'' => ys = ((((ivl 1 (n + 1)).map (go (row.take i))).take j).map fun x => V.int (swp x (a, b))) ∧ (∃ v, σ' = [v, some (.ref te)]) ∧ H'' = H') ?_ ⟨rfl, ⟨none, rfl⟩, rfl⟩
        (fun j ys σ' H'' _ p => by rw [p.2.2]; exact SqL.of hl) (fun j ys σ' H'' p => by rw [p.1, List.length_map, List.length_take]; omega) ?_ ?_ ?_⟩
      · rw [List.length_map, List.length_map, ivl_length]; omega
      · rintro j ys σ' H'' x hj ⟨rfl, ⟨v, rfl⟩, rfl⟩
        rw [List.getElem?_map] at hj
        cases hz : ((ivl 1 (n + 1)).map (go (row.take i)))[j]? with
        | none => rw [hz] at hj; cases hj
        | some z =>
          rw [hz] at hj
          cases hj
          refine ⟨_, rfl, _, rfl, te, a, b, z, rfl, hte', ?_, ⟨_, rfl⟩, rfl⟩
          exact (take_succ_map (fun x => V.int (swp x (a, b))) hz).symm
      · intro σ' H'' R R' m q
        obtain ⟨v, e1, v', e2, t, a, b, x, e3, e4, q⟩ := q
        exact ⟨v, e1, v', e2, t, a, b, x, e3, e4, m _ _ q⟩
      · rintro ys σ' H'' p ⟨rfl, _, rfl⟩ hp
        refine ⟨p, _, rfl, s3.trans (Same.new hp), ?_⟩
        rw [upd_same, List.take_of_length_le (by simp), List.map_map, List.map_map]
        congr 2
        apply List.map_congr_left
        intro x _
        show V.int (swp (go (row.take i) x) (a, b)) = V.int (go (row.take (i + 1)) x)
        rw [go_take hrow]
    · rintro σ H' ⟨l, v3, rfl, s3, hl⟩
      rw [hx.length, List.take_length] at hl
      refine ⟨_, rfl, l, _, rfl, .inl ⟨SqL.of hl, fun t ht => ?_⟩⟩
      exact k t _ (s3.free ht) upd_same (s3.trans (Same.new ht))
end
end Sw
namespace Sw
open PySem L2
def partsP : List (Str × Int) := [("row", 3), ("least", 3), ("walk", 5), ("half", 4), ("chain", 3), ("counts", 3)]
def isPaper : PyData → Bool
  | .tuple (.str x :: ds) => decide (numOf partsP x = some ((ds.length : Int) + 1))
  | _ => false
def spPaper (g : PyData → Bool) (R : PyData → Prop) : Sp := fun vs H Q _ => ∃ (v : V) (P : Addr → Prop) (x : Str) (ds : List PyData), vs = [.str x, v] ∧ DT H P v (.tuple (.str x :: ds)) ∧ isPaper (.tuple (.str x :: ds)) = true ∧ R (.tuple (.str x :: ds)) ∧ ∀ H', Same H H' → Q (.bl (g (.tuple (.str x :: ds)))) H'
def spHolds (g : PyData → Bool) (R : PyData → Prop) : Sp := fun vs H Q _ => ∃ (v : V) (P : Addr → Prop) (d : PyData), vs = [v] ∧ DT H P v d ∧ (isPaper d = true → R d) ∧ ∀ H', Same H H' → Q (.bl (isPaper d && g d)) H'
structure THd (P : Program) (w : World) (K : PySem.W.Frag) (mg : Str → Option Value) (base : Heap) (U : Addr) (g : PyData → Bool) (R : PyData → Prop) (n : Nat) : Prop extends T1 mg K where
  b_str : mg "str" = none
  g_PARTS : mg "PARTS_OF_PAPERS" = some (.ref U)
  r_PARTS : RelV (.ref U) (.ref U)
  k_PARTS : KNum K w.params U partsP
  f_paper_holds : FnAt P w K mg base "paper_holds" n ["word", "paper"] (spPaper g R)
section
variable {P : Program} {w : World} {K : PySem.W.Frag} {mg : Str → Option Value} {base : Heap}
def isS : PyData → Bool
  | .str _ => true
  | _ => false
theorem kit_strD (K : PySem.W.Frag) {H : Hp} {P : Addr → Prop} {v : V} {d : PyData} (h : DT H P v d) : PySem.W.kitOne K (.type (tyD d)) (.type "str") = some (isS d) := by
  cases h with
  | non => exact kit_type K (show kitB "NoneType" "str" = some false by decide +kernel)
  | bl b => exact kit_type K (show kitB "bool" "str" = some false by decide +kernel)
  | int i => exact kit_type K (show kitB "int" "str" = some false by decide +kernel)
  | str x => exact kit_type K (show kitB "str" "str" = some true by decide +kernel)
  | lst h p r => exact kit_type K (show kitB "list" "str" = some false by decide +kernel)
  | tup h p r => exact kit_type K (show kitB "tuple" "str" = some false by decide +kernel)
theorem ok_nev {x q : Str} {st : Stmt} {k : Nat} {ps : List Str} {sp : Sp} {f : Addr} {fd : FuncData} (F : Fun K x q st f fd) (no : ∀ vs H Q E, sp vs H Q E → False) : FnOk P w K mg base CX0 k f fd ps sp :=
  ⟨fun vs H Q E h => (no vs H Q E h).elim, fun _ _ _ H _ _ vs Q E _ _ _ _ h => (no vs H Q E h).elim⟩
theorem sc_holds : FnScope ["paper", "word"] ["paper"] (defScope (top 69)) := ⟨rfl, rfl, rfl, by decide +kernel, rfl, by decide +kernel, by decide +kernel⟩
theorem ok_holds {U : Addr} {g : PyData → Bool} {R : PyData → Prop} {n : Nat} {f : Addr} {fd : FuncData} (F : Fun K "holds" "holds" (top 69) f fd) (T : THd P w K mg base U g R n) : FnOk P w K mg base CX0 (n + 1) f fd ["paper"] (spHolds g R) := by
  refine F.ok sc_holds (fun vs H Q E h => ?_) (fun cdv A outer s H vs Q E hr h => ?_)
  · obtain ⟨v, P, d, rfl, _⟩ := h
    rfl
  · obtain ⟨v, P, d, rfl, hd, hR, k⟩ := h
    refine ⟨_, (pss_cons (ps_if (PW.pt (pw_or (pt_not (pt_val (pe_callB (call_isiK (K := K) rfl) rfl T.b_isinstance (by decide +kernel) (pa_cons (pv 0) (pa_cons (pe_bltn (v := .ty "tuple") rfl T.b_tuple (by decide +kernel) rfl) pa_nil))))) (pw_or (pt_cmpR op_eq (pe_callB (call_lenK (K := K) rfl) rfl T.b_len (by decide +kernel) (pa_cons (pv 0) pa_nil)) pe_int (nomark _)) (pw_or1 (pt_not (pt_val (pe_callB (call_isiK (K := K) rfl) rfl T.b_isinstance (by decide +kernel) (pa_cons (pe_ix (ix_tupK (K := K) rfl) (pv 0) pe_int (fun _ _ => rfl)) (pa_cons (pe_bltn (v := .ty "str") rfl T.b_str (by decide +kernel) rfl) pa_nil))))))))) (pss_one (ps_ret pe_bl)) pss_nil)
      (pss_cons (ps_set (i := 1) sc_holds.nd rfl (Or.inl rfl) (pe_ix (ix_tupK (K := K) rfl) (pv 0) pe_int (fun _ _ => rfl)))
      (pss_one (ps_ret (pe_and (pe_cmpR op_eq (pe_kget1 T.k_PARTS (Nat.lt_trans (Nat.add_lt_add_left (by decide) _) hr.units) (pe_glob rfl T.g_PARTS T.r_PARTS) (pv 1) ⟨rfl, rfl, rfl, rfl⟩) (pe_callB (call_lenK (K := K) rfl) rfl T.b_len (by decide +kernel) (pa_cons (pv 0) pa_nil)) (nomark _)) (pe_one (pe_callF T.f_paper_holds (hr.mono (by first | decide | omega)) rfl (pa_cons (pv 1) (pa_cons (pv 0) pa_nil))))))))), ?_⟩
    refine ⟨_, rfl, _, _, "tuple", _, rfl, hd.ty, kit_tuple K hd, _, rfl, ?_⟩
    cases hd with
    | @tup a us ds ha pa rs =>
      refine iteF ?_
      cases rs with
      | nil => exact ⟨_, rfl, a, _, rfl, .inr (SqT.of ha), rfl, _, rfl, iteT (k H (Same.refl H))⟩
      | @cons v0 d0 us ds h0 rs =>
        refine ⟨_, rfl, a, _, rfl, .inr (SqT.of ha), rfl, _, rfl, iteE (decide_eq_false fun z => by have := V.int.inj z; rw [List.length_cons] at this; omega) ?_⟩
        refine ⟨_, rfl, a, _, _, _, rfl, rfl, SqT.of ha, atI_nat (j := 0) rfl, _, _, "str", _, rfl, h0.ty, kit_strD K h0, _, rfl, ?_⟩
        cases h0 with
        | str x =>
          refine iteF ?_
          refine ⟨_, rfl, a, _, _, _, rfl, rfl, SqT.of ha, atI_nat (j := 0) rfl, ?_⟩
          refine ⟨rfl, _, rfl, x, rfl, ?_⟩
          have ul := rs.length
          cases hnum : numOf partsP x with
          | none =>
            have pp : isPaper (.tuple (.str x :: ds)) = false := by
              show decide (numOf partsP x = some _) = false
              rw [hnum]; exact decide_eq_false fun z => by cases z
            rw [pp] at k
            exact ⟨_, rfl, a, _, rfl, .inr (SqT.of ha), rfl, _, rfl, iteE (decide_eq_false fun z => by cases z) (k H (Same.refl H))⟩
          | some m =>
            have e : isPaper (.tuple (.str x :: ds)) = decide (V.int m = V.int ((V.str x :: us).length : Int)) := by
              show decide (numOf partsP x = some ((ds.length : Int) + 1)) = _
              rw [hnum, Bool.eq_iff_iff, decide_eq_true_eq, decide_eq_true_eq]
              constructor
              · intro z; have := Option.some.inj z; rw [List.length_cons]; congr 1; omega
              · intro z; have := V.int.inj z; rw [List.length_cons] at this; congr 1; omega
            refine ⟨_, rfl, a, _, rfl, .inr (SqT.of ha), rfl, _, rfl, ite2 (fun c => ?_) (fun c => ?_)⟩
            · have pp := e.trans c
              rw [pp] at k
              exact ⟨_, rfl, _, rfl, .ref a, P, x, ds, rfl, .tup ha pa (.cons (.str x) rs), pp, hR pp, fun H' s => k H' s⟩
            · have pp := e.trans (Bool.eq_false_iff.mpr fun z => c z)
              rw [pp] at k
              exact k H (Same.refl H)
        | _ => exact iteT (k H (Same.refl H))
    | _ => exact iteT (k H (Same.refl H))
end
end Sw
namespace Sw
open PySem L2
structure TR0 (P : Program) (w : World) (K : PySem.W.Frag) (mg : Str → Option Value) (base : Heap) : Prop extends T1 mg K where
  b_min : mg "min" = none
  f_round_from : FnAt P w K mg base "round_from" 1 ["order", "first"] spRf
section
variable {P : Program} {w : World} {K : PySem.W.Frag} {mg : Str → Option Value} {base : Heap}
theorem sc_round_from : FnScope ["order", "first", "found", "thing"] ["order", "first"] (defScope (top 15)) := ⟨rfl, rfl, rfl, by decide +kernel, rfl, by decide +kernel, by decide +kernel⟩
theorem ok_rf {f : Addr} {fd : FuncData} (F : Fun K "round_from" "round_from" (top 15) f fd) : FnOk P w K mg base CX0 1 f fd ["order", "first"] spRf := by
  refine F.ok sc_round_from (fun vs H Q E h => ?_) (fun cdv A outer s H vs Q E hr h => ?_)
  · obtain ⟨t, n, x, xs, rfl, _⟩ := h
    rfl
  · obtain ⟨t, n, x, xs, rfl, ht, o, hn, x1, x2, k⟩ := h
    refine ⟨_, (pss_cons (ps_set (i := 2) sc_round_from.nd rfl (Or.inl rfl) (pe_lst (pa_cons (pv 1) pa_nil)))
      (pss_cons (ps_set (i := 3) sc_round_from.nd rfl (Or.inl rfl) (pe_ix (ix_tupK (K := K) rfl) (pv 0) (pe_op op_sub (pv 1) pe_int) (fun _ _ => rfl)))
      (pss_cons (ps_while PassesOwn.never (pt_cmpR op_ne (pv 3) (pv 1) (nomark _)) (pss_cons (ps_expr (pe_bmK (K := K) rfl PySem.F.plainAttrs_list PySem.F.slot_list_append PySem.F.type_list_append mt_append (pv 2) (pa_cons (pv 3) pa_nil)))
      (pss_one (ps_set (i := 3) sc_round_from.nd rfl (Or.inl rfl) (pe_ix (ix_tupK (K := K) rfl) (pv 0) (pe_op op_sub (pv 3) pe_int) (fun _ _ => rfl))))))
      (pss_one (ps_ret (pv 2)))))), ?_⟩
    have ol := o.length
    have big : (100000 : Nat) ≤ sizeLine := by decide
    refine ⟨_, rfl, (by show 1 ≤ sizeLine; decide), fun l hl => ?_⟩
    have s1 : Same H (upd H l (.lst [V.int x])) := Same.new hl
    refine ⟨_, rfl, _, rfl, _, _, rfl, rfl, t, _, _, _, rfl, rfl, SqT.of (s1 _ _ ht), at_int (by omega) (ld_get o x1 x2), ?_⟩
    refine ⟨fun m σ H' => ∃ i, m = per xs x - i ∧ 1 ≤ i ∧ i ≤ per xs x ∧ σ = [some (.ref t), some (.int x), some (.ref l), some (.int (itn (ld xs) i x))] ∧ Same H H' ∧ H' l = some (.lst (((List.range i).map fun k => itn (ld xs) k x).map V.int)), ⟨_, 1, rfl, Nat.le_refl _, by unfold per; omega, rfl, s1, upd_same⟩, ?_⟩
    rintro m σ H' ⟨i, rfl, i1, i2, rfl, s2, h2⟩
    have pl := per_le o x1 x2
    have ir := itn_in o x1 x2 i
    refine ⟨_, rfl, _, rfl, rfl, _, rfl, ite2 (fun c => ?_) (fun c => ?_)⟩
    · have c : itn (ld xs) i x ≠ x := by simpa using c
      have lt : i < per xs x := by
        by_cases e : i = per xs x
        · rw [e] at c; exact absurd (per_eq o x1 x2) c
        · omega
      refine ⟨fun σ' H' => σ' = [some (.ref t), some (.int x), some (.ref l), some (.int (itn (ld xs) (i + 1) x))] ∧ Same H H' ∧ H' l = some (.lst (((List.range (i + 1)).map fun k => itn (ld xs) k x).map V.int)), fun σ' H' ⟨e1, e2, e3⟩ => ⟨_, (by show per xs x - (i + 1) < _; omega), i + 1, rfl, by omega, by omega, e1, e2, e3⟩, ?_⟩
      refine ⟨_, rfl, .inl ⟨rfl, _, SqL.of h2⟩, _, rfl, l, _, _, rfl, rfl, h2, by simp; omega, ?_⟩
      have s3 : Same H (upd H' l (.lst (((List.range i).map fun k => itn (ld xs) k x).map V.int ++ [.int (itn (ld xs) i x)]))) := fun b ob e => by rw [upd_ne (ne_of_none e hl)]; exact s2 b ob e
      refine ⟨_, rfl, _, rfl, _, _, rfl, rfl, t, _, _, _, rfl, rfl, SqT.of (s3 _ _ ht), at_int (by omega) (ld_get o ir.1 ir.2), ?_⟩
      refine ⟨rfl, s3, ?_⟩
      rw [upd_same, List.range_succ, List.map_append, List.map_append]
      rfl
    · have c : itn (ld xs) i x = x := by simpa using c
      have e : i = per xs x := by
        apply Classical.byContradiction
        intro z
        exact per_ne (by omega) (by omega) c
      subst e
      exact ⟨_, rfl, k l H' hl h2 s2⟩
theorem sc_rounds : FnScope ["order", "begun"] ["order"] (defScope (top 16)) := ⟨rfl, rfl, rfl, by decide +kernel, rfl, by decide +kernel, by decide +kernel⟩
theorem ok_rounds {f : Addr} {fd : FuncData} (F : Fun K "rounds" "rounds" (top 16) f fd) (T : TR0 P w K mg base) : FnOk P w K mg base CX0 3 f fd ["order"] spRounds := by
  refine F.ok sc_rounds (fun vs H Q E h => ?_) (fun cdv A outer s H vs Q E hr h => ?_)
  · obtain ⟨t, n, xs, rfl, _⟩ := h
    rfl
  · obtain ⟨t, n, xs, rfl, ht, o, hn, k⟩ := h
    refine ⟨_, (pss_cons (ps_comp (i := 1) sc_rounds.nd rfl rfl (N := (["first", "order"] : List Str)) (ix := ([none, some 0] : List (Option Nat))) (comp_ok rfl rfl) rfl (pi_range2 rfl T.b_range (pa_cons pe_int (pa_cons (pe_op op_add (pe_callB (call_lenK (K := K) rfl) rfl T.b_len (by decide +kernel) (pa_cons (pv 0) pa_nil)) pe_int) pa_nil))) (fun _ _ _ _ => (pg_name (i := 0) (show List.Nodup (["first", "order"] : List Str) from by decide +kernel) rfl (Or.inl rfl))) (fun _ _ _ _ => pif_nil) (fun _ _ _ _ => (pe_callF T.f_round_from (hr.mono (by first | decide | omega)) rfl (pa_cons (pv 1) (pa_cons (pv 0) pa_nil)))))
      (pss_one (ps_ret (pe_comp (N := (["found"] : List Str)) (ix := ([none] : List (Option Nat))) (comp_ok rfl rfl) rfl (pi_listK (K := K) rfl (pv 1)) (fun _ _ _ _ => (pg_name (i := 0) (show List.Nodup (["found"] : List Str) from by decide +kernel) rfl (Or.inl rfl))) (fun _ _ _ _ => (pif_one (pt_cmpR op_eq (pe_ix (ix_listK (K := K) rfl) (pv 0) pe_int (fun _ _ => rfl)) (pe_callB (call_minL (K := K) rfl rfl) rfl T.b_min (by decide +kernel) (pa_cons (pv 0) pa_nil)) (nomark _)))) (fun _ _ _ _ => (pv 0)))))), ?_⟩
    have ol := o.length
    have big : (100000 : Nat) ≤ sizeLine := by decide
    refine ⟨_, rfl, t, _, rfl, .inr (SqT.of ht), _, _, rfl, rfl, 1, _, rfl, ⟨by decide, by decide, by omega, by rw [List.length_map]; omega⟩, compR (k := 0) (fun i ys σ' H' => (∃ v, σ' = [v, some (.ref t)]) ∧ Same H H' ∧ Lsts H' ys (((ivl 1 (n + 1)).take i).map (orb xs)) ∧ Fresh H ys ∧ ys.length = i) (by rw [List.length_map]; omega) ⟨⟨none, rfl⟩, Same.refl _, .nil, Fresh.nil, rfl⟩ (fun i ys σ' H' q => Nat.le_of_eq q.2.2.2.2) ?_ ?_⟩
    · rintro i ys σ' H' R hi ⟨⟨v, rfl⟩, s1, x1, f1, l1⟩ done
      rw [List.length_map] at hi
      refine ⟨_, rfl, _, rfl, t, n, 1 + (i : Int), xs, rfl, s1 _ _ ht, o, hn, by omega, by omega, fun l H2 hl h2 s2 => done _ _ _ ⟨⟨_, rfl⟩, s1.trans s2, ?_, f1.snoc x1 hl (s1.free hl), ?_⟩⟩
      · rw [take_succ_map (orb xs) (get_ivl (lo := 1) (hi := n + 1) (i := i) (by omega))]
        exact (x1.keep s2).snoc h2
      · rw [List.length_append, l1]; rfl
    · rintro ys σ' H' p ⟨⟨v, rfl⟩, s1, x1, f1, l1⟩ hp
      have et : (ivl 1 (n + 1)).take (((xs.map V.int).length : Int) + 1 - 1).toNat = ivl 1 (n + 1) := List.take_of_length_le (by rw [ivl_length, List.length_map]; omega)
      rw [et] at x1
      rw [List.length_map] at l1
      have s2 := s1.trans (Same.new (o := .lst ys) hp)
      have x2 := x1.keep (Same.new (o := .lst ys) hp)
      have h2 : upd H' p (.lst ys) p = some (.lst ys) := upd_same
      generalize upd H' p (.lst ys) = H2 at s2 x2 h2 ⊢
      refine ⟨_, rfl, p, rfl, ⟨_, SqL.of h2⟩, compLif (K := K) (a := p) (xs := ys) (k := 0) (fun i zs σ' H'' => (∃ v, σ' = [v]) ∧ H'' = H2 ∧ zs.Sublist (ys.take i) ∧ Lsts H2 zs ((((ivl 1 (n + 1)).take i).filter (least xs)).map (orb xs))) (by omega) ⟨⟨none, rfl⟩, rfl, List.nil_sublist _, .nil⟩
        (fun i zs σ' H'' _ q => by rw [q.2.1]; exact SqL.of h2) (fun i zs σ' H'' q => by have := q.2.2.1.length_le; rw [List.length_take] at this; omega) ?_ ?_⟩
      · rintro i zs σ' H'' x R hx ⟨⟨v, rfl⟩, rfl, sb, lx⟩ done
        obtain ⟨a, ns, rfl, ha, hns⟩ := x2.get hx
        rw [List.getElem?_map] at hns
        have hi : i < (n + 1 - 1).toNat := by
          have := List.getElem?_eq_some_iff.mp hx
          obtain ⟨z, _⟩ := this
          rw [x2.length, List.length_map, ivl_length] at z
          exact z
        have gi := get_ivl hi
        rw [gi] at hns
        cases hns
        have ib1 : (1 : Int) ≤ 1 + i := by omega
        have ib2 : (1 : Int) + i ≤ n := by omega
        have h0 : (orb xs (1 + i))[0]? = some (1 + (i : Int)) := by
          unfold orb
          rw [List.getElem?_map, List.getElem?_range (by unfold per; omega)]
          rfl
        have et2 : (ys.take (i + 1)) = ys.take i ++ [.ref a] := by rw [List.take_succ, hx]; rfl
        have ef : ((ivl 1 (n + 1)).take (i + 1)) = (ivl 1 (n + 1)).take i ++ [1 + (i : Int)] := by rw [List.take_succ, gi]; rfl
        -- the least one
        obtain ⟨M, M1, M2⟩ : ∃ M, M ∈ orb xs (1 + i) ∧ ∀ b ∈ orb xs (1 + i), M ≤ b := least_ex (List.ne_nil_of_mem (List.mem_of_getElem? h0))
        refine ⟨_, rfl, a, _, _, _, rfl, rfl, SqL.of ha, at_int (by omega) h0, _, rfl, a, _, M, rfl, SqL.of ha, M1, M2, rfl, _, rfl, ?_⟩
        have el : decide (V.int (1 + (i : Int)) = V.int M) = least xs (1 + i) := by
          rw [Bool.eq_iff_iff]
          unfold least
          rw [List.all_eq_true]
          simp only [decide_eq_true_eq]
          constructor
          · intro e b hb
            cases e
            exact M2 b hb
          · intro h
            have e1 := h M M1
            have e2 := M2 _ (List.mem_of_getElem? h0)
            rw [Int.le_antisymm e1 e2]
        rw [el]
        cases hL : least xs (1 + (i : Int)) with
        | true =>
          refine iteT ⟨_, rfl, done _ _ _ ⟨⟨_, rfl⟩, rfl, ?_, ?_⟩⟩
          · rw [et2]; exact sb.append (List.Sublist.refl _)
          · rw [ef, List.filter_append, List.map_append, List.filter_cons_of_pos hL]
            exact lx.snoc ha
        | false =>
          refine iteF (done _ _ _ ⟨⟨_, rfl⟩, rfl, ?_, ?_⟩)
          · rw [et2]; exact sb.trans (List.sublist_append_left _ _)
          · rw [ef, List.filter_append, List.map_append, List.filter_cons_of_neg (by rw [hL]; decide), List.filter_nil, List.map_nil, List.append_nil]
            exact lx
      · rintro zs σ' H'' q ⟨⟨v, rfl⟩, rfl, sb, lx⟩ hq
        rw [List.take_of_length_le (Nat.le_refl _)] at sb
        have e3 : (ivl 1 (n + 1)).take ys.length = ivl 1 (n + 1) := List.take_of_length_le (by rw [ivl_length, l1]; omega)
        rw [e3] at lx
        refine k q zs _ (s2.free hq) upd_same (lx.keep (Same.new hq)) (f1.sub sb) (fun z => ?_) (s2.trans (Same.new hq))
        obtain ⟨ns, e⟩ := lx.mem z
        rw [hq] at e
        cases e
end
end Sw
namespace Sw
open PySem L2
section
variable {P : Program} {w : World} {K : PySem.W.Frag} {mg : Str → Option Value} {base : Heap}
theorem sc_plain : FnScope ["n"] ["n"] (defScope (top 12)) := ⟨rfl, rfl, rfl, by decide +kernel, rfl, by decide +kernel, by decide +kernel⟩
theorem ok_plain {f : Addr} {fd : FuncData} (F : Fun K "plain" "plain" (top 12) f fd) (T : T1 mg K) : FnOk P w K mg base CX0 1 f fd ["n"] spPlain := by
  refine F.ok sc_plain (fun vs H Q E h => ?_) (fun cdv A outer s H vs Q E hr h => ?_)
  · obtain ⟨t, rfl, _⟩ := h
    rfl
  · obtain ⟨n, rfl, h0, h1, k⟩ := h
    refine ⟨_, (pss_one (ps_ret (pe_callTy (call_tuple_rng rfl) rfl T.b_tuple (by decide +kernel) (pa_cons (pe_callTy call_range rfl T.b_range (by decide +kernel) (pa_cons pe_int (pa_cons (pe_op op_add (pv 0) pe_int) pa_nil))) pa_nil)))), ?_⟩
    refine ⟨_, rfl, _, _, rfl, rfl, .inr ⟨_, _, rfl, fun r hr => ⟨r, _, _, rfl, upd_same, by omega, by omega, by omega, by omega, fun t ht => ?_⟩⟩⟩
    have ne : t ≠ r := by intro z; subst z; rw [upd_same] at ht; cases ht
    rw [upd_ne ne] at ht
    exact k t _ ht upd_same fun b o e => by rw [upd_ne (ne_of_none e ht), upd_ne (ne_of_none e hr)]; exact e
end
end Sw
namespace Sw
open PySem L2
def exOf : PyData → Int × Int
  | .tuple [.int a, .int b] => (a, b)
  | _ => (0, 0)
def rowOf : PyData → List (Int × Int)
  | .list ds => ds.map exOf
  | _ => []
def intOf : PyData → Int
  | .int a => a
  | _ => 0
def intsOf : PyData → List Int
  | .tuple ds => ds.map intOf
  | _ => []
theorem isex_is {n : Int} {d : PyData} (h : isex n d = true) : d = .tuple [.int (exOf d).1, .int (exOf d).2] ∧ 1 ≤ (exOf d).1 ∧ (exOf d).1 < (exOf d).2 ∧ (exOf d).2 ≤ n := by
  unfold isex at h
  split at h
  · rename_i x y
    obtain ⟨h1, h2⟩ := Bool.and_eq_true_iff.mp h
    obtain ⟨h3, h4⟩ := Bool.and_eq_true_iff.mp h1
    cases x with
    | int i =>
      cases y with
      | int j =>
        have a1 : 1 ≤ i ∧ i ≤ n := of_decide_eq_true h3
        have a2 : 1 ≤ j ∧ j ≤ n := of_decide_eq_true h4
        have a3 : i < j := of_decide_eq_true h2
        exact ⟨rfl, a1.1, a3, a2.2⟩
      | _ => cases h4
    | _ => cases h3
  · cases h
theorem exs_of {n : Int} {H : Hp} {P : Addr → Prop} : ∀ {vs : List V} {ds : List PyData}, DTs H P vs ds → ds.all (isex n) = true → Exs H vs (ds.map exOf) ∧ Good n (ds.map exOf)
  | _, _, .nil, _ => ⟨.nil, fun e he => by cases he⟩
  | _, _, .cons (d := d) h hs, e => by
    rw [List.all_cons] at e
    obtain ⟨e1, e2⟩ := Bool.and_eq_true_iff.mp e
    obtain ⟨x, g⟩ := exs_of hs e2
    obtain ⟨q, b⟩ := isex_is e1
    rw [q] at h
    cases h with
    | tup ha _ r =>
      cases r with
      | cons r1 r2 =>
        cases r2 with
        | cons r3 r4 =>
          cases r4
          cases r1
          cases r3
          refine ⟨.cons ha x, fun z hz => ?_⟩
          rw [List.map_cons] at hz
          rcases List.mem_cons.mp hz with rfl | hz
          · exact b
          · exact g z hz
theorem isrow_at {n : Int} {H : Hp} {P : Addr → Prop} {v : V} {y : PyData} (h : DT H P v y) (e : isrow n y = true) : ∃ a us, v = .ref a ∧ H a = some (.lst us) ∧ Exs H us (rowOf y) ∧ Good n (rowOf y) ∧ (rowOf y).length ≤ 60 := by
  cases h with
  | lst ha pa r =>
    obtain ⟨e1, e2⟩ := Bool.and_eq_true_iff.mp e
    have e1 := of_decide_eq_true e1
    obtain ⟨x, g⟩ := exs_of r e2
    exact ⟨_, _, rfl, ha, x, g, by show (List.map exOf _).length ≤ 60; rw [List.length_map]; exact e1⟩
  | _ => cases e
def RowH (x y : PyData) : Prop := IsOrd x ∧ isrow ((intsOf x).length : Int) y = true ∧ ledM ((intsOf x).length : Int) (rowOf y) = intsOf x
def Few (d : PyData) : Prop := (∀ ds, d = .tuple ds → ds.length ≤ 1000) ∧ (∀ ds, d = .list ds → ds.length ≤ 1000)
def spRowH (R : PyData → PyData → Prop) : Sp := fun vs H Q _ => ∃ (v u : V) (P : Addr → Prop) (x y : PyData), vs = [v, u] ∧ DT H P v x ∧ DT H P u y ∧ Few x ∧ Few y ∧ ∀ b H', (b = true ↔ R x y) → Same H H' → Q (.bl b) H'
structure TRh (P : Program) (w : World) (K : PySem.W.Frag) (mg : Str → Option Value) (base : Heap) : Prop extends T1 mg K where
  f_is_order : FnAt P w K mg base "is_order" 3 ["thing"] spIsOrd
  f_is_row : FnAt P w K mg base "is_row" 6 ["n", "thing"] spIsRow
  f_led : FnAt P w K mg base "led" 3 ["n", "row"] spLed
structure TRl (P : Program) (w : World) (K : PySem.W.Frag) (mg : Str → Option Value) (base : Heap) : Prop extends T1 mg K where
  f_row_holds : FnAt P w K mg base "row_holds" 7 ["order", "row"] (spRowH RowH)
  f_rounds : FnAt P w K mg base "rounds" 3 ["order"] spRounds
end Sw
namespace Sw
open PySem L2
def Seat (tk : List Int) (c p : Int) : Prop := c ≤ p ∧ p ∉ tk ∧ ∀ q, c ≤ q → q < p → q ∈ tk
def Plc (cs ps : List Int) : Prop := ps.length = cs.length ∧ ∀ (i : Nat) (c p : Int), cs[i]? = some c → ps[i]? = some p → Seat (ps.take i) c p
theorem Plc.nil : Plc [] [] := ⟨rfl, fun i c p h => by simp at h⟩
end Sw
namespace Sw
open PySem L2
structure Nice (k : Nat) (d : PyData) : Prop where
  lay : d.canLay0 = true
  dp : d.depth ≤ k
theorem nice_int {k : Nat} (i : Int) : Nice k (.int i) := ⟨rfl, by unfold PyData.depth; omega⟩
theorem nice_str {k : Nat} {x : Str} (h : PyData.strOk x = true) : Nice k (.str x) := ⟨h, by unfold PyData.depth; omega⟩
theorem strOk_of (s : String) : PyData.strOk (Str.ofString s) = true := by
  unfold PyData.strOk
  rw [Str.ofString_eq_toList]
  rw [Array.all_eq_true_iff_forall_mem]
  intro c hc
  have hc : c ∈ List.map Char.toNat s.toList := by simpa using hc
  obtain ⟨ch, _, rfl⟩ := List.mem_map.mp hc
  have := ch.valid
  refine decide_eq_true ?_
  show ch.val.toNat < 1114112
  rcases this with h | ⟨_, h⟩
  · exact Nat.lt_trans h (by decide)
  · exact h
theorem nice_all {k : Nat} : ∀ {ds : List PyData}, (∀ d ∈ ds, Nice k d) → PyData.canLayAll0 ds = true ∧ PyData.depthAll ds ≤ k
  | [], _ => ⟨rfl, by unfold PyData.depthAll; omega⟩
  | d :: ds, h => by
    obtain ⟨h1, h2⟩ := nice_all fun e he => h e (List.mem_cons_of_mem _ he)
    have h0 := h d List.mem_cons_self
    refine ⟨?_, ?_⟩
    · unfold PyData.canLayAll0; rw [h1, h0.lay]; rfl
    · unfold PyData.depthAll
      have := h0.dp
      omega
theorem nice_list {k : Nat} {ds : List PyData} (h : ∀ d ∈ ds, Nice k d) : Nice (k + 1) (.list ds) := by
  obtain ⟨h1, h2⟩ := nice_all h
  exact ⟨by unfold PyData.canLay0; exact h1, by unfold PyData.depth; omega⟩
theorem nice_tuple {k : Nat} {ds : List PyData} (h : ∀ d ∈ ds, Nice k d) : Nice (k + 1) (.tuple ds) := by
  obtain ⟨h1, h2⟩ := nice_all h
  exact ⟨by unfold PyData.canLay0; exact h1, by unfold PyData.depth; omega⟩
end Sw
namespace Sw
open PySem L2
def up (es : List Int) (p : Int) : Int := if 0 < p then es.getD (p - 1).toNat 0 else p
def ups (es : List Int) : Nat → Int → Int
  | 0, p => p
  | k + 1, p => up es (ups es k p)
section
variable {es come : List Int} {p x y : Int}
structure Grown (es come : List Int) : Prop where
  z : come[0]? = some 0
  st : ∀ (j : Nat) (x : Int), 1 ≤ j → come[j]? = some x → 1 ≤ x ∧ ∃ (m : Nat) (y : Int), m < j ∧ come[m]? = some y ∧ es.getD (x - 1).toNat 0 = y
end
structure TreeM (n : Int) (es : List Int) : Prop where
  len : es.length = n.toNat
  ein : ∀ e ∈ es, 0 ≤ e ∧ e ≤ n
  home : ∀ p, 1 ≤ p → p ≤ n → ups es es.length p = 0
end Sw
namespace Sw
open PySem L2
structure OneR (n : Int) (xs : List Int) : Prop where
  ord : Ord n xs
  pos : 1 ≤ n
  all : ∀ x, 1 ≤ x → x ≤ n → x ∈ orb xs 1
def nu (xs : List Int) (x : Int) : Int := ((orb xs 1).idxOf x : Int) + 1
def lab (f : Int → Int) (e : Int × Int) : Int × Int := (min (f e.1) (f e.2), max (f e.1) (f e.2))
def Inj (n : Int) (f : Int → Int) : Prop := ∀ x y, 1 ≤ x → x ≤ n → 1 ≤ y → y ≤ n → f x = f y → x = y
def el (es : List Int) (i : Nat) : Int := es.getD i 0
def tiesM (es : List Int) : List (Int × Int) := (List.range es.length).map fun i => (min (el es i + 1) ((i : Int) + 2), max (el es i + 1) ((i : Int) + 2))
structure Tied (es : List Int) (f : Int → Int) (row : List (Int × Int)) : Prop where
  tree : TreeM es.length es
  one : f 1 = 1
  inj : Inj ((es.length : Int) + 1) f
  rng : ∀ x, 1 ≤ x → x ≤ (es.length : Int) + 1 → 1 ≤ f x ∧ f x ≤ (es.length : Int) + 1
  row : row = (tiesM es).map (lab f)
inductive Grow (row : List (Int × Int)) : List (Int × Int) → Prop
  | base : Grow row [(1, 0)]
  | step {L : List (Int × Int)} {x y j : Int} {i : Nat} {e : Int × Int} : Grow row L → (y, j) ∈ L → row[i]? = some e → (e = (x, y) ∨ e = (y, x)) → x ∉ L.map (·.1) → Grow row (L ++ [(x, (i : Int) + 1)])
end Sw
namespace Sw
open PySem L2
def cn (A M : List Int) : Nat := (M.map fun x => A.count x).sum
structure PK (A L : List Int) : Prop where
  all : cn A L + 1 = L.length
  some_ : ∀ j, 1 ≤ j → j < L.length → j ≤ cn A (L.take j)
def Nx (L : List Int) (x y : Int) : Prop := ∃ i, L[i]? = some x ∧ (L[i + 1]? = some y ∨ (i + 1 = L.length ∧ L[0]? = some y))
structure Cut (n : Int) (A : List Int) (Ls : List (List Int)) (suf : List (Int × Int)) : Prop where
  uniq : ∀ L1 ∈ Ls, ∀ L2 ∈ Ls, ∀ x, x ∈ L1 → x ∈ L2 → L1 = L2
  cov : ∀ x, 1 ≤ x → x ≤ n → ∃ L ∈ Ls, x ∈ L
  inn : ∀ L ∈ Ls, ∀ x ∈ L, 1 ≤ x ∧ x ≤ n
  rise : ∀ L ∈ Ls, L.Pairwise (· < ·)
  pk : ∀ L ∈ Ls, PK A L
  nx : ∀ L ∈ Ls, ∀ x y, Nx L x y → go suf y = x % n + 1
end Sw
namespace L2
open PySem
mutual
theorem DT.imp {H : Hp} {P R : Addr → Prop} (k : ∀ a, P a → R a) : ∀ {v : V} {d : PyData}, DT H P v d → DT H R v d
  | _, _, .non => .non
  | _, _, .bl b => .bl b
  | _, _, .int i => .int i
  | _, _, .str x => .str x
  | _, _, .lst h p r => .lst h (k _ p) (DTs.imp k r)
  | _, _, .tup h p r => .tup h (k _ p) (DTs.imp k r)
theorem DTs.imp {H : Hp} {P R : Addr → Prop} (k : ∀ a, P a → R a) : ∀ {vs : List V} {ds : List PyData}, DTs H P vs ds → DTs H R vs ds
  | _, _, .nil => .nil
  | _, _, .cons h r => .cons (DT.imp k h) (DTs.imp k r)
end
mutual
theorem DT.alive {H : Hp} {P : Addr → Prop} : ∀ {v : V} {d : PyData}, DT H P v d → DT H (fun b => P b ∧ H b ≠ none) v d
  | _, _, .non => .non
  | _, _, .bl b => .bl b
  | _, _, .int i => .int i
  | _, _, .str x => .str x
  | _, _, .lst h p r => .lst h ⟨p, by rw [h]; intro z; cases z⟩ (DTs.alive r)
  | _, _, .tup h p r => .tup h ⟨p, by rw [h]; intro z; cases z⟩ (DTs.alive r)
theorem DTs.alive {H : Hp} {P : Addr → Prop} : ∀ {vs : List V} {ds : List PyData}, DTs H P vs ds → DTs H (fun b => P b ∧ H b ≠ none) vs ds
  | _, _, .nil => .nil
  | _, _, .cons h r => .cons (DT.alive h) (DTs.alive r)
end
end L2
namespace L2
open PySem
theorem op_eqDW {X : Cx} {K : PySem.W.Frag} (hK : X.K = K) (hu : X.A.units + 64 < cLine) : OpR X (compareOp .Eq) (rEqD K) := by subst hK; exact op_eqD hu
end L2
namespace Sw
open PySem L2
theorem FnOk.weak {P : Program} {w : World} {K : PySem.W.Frag} {mg : Str → Option Value} {base : Heap} {k : Nat} {ps : List Str} {sp sp' : Sp} {f : Addr} {fd : FuncData} (h : ∀ vs H Q E, sp' vs H Q E → sp vs H Q E) (o : FnOk P w K mg base CX0 k f fd ps sp) : FnOk P w K mg base CX0 k f fd ps sp' :=
  ⟨fun vs H Q E z => o.1 vs H Q E (h _ _ _ _ z), fun a b c H d e vs Q E x y u v z => o.2 a b c H d e vs Q E x y u v (h _ _ _ _ z)⟩
def ismv : PyData → Bool
  | .tuple [x, y] => isw x && isS y
  | _ => false
def mvOf : PyData → Int × Str
  | .tuple [.int k, .str w] => (k, w)
  | _ => (0, "")
def iswalk : PyData → Bool
  | .list ds => ds.all ismv
  | _ => false
def mvsOf : PyData → List (Int × Str)
  | .list ds => ds.map mvOf
  | _ => []
theorem ismv_len {ds : List PyData} (c : ds.length ≠ 2) : ismv (.tuple ds) = false := by
  match ds, c with
  | [], _ => rfl
  | [_], _ => rfl
  | [_, _], c => exact absurd rfl c
  | _ :: _ :: _ :: _, _ => rfl
theorem ismv_is {d : PyData} (h : ismv d = true) : d = .tuple [.int (mvOf d).1, .str (mvOf d).2] := by
  unfold ismv at h
  split at h
  · rename_i x y
    obtain ⟨h1, h2⟩ := Bool.and_eq_true_iff.mp h
    cases x with
    | int i =>
      cases y with
      | str j => rfl
      | _ => cases h2
    | _ => cases h1
  · cases h
theorem mvs_of {H : Hp} {P : Addr → Prop} : ∀ {vs : List V} {ds : List PyData}, DTs H P vs ds → ds.all ismv = true → Mvs H vs (ds.map mvOf)
  | _, _, .nil, _ => .nil
  | _, _, .cons (d := d) h hs, e => by
    rw [List.all_cons] at e
    obtain ⟨e1, e2⟩ := Bool.and_eq_true_iff.mp e
    have x := mvs_of hs e2
    rw [ismv_is e1] at h
    cases h with
    | tup ha _ r =>
      cases r with
      | cons r1 r2 =>
        cases r2 with
        | cons r3 r4 =>
          cases r4
          cases r1
          cases r3
          exact .cons ha x
def WalkH (n a m b : PyData) : Prop := ∃ i : Int, n = .int i ∧ 1 ≤ i ∧ i ≤ 12 ∧ isrow i a = true ∧ isrow i b = true ∧ iswalk m = true ∧ walkM (rowOf a) (mvsOf m) = some (rowOf b)
open Classical in
noncomputable def g65 : PyData → Bool
  | .tuple [.str _, n, a, m, b] => decide (WalkH n a m b)
  | _ => false
def R65 (d : PyData) : Prop := ∃ n a m b, d = .tuple [.str "walk", n, a, m, b] ∧ Few a ∧ Few m ∧ Few b
def spIsMv : Sp := fun vs H Q _ => ∃ (v : V) (P : Addr → Prop) (d : PyData), vs = [v] ∧ DT H P v d ∧ Q (.bl (ismv d)) H
def spIsWk : Sp := fun vs H Q _ => ∃ (v : V) (P : Addr → Prop) (d : PyData), vs = [v] ∧ DT H P v d ∧ Few d ∧ ∀ H', Same H H' → Q (.bl (iswalk d)) H'
def spWkH : Sp := fun vs H Q _ => ∃ (v1 v2 v3 v4 : V) (P : Addr → Prop) (n a m b : PyData), vs = [v1, v2, v3, v4] ∧ DT H P v1 n ∧ DT H P v2 a ∧ DT H P v3 m ∧ DT H P v4 b ∧ Few a ∧ Few m ∧ Few b ∧ ∀ r H', (r = true ↔ WalkH n a m b) → Same H H' → Q (.bl r) H'
def spNev : Sp := fun _ _ _ _ => False
structure TPh5 (P : Program) (w : World) (K : PySem.W.Frag) (mg : Str → Option Value) (base : Heap) : Prop extends T1 mg K where
  f_walk_holds : FnAt P w K mg base "walk_holds" 8 ["n", "one", "moves", "other"] spWkH
  f_row_holds : FnAt P w K mg base "row_holds" 8 ["order", "row"] spNev
  f_least_holds : FnAt P w K mg base "least_holds" 8 ["order", "row"] spNev
  f_half_holds : FnAt P w K mg base "half_holds" 8 ["n", "one", "other"] spNev
  f_chain_holds : FnAt P w K mg base "chain_holds" 8 ["n", "sharings"] spNev
  f_counts_hold : FnAt P w K mg base "counts_hold" 8 ["n", "lists"] spNev
theorem iswalk_at {H : Hp} {P : Addr → Prop} {v : V} {m : PyData} (h : DT H P v m) (e : iswalk m = true) : ∃ a us, v = .ref a ∧ H a = some (.lst us) ∧ Mvs H us (mvsOf m) := by
  cases h with
  | lst ha pa r => exact ⟨_, _, rfl, ha, mvs_of r e⟩
  | _ => cases e
theorem eqRW {K : PySem.W.Frag} {H : Hp} {l m : Addr} {vs ws : List V} {r q : List (Int × Int)} {Q : VK} (h1 : H l = some (.lst vs)) (x1 : Exs H vs r) (h2 : H m = some (.lst ws)) (x2 : Exs H ws q) (hq : Q (.bl (decide (r = q))) H) : rEqD K (.ref l) (.ref m) H Q := by
  refine ⟨fun _ => True, .list (r.map fun e => PyData.tuple [.int e.1, .int e.2]), .list (q.map fun e => PyData.tuple [.int e.1, .int e.2]), .lst (SqL.of h1) True.intro x1.dat, .lst (SqL.of h2) True.intro x2.dat, ?_, ?_, ?_, ?_⟩
  · unfold PyData.canLay0; exact lay_row r
  · unfold PyData.canLay0; exact lay_row q
  · unfold PyData.depth; have := depth_row r; omega
  · unfold PyData.eqv; rw [eqv_row]; exact hq
structure TIm (P : Program) (w : World) (K : PySem.W.Frag) (mg : Str → Option Value) (base : Heap) : Prop extends T1 mg K where
  b_str : mg "str" = none
  f_is_whole : FnAt P w K mg base "is_whole" 1 ["thing"] spIwD
structure TIk (P : Program) (w : World) (K : PySem.W.Frag) (mg : Str → Option Value) (base : Heap) : Prop extends T1 mg K where
  f_is_move : FnAt P w K mg base "is_move" 2 ["thing"] spIsMv
structure TWh (P : Program) (w : World) (K : PySem.W.Frag) (mg : Str → Option Value) (base : Heap) (u : Value) (C : Addr) : Prop extends T1 mg K where
  g_MOST_THINGS : mg "MOST_THINGS" = some u
  r_MOST_THINGS : RelV (.int 12) u
  f_is_between : FnAt P w K mg base "is_between" 2 ["thing", "low", "high"] spBtD
  f_is_row : FnAt P w K mg base "is_row" 6 ["n", "thing"] spIsRow
  f_is_walk : FnAt P w K mg base "is_walk" 3 ["thing"] spIsWk
  f_walked : FnAtX P w K mg base "walked" 4 ["row", "moves"] (spWkX C)
  c_NoMove : mg "NoMove" = some (.ref C)
  e1 : ExcM K C C true
section
variable {P : Program} {w : World} {K : PySem.W.Frag} {mg : Str → Option Value} {base : Heap} {C : Addr}
theorem sc_is_move : FnScope ["thing"] ["thing"] (defScope (top 61)) := ⟨rfl, rfl, rfl, by decide +kernel, rfl, by decide +kernel, by decide +kernel⟩
theorem ok_ismv {f : Addr} {fd : FuncData} (F : Fun K "is_move" "is_move" (top 61) f fd) (T : TIm P w K mg base) : FnOk P w K mg base CX0 2 f fd ["thing"] spIsMv := by
  refine F.ok sc_is_move (fun vs H Q E h => ?_) (fun cdv A outer s H vs Q E hr h => ?_)
  · obtain ⟨v, P, d, rfl, _⟩ := h
    rfl
  · obtain ⟨v, P, d, rfl, hd, k⟩ := h
    refine ⟨_, (pss_one (ps_ret (pe_and (pe_callB (call_isiK (K := K) rfl) rfl T.b_isinstance (by decide +kernel) (pa_cons (pv 0) (pa_cons (pe_bltn (v := .ty "tuple") rfl T.b_tuple (by decide +kernel) rfl) pa_nil))) (pe_and (pe_cmpR op_eq (pe_callB (call_lenK (K := K) rfl) rfl T.b_len (by decide +kernel) (pa_cons (pv 0) pa_nil)) pe_int (nomark _)) (pe_and (pe_callF T.f_is_whole (hr.mono (by first | decide | omega)) rfl (pa_cons (pe_ix (ix_tupK (K := K) rfl) (pv 0) pe_int (fun _ _ => rfl)) pa_nil)) (pe_one (pe_callB (call_isiK (K := K) rfl) rfl T.b_isinstance (by decide +kernel) (pa_cons (pe_ix (ix_tupK (K := K) rfl) (pv 0) pe_int (fun _ _ => rfl)) (pa_cons (pe_bltn (v := .ty "str") rfl T.b_str (by decide +kernel) rfl) pa_nil))))))))), ?_⟩
    refine ⟨_, rfl, _, _, "tuple", _, rfl, hd.ty, kit_tuple K hd, _, rfl, ?_⟩
    cases hd with
    | @tup a us ds ha pa rs =>
      refine iteT ?_
      have ul := rs.length
      refine ⟨_, rfl, a, _, rfl, .inr (SqT.of ha), rfl, _, rfl, ?_⟩
      by_cases c : ds.length = 2
      · refine iteP (decide_eq_true (by rw [ul, c]; rfl)) ?_
        match ds, us, rs, c with
        | [x, y], [vx, vy], .cons hx (.cons hy .nil), _ =>
          refine ⟨_, rfl, a, _, _, _, rfl, rfl, SqT.of ha, rfl, vx, P, x, rfl, hx, _, rfl, ?_⟩
          cases e : isw x with
          | false =>
            refine iteF ?_
            have : ismv (.tuple [x, y]) = false := by show (isw x && isS y) = false; rw [e]; rfl
            rw [this] at k
            exact k
          | true =>
            refine iteT ?_
            have : ismv (.tuple [x, y]) = isS y := by show (isw x && isS y) = _; rw [e]; rfl
            rw [this] at k
            exact ⟨_, rfl, a, _, _, _, rfl, rfl, SqT.of ha, rfl, _, _, "str", _, rfl, hy.ty, kit_strD K hy, k⟩
      · refine iteE (decide_eq_false fun z => c (by have := V.int.inj z; omega)) ?_
        rw [ismv_len c] at k
        exact k
    | _ => exact iteF k
theorem sc_is_walk : FnScope ["thing"] ["thing"] (defScope (top 62)) := ⟨rfl, rfl, rfl, by decide +kernel, rfl, by decide +kernel, by decide +kernel⟩
theorem ok_iswk {f : Addr} {fd : FuncData} (F : Fun K "is_walk" "is_walk" (top 62) f fd) (T : TIk P w K mg base) : FnOk P w K mg base CX0 3 f fd ["thing"] spIsWk := by
  refine F.ok sc_is_walk (fun vs H Q E h => ?_) (fun cdv A outer s H vs Q E hr h => ?_)
  · obtain ⟨v, P, d, rfl, _⟩ := h
    rfl
  · obtain ⟨v, P, d, rfl, hd, hlen, k⟩ := h
    refine ⟨_, (pss_one (ps_ret (pe_and (pe_callB (call_isiK (K := K) rfl) rfl T.b_isinstance (by decide +kernel) (pa_cons (pv 0) (pa_cons (pe_bltn (v := .ty "list") rfl T.b_list (by decide +kernel) rfl) pa_nil))) (pe_one (pe_callB (call_allK (K := K) rfl rfl) rfl T.b_all (by decide +kernel) (pa_cons (pe_comp (N := (["move"] : List Str)) (ix := ([none] : List (Option Nat))) (comp_ok rfl rfl) rfl (pi_listK (K := K) rfl (pv 0)) (fun _ _ _ _ => (pg_name (i := 0) (show List.Nodup (["move"] : List Str) from by decide +kernel) rfl (Or.inl rfl))) (fun _ _ _ _ => pif_nil) (fun _ _ _ _ => (pe_callF T.f_is_move (hr.mono (by first | decide | omega)) rfl (pa_cons (pv 0) pa_nil)))) pa_nil)))))), ?_⟩
    refine ⟨_, rfl, _, _, "list", _, rfl, hd.ty, kit_list K hd, _, rfl, ?_⟩
    cases hd with
    | @lst a us ds ha pa rs =>
      refine iteT ?_
      have ul := rs.length
      have dl := hlen.2 ds rfl
      refine ⟨_, rfl, a, rfl, ⟨_, SqL.of ha⟩, compL (K := K) (a := a) (xs := us) (k := 0) (fun i ys σ' H' => ys = ((ds.take i).map ismv).map V.bl ∧ (∃ v, σ' = [v]) ∧ Same H H') (by omega) ⟨rfl, ⟨none, rfl⟩, Same.refl _⟩ (fun i ys σ' H' _ q => SqL.of (q.2.2 _ _ ha)) (fun i ys σ' H' q => by rw [q.1, List.length_map, List.length_map, List.length_take]; omega) ?_ ?_⟩
      · rintro i ys σ' H' z R hz ⟨rfl, ⟨v, rfl⟩, s1⟩ done
        obtain ⟨d, hd, hdz⟩ := rs.get hz
        refine ⟨_, rfl, z, P, d, rfl, DT.same hdz s1, done _ _ _ ⟨?_, ⟨_, rfl⟩, s1⟩⟩
        rw [all_take hd, List.map_append]
        rfl
      · rintro ys σ' H' q ⟨rfl, ⟨v, rfl⟩, s1⟩ fq
        rw [List.take_of_length_le (by omega)]
        refine ⟨q, ds.map ismv, rfl, SqL.of upd_same, ?_⟩
        have e : iswalk (.list ds) = (ds.map ismv).all id := by
          show ds.all ismv = _
          rw [List.all_map]; rfl
        rw [e] at k
        exact k _ (s1.trans (Same.new fq))
    | _ => exact iteF (k H (Same.refl H))
theorem sc_walk_holds : FnScope ["n", "one", "moves", "other"] ["n", "one", "moves", "other"] (defScope (top 63)) := ⟨rfl, rfl, rfl, by decide +kernel, rfl, by decide +kernel, by decide +kernel⟩
theorem ok_wkh {u : Value} {f : Addr} {fd : FuncData} (F : Fun K "walk_holds" "walk_holds" (top 63) f fd) (T : TWh P w K mg base u C) : FnOk P w K mg base CX0 8 f fd ["n", "one", "moves", "other"] spWkH := by
  refine F.ok sc_walk_holds (fun vs H Q E h => ?_) (fun cdv A outer s H vs Q E hr h => ?_)
  · obtain ⟨v1, v2, v3, v4, P, n, a, m, b, rfl, _⟩ := h
    rfl
  · obtain ⟨v1, v2, v3, v4, P, n, a, m, b, rfl, dn, da, dm, db, fa, fm, fb, k⟩ := h
    refine ⟨_, (pss_cons (ps_if (PW.pt (pw_or (pt_not (pt_val (pe_callF T.f_is_between (hr.mono (by first | decide | omega)) rfl (@pa_cons _ _ _ _ _ (pv 0) (@pa_cons _ _ _ _ _ pe_int (@pa_cons _ _ _ _ _ (pe_glob rfl T.g_MOST_THINGS T.r_MOST_THINGS) pa_nil st_name) st_con) st_name)))) (pw_or (pt_not (pt_val (pe_callF T.f_is_row (hr.mono (by first | decide | omega)) rfl (pa_cons (pv 0) (pa_cons (pv 1) pa_nil))))) (pw_or (pt_not (pt_val (pe_callF T.f_is_row (hr.mono (by first | decide | omega)) rfl (pa_cons (pv 0) (pa_cons (pv 3) pa_nil))))) (pw_or1 (pt_not (pt_val (pe_callF T.f_is_walk (hr.mono (by first | decide | omega)) rfl (pa_cons (pv 2) pa_nil))))))))) (pss_one (ps_ret pe_bl)) pss_nil)
      (pss_one (ps_try (fun _ _ => (pss_one (ps_ret (pe_cmpR (op_eqDW (K := K) rfl hr.units) (pe_callXT T.f_walked (hr.mono (by decide)) rfl (pa_cons (pv 1) (pa_cons (pv 2) pa_nil))) (pv 3) (nomark _))))) (ph_cons rfl T.c_NoMove (fun _ => (pss_one (ps_ret pe_bl))) ph_nil)))), ?_⟩
    have no : ∀ H', ¬ WalkH n a m b → Same H H' → Q (.bl false) H' := fun H' z s => k false H' ⟨fun q => (by cases q), fun q => absurd q z⟩ s
    refine ⟨_, rfl, v1, P, n, 1, 12, rfl, dn, _, rfl, ?_⟩
    cases e1 : btw 1 12 n with
    | false => exact iteT (no H (fun ⟨i, h, a1, a2, _⟩ => by subst h; rw [show btw 1 12 (.int i) = decide (1 ≤ i ∧ i ≤ 12) from rfl, decide_eq_true ⟨a1, a2⟩] at e1; cases e1) (Same.refl H))
    | true =>
      refine iteF ?_
      obtain ⟨i, rfl⟩ : ∃ i, n = .int i := by cases n <;> first | exact ⟨_, rfl⟩ | cases e1
      cases dn
      have ib : 1 ≤ i ∧ i ≤ 12 := of_decide_eq_true e1
      refine ⟨_, rfl, _, rfl, v2, P, a, i, rfl, da, fa.2, fun H1 s1 => ⟨_, rfl, ?_⟩⟩
      cases e2 : isrow i a with
      | false => exact iteT (no H1 (fun ⟨j, h, _, _, z, _⟩ => by injection h with h; subst h; rw [e2] at z; cases z) s1)
      | true =>
        refine iteF ?_
        refine ⟨_, rfl, _, rfl, v4, P, b, i, rfl, DT.same db s1, fb.2, fun H2 s2 => ⟨_, rfl, ?_⟩⟩
        have s12 := s1.trans s2
        cases e3 : isrow i b with
        | false => exact iteT (no H2 (fun ⟨j, h, _, _, _, z, _⟩ => by injection h with h; subst h; rw [e3] at z; cases z) s12)
        | true =>
          refine iteF ?_
          refine ⟨_, rfl, v3, P, m, rfl, DT.same dm s12, fm, fun H3 s3 => ⟨_, rfl, ?_⟩⟩
          have s13 := s12.trans s3
          cases e4 : iswalk m with
          | false => exact iteT (no H3 (fun ⟨j, h, _, _, _, _, z, _⟩ => by rw [e4] at z; cases z) s13)
          | true =>
            refine iteF ?_
            obtain ⟨la, ua, rfl, ha, xa, ga, al⟩ := isrow_at (DT.same da s13) e2
            obtain ⟨lb, ub, rfl, hb, xb, gb, bl⟩ := isrow_at (DT.same db s13) e3
            obtain ⟨lm, um, rfl, hm, xm⟩ := iswalk_at (DT.same dm s13) e4
            refine ⟨_, rfl, _, rfl, la, lm, ua, um, rowOf a, mvsOf m, rfl, ha, xa, by omega, hm, xm, fun r hr' l' es' H4 fl' hl' x' s4 => ?_, fun dead H4 s4 e he => ?_⟩
            · refine ⟨_, rfl, eqRW hl' x' (s4 _ _ hb) (xb.keep (Same.tups s4)) (k _ H4 ?_ (s13.trans s4))⟩
              rw [decide_eq_true_eq]
              constructor
              · intro z
                subst z
                exact ⟨i, rfl, ib.1, ib.2, e2, e3, e4, hr'⟩
              · rintro ⟨_, _, _, _, _, _, _, z⟩
                rw [hr'] at z
                exact Option.some.inj z
            · refine ⟨_, true, rfl, T.e1, iteT ?_⟩
              exact no _ (fun ⟨_, _, _, _, _, _, _, z⟩ => by rw [dead] at z; cases z) (s13.trans s4)
theorem sc_paper_holds : FnScope ["word", "paper"] ["word", "paper"] (defScope (top 68)) := ⟨rfl, rfl, rfl, by decide +kernel, rfl, by decide +kernel, by decide +kernel⟩
theorem ok_ph5 {f : Addr} {fd : FuncData} (F : Fun K "paper_holds" "paper_holds" (top 68) f fd) (T : TPh5 P w K mg base) : FnOk P w K mg base CX0 9 f fd ["word", "paper"] (spPaper g65 R65) := by
  refine F.ok sc_paper_holds (fun vs H Q E h => ?_) (fun cdv A outer s H vs Q E hr h => ?_)
  · obtain ⟨v, P, x, ds, rfl, _⟩ := h
    rfl
  · obtain ⟨v, P, x, ds, rfl, hd, ip, ⟨n, a, m, b, e, fa, fm, fb⟩, k⟩ := h
    refine ⟨_, (pss_cons (ps_if (pt_cmpR op_eq (pv 0) pe_str (nomark _)) (pss_one (ps_ret (pe_callF T.f_row_holds (hr.mono (by first | decide | omega)) rfl (pa_cons (pe_ix (ix_tupK (K := K) rfl) (pv 1) pe_int (fun _ _ => rfl)) (pa_cons (pe_ix (ix_tupK (K := K) rfl) (pv 1) pe_int (fun _ _ => rfl)) pa_nil))))) pss_nil)
      (pss_cons (ps_if (pt_cmpR op_eq (pv 0) pe_str (nomark _)) (pss_one (ps_ret (pe_callF T.f_least_holds (hr.mono (by first | decide | omega)) rfl (pa_cons (pe_ix (ix_tupK (K := K) rfl) (pv 1) pe_int (fun _ _ => rfl)) (pa_cons (pe_ix (ix_tupK (K := K) rfl) (pv 1) pe_int (fun _ _ => rfl)) pa_nil))))) pss_nil)
      (pss_cons (ps_if (pt_cmpR op_eq (pv 0) pe_str (nomark _)) (pss_one (ps_ret (pe_callF T.f_walk_holds (hr.mono (by first | decide | omega)) rfl (@pa_cons _ _ _ _ _ (pe_ix (ix_tupK (K := K) rfl) (pv 1) pe_int (fun _ _ => rfl)) (@pa_cons _ _ _ _ _ (pe_ix (ix_tupK (K := K) rfl) (pv 1) pe_int (fun _ _ => rfl)) (@pa_cons _ _ _ _ _ (pe_ix (ix_tupK (K := K) rfl) (pv 1) pe_int (fun _ _ => rfl)) (@pa_cons _ _ _ _ _ (pe_ix (ix_tupK (K := K) rfl) (pv 1) pe_int (fun _ _ => rfl)) pa_nil st_sub) st_sub) st_sub) st_sub)))) pss_nil)
      (pss_cons (ps_if (pt_cmpR op_eq (pv 0) pe_str (nomark _)) (pss_one (ps_ret (pe_callF T.f_half_holds (hr.mono (by first | decide | omega)) rfl (@pa_cons _ _ _ _ _ (pe_ix (ix_tupK (K := K) rfl) (pv 1) pe_int (fun _ _ => rfl)) (@pa_cons _ _ _ _ _ (pe_ix (ix_tupK (K := K) rfl) (pv 1) pe_int (fun _ _ => rfl)) (@pa_cons _ _ _ _ _ (pe_ix (ix_tupK (K := K) rfl) (pv 1) pe_int (fun _ _ => rfl)) pa_nil st_sub) st_sub) st_sub)))) pss_nil)
      (pss_cons (ps_if (pt_cmpR op_eq (pv 0) pe_str (nomark _)) (pss_one (ps_ret (pe_callF T.f_chain_holds (hr.mono (by first | decide | omega)) rfl (pa_cons (pe_ix (ix_tupK (K := K) rfl) (pv 1) pe_int (fun _ _ => rfl)) (pa_cons (pe_ix (ix_tupK (K := K) rfl) (pv 1) pe_int (fun _ _ => rfl)) pa_nil))))) pss_nil)
      (pss_one (ps_ret (pe_callF T.f_counts_hold (hr.mono (by first | decide | omega)) rfl (pa_cons (pe_ix (ix_tupK (K := K) rfl) (pv 1) pe_int (fun _ _ => rfl)) (pa_cons (pe_ix (ix_tupK (K := K) rfl) (pv 1) pe_int (fun _ _ => rfl)) pa_nil)))))))))), ?_⟩
    injection e with e
    injection e with e1 e2
    injection e1 with e1
    subst e1 e2
    cases hd with
    | tup hq pq r =>
      cases r with
      | cons r0 r =>
        cases r with
        | cons rn r =>
          cases r with
          | cons ra r =>
            cases r with
            | cons rm r =>
              cases r with
              | cons rb r =>
                cases r
                cases r0
                refine ⟨_, rfl, rfl, _, rfl, iteE (decide_eq_false fun z => by injection z with z; exact absurd z (by decide)) ?_⟩
                refine ⟨_, rfl, rfl, _, rfl, iteE (decide_eq_false fun z => by injection z with z; exact absurd z (by decide)) ?_⟩
                refine ⟨_, rfl, rfl, _, rfl, iteP (decide_eq_true rfl) ?_⟩
                refine ⟨_, rfl, _, _, _, _, rfl, rfl, SqT.of hq, rfl, _, rfl, _, _, _, _, rfl, rfl, SqT.of hq, rfl, _, rfl, _, _, _, _, rfl, rfl, SqT.of hq, rfl, _, rfl, _, _, _, _, rfl, rfl, SqT.of hq, rfl, _, _, _, _, P, n, a, m, b, rfl, rn, ra, rm, rb, fa, fm, fb, fun c H1 hc s1 => ?_⟩
                have := k H1 s1
                have gd : g65 (.tuple [.str "walk", n, a, m, b]) = c := by
                  unfold g65
                  rw [Bool.eq_iff_iff, @decide_eq_true_eq _ (Classical.propDecidable _)]
                  exact hc.symm
                rw [gd] at this
                exact this
end
end Sw
namespace Sw
open PySem L2
structure TR1 (P : Program) (w : World) (K : PySem.W.Frag) (mg : Str → Option Value) (base : Heap) : Prop extends T1 mg K where
  f_led : FnAt P w K mg base "led" 3 ["n", "row"] spLed
  f_rounds : FnAt P w K mg base "rounds" 3 ["order"] spRounds
section
variable {P : Program} {w : World} {K : PySem.W.Frag} {mg : Str → Option Value} {base : Heap}
theorem sc_is_least : FnScope ["n", "row"] ["n", "row"] (defScope (top 25)) := ⟨rfl, rfl, rfl, by decide +kernel, rfl, by decide +kernel, by decide +kernel⟩
theorem ok_least {f : Addr} {fd : FuncData} (F : Fun K "is_least" "is_least" (top 25) f fd) (T : TR1 P w K mg base) : FnOk P w K mg base CX0 4 f fd ["n", "row"] spLeast := by
  refine F.ok sc_is_least (fun vs H Q E h => ?_) (fun cdv A outer s H vs Q E hr h => ?_)
  · obtain ⟨n, l, es, row, rfl, _⟩ := h
    rfl
  · obtain ⟨n, l, es, row, rfl, n0, n1, hl, hx, hg, k⟩ := h
    refine ⟨_, (pss_one (ps_ret (pe_cmpR op_eq (pe_callB (call_lenK (K := K) rfl) rfl T.b_len (by decide +kernel) (pa_cons (pv 1) pa_nil)) (pe_op op_sub (pv 0) (pe_callB (call_lenK (K := K) rfl) rfl T.b_len (by decide +kernel) (pa_cons (pe_callF T.f_rounds (hr.mono (by first | decide | omega)) rfl (pa_cons (pe_callF T.f_led (hr.mono (by first | decide | omega)) rfl (pa_cons (pv 0) (pa_cons (pv 1) pa_nil))) pa_nil)) pa_nil))) (nomark _)))), ?_⟩
    refine ⟨_, rfl, l, _, rfl, .inl (SqL.of hl), _, rfl, _, rfl, _, rfl, n, l, es, row, rfl, n0, n1, hl, hx, hg, fun t H1 ft ht s1 => ?_⟩
    refine ⟨t, n, ledM n row, rfl, ht, led_ord hg, n1, fun l2 ws H2 f2 h2 x2 fr nl s2 => ?_⟩
    refine ⟨l2, _, rfl, .inl (SqL.of h2), _, _, rfl, rfl, rfl, ?_⟩
    have e : ws.length = cnt n (ledM n row) := by
      rw [x2.length]
      unfold rndM cnt
      rw [List.length_map]
    rw [e, hx.length]
    have e2 : ∀ a b : Int, decide (V.int a = V.int b) = decide (a = b) := fun a b => by rw [Bool.eq_iff_iff]; simp
    rw [e2]
    exact k _ (s1.trans s2)
end
end Sw
namespace Sw
open PySem L2
def spLsR : Sp := fun vs H Q _ => ∃ (p : Addr) (c : Nat) (t : Addr) (n : Int) (xs : List Int), vs = [.ref p, .ref t] ∧ Purse H p c ∧ c ≤ 80000 ∧ H t = some (.tup (xs.map V.int)) ∧ Ord n xs ∧ 1 ≤ n ∧ n ≤ 50 ∧
  ∀ l es row H', H l = none → H' l = some (.lst es) → Exs H' es row → Good n row → ledM n row = xs → row.length + cnt n xs = n.toNat → Purse H' p (c + 400) → SameX p H H' → Q (.ref l) H'
structure TLs (P : Program) (w : World) (K : PySem.W.Frag) (mg : Str → Option Value) (base : Heap) : Prop extends T1 mg K where
  b_min : mg "min" = none
  b_max : mg "max" = none
  f__law_take : FnAt P w K mg base "_law_take" 1 ["_law_purse_here", "_law_many"] spTake
  f__law_rounds : FnAt P w K mg base "_law_rounds" 1 ["_law_order_here"] spRounds
theorem cnt_leR (n : Int) (xs : List Int) : cnt n xs ≤ n.toNat := by
  unfold cnt
  have := List.length_filter_le (least xs) (ivl 1 (n + 1))
  rw [ivl_length] at this
  omega
theorem all_home {n : Int} {gs : List Int} (o : Ord n gs) (h : ∀ r ∈ rndM n gs, r.length ≤ 1) : gs = ivl 1 (n + 1) := by
  refine ord_ext o.length (by rw [ivl_length]; omega) fun x h1 h2 => ?_
  have e : ld (ivl 1 (n + 1)) x = x := (nil_rnds n).rest x h1 h2 (by simp)
  rw [e]
  obtain ⟨m, hm, hl, _⟩ := low_ex o h1 h2
  have b := orb_in o h1 h2 hm
  have hr : orb gs m ∈ rndM n gs := by
    unfold rndM
    exact List.mem_map_of_mem (List.mem_filter.mpr ⟨mem_ivl.mpr ⟨b.1, by omega⟩, hl⟩)
  have l1 := h _ hr
  have one : ∀ y, y ∈ orb gs m → y = m := fun y hy => by
    have hm' : m ∈ orb gs m := orb_self m
    generalize orb gs m = q at l1 hy hm'
    cases q with
    | nil => cases hy
    | cons k r =>
      cases r with
      | nil => rw [List.mem_singleton.mp hy, List.mem_singleton.mp hm']
      | cons k' r => rw [List.length_cons, List.length_cons] at l1; omega
  have xm := one x (orb_sym o h1 h2 hm)
  rw [xm]
  exact one _ (orb_go o b.1 b.2 (orb_self m))
theorem two_in {n : Int} {gs : List Int} (o : Ord n gs) {m x y : Int} (m1 : 1 ≤ m) (m2 : m ≤ n) (hx : x ∈ orb gs m) (hy : y ∈ orb gs m) (ne : x ≠ y) : 1 ≤ (if y < x then y else x) ∧ (if y < x then y else x) < (if y > x then y else x) ∧ (if y > x then y else x) ≤ n ∧ (if y > x then y else x) ∈ orb gs (if y < x then y else x) := by
  have bx := orb_in o m1 m2 hx
  have by_ := orb_in o m1 m2 hy
  have xy : y ∈ orb gs x := orb_trans o bx.1 bx.2 (orb_sym o m1 m2 hx) hy
  have yx : x ∈ orb gs y := orb_sym o bx.1 bx.2 xy
  by_cases c : y < x
  · rw [if_pos c, if_neg (by omega)]
    exact ⟨by_.1, c, bx.2, yx⟩
  · rw [if_neg c, if_pos (by omega)]
    exact ⟨bx.1, by omega, by_.2, xy⟩
theorem oth_ne {i r : Int} {k : Nat} (h0 : 0 ≤ i) (h1 : i < k) (r0 : 0 ≤ r) (r1 : r < (k : Int) - 1) : 0 ≤ (i + 1 + r) % (k : Int) ∧ (i + 1 + r) % (k : Int) < k ∧ (i + 1 + r) % (k : Int) ≠ i := by
  by_cases c : i + 1 + r < k
  · rw [Int.emod_eq_of_lt (by omega) c]; omega
  · have e : (i + 1 + r) % (k : Int) = i + 1 + r - k := by
      rw [← Int.sub_emod_right, Int.emod_eq_of_lt (by omega) (by omega)]
    rw [e]; omega
theorem at_ref' {ws : List V} {i : Int} {v : V} (h0 : 0 ≤ i) (h : ws[i.toNat]? = some v) : atI ws i = some v := by
  have e : ((i.toNat : Nat) : Int) = i := Int.toNat_of_nonneg h0
  rw [← e]
  exact atI_nat h
def big1 (r : List Int) : Bool := decide (1 < r.length)
def WI (p t lw : Addr) (c : Nat) (n : Int) (xs : List Int) (H : Hp) (m : Nat) (σ : St) (H' : Hp) : Prop := ∃ (lg lf : Addr) (zs : List V) (gs : List Int) (es : List V) (row : List (Int × Int)) (v5 v6 v7 v8 v9 : Option V), m = n.toNat - cnt n gs ∧ σ = [some (.ref p), some (.ref t), some (.ref lw), some (.ref lg), some (.ref lf), v5, v6, v7, v8, v9] ∧ SameX p H H' ∧ H' lw = some (.lst es) ∧ Exs H' es row ∧ Good n row ∧ H' lg = some (.lst (gs.map V.int)) ∧ lw ≠ lg ∧ p ≠ lg ∧
  Ord n gs ∧ gs.map (go row) = xs ∧ cnt n gs = cnt n xs + row.length ∧ H' lf = some (.lst zs) ∧ p ≠ lf ∧ Lsts H' zs ((rndM n gs).filter big1) ∧ V.ref p ∉ zs ∧ Purse H' p (c + 3 * row.length)
section
variable {P : Program} {w : World} {K : PySem.W.Frag} {mg : Str → Option Value} {base : Heap}
theorem sc__law_least_row : FnScope ["_law_purse_here", "_law_order_here", "_law_row", "_law_goals", "_law_rounds_left", "_law_some", "_law_one", "_law_other", "_law_a", "_law_b"] ["_law_purse_here", "_law_order_here"] (defScope (top 75)) := ⟨rfl, rfl, rfl, by decide +kernel, rfl, by decide +kernel, by decide +kernel⟩
theorem ok_lsr {f : Addr} {fd : FuncData} (F : Fun K "_law_least_row" "_law_least_row" (top 75) f fd) (T : TLs P w K mg base) : FnOk P w K mg base CX0 2 f fd ["_law_purse_here", "_law_order_here"] spLsR := by
  refine F.ok sc__law_least_row (fun vs H Q E h => ?_) (fun cdv A outer s H vs Q E hr h => ?_)
  · obtain ⟨p, c, t, n, xs, rfl, _⟩ := h
    rfl
  · obtain ⟨p, c, t, n, xs, rfl, pu, hc, ht, o, n1, n2, k⟩ := h
    have hu := hu_of hr
    refine ⟨_, (pss_cons (ps_set (i := 2) sc__law_least_row.nd rfl (Or.inl rfl) (pe_lst pa_nil))
      (pss_cons (ps_set (i := 3) sc__law_least_row.nd rfl (Or.inl rfl) (pe_callTy (call_list_ofK (K := K) rfl) rfl T.b_list (by decide +kernel) (pa_cons (pv 1) pa_nil)))
      (pss_cons (ps_comp (i := 4) sc__law_least_row.nd rfl rfl (N := (["_law_some"] : List Str)) (ix := ([none] : List (Option Nat))) (comp_ok rfl rfl) rfl (pi_listK (K := K) rfl (pe_callF T.f__law_rounds (hr.mono (by first | decide | omega)) rfl (pa_cons (pe_callTy (call_tuple_ofK (K := K) rfl) rfl T.b_tuple (by decide +kernel) (pa_cons (pv 3) pa_nil)) pa_nil))) (fun _ _ _ _ => (pg_name (i := 0) (show List.Nodup (["_law_some"] : List Str) from by decide +kernel) rfl (Or.inl rfl))) (fun _ _ _ _ => (pif_one (pt_cmpR op_gt (pe_callB (call_lenK (K := K) rfl) rfl T.b_len (by decide +kernel) (pa_cons (pv 0) pa_nil)) pe_int (nomark _)))) (fun _ _ _ _ => (pv 0)))
      (pss_cons (ps_while PassesOwn.never (pt_cmpR op_gt (pe_callB (call_lenK (K := K) rfl) rfl T.b_len (by decide +kernel) (pa_cons (pv 4) pa_nil)) pe_int (nomark _)) (pss_cons (ps_set (i := 5) sc__law_least_row.nd rfl (Or.inl rfl) (pe_ix (ix_listK (K := K) rfl) (pv 4) (pe_callF T.f__law_take (hr.mono (by first | decide | omega)) rfl (pa_cons (pv 0) (pa_cons (pe_callB (call_lenK (K := K) rfl) rfl T.b_len (by decide +kernel) (pa_cons (pv 4) pa_nil)) pa_nil))) (fun _ _ => rfl)))
      (pss_cons (ps_set (i := 6) sc__law_least_row.nd rfl (Or.inl rfl) (pe_callF T.f__law_take (hr.mono (by first | decide | omega)) rfl (pa_cons (pv 0) (pa_cons (pe_callB (call_lenK (K := K) rfl) rfl T.b_len (by decide +kernel) (pa_cons (pv 5) pa_nil)) pa_nil))))
      (pss_cons (ps_set (i := 7) sc__law_least_row.nd rfl (Or.inl rfl) (pe_op op_mod (pe_op op_add (pe_op op_add (pv 6) pe_int) (pe_callF T.f__law_take (hr.mono (by first | decide | omega)) rfl (pa_cons (pv 0) (pa_cons (pe_op op_sub (pe_callB (call_lenK (K := K) rfl) rfl T.b_len (by decide +kernel) (pa_cons (pv 5) pa_nil)) pe_int) pa_nil)))) (pe_callB (call_lenK (K := K) rfl) rfl T.b_len (by decide +kernel) (pa_cons (pv 5) pa_nil))))
      (pss_cons (ps_set (i := 8) sc__law_least_row.nd rfl (Or.inr rfl) (pe_callB (call_min2 rfl) rfl T.b_min (by decide +kernel) (pa_cons (pe_ix (ix_listK (K := K) rfl) (pv 5) (pv 6) (fun _ _ => rfl)) (pa_cons (pe_ix (ix_listK (K := K) rfl) (pv 5) (pv 7) (fun _ _ => rfl)) pa_nil))))
      (pss_cons (ps_set (i := 9) sc__law_least_row.nd rfl (Or.inr rfl) (pe_callB (call_max2 rfl) rfl T.b_max (by decide +kernel) (pa_cons (pe_ix (ix_listK (K := K) rfl) (pv 5) (pv 6) (fun _ _ => rfl)) (pa_cons (pe_ix (ix_listK (K := K) rfl) (pv 5) (pv 7) (fun _ _ => rfl)) pa_nil))))
      (pss_cons (ps_comp (i := 3) sc__law_least_row.nd rfl rfl (N := (["_law_goal", "_law_a", "_law_b"] : List Str)) (ix := ([none, some 8, some 9] : List (Option Nat))) (comp_ok rfl rfl) rfl (pi_listK (K := K) rfl (pv 3)) (fun _ _ _ _ => (pg_name (i := 0) (show List.Nodup (["_law_goal", "_law_a", "_law_b"] : List Str) from by decide +kernel) rfl (Or.inl rfl))) (fun _ _ _ _ => pif_nil) (fun _ _ _ _ => (pe_dget2 hu (pe_disp (pps_cons (pv 1) (pv 2) (pps_cons (pv 2) (pv 1) pps_nil)) rfl rfl (by simp) (by decide)) (pv 0) (pv 0) ⟨rfl, rfl, rfl, rfl⟩)))
      (pss_cons (ps_expr (pe_bmK (K := K) rfl PySem.F.plainAttrs_list PySem.F.slot_list_insert PySem.F.type_list_insert mt_insert (pv 2) (pa_cons pe_int (pa_cons (pe_tup (pa_cons (pv 8) (pa_cons (pv 9) pa_nil))) pa_nil))))
      (pss_one (ps_comp (i := 4) sc__law_least_row.nd rfl rfl (N := (["_law_some"] : List Str)) (ix := ([none] : List (Option Nat))) (comp_ok rfl rfl) rfl (pi_listK (K := K) rfl (pe_callF T.f__law_rounds (hr.mono (by first | decide | omega)) rfl (pa_cons (pe_callTy (call_tuple_ofK (K := K) rfl) rfl T.b_tuple (by decide +kernel) (pa_cons (pv 3) pa_nil)) pa_nil))) (fun _ _ _ _ => (pg_name (i := 0) (show List.Nodup (["_law_some"] : List Str) from by decide +kernel) rfl (Or.inl rfl))) (fun _ _ _ _ => (pif_one (pt_cmpR op_gt (pe_callB (call_lenK (K := K) rfl) rfl T.b_len (by decide +kernel) (pa_cons (pv 0) pa_nil)) pe_int (nomark _)))) (fun _ _ _ _ => (pv 0))))))))))))
      (pss_one (ps_ret (pv 2))))))), ?_⟩
    have big : (10000000 : Nat) ≤ sizeLine := by decide
    refine ⟨Nat.zero_le _, fun lw flw => ?_⟩
    have sw := Same.new (o := .lst []) flw
    refine ⟨_, rfl, t, _, rfl, .inr (SqT.of (sw _ _ ht)), fun lg flg => ?_⟩
    have sg := Same.new (o := .lst (xs.map V.int)) flg
    have fg0 : H lg = none := sw.free flg
    have npw : p ≠ lw := pu.ne flw
    have npg : p ≠ lg := pu.ne fg0
    have ngw : lw ≠ lg := ne_of_none (upd_same (H := H) (a := lw) (o := .lst [])) flg
    have hw1 := sg _ _ (upd_same (H := H) (a := lw) (o := .lst []))
    have hg1 := upd_same (H := upd H lw (.lst [])) (a := lg) (o := .lst (xs.map V.int))
    have s1 := sw.trans sg
    generalize upd (upd H lw (.lst [])) lg (.lst (xs.map V.int)) = H1 at hw1 hg1 s1 sg ⊢
    have pu1 := pu.keep s1
    refine ⟨_, rfl, lg, _, rfl, .inl ⟨SqL.of hg1, fun tg ftg => ?_⟩⟩
    have zt := Same.new (o := .tup (xs.map V.int)) ftg
    refine ⟨tg, n, xs, rfl, upd_same, o, by omega, fun lr wr Hr flr hlr xr frr nlr zr => ⟨lr, rfl, ⟨_, SqL.of hlr⟩, ?_⟩⟩
    have wl := xr.length
    have rl := rnd_len (n := n) (xs := xs) (by omega)
    refine compLif (K := K) (a := lr) (xs := wr) (k := 0) (fun i zs σ' H'' => (∃ v, σ' = [v]) ∧ H'' = Hr ∧ zs.Sublist (wr.take i) ∧ Lsts Hr zs (((rndM n xs).take i).filter big1)) (by omega) ⟨⟨none, rfl⟩, rfl, List.nil_sublist _, .nil⟩ (fun i zs σ' H'' _ q => by rw [q.2.1]; exact SqL.of hlr) (fun i zs σ' H'' q => by have := q.2.2.1.length_le; rw [List.length_take] at this; omega) ?_ ?_
    · rintro i zs σ' H'' x R hx ⟨⟨v, rfl⟩, rfl, sb, lx⟩ done
      obtain ⟨a, ns, rfl, ha, hns⟩ := xr.get hx
      have et : ((rndM n xs).take (i + 1)).filter big1 = ((rndM n xs).take i).filter big1 ++ [ns].filter big1 := by rw [List.take_succ, hns, List.filter_append]; rfl
      have es' : wr.take (i + 1) = wr.take i ++ [V.ref a] := by rw [List.take_succ, hx]; rfl
      refine ⟨_, rfl, a, _, rfl, .inl (SqL.of ha), _, _, rfl, rfl, _, rfl, ite2 (fun c => ?_) (fun c => ?_)⟩
      · have c : big1 ns = true := by
          have := of_decide_eq_true c
          rw [List.length_map] at this
          exact decide_eq_true (by omega)
        refine ⟨_, rfl, done _ _ _ ⟨⟨_, rfl⟩, rfl, ?_, ?_⟩⟩
        · rw [es']; exact sb.append (List.Sublist.refl _)
        · rw [et, List.filter_cons, if_pos c]; exact lx.snoc ha
      · have c : big1 ns = false := by
          have c : (ns.length : Int) ≤ 1 := by simpa using c
          exact decide_eq_false (by omega)
        refine done _ _ _ ⟨⟨_, rfl⟩, rfl, ?_, ?_⟩
        · rw [es']; exact sb.trans (List.sublist_append_left _ _)
        · rw [et, List.filter_cons, if_neg (by rw [c]; exact Bool.false_ne_true)]; rw [List.filter_nil, List.append_nil]; exact lx
    rintro zs σ' H'' ll ⟨⟨v, rfl⟩, rfl, sb, lx⟩ fll
    rw [List.take_of_length_le (by omega)] at lx sb
    have zl := Same.new (o := .lst zs) fll
    have zall := zt.trans (zr.trans zl)
    have pz : ∀ v, v ∈ zs → ∃ a, v = V.ref a ∧ H1 a = none := fun v hv => by
      obtain ⟨a, e, h⟩ := frr.2 v (sb.subset hv)
      exact ⟨a, e, zt.free h⟩
    have fll0 : H1 ll = none := (zt.trans zr).free fll
    have hll : upd H'' ll (.lst zs) ll = some (.lst zs) := upd_same
    have lx2 := lx.keep zl
    generalize upd H'' ll (.lst zs) = HL at zall hll lx2 ⊢
    clear zl zt zr fll lx sb frr nlr xr hlr flr ftg
    refine ⟨WI p t lw c n xs H, ⟨_, lg, ll, zs, xs, [], [], _, _, _, _, _, rfl, rfl, (s1.trans zall).x, zall _ _ hw1, .nil, (fun e he => (by cases he)), zall _ _ hg1, ngw, npg, o, ?_, rfl, hll, fun z => ?_, lx2, fun z => ?_, pu1.keep zall⟩, ?_⟩
    · exact List.map_id' xs
    · subst z; obtain ⟨_, e⟩ := pu1.at; rw [fll0] at e; cases e
    · obtain ⟨a, e, h⟩ := pz _ z
      cases e
      obtain ⟨_, e⟩ := pu1.at
      rw [h] at e
      cases e
    clear hll lx2 pz zall HL fll0 ll zs hg1 hw1 sg s1 pu1 H1 npg ngw fg0 flg lg
    rintro m σ H1 ⟨lg, lf, zs, gs, es, row, v5, v6, v7, v8, v9, rfl, rfl, s1, hw1, xe1, gr, hg1, ngw, npg, og, hgo, hcnt, hf1, npf, xz1, nz, pu1⟩
    have cl := cnt_leR n gs
    have rl50 := rnd_len (n := n) (xs := gs) (by omega)
    have zl := xz1.length
    have fle := List.length_filter_le big1 (rndM n gs)
    refine ⟨_, rfl, lf, _, rfl, .inl (SqL.of hf1), _, _, rfl, rfl, _, rfl, ite2 (fun c1 => ?_) (fun c1 => ?_)⟩
    · have c1 : 0 < zs.length := by have := of_decide_eq_true c1; omega
      refine ⟨fun σ' H' => ∃ m', m' < n.toNat - cnt n gs ∧ WI p t lw c n xs H m' σ' H', fun σ' H' z => z, ?_⟩
      refine ⟨_, rfl, _, rfl, _, rfl, lf, _, rfl, .inl (SqL.of hf1), p, _, _, rfl, pu1, by omega, by omega, by omega, fun r1 H2 r10 r11 pu2 s2 => ?_⟩
      have xz2 : Lsts H2 zs ((rndM n gs).filter big1) := xz1.stay fun hb e => s2 _ _ (fun z => nz (z ▸ hb)) e
      obtain ⟨y, hy⟩ : ∃ y, zs[r1.toNat]? = some y := ⟨_, List.getElem?_eq_getElem (by omega)⟩
      obtain ⟨sa, r, rfl, ha2, hrr⟩ := xz2.get hy
      have nsp : sa ≠ p := fun z => nz (z ▸ List.mem_of_getElem? hy)
      have hrm := List.mem_filter.mp (List.mem_of_getElem? hrr)
      have r1l : 1 < r.length := of_decide_eq_true hrm.2
      have r50 := rnd_each og (by omega) hrm.1
      refine ⟨lf, _, _, _, rfl, rfl, SqL.of (s2 _ _ npf.symm hf1), at_ref' r10 hy, ?_⟩
      refine ⟨_, rfl, _, rfl, sa, _, rfl, .inl (SqL.of ha2), p, _, _, rfl, pu2, by omega, by rw [List.length_map]; omega, by rw [List.length_map]; omega, fun r2 H3 r20 r21 pu3 s3 => ?_⟩
      rw [List.length_map] at r21
      have ha3 := s3 _ _ nsp ha2
      refine ⟨_, rfl, _, _, rfl, rfl, _, rfl, _, rfl, sa, _, rfl, .inl (SqL.of ha3), _, _, rfl, rfl, p, _, _, rfl, pu3, by omega, by rw [List.length_map]; omega, by rw [List.length_map]; omega, fun r3 H4 r30 r31 pu4 s4 => ?_⟩
      rw [List.length_map] at r31
      have ha4 := s4 _ _ nsp ha3
      refine ⟨_, _, rfl, rfl, _, rfl, sa, _, rfl, .inl (SqL.of ha4), _, _, rfl, rfl, (by show (0 : Int) < ((r.map V.int).length : Int); rw [List.length_map]; omega), ?_⟩
      obtain ⟨io, hio⟩ : ∃ io : Int, (r2 + 1 + r3) % ((r.map V.int).length : Int) = io := ⟨_, rfl⟩
      have q := oth_ne r20 r21 r30 r31
      rw [List.length_map] at hio
      rw [hio] at q
      rw [List.length_map]
      show gName 7 (V.int ((r2 + 1 + r3) % (r.length : Int))) _ _ _
      rw [hio]
      obtain ⟨x, hx⟩ := get_lt (ns := r) (k := r2.toNat) (by omega)
      obtain ⟨y, hy'⟩ := get_lt (ns := r) (k := io.toNat) (by omega)
      obtain ⟨md, hmd, em⟩ : ∃ md, md ∈ (ivl 1 (n + 1)).filter (least gs) ∧ orb gs md = r := by
        have := hrm.1
        unfold rndM at this
        obtain ⟨md, h1, h2⟩ := List.mem_map.mp this
        exact ⟨md, h1, h2⟩
      have mb := mem_ivl.mp (List.mem_filter.mp hmd).1
      have xne : x ≠ y := fun z => by
        subst z
        have nd := orb_nodup og mb.1 (by omega : md ≤ n)
        rw [em] at nd
        obtain ⟨b1, e1⟩ := List.getElem?_eq_some_iff.mp hx
        obtain ⟨b2, e2⟩ := List.getElem?_eq_some_iff.mp hy'
        have := (List.getElem_inj nd).mp (e1.trans e2.symm)
        omega
      have tw := two_in og mb.1 (by omega : md ≤ n) (by rw [em]; exact List.mem_of_getElem? hx) (by rw [em]; exact List.mem_of_getElem? hy') xne
      refine ⟨_, rfl, _, rfl, sa, _, _, _, rfl, rfl, SqL.of ha4, at_int r20 hx, _, rfl, _, rfl, sa, _, _, _, rfl, rfl, SqL.of ha4, at_int q.1 hy', _, _, rfl, ?_⟩
      refine ⟨_, rfl, _, rfl, sa, _, _, _, rfl, rfl, SqL.of ha4, at_int r20 hx, _, rfl, _, rfl, sa, _, _, _, rfl, rfl, SqL.of ha4, at_int q.1 hy', _, _, rfl, ?_⟩
      obtain ⟨ea, hea⟩ : ∃ ea : Int, (if y < x then y else x) = ea := ⟨_, rfl⟩
      obtain ⟨eb, heb⟩ : ∃ eb : Int, (if y > x then y else x) = eb := ⟨_, rfl⟩
      rw [hea, heb] at tw
      rw [hea, heb]
      obtain ⟨g1, g2, g3, g4⟩ := tw
      have s14 := s1.trans ((s2.trans s3).trans s4)
      have hg4 := s4 _ _ npg.symm (s3 _ _ npg.symm (s2 _ _ npg.symm hg1))
      have hw4 := s4 _ _ npw.symm (s3 _ _ npw.symm (s2 _ _ npw.symm hw1))
      have xe4 := SameX.exs s4 pu3 (SameX.exs s3 pu2 (SameX.exs s2 pu1 xe1))
      have gl := og.length
      -- the goals exchanged
      refine ⟨_, rfl, lg, rfl, ⟨_, SqL.of hg4⟩, compL (K := K) (a := lg) (xs := gs.map V.int) (k := 0) (fun j ys σ' H' => ys = ((gs.take j).map (swp · (ea, eb))).map V.int ∧ (∃ v, σ' = [v, some (.int ea), some (.int eb)]) ∧ Same H4 H') (by rw [List.length_map]; omega) ⟨rfl, ⟨none, rfl⟩, Same.refl _⟩ (fun j ys σ' H' _ z => SqL.of (z.2.2 _ _ hg4)) (fun j ys σ' H' z => by rw [z.1, List.length_map, List.length_map, List.length_take]; omega) ?_ ?_⟩
      · rintro j ys σ' H' v R hv ⟨rfl, ⟨v0, rfl⟩, sj⟩ done
        obtain ⟨z, rfl, hz⟩ := mem_int hv
        refine fun pd fpd => ?_
        refine ⟨_, rfl, _, rfl, _, rfl, _, rfl, upd_same, [(Sum.inl ea, .int eb), (Sum.inl eb, .int ea)], rfl, (show 2 ≤ 15 by decide), pd, rfl, .inl ⟨_, .inl upd_same⟩, _, rfl, _, rfl, _, DGet.k (k := (Sum.inl z : Key)) upd_same, ?_⟩
        rw [dict_swp ea eb z (by omega), upd_upd]
        refine done _ _ _ ⟨?_, ⟨_, rfl⟩, sj.trans (Same.new fpd)⟩
        rw [List.take_succ, hz, List.map_append, List.map_append]
        rfl
      rintro ys σ' H5 lg' ⟨rfl, ⟨v0, rfl⟩, s5⟩ flg'
      rw [List.length_map, List.take_length]
      have og' := ord_swp og g1 g2 g3
      have cc := cut_in og g1 g2 g3 g4
      have nw5 : lw ≠ lg' := ne_of_none (s5 _ _ hw4) flg'
      have np5 : p ≠ lg' := (pu4.keep s5).ne flg'
      have fg' : H lg' = none := free_of s14 np5 (s5.free flg')
      have s6 := s5.trans (Same.new (o := .lst ((gs.map (swp · (ea, eb))).map V.int)) flg')
      have hg6 : upd H5 lg' (.lst ((gs.map (swp · (ea, eb))).map V.int)) lg' = some (.lst ((gs.map (swp · (ea, eb))).map V.int)) := upd_same
      have hw6 := s6 _ _ hw4
      have xe6 := xe4.keep (Same.tups s6)
      have pu6 := pu4.keep s6
      have s06 := s14.trans s6.x
      generalize upd H5 lg' (.lst ((gs.map (swp · (ea, eb))).map V.int)) = H6 at s6 hg6 hw6 xe6 pu6 s06 ⊢
      clear s5 xe4 hw4 hg4 hg1 hw1
      -- the row
      have el := xe6.length
      have cn := cnt_leR n (gs.map (swp · (ea, eb)))
      refine ⟨_, rfl, .inl ⟨rfl, _, SqL.of hw6⟩, _, rfl, _, rfl, (by show 2 ≤ sizeLine; decide), fun te fte => ⟨lw, _, 0, _, rfl, rfl, Same.new fte _ _ hw6, Int.le_refl _, by omega, by omega, ?_⟩⟩
      have st := Same.new (o := .tup [V.int ea, V.int eb]) fte
      have npt : p ≠ te := pu6.ne fte
      have fte0 : H te = none := free_of s06 npt fte
      have tk : ∀ b ys, upd H6 te (.tup [V.int ea, V.int eb]) b = some (.tup ys) → upd (upd H6 te (.tup [V.int ea, V.int eb])) lw (.lst (es.take (0 : Int).toNat ++ V.ref te :: es.drop (0 : Int).toNat)) b = some (.tup ys) := fun b ys e => by
        rw [upd_ne (ne_of e (st _ _ hw6) (by intro z; cases z))]
        exact e
      have hw7 : upd (upd H6 te (.tup [V.int ea, V.int eb])) lw (.lst (es.take (0 : Int).toNat ++ V.ref te :: es.drop (0 : Int).toNat)) lw = some (.lst (V.ref te :: es)) := upd_same
      have hg7 : upd (upd H6 te (.tup [V.int ea, V.int eb])) lw (.lst (es.take (0 : Int).toNat ++ V.ref te :: es.drop (0 : Int).toNat)) lg' = some (.lst ((gs.map (swp · (ea, eb))).map V.int)) := by rw [upd_ne nw5.symm]; exact st _ _ hg6
      have xe7 : Exs (upd (upd H6 te (.tup [V.int ea, V.int eb])) lw (.lst (es.take (0 : Int).toNat ++ V.ref te :: es.drop (0 : Int).toNat))) (V.ref te :: es) ((ea, eb) :: row) := .cons (tk _ _ upd_same) ((xe6.keep (Same.tups st)).keep tk)
      have pu7 : Purse (upd (upd H6 te (.tup [V.int ea, V.int eb])) lw (.lst (es.take (0 : Int).toNat ++ V.ref te :: es.drop (0 : Int).toNat))) p _ := (pu6.upd npt).upd npw
      have s07 : SameX p H (upd (upd H6 te (.tup [V.int ea, V.int eb])) lw (.lst (es.take (0 : Int).toNat ++ V.ref te :: es.drop (0 : Int).toNat))) := SameX.put (SameX.put s06 fte0) flw
      generalize upd (upd H6 te (.tup [V.int ea, V.int eb])) lw (.lst (es.take (0 : Int).toNat ++ V.ref te :: es.drop (0 : Int).toNat)) = H7 at hw7 hg7 xe7 pu7 s07 tk ⊢
      clear tk
      refine ⟨_, rfl, lg', _, rfl, .inl ⟨SqL.of hg7, fun tg ftg => ?_⟩⟩
      have zt := Same.new (o := .tup ((gs.map (swp · (ea, eb))).map V.int)) ftg
      refine ⟨tg, n, (gs.map (swp · (ea, eb))), rfl, upd_same, og', by omega, fun lr wr Hr flr hlr xr frr nlr zr => ⟨lr, rfl, ⟨_, SqL.of hlr⟩, ?_⟩⟩
      have wl := xr.length
      have rl := rnd_len (n := n) (xs := (gs.map (swp · (ea, eb)))) (by omega)
      refine compLif (K := K) (a := lr) (xs := wr) (k := 0) (fun i zs σ' H'' => (∃ v, σ' = [v]) ∧ H'' = Hr ∧ zs.Sublist (wr.take i) ∧ Lsts Hr zs (((rndM n (gs.map (swp · (ea, eb)))).take i).filter big1)) (by omega) ⟨⟨none, rfl⟩, rfl, List.nil_sublist _, .nil⟩ (fun i zs σ' H'' _ q => by rw [q.2.1]; exact SqL.of hlr) (fun i zs σ' H'' q => by have := q.2.2.1.length_le; rw [List.length_take] at this; omega) ?_ ?_
      · rintro i zs σ' H'' x R hx ⟨⟨v, rfl⟩, rfl, sb, lx⟩ done
        obtain ⟨a, ns, rfl, ha, hns⟩ := xr.get hx
        have et : ((rndM n (gs.map (swp · (ea, eb)))).take (i + 1)).filter big1 = ((rndM n (gs.map (swp · (ea, eb)))).take i).filter big1 ++ [ns].filter big1 := by rw [List.take_succ, hns, List.filter_append]; rfl
        have es' : wr.take (i + 1) = wr.take i ++ [V.ref a] := by rw [List.take_succ, hx]; rfl
        refine ⟨_, rfl, a, _, rfl, .inl (SqL.of ha), _, _, rfl, rfl, _, rfl, ite2 (fun c => ?_) (fun c => ?_)⟩
        · have c : big1 ns = true := by
            have := of_decide_eq_true c
            rw [List.length_map] at this
            exact decide_eq_true (by omega)
          refine ⟨_, rfl, done _ _ _ ⟨⟨_, rfl⟩, rfl, ?_, ?_⟩⟩
          · rw [es']; exact sb.append (List.Sublist.refl _)
          · rw [et, List.filter_cons, if_pos c]; exact lx.snoc ha
        · have c : big1 ns = false := by
            have c : (ns.length : Int) ≤ 1 := by simpa using c
            exact decide_eq_false (by omega)
          refine done _ _ _ ⟨⟨_, rfl⟩, rfl, ?_, ?_⟩
          · rw [es']; exact sb.trans (List.sublist_append_left _ _)
          · rw [et, List.filter_cons, if_neg (by rw [c]; exact Bool.false_ne_true)]; rw [List.filter_nil, List.append_nil]; exact lx
      rintro zs σ' H'' ll ⟨⟨v, rfl⟩, rfl, sb, lx⟩ fll
      rw [List.take_of_length_le (by omega)] at lx sb
      have zl := Same.new (o := .lst zs) fll
      have zall := zt.trans (zr.trans zl)
      have pz : ∀ v, v ∈ zs → ∃ a, v = V.ref a ∧ H7 a = none := fun v hv => by
        obtain ⟨a, e, h⟩ := frr.2 v (sb.subset hv)
        exact ⟨a, e, zt.free h⟩
      have fll0 : H7 ll = none := (zt.trans zr).free fll
      have hll : upd H'' ll (.lst zs) ll = some (.lst zs) := upd_same
      have lx2 := lx.keep zl
      generalize upd H'' ll (.lst zs) = HL at zall hll lx2 ⊢
      clear zl zt zr fll lx sb frr nlr xr hlr flr ftg
      refine ⟨n.toNat - cnt n (gs.map (swp · (ea, eb))), by omega, lg', ll, zs, gs.map (swp · (ea, eb)), V.ref te :: es, (ea, eb) :: row, _, _, _, _, _, rfl, rfl, s07.trans zall.x, zall _ _ hw7, xe7.keep (Same.tups zall), ?_, zall _ _ hg7, nw5, np5, og', ?_, ?_, hll, fun z => ?_, lx2, fun z => ?_, (pu7.keep zall).mono (by rw [List.length_cons]; omega) (by rw [List.length_cons]; omega)⟩
      · intro e he
        rcases List.mem_cons.mp he with rfl | he
        · exact ⟨g1, g2, g3⟩
        · exact gr e he
      · rw [← hgo, List.map_map]
        refine List.map_congr_left fun u _ => ?_
        show go row (swp (swp u (ea, eb)) (ea, eb)) = go row u
        rw [swp_swp]
      · rw [cc, hcnt, List.length_cons]; omega
      · subst z; obtain ⟨_, e⟩ := pu7.at; rw [fll0] at e; cases e
      · obtain ⟨a, e, h⟩ := pz _ z
        cases e
        obtain ⟨_, e⟩ := pu7.at
        rw [h] at e
        cases e
    · have c1 : zs = [] := by simpa using c1
      subst c1
      have em : (rndM n gs).filter big1 = [] := by
        have := xz1.length
        rw [List.length_nil] at this
        exact List.length_eq_zero_iff.mp this.symm
      have home := all_home og fun r hr => by
        have : ¬ big1 r = true := List.filter_eq_nil_iff.mp em r hr
        have : ¬ 1 < r.length := fun z => this (decide_eq_true z)
        omega
      have led : ledM n row = xs := by rw [← hgo, home]; rfl
      have cp : cnt n gs = n.toNat := by
        rw [home, ← ledM_nil]
        exact cnt_nil (by omega)
      exact ⟨_, rfl, k lw es row H1 flw hw1 xe1 gr led (by omega) (pu1.mono (by omega) (by omega)) s1⟩
end
end Sw
namespace Sw
open PySem L2
structure TO (P : Program) (w : World) (K : PySem.W.Frag) (mg : Str → Option Value) (base : Heap) : Prop extends T1 mg K where
  f__law_take : FnAt P w K mg base "_law_take" 1 ["_law_purse_here", "_law_many"] spTake
section
variable {P : Program} {w : World} {K : PySem.W.Frag} {mg : Str → Option Value} {base : Heap}
theorem sc__law_order : FnScope ["_law_purse_here", "_law_n", "_law_sort", "_law_left", "_law_at", "_law_some", "_law_goals", "_law_k", "_law_found", "_law_one", "_law_other"] ["_law_purse_here", "_law_n"] (defScope (top 73)) := ⟨rfl, rfl, rfl, by decide +kernel, rfl, by decide +kernel, by decide +kernel⟩
theorem ok_order {f : Addr} {fd : FuncData} (F : Fun K "_law_order" "_law_order" (top 73) f fd) (T : TO P w K mg base) : FnOk P w K mg base CX0 3 f fd ["_law_purse_here", "_law_n"] spOrder := by
  refine F.ok sc__law_order (fun vs H Q E h => ?_) (fun cdv A outer s H vs Q E hr h => ?_)
  · obtain ⟨p, c, n, rfl, _⟩ := h
    rfl
  · obtain ⟨p, c, n, rfl, pu, hc, hn, hn2, k⟩ := h
    have hu := hu_of hr
    refine ⟨_, (pss_cons (ps_set (i := 2) sc__law_order.nd rfl (Or.inl rfl) (pe_callF T.f__law_take (hr.mono (by first | decide | omega)) rfl (pa_cons (pv 0) (pa_cons pe_int pa_nil))))
      (pss_cons (ps_set (i := 3) sc__law_order.nd rfl (Or.inr rfl) (pe_callTy (call_list_rng rfl) rfl T.b_list (by decide +kernel) (pa_cons (pe_callTy call_range rfl T.b_range (by decide +kernel) (pa_cons pe_int (pa_cons (pe_op op_add (pv 1) pe_int) pa_nil))) pa_nil)))
      (pss_cons (ps_if (pt_cmpR op_lt (pv 2) pe_int (nomark _)) (pss_cons (ps_set (i := 8) sc__law_order.nd rfl (Or.inl rfl) (pe_lst pa_nil))
      (pss_cons (ps_for PassesOwn.never rfl (pi_range1 rfl T.b_range (pa_cons (pv 1) pa_nil)) (pg_name (i := 7) sc__law_order.nd rfl (Or.inl rfl)) (pss_one (ps_expr (pe_bmK (K := K) rfl PySem.F.plainAttrs_list PySem.F.slot_list_append PySem.F.type_list_append mt_append (pv 8) (pa_cons (pe_bmK (K := K) rfl PySem.F.plainAttrs_list PySem.F.slot_list_pop PySem.F.type_list_pop mt_popAt (pv 3) (pa_cons (pe_callF T.f__law_take (hr.mono (by first | decide | omega)) rfl (pa_cons (pv 0) (pa_cons (pe_callB (call_lenK (K := K) rfl) rfl T.b_len (by decide +kernel) (pa_cons (pv 3) pa_nil)) pa_nil))) pa_nil)) pa_nil)))))
      (pss_one (ps_ret (pe_callTy (call_tuple_ofK (K := K) rfl) rfl T.b_tuple (by decide +kernel) (pa_cons (pv 8) pa_nil)))))) pss_nil)
      (pss_cons (ps_if (pt_cmpR op_eq (pv 2) pe_int (nomark _)) (pss_cons (ps_for PassesOwn.never rfl (pi_range1 rfl T.b_range (pa_cons (pe_callF T.f__law_take (hr.mono (by first | decide | omega)) rfl (pa_cons (pv 0) (pa_cons pe_int pa_nil))) pa_nil)) (pg_name (i := 7) sc__law_order.nd rfl (Or.inl rfl)) (pss_cons (ps_set (i := 9) sc__law_order.nd rfl (Or.inl rfl) (pe_callF T.f__law_take (hr.mono (by first | decide | omega)) rfl (pa_cons (pv 0) (pa_cons (pv 1) pa_nil))))
      (pss_cons (ps_set (i := 10) sc__law_order.nd rfl (Or.inl rfl) (pe_callF T.f__law_take (hr.mono (by first | decide | omega)) rfl (pa_cons (pv 0) (pa_cons (pv 1) pa_nil))))
      (pss_one (ps_asg (pe_tup (pa_cons (pe_ix (ix_listK (K := K) rfl) (pv 3) (pv 10) (fun _ _ => rfl)) (pa_cons (pe_ix (ix_listK (K := K) rfl) (pv 3) (pv 9) (fun _ _ => rfl)) pa_nil))) (pg_tupK (K := K) (n := 2) rfl rfl (pgs_cons (pg_sub (pv 3) (pv 9) set_list) (pgs_cons (pg_sub (pv 3) (pv 10) set_list) pgs_nil))))))))
      (pss_one (ps_ret (pe_callTy (call_tuple_ofK (K := K) rfl) rfl T.b_tuple (by decide +kernel) (pa_cons (pv 3) pa_nil))))) pss_nil)
      (pss_cons (ps_set (i := 4) sc__law_order.nd rfl (Or.inr rfl) (pe_callF T.f__law_take (hr.mono (by first | decide | omega)) rfl (pa_cons (pv 0) (pa_cons (pv 1) pa_nil))))
      (pss_cons (ps_comp (i := 5) sc__law_order.nd rfl rfl (N := (["_law_k", "_law_left", "_law_at", "_law_purse_here", "_law_n"] : List Str)) (ix := ([none, some 3, some 4, some 0, some 1] : List (Option Nat))) (comp_ok rfl rfl) rfl (pi_range1 rfl T.b_range (pa_cons (pv 1) pa_nil)) (fun _ _ _ _ => (pg_name (i := 0) (show List.Nodup (["_law_k", "_law_left", "_law_at", "_law_purse_here", "_law_n"] : List Str) from by decide +kernel) rfl (Or.inl rfl))) (fun _ _ _ _ => pif_nil) (fun _ _ _ _ => (pe_bmK (K := K) rfl PySem.F.plainAttrs_list PySem.F.slot_list_pop PySem.F.type_list_pop mt_popAt (pv 1) (pa_cons (pe_op op_mod (pe_op op_add (pv 2) (pe_callF T.f__law_take (hr.mono (by first | decide | omega)) rfl (pa_cons (pv 3) (pa_cons (pv 4) pa_nil)))) (pe_callB (call_lenK (K := K) rfl) rfl T.b_len (by decide +kernel) (pa_cons (pv 1) pa_nil))) pa_nil))))
      (pss_cons (ps_set (i := 6) sc__law_order.nd rfl (Or.inr rfl) pe_dnewK)
      (pss_cons (ps_for PassesOwn.never rfl (pi_range1 rfl T.b_range (pa_cons (pv 1) pa_nil)) (pg_name (i := 7) sc__law_order.nd rfl (Or.inl rfl)) (pss_one (ps_dput hu (pv 6) (pe_ix (ix_listK (K := K) rfl) (pv 5) (pv 7) (fun _ _ => rfl)) (pe_ix (ix_listK (K := K) rfl) (pv 5) (pe_op op_mod (pe_op op_add (pv 7) pe_int) (pv 1)) (fun _ _ => rfl)) rfl)))
      (pss_one (ps_ret (pe_callTy (call_tuple_ofK (K := K) rfl) rfl T.b_tuple (by decide +kernel) (pa_cons (pe_comp (N := (["_law_thing", "_law_goals"] : List Str)) (ix := ([none, some 6] : List (Option Nat))) (comp_ok rfl rfl) rfl (pi_range2 rfl T.b_range (pa_cons pe_int (pa_cons (pe_op op_add (pv 1) pe_int) pa_nil))) (fun _ _ _ _ => (pg_name (i := 0) (show List.Nodup (["_law_thing", "_law_goals"] : List Str) from by decide +kernel) rfl (Or.inl rfl))) (fun _ _ _ _ => pif_nil) (fun _ _ _ _ => (pe_dget hu (pv 1) (pv 0) (fun _ _ => rfl)))) pa_nil)))))))))))), ?_⟩
    refine ⟨_, rfl, p, c, 4, rfl, pu, by omega, by decide, by decide, fun r H1 r0 r1 pu1 s1 => ?_⟩
    refine ⟨_, rfl, _, _, rfl, rfl, .inr ⟨_, _, rfl, fun rg hrg => ⟨rg, _, _, rfl, upd_same, by omega, by omega, by omega, by omega, fun l hl => ?_⟩⟩⟩
    have sa : SameX p H (upd H1 rg (.rng 1 (n + 1))) := s1.trans (SameX.new hrg)
    have nl : H l = none := by
      cases e : H l with
      | none => rfl
      | some o =>
        by_cases z : l = p
        · obtain ⟨xs, e'⟩ := (pu1.upd (pu1.ne hrg) (o := .rng 1 (n + 1))).at
          rw [z, e'] at hl
          cases hl
        · rw [sa l o z e] at hl
          cases hl
    have pu2 : Purse (upd (upd H1 rg (.rng 1 (n + 1))) l (.lst ((ivl 1 (n + 1)).map V.int))) p (c + 1) := by
      have p2 := pu1.upd (pu1.ne hrg) (o := .rng 1 (n + 1))
      exact p2.upd (p2.ne hl)
    have npl : p ≠ l := pu.ne nl
    have s2 : SameX p H (upd (upd H1 rg (.rng 1 (n + 1))) l (.lst ((ivl 1 (n + 1)).map V.int))) := SameX.put sa nl
    have h2 : upd (upd H1 rg (.rng 1 (n + 1))) l (.lst ((ivl 1 (n + 1)).map V.int)) l = some (.lst ((ivl 1 (n + 1)).map V.int)) := upd_same
    generalize upd (upd H1 rg (.rng 1 (n + 1))) l (.lst ((ivl 1 (n + 1)).map V.int)) = H2 at pu2 s2 h2 ⊢
    clear sa s1 pu1 hl hrg
    have big : (100000 : Nat) ≤ sizeLine := by decide
    refine ⟨_, rfl, _, _, rfl, rfl, _, rfl, ite2 (fun _ => ?_) (fun _ => ?_)⟩
    · -- any order
      refine ⟨Nat.zero_le _, fun lf hlf => ?_⟩
      have nlf : l ≠ lf := ne_of_none h2 hlf
      have npf : p ≠ lf := pu2.ne hlf
      have hf : H lf = none := free_of s2 npf hlf
      refine ⟨_, rfl, _, rfl, by omega, by omega, ?_⟩
      refine for_range (fun i σ H' => ∃ fs ls v4 v5 v6 v7 v9 v10, σ = [some (.ref p), some (.int n), some (.int r), some (.ref l), v4, v5, v6, v7, some (.ref lf), v9, v10] ∧ SameX p H H' ∧ H' l = some (.lst (ls.map V.int)) ∧ H' lf = some (.lst (fs.map V.int)) ∧ fs.length = i ∧ Ord n (fs ++ ls) ∧ Purse H' p (c + 1 + i))
        ⟨[], ivl 1 (n + 1), _, _, _, _, _, _, rfl, SameX.put s2 hf, by rw [upd_ne nlf]; exact h2, upd_same, rfl, ord_plain n, pu2.upd npf⟩ ?_ ?_
      · rintro i σ H' hi ⟨fs, ls, v4, v5, v6, v7, v9, v10, rfl, s3, hl, hF, fl, o, pu3⟩
        have ol := o.length
        rw [List.length_append] at ol
        refine ⟨_, rfl, .inl ⟨rfl, _, SqL.of hF⟩, _, rfl, .inl ⟨rfl, _, SqL.of hl⟩, _, rfl, _, rfl, l, _, rfl, .inl (SqL.of hl), ?_⟩
        refine ⟨p, _, _, rfl, pu3, by omega, by rw [List.length_map]; omega, by rw [List.length_map]; omega, fun r3 H4 r30 r31 pu4 s4 => ?_⟩
        rw [List.length_map] at r31
        obtain ⟨y, hy⟩ := get_lt (ns := ls) (k := r3.toNat) (by omega)
        have hl4 := s4 l _ npl.symm hl
        have hF4 := s4 lf _ npf.symm hF
        refine ⟨l, _, r3, r3.toNat, _, rfl, rfl, hl4, by omega, by omega, (ixN_seq (ixN_lt r30 (by rw [List.length_map]; exact r31))).1, map_get hy, ?_⟩
        refine ⟨lf, fs.map V.int, _, rfl, rfl, by rw [upd_ne nlf.symm]; exact hF4, by rw [List.length_map]; omega, ?_⟩
        refine ⟨fs ++ [y], ls.eraseIdx r3.toNat, v4, v5, v6, _, v9, v10, rfl, SameX.put (SameX.put (s3.trans s4) nl) hf, ?_, ?_, ?_, pop_perm o hy, ?_⟩
        · rw [upd_ne nlf, upd_same, eraseIdx_map]
        · rw [upd_same, List.map_append]; rfl
        · rw [List.length_append, fl]; rfl
        · exact (pu4.upd npl).upd npf
      · rintro σ H' ⟨fs, ls, v4, v5, v6, v7, v9, v10, rfl, s3, hl, hF, fl, o, pu3⟩
        have ol := o.length
        rw [List.length_append] at ol
        have : ls = [] := List.length_eq_zero_iff.mp (by omega)
        subst this
        rw [List.append_nil] at o
        refine ⟨_, rfl, lf, _, rfl, .inl ⟨SqL.of hF, fun t ht => ?_⟩⟩
        have npt : p ≠ t := pu3.ne ht
        exact k t fs _ (free_of s3 npt ht) upd_same o ((pu3.upd npt).mono (by omega) (by omega)) (SameX.put s3 (free_of s3 npt ht))
    · refine ⟨_, rfl, rfl, _, rfl, ite2 (fun _ => ?_) (fun _ => ?_)⟩
      · -- few exchanges
        refine ⟨_, rfl, p, c + 1, 4, rfl, pu2, by omega, by decide, by decide, fun r2 H3 r20 r21 pu3 s3 => ⟨_, rfl, by omega, by omega, ?_⟩⟩
        refine for_range (fun i σ H' => ∃ ls v4 v5 v6 v7 v8 v9 v10, σ = [some (.ref p), some (.int n), some (.int r), some (.ref l), v4, v5, v6, v7, v8, v9, v10] ∧ SameX p H H' ∧ H' l = some (.lst (ls.map V.int)) ∧ Ord n ls ∧ Purse H' p (c + 2 + 2 * i))
          ⟨ivl 1 (n + 1), _, _, _, _, _, _, _, rfl, s2.trans s3, s3 l _ npl.symm h2, ord_plain n, pu3⟩ ?_ ?_
        · rintro i σ H' hi ⟨ls, v4, v5, v6, v7, v8, v9, v10, rfl, s4, hl, o, pu4⟩
          have ol := o.length
          refine ⟨_, rfl, _, rfl, p, _, _, rfl, pu4, by omega, by omega, by omega, fun a H5 a0 a1 pu5 s5 => ?_⟩
          refine ⟨_, rfl, _, rfl, p, _, _, rfl, pu5, by omega, by omega, by omega, fun b H6 b0 b1 pu6 s6 => ?_⟩
          have hl6 := s6 l _ npl.symm (s5 l _ npl.symm hl)
          obtain ⟨x, hx⟩ := get_lt (ns := ls) (k := a.toNat) (by omega)
          obtain ⟨y, hy⟩ := get_lt (ns := ls) (k := b.toNat) (by omega)
          refine ⟨_, rfl, _, rfl, l, _, _, _, rfl, rfl, SqL.of hl6, at_int b0 hy, _, rfl, _, rfl, l, _, _, _, rfl, rfl, SqL.of hl6, at_int a0 hx, (by show 2 ≤ sizeLine; decide), fun t ht => ?_⟩
          have nlt : l ≠ t := ne_of_none hl6 ht
          have npt : p ≠ t := pu6.ne ht
          refine ⟨t, _, rfl, SqT.of upd_same, rfl, _, _, rfl, _, rfl, _, rfl, l, _, _, a.toNat, rfl, rfl, (by rw [upd_ne nlt]; exact hl6), ixN_lt a0 (by rw [List.length_map]; omega), ?_⟩
          refine ⟨_, _, rfl, _, rfl, _, rfl, l, _, _, b.toNat, rfl, rfl, upd_same, ixN_lt b0 (by rw [List.length_set, List.length_map]; omega), rfl, ?_⟩
          refine ⟨(ls.set a.toNat y).set b.toNat x, v4, v5, v6, _, v8, _, _, rfl, SameX.put (SameX.put (SameX.put (s4.trans (s5.trans s6)) (free_of (s4.trans (s5.trans s6)) npt ht)) nl) nl, ?_, swap_perm o hx hy, ?_⟩
          · rw [upd_same, List.map_set, List.map_set]
          · exact ((((pu6.upd npt).upd npl).upd npl)).mono (by omega) (by omega)
        · rintro σ H' ⟨ls, v4, v5, v6, v7, v8, v9, v10, rfl, s4, hl, o, pu4⟩
          refine ⟨_, rfl, l, _, rfl, .inl ⟨SqL.of hl, fun t ht => ?_⟩⟩
          have npt : p ≠ t := pu4.ne ht
          exact k t ls _ (free_of s4 npt ht) upd_same o ((pu4.upd npt).mono (by omega) (by omega)) (SameX.put s4 (free_of s4 npt ht))
      · -- one long round
        refine ⟨_, rfl, _, rfl, p, _, _, rfl, pu2, by omega, by omega, by omega, fun a H3 a0 a1 pu3 s3 => ?_⟩
        have hl3 := s3 l _ npl.symm h2
        refine ⟨_, rfl, _, rfl, by omega, by omega, compR (k := 0) (fun i ys σ' H' => ∃ fs ls v, ys = fs.map V.int ∧ σ' = [v, some (.ref l), some (.int a), some (.ref p), some (.int n)] ∧ SameX p H H' ∧ H' l = some (.lst (ls.map V.int)) ∧ fs.length = i ∧ Ord n (fs ++ ls) ∧ Purse H' p (c + 2 + i)) (by omega)
          ⟨[], ivl 1 (n + 1), none, rfl, rfl, s2.trans s3, hl3, rfl, ord_plain n, pu3⟩ (fun i ys σ' H' ⟨fs, _, _, e, _, _, _, e2, _⟩ => by rw [e, List.length_map, e2]; exact Nat.le_refl _) ?_ ?_⟩
        · rintro i ys σ' H' R hi ⟨fs, ls, v, rfl, rfl, s4, hl, fl, o, pu4⟩ done
          have ol := o.length
          rw [List.length_append] at ol
          refine ⟨_, rfl, .inl ⟨rfl, _, SqL.of hl⟩, _, rfl, _, rfl, _, rfl, p, _, _, rfl, pu4, by omega, by omega, by omega, fun r3 H5 r30 r31 pu5 s5 => ?_⟩
          have hl5 := s5 l _ npl.symm hl
          have lpos : (0 : Int) < ((ls.map V.int).length : Int) := by rw [List.length_map]; omega
          refine ⟨_, _, rfl, rfl, _, rfl, l, _, rfl, .inl (SqL.of hl5), _, _, rfl, rfl, lpos, ?_⟩
          have m0 := Int.emod_nonneg (a + r3) (Int.ne_of_gt lpos)
          have m1 := Int.emod_lt_of_pos (a + r3) lpos
          obtain ⟨m, em⟩ : ∃ m, (a + r3) % ((ls.map V.int).length : Int) = m := ⟨_, rfl⟩
          rw [em] at m0 m1
          obtain ⟨y, hy⟩ := get_lt (ns := ls) (k := m.toNat) (by rw [List.length_map] at m1; omega)
          refine ⟨l, _, m, m.toNat, _, rfl, (by rw [← em]), hl5, by omega, (by rw [List.length_map] at m1; omega), (ixN_seq (ixN_lt m0 m1)).1, map_get hy, done _ _ _ ?_⟩
          refine ⟨fs ++ [y], ls.eraseIdx m.toNat, _, by rw [List.map_append]; rfl, rfl, SameX.put (s4.trans s5) nl, ?_, ?_, pop_perm o hy, pu5.upd npl⟩
          · rw [upd_same, eraseIdx_map]
          · rw [List.length_append, fl]; rfl
        · rintro ys σ' H' ps ⟨fs, ls, v, rfl, rfl, s4, hl, fl, o, pu4⟩ hps
          have ol := o.length
          rw [List.length_append] at ol
          have : ls = [] := List.length_eq_zero_iff.mp (by omega)
          subst this
          rw [List.append_nil] at o
          have np1 : p ≠ ps := pu4.ne hps
          have f1 : H ps = none := free_of s4 np1 hps
          have s5 := SameX.put s4 f1 (o := .lst (fs.map V.int))
          have pu5 := pu4.upd np1 (o := .lst (fs.map V.int))
          have h5 : upd H' ps (.lst (fs.map V.int)) ps = some (.lst (fs.map V.int)) := upd_same
          generalize upd H' ps (.lst (fs.map V.int)) = H5 at s5 pu5 h5 ⊢
          refine fun pd hpd => ?_
          have np2 : p ≠ pd := pu5.ne hpd
          have f2 : H pd = none := free_of s5 np2 hpd
          have n12 : ps ≠ pd := ne_of_none h5 hpd
          have nz : ∀ {i : Nat} {x : Int}, fs[i]? = some x → nxt fs x = fs.getD ((i + 1) % fs.length) 0 := fun h => nxt_at o.nodup h
          refine ⟨_, rfl, _, rfl, by omega, by omega, ?_⟩
          refine for_range (fun i σ H' => ∃ kvs v7 v8 v9 v10, σ = [some (.ref p), some (.int n), some (.int r), some (.ref l), some (.int a), some (.ref ps), some (.ref pd), v7, v8, v9, v10] ∧ SameX p H H' ∧ H' ps = some (.lst (fs.map V.int)) ∧ H' pd = some (.dK kvs) ∧ kvs.length ≤ i ∧ (∀ j x, j < i → fs[j]? = some x → valV kvs (Sum.inl x : Key) = some (.int (nxt fs x))) ∧ Purse H' p (c + 200))
            ⟨[], _, _, _, _, rfl, SameX.put s5 f2, by rw [upd_ne n12]; exact h5, upd_same, Nat.le_refl _, fun j x h => absurd h (Nat.not_lt_zero _), (pu5.upd np2).mono (by omega) (by omega)⟩ ?_ ?_
          · rintro i σ H' hi ⟨kvs, v7, v8, v9, v10, rfl, s6, h6, hd6, kl, kv, pu6⟩
            obtain ⟨x, hx⟩ := get_lt (ns := fs) (k := i) (by omega)
            have lpos : (0 : Int) < n := by omega
            have fln : (fs.length : Int) = n := by omega
            have ei : ((i : Int) + 1) % n = (((i + 1) % fs.length : Nat) : Int) := by rw [← fln]; rfl
            obtain ⟨y, hy⟩ := get_lt (ns := fs) (k := (i + 1) % fs.length) (Nat.mod_lt _ (by omega))
            have hy' : fs[(((i : Int) + 1) % n).toNat]? = some y := by rw [ei, Int.toNat_natCast]; exact hy
            have hx' : fs[(0 + (i : Int)).toNat]? = some x := by rw [Int.zero_add, Int.toNat_natCast]; exact hx
            have ny : nxt fs x = y := by rw [nz hx, List.getD_eq_getElem?_getD, hy]; rfl
            refine ⟨_, rfl, _, rfl, _, _, rfl, rfl, _, rfl, _, _, rfl, rfl, lpos, ps, _, _, _, rfl, rfl, SqL.of h6, at_int (Int.emod_nonneg _ (by omega)) (by rw [Int.zero_add]; exact hy'), ?_⟩
            refine ⟨_, rfl, _, rfl, _, rfl, ps, _, _, _, rfl, rfl, SqL.of h6, at_int (by omega) hx', pd, _, rfl, DPut.k (k := Sum.inl x) hd6 (by omega), ?_⟩
            refine ⟨putK kvs (Sum.inl x) (.int y), _, v8, v9, v10, rfl, SameX.put s6 f2, by rw [upd_ne n12]; exact h6, upd_same, ?_, ?_, pu6.upd np2⟩
            · have := length_putK kvs (Sum.inl x : Key) (.int y)
              omega
            · intro j z hj hz
              rw [valV_put]
              by_cases e : z = x
              · subst e
                rw [if_pos rfl, ny]
              · rw [if_neg (by intro q; apply e; cases q; rfl)]
                have : j ≠ i := by intro q; subst q; rw [hx] at hz; cases hz; exact e rfl
                exact kv j z (by omega) hz
          · rintro σ H' ⟨kvs, v7, v8, v9, v10, rfl, s6, h6, hd6, kl, kv, pu6⟩
            refine ⟨_, rfl, _, _, rfl, rfl, 1, n + 1, rfl, ⟨by decide, by decide, by omega, by omega⟩, compR (k := 0) (fun i ys σ' H'' => ys = ((ivl 1 (n + 1)).take i).map (fun x => V.int (nxt fs x)) ∧ (∃ v, σ' = [v, some (.ref pd)]) ∧ H'' = H') (by omega) ⟨rfl, ⟨none, rfl⟩, rfl⟩
              (fun i ys σ' H'' q => by rw [q.1, List.length_map, List.length_take]; omega) ?_ ?_⟩
            · rintro i ys σ' H'' R hi ⟨rfl, ⟨v, rfl⟩, rfl⟩ done
              have hin : 1 + (i : Int) ∈ fs := o.mem.mpr (by omega)
              obtain ⟨j, hj, hj2⟩ := idx_of hin
              refine ⟨_, rfl, _, rfl, pd, .int (nxt fs (1 + (i : Int))), rfl, ?_, done _ _ _ ⟨?_, ⟨_, rfl⟩, rfl⟩⟩
              · have q := DGet.k (k := (Sum.inl (1 + (i : Int)) : Key)) hd6
                rw [kv j _ (by omega) hj] at q
                exact q
              · exact (take_succ_map (fun x => V.int (nxt fs x)) (get_ivl hi)).symm
            · rintro ys σ' H'' pl ⟨rfl, _, rfl⟩ hpl
              have np3 : p ≠ pl := pu6.ne hpl
              have f3 := free_of s6 np3 hpl
              refine ⟨pl, _, rfl, .inl ⟨SqL.of upd_same, fun t ht => ?_⟩⟩
              have pu7 := pu6.upd np3 (o := .lst (((ivl 1 (n + 1)).take (n + 1 - 1).toNat).map (fun x => V.int (nxt fs x))))
              have s7 := SameX.put s6 f3 (o := .lst (((ivl 1 (n + 1)).take (n + 1 - 1).toNat).map (fun x => V.int (nxt fs x))))
              have npt : p ≠ t := pu7.ne ht
              refine k t ((ivl 1 (n + 1)).map (nxt fs)) _ (free_of s7 npt ht) ?_ (nxt_ord o) ((pu7.upd npt).mono (by omega) (by omega)) (SameX.put s7 (free_of s7 npt ht))
              rw [upd_same, List.map_map, List.take_of_length_le (by rw [ivl_length]; exact Nat.le_refl _)]
              rfl
end
end Sw
namespace Sw
open PySem L2
section
variable {P : Program} {w : World} {K : PySem.W.Frag} {mg : Str → Option Value} {base : Heap}
theorem sc__law_rounds : FnScope ["_law_order_here", "_law_found", "_law_met", "_law_first", "_law_some"] ["_law_order_here"] (defScope (top 74)) := ⟨rfl, rfl, rfl, by decide +kernel, rfl, by decide +kernel, by decide +kernel⟩
theorem ok_lrounds {f : Addr} {fd : FuncData} (F : Fun K "_law_rounds" "_law_rounds" (top 74) f fd) (T : T1 mg K) : FnOk P w K mg base CX0 1 f fd ["_law_order_here"] spRounds := by
  refine F.ok sc__law_rounds (fun vs H Q E h => ?_) (fun cdv A outer s H vs Q E hr h => ?_)
  · obtain ⟨t, n, xs, rfl, _⟩ := h
    rfl
  · obtain ⟨t, n, xs, rfl, ht, o, hn, k⟩ := h
    refine ⟨_, (pss_cons (ps_set (i := 1) sc__law_rounds.nd rfl (Or.inl rfl) (pe_lst pa_nil))
      (pss_cons (ps_set (i := 2) sc__law_rounds.nd rfl (Or.inl rfl) (pe_lst pa_nil))
      (pss_cons (ps_for PassesOwn.never rfl (pi_range2 rfl T.b_range (pa_cons pe_int (pa_cons (pe_op op_add (pe_callB (call_lenK (K := K) rfl) rfl T.b_len (by decide +kernel) (pa_cons (pv 0) pa_nil)) pe_int) pa_nil))) (pg_name (i := 3) sc__law_rounds.nd rfl (Or.inl rfl)) (pss_one (ps_if (pt_cmpR (op_notInK (K := K) rfl) (pv 3) (pv 2) rfl) (pss_cons (ps_set (i := 4) sc__law_rounds.nd rfl (Or.inl rfl) (pe_lst (pa_cons (pv 3) pa_nil)))
      (pss_cons (ps_while PassesOwn.never (pt_cmpR op_ne (pe_ix (ix_tupK (K := K) rfl) (pv 0) (pe_op op_sub (pe_ix (ix_listK (K := K) rfl) (pv 4) (pe_un un_neg pe_int) (fun _ _ => rfl)) pe_int) (fun _ _ => rfl)) (pv 3) (nomark _)) (pss_one (ps_expr (pe_bmK (K := K) rfl PySem.F.plainAttrs_list PySem.F.slot_list_append PySem.F.type_list_append mt_append (pv 4) (pa_cons (pe_ix (ix_tupK (K := K) rfl) (pv 0) (pe_op op_sub (pe_ix (ix_listK (K := K) rfl) (pv 4) (pe_un un_neg pe_int) (fun _ _ => rfl)) pe_int) (fun _ _ => rfl)) pa_nil)))))
      (pss_cons (ps_set (i := 2) sc__law_rounds.nd rfl (Or.inl rfl) (pe_op op_cat (pv 2) (pv 4)))
      (pss_one (ps_expr (pe_bmK (K := K) rfl PySem.F.plainAttrs_list PySem.F.slot_list_append PySem.F.type_list_append mt_append (pv 1) (pa_cons (pv 4) pa_nil))))))) pss_nil)))
      (pss_one (ps_ret (pv 1)))))), ?_⟩
    have ol := o.length
    have big : (10000000 : Nat) ≤ sizeLine := by decide
    refine ⟨Nat.zero_le _, fun lf hlf => ⟨Nat.zero_le _, fun lm hlm => ?_⟩⟩
    have nfm : lf ≠ lm := by intro z; subst z; rw [upd_same] at hlm; cases hlm
    have s1 : Same H (upd H lf (.lst [])) := Same.new hlf
    have s2 := s1.trans (Same.new (o := .lst []) hlm)
    refine ⟨_, rfl, t, _, rfl, .inr (SqT.of (s2 _ _ ht)), _, _, rfl, rfl, 1, _, rfl, ⟨by decide, by decide, by omega, by rw [List.length_map]; omega⟩, ?_⟩
    refine for_range (fun i σ H' => ∃ lm ws ms v3 v4, σ = [some (.ref t), some (.ref lf), some (.ref lm), v3, v4] ∧ Same H H' ∧ lf ≠ lm ∧ H' lf = some (.lst ws) ∧ H' lm = some (.lst (ms.map V.int)) ∧ Lsts H' ws ((((ivl 1 (n + 1)).take i).filter (least xs)).map (orb xs)) ∧ Fresh H ws ∧ V.ref lf ∉ ws ∧ ws.length ≤ i ∧ ms.length ≤ i * 1000 ∧ ∀ y, y ∈ ms ↔ ∃ m ∈ ((ivl 1 (n + 1)).take i).filter (least xs), y ∈ orb xs m)
      ⟨lm, [], [], _, _, rfl, s2, nfm, by rw [upd_ne nfm, upd_same], upd_same, .nil, Fresh.nil, by simp, Nat.le_refl _, Nat.le_refl _, by intro y; simp⟩ ?_ ?_
    · rintro i σ H' hi ⟨lm, ws, ms, v3, v4, rfl, s3, nfm, hf3, hm3, x3, fr3, nf3, wl, ml, mm⟩
      rw [List.length_map] at hi
      have hi' : (i : Int) < n := by omega
      have ef : ((ivl 1 (n + 1)).take (i + 1)) = (ivl 1 (n + 1)).take i ++ [1 + (i : Int)] := by rw [List.take_succ, get_ivl (by omega)]; rfl
      have b1 : (1 : Int) ≤ 1 + i := by omega
      have b2 : (1 : Int) + i ≤ n := by omega
      have ml2 := met_least o hi'
      refine ⟨_, rfl, _, rfl, lm, _, rfl, .inl (SqL.of hm3), rfl, flat_ints ms, _, rfl, ?_⟩
      show if (!inV (.int (1 + (i : Int))) (ms.map V.int)) = true then _ else _
      rw [inV_int]
      refine ite2 (fun c => ?_) (fun c => ?_)
      · have c : ¬ (1 + (i : Int)) ∈ ms := by simpa using c
        have hL : least xs (1 + i) = true := ml2.mpr (fun z => c ((mm _).mpr z))
        refine ⟨_, rfl, (by show 1 ≤ sizeLine; decide), fun la hla => ?_⟩
        have fla : H la = none := s3.free hla
        have nfa : lf ≠ la := ne_of_none hf3 hla
        have nma : lm ≠ la := ne_of_none hm3 hla
        have pl := per_le o b1 b2
        have naw : V.ref la ∉ ws := fun z => by
          obtain ⟨ns, e⟩ := x3.mem z
          rw [hla] at e; cases e
        refine ⟨fun m σ H2 => ∃ j, m = per xs (1 + i) - j ∧ 1 ≤ j ∧ j ≤ per xs (1 + i) ∧ σ = [some (.ref t), some (.ref lf), some (.ref lm), some (.int (1 + (i : Int))), some (.ref la)] ∧ H2 = upd H' la (.lst (((List.range j).map fun k => itn (ld xs) k (1 + i)).map V.int)), ⟨_, 1, rfl, Nat.le_refl _, by unfold per; omega, rfl, rfl⟩, ?_⟩
        rintro m σ H2 ⟨j, rfl, j1, j2, rfl, rfl⟩
        have ir := itn_in o b1 b2 (j - 1)
        have s4 : Same H (upd H' la (.lst (((List.range j).map fun k => itn (ld xs) k (1 + i)).map V.int))) := Same.put s3 fla
        have gl : atI (((List.range j).map fun k => itn (ld xs) k (1 + (i : Int))).map V.int) (-1) = some (.int (itn (ld xs) (j - 1) (1 + i))) := by
          refine at_last (k := j - 1) (by rw [List.length_map, List.length_range]; omega) ?_
          rw [List.getElem?_map, List.getElem?_range (by omega)]
          rfl
        have gt : atI (xs.map V.int) (itn (ld xs) (j - 1) (1 + i) - 1) = some (.int (itn (ld xs) j (1 + i))) := by
          have q := at_int (ns := xs) (i := itn (ld xs) (j - 1) (1 + i) - 1) (by omega) (ld_get o ir.1 ir.2)
          rw [q]
          obtain ⟨j', rfl⟩ : ∃ j', j = j' + 1 := ⟨j - 1, by omega⟩
          rfl
        refine ⟨_, rfl, _, rfl, 1, rfl, la, _, _, _, rfl, rfl, SqL.of upd_same, gl, _, _, rfl, rfl, t, _, _, _, rfl, rfl, SqT.of (s4 _ _ ht), gt, _, rfl, rfl, _, rfl, ite2 (fun c2 => ?_) (fun c2 => ?_)⟩
        · have c2 : itn (ld xs) j (1 + i) ≠ 1 + (i : Int) := by simpa using c2
          have lt : j < per xs (1 + i) := by
            by_cases e : j = per xs (1 + i)
            · rw [e] at c2; exact absurd (per_eq o b1 b2) c2
            · omega
          refine ⟨fun σ' H2 => σ' = [some (.ref t), some (.ref lf), some (.ref lm), some (.int (1 + (i : Int))), some (.ref la)] ∧ H2 = upd H' la (.lst (((List.range (j + 1)).map fun k => itn (ld xs) k (1 + i)).map V.int)), fun σ' H2 ⟨e1, e2⟩ => ⟨_, (by show per xs (1 + i) - (j + 1) < _; omega), j + 1, rfl, by omega, by omega, e1, e2⟩, ?_⟩
          refine ⟨_, rfl, .inl ⟨rfl, _, SqL.of upd_same⟩, _, rfl, _, rfl, 1, rfl, la, _, _, _, rfl, rfl, SqL.of upd_same, gl, _, _, rfl, rfl, t, _, _, _, rfl, rfl, SqT.of (s4 _ _ ht), gt, la, _, _, rfl, rfl, upd_same, by simp; omega, rfl, ?_⟩
          rw [upd_upd, List.range_succ, List.map_append, List.map_append]
          rfl
        · have c2 : itn (ld xs) j (1 + i) = 1 + (i : Int) := by simpa using c2
          have e : j = per xs (1 + i) := by
            apply Classical.byContradiction
            intro z
            exact per_ne (by omega) (by omega) c2
          subst e
          have hla4 : upd H' la (.lst (((List.range (per xs (1 + i))).map fun k => itn (ld xs) k (1 + i)).map V.int)) la = some (.lst ((orb xs (1 + i)).map V.int)) := upd_same
          have hf4 : upd H' la (.lst (((List.range (per xs (1 + i))).map fun k => itn (ld xs) k (1 + i)).map V.int)) lf = some (.lst ws) := by rw [upd_ne nfa]; exact hf3
          have hm4 : upd H' la (.lst (((List.range (per xs (1 + i))).map fun k => itn (ld xs) k (1 + i)).map V.int)) lm = some (.lst (ms.map V.int)) := by rw [upd_ne nma]; exact hm3
          have x4 := x3.keep (Same.new (o := .lst (((List.range (per xs (1 + i))).map fun k => itn (ld xs) k (1 + i)).map V.int)) hla)
          generalize upd H' la (.lst (((List.range (per xs (1 + i))).map fun k => itn (ld xs) k (1 + i)).map V.int)) = H4 at s4 hla4 hf4 hm4 x4 ⊢
          have ol2 := orb_length xs (1 + i)
          refine ⟨_, rfl, _, rfl, lm, la, _, _, rfl, rfl, hm4, hla4, by rw [List.length_map, List.length_map]; omega, fun l5 f5 => ?_⟩
          have nf5 : lf ≠ l5 := ne_of_none hf4 f5
          refine ⟨_, rfl, .inl ⟨rfl, _, SqL.of (by rw [upd_ne nf5]; exact hf4)⟩, _, rfl, lf, _, _, rfl, rfl, (by rw [upd_ne nf5]; exact hf4), by omega, ?_⟩
          have s5 := s4.trans (Same.new (o := .lst (ms.map V.int ++ (orb xs (1 + i)).map V.int)) f5)
          refine ⟨l5, ws ++ [.ref la], ms ++ orb xs (1 + i), _, _, rfl, Same.put s5 hlf, nf5, upd_same, ?_, ?_, fr3.snoc x3 hla fla, ?_, ?_, ?_, ?_⟩
          · rw [upd_ne nf5.symm, upd_same, List.map_append]
          · rw [ef, List.filter_append, List.map_append, List.filter_cons_of_pos hL]
            refine Lsts.off ((x4.keep (Same.new f5)).snoc (by rw [upd_ne (ne_of_none hla4 f5)]; exact hla4)) ?_
            intro z
            rcases List.mem_append.mp z with z | z
            · exact nf3 z
            · exact nfa (by simpa using z)
          · intro z
            rcases List.mem_append.mp z with z | z
            · exact nf3 z
            · exact nfa (by simpa using z)
          · rw [List.length_append, List.length_singleton]; omega
          · rw [List.length_append]; omega
          · intro y
            rw [ef, List.filter_append, List.filter_cons_of_pos hL, List.filter_nil, List.mem_append, mm]
            constructor
            · rintro (⟨m, h1, h2⟩ | h)
              · exact ⟨m, List.mem_append_left _ h1, h2⟩
              · exact ⟨1 + i, List.mem_append_right _ (List.mem_singleton.mpr rfl), h⟩
            · rintro ⟨m, h1, h2⟩
              rcases List.mem_append.mp h1 with z | z
              · exact .inl ⟨m, z, h2⟩
              · rw [List.mem_singleton.mp z] at h2; exact .inr h2
      · have c : (1 + (i : Int)) ∈ ms := by simpa using c
        have hL : least xs (1 + i) = false := by
          cases e : least xs (1 + (i : Int)) with
          | false => rfl
          | true => exact absurd ((mm _).mp c) (ml2.mp e)
        have e2 : ((ivl 1 (n + 1)).take (i + 1)).filter (least xs) = ((ivl 1 (n + 1)).take i).filter (least xs) := by
          rw [ef, List.filter_append, List.filter_cons_of_neg (by rw [hL]; decide), List.filter_nil, List.append_nil]
        refine ⟨lm, ws, ms, _, _, rfl, s3, nfm, hf3, hm3, ?_, fr3, nf3, by omega, by omega, ?_⟩
        · rw [e2]; exact x3
        · rw [e2]; exact mm
    · rintro σ H' ⟨lm, ws, ms, v3, v4, rfl, s3, nfm, hf3, hm3, x3, fr3, nf3, wl, ml, mm⟩
      have e3 : (ivl 1 (n + 1)).take (((xs.map V.int).length : Int) + 1 - 1).toNat = ivl 1 (n + 1) := List.take_of_length_le (by rw [ivl_length, List.length_map]; omega)
      rw [e3] at x3
      exact ⟨_, rfl, k lf ws H' hlf hf3 x3 fr3 nf3 s3⟩
end
end Sw
namespace Sw
open PySem L2
def rowD (r : List (Int × Int)) : PyData := .list (r.map fun e => .tuple [.int e.1, .int e.2])
def mvsD (ms : List (Int × Str)) : PyData := .list (ms.map fun m => .tuple [.int m.1, .str m.2])
theorem exs_D {H : Hp} : ∀ {vs : List V} {r : List (Int × Int)}, Exs H vs r → DTs H (fun _ => True) vs (r.map fun e => .tuple [.int e.1, .int e.2])
  | _, _, .nil => .nil
  | _, _, .cons h x => .cons (.tup h trivial (.cons (.int _) (.cons (.int _) .nil))) (exs_D x)
theorem mvs_D {H : Hp} : ∀ {vs : List V} {r : List (Int × Str)}, Mvs H vs r → DTs H (fun _ => True) vs (r.map fun m => .tuple [.int m.1, .str m.2])
  | _, _, .nil => .nil
  | _, _, .cons h x => .cons (.tup h trivial (.cons (.int _) (.cons (.str _) .nil))) (mvs_D x)
theorem isrow_D {n : Int} {r : List (Int × Int)} (g : Good n r) (l : r.length ≤ 60) : isrow n (rowD r) = true := by
  show (decide ((r.map fun e => PyData.tuple [.int e.1, .int e.2]).length ≤ 60) && (r.map fun e => PyData.tuple [.int e.1, .int e.2]).all (isex n)) = true
  rw [Bool.and_eq_true, List.length_map, List.all_eq_true]
  refine ⟨decide_eq_true l, fun d hd => ?_⟩
  obtain ⟨e, he, rfl⟩ := List.mem_map.mp hd
  have := g e he
  show ((decide (1 ≤ e.1 ∧ e.1 ≤ n) && decide (1 ≤ e.2 ∧ e.2 ≤ n)) && decide (e.1 < e.2)) = true
  rw [decide_eq_true (by omega), decide_eq_true (by omega), decide_eq_true (by omega)]
  rfl
theorem rowOf_D (r : List (Int × Int)) : rowOf (rowD r) = r := by
  show (r.map fun e => PyData.tuple [.int e.1, .int e.2]).map exOf = r
  rw [List.map_map]
  exact List.map_id r
theorem mvsOf_D (ms : List (Int × Str)) : mvsOf (mvsD ms) = ms := by
  show (ms.map fun m => PyData.tuple [.int m.1, .str m.2]).map mvOf = ms
  rw [List.map_map]
  exact List.map_id ms
theorem iswalk_D (ms : List (Int × Str)) : iswalk (mvsD ms) = true := by
  show (ms.map fun m => PyData.tuple [.int m.1, .str m.2]).all ismv = true
  rw [List.all_eq_true]
  intro d hd
  obtain ⟨m, _, rfl⟩ := List.mem_map.mp hd
  rfl
theorem walkH_iff {n : Int} {r q : List (Int × Int)} {ms : List (Int × Str)} (n1 : 1 ≤ n) (n2 : n ≤ 12) (gr : Good n r) (gq : Good n q) (lr : r.length ≤ 60) (lq : q.length ≤ 60) : WalkH (.int n) (rowD r) (mvsD ms) (rowD q) ↔ walkM r ms = some q := by
  unfold WalkH
  constructor
  · rintro ⟨i, _, _, _, _, _, _, h⟩
    rwa [rowOf_D, mvsOf_D, rowOf_D] at h
  · intro h
    exact ⟨n, rfl, n1, n2, isrow_D gr lr, isrow_D gq lq, iswalk_D ms, by rw [rowOf_D, mvsOf_D, rowOf_D]; exact h⟩
theorem paperD {H : Hp} {u l m k : Addr} {n : Int} {es ws fs : List V} {r q : List (Int × Int)} {ms : List (Int × Str)} (hu : H u = some (.tup [.str (Str.ofString "walk"), .int n, .ref l, .ref m, .ref k])) (hl : H l = some (.lst es)) (x : Exs H es r) (hm : H m = some (.lst ws)) (mv : Mvs H ws ms) (hk : H k = some (.lst fs)) (y : Exs H fs q) : DT H (fun _ => True) (.ref u) (.tuple [.str (Str.ofString "walk"), .int n, rowD r, mvsD ms, rowD q]) :=
  .tup hu trivial (.cons (.str _) (.cons (.int n) (.cons (.lst hl trivial (exs_D x)) (.cons (.lst hm trivial (mvs_D mv)) (.cons (.lst hk trivial (exs_D y)) .nil)))))
theorem few_row {r : List (Int × Int)} (l : r.length ≤ 1000) : Few (rowD r) := ⟨fun ds e => (by cases e), fun ds e => (by cases e; rw [List.length_map]; exact l)⟩
theorem few_mvs {ms : List (Int × Str)} (l : ms.length ≤ 1000) : Few (mvsD ms) := ⟨fun ds e => (by cases e), fun ds e => (by cases e; rw [List.length_map]; exact l)⟩
theorem paper_is {n : Int} {r q : List (Int × Int)} {ms : List (Int × Str)} (n1 : 1 ≤ n) (n2 : n ≤ 12) (gr : Good n r) (gq : Good n q) (lr : r.length ≤ 60) (lq : q.length ≤ 60) : (isPaper (.tuple [.str (Str.ofString "walk"), .int n, rowD r, mvsD ms, rowD q]) && g65 (.tuple [.str (Str.ofString "walk"), .int n, rowD r, mvsD ms, rowD q])) = decide (walkM r ms = some q) := by
  have e1 : isPaper (.tuple [.str (Str.ofString "walk"), .int n, rowD r, mvsD ms, rowD q]) = true := rfl
  rw [e1, Bool.true_and, Bool.eq_iff_iff]
  show @decide _ (Classical.propDecidable _) = true ↔ _
  rw [@decide_eq_true_iff _ (Classical.propDecidable _), decide_eq_true_iff]
  exact walkH_iff n1 n2 gr gq lr lq
theorem mv_ne {n : Int} {xs : List Int} {row : List (Int × Int)} (h : LstR n xs row) {a : Nat} (ha : a + 1 < row.length) (f : Bool) : mvM row a f ≠ row := by
  intro z
  obtain ⟨A, s, t, B, rfl, rfl⟩ := row_split ha
  rw [mv_at] at z
  have z := List.append_cancel_left (by rw [List.append_assoc] at z; exact z : A ++ (prM s t f ++ B) = A ++ s :: t :: B)
  have est : s = t := by
    cases f
    · have z : [car t s, s] ++ B = s :: t :: B := z
      injection z with _ z
      injection z with z _
    · have z : [t, car s t] ++ B = s :: t :: B := z
      injection z with z _
      exact z.symm
  subst est
  have g : Good n (A ++ B) := fun e he => h.good e (by
    rcases List.mem_append.mp he with q | q
    · exact List.mem_append_left _ q
    · exact List.mem_append_right _ (List.mem_cons_of_mem _ (List.mem_cons_of_mem _ q)))
  have el : ledM n (A ++ B) = xs := by
    rw [← h.led]
    unfold ledM
    refine List.map_congr_left fun x _ => ?_
    rw [go_append, go_append]
    show go B (go A x) = go B (swp (swp (go A x) s) s)
    rw [swp_swp]
  have := cnt_ge h.n0 g
  rw [el] at this
  have hl := h.len
  rw [List.length_append] at this hl
  rw [List.length_cons, List.length_cons] at hl
  omega
theorem row_nice (r : List (Int × Int)) : Nice 2 (rowD r) := nice_list fun d hd => by
  obtain ⟨p, _, rfl⟩ := List.mem_map.mp hd
  exact nice_tuple fun z hz => by
    rcases List.mem_cons.mp hz with rfl | hz
    · exact nice_int _
    · rw [List.mem_singleton.mp hz]; exact nice_int _
theorem neH8 {K : PySem.W.Frag} {H : Hp} {l m a b c d : Addr} {e1 e2 : List V} {r1 r2 : List (Int × Int)} {Q : VK} (hl : H l = some (.lst [.ref a, .ref b])) (hm : H m = some (.lst [.ref c, .ref d])) (ha : H a = some (.lst e1)) (hb : H b = some (.lst e2)) (hc : H c = some (.lst e1)) (hd : H d = some (.lst e2)) (x1 : Exs H e1 r1) (x2 : Exs H e2 r2) (q : Q (.bl false) H) : rNeD K (.ref l) (.ref m) H Q := by
  have nc : Nice 3 (.list [rowD r1, rowD r2]) := nice_list fun d hd => by
    rcases List.mem_cons.mp hd with rfl | hd
    · exact row_nice r1
    · rw [List.mem_singleton.mp hd]; exact row_nice r2
  refine ⟨fun _ => True, .list [rowD r1, rowD r2], .list [rowD r1, rowD r2], .lst (SqL.of hl) True.intro (.cons (.lst (SqL.of ha) True.intro x1.dat) (.cons (.lst (SqL.of hb) True.intro x2.dat) .nil)), .lst (SqL.of hm) True.intro (.cons (.lst (SqL.of hc) True.intro x1.dat) (.cons (.lst (SqL.of hd) True.intro x2.dat) .nil)), nc.lay, nc.lay, by have := nc.dp; omega, ?_⟩
  rw [PySem.SeqAt.eqv_refl _ nc.lay]
  exact q
theorem ord_long {n : Int} (n1 : 1 ≤ n) : Ord n (ivl 2 (n + 1) ++ [1]) := by
  have e : ivl 1 (n + 1) = 1 :: ivl 2 (n + 1) := by
    apply List.ext_getElem?
    intro i
    cases i with
    | zero => rw [get_ivl (lo := 1) (hi := n + 1) (i := 0) (by omega)]; rfl
    | succ i =>
      rw [List.getElem?_cons_succ]
      by_cases c : i < (n + 1 - 2).toNat
      · rw [get_ivl (by omega), get_ivl c]
        congr 1
        omega
      · rw [List.getElem?_eq_none (by rw [ivl_length]; omega), List.getElem?_eq_none (by rw [ivl_length]; omega)]
  unfold Ord
  rw [e]
  exact List.perm_append_singleton 1 _
end Sw
namespace Sw
open PySem L2
structure TL (P : Program) (w : World) (K : PySem.W.Frag) (mg : Str → Option Value) (base : Heap) (CN CU : Addr) : Prop extends T1 mg K where
  b_min : mg "min" = none
  b_max : mg "max" = none
  f__law_purse : FnAt P w K mg base "_law_purse" 1 ["_law_script", "_law_at"] (spPurse K)
  f__law_take : FnAt P w K mg base "_law_take" 1 ["_law_purse_here", "_law_many"] spTake
  f__law_order : FnAt P w K mg base "_law_order" 3 ["_law_purse_here", "_law_n"] spOrder
  f__law_least_row : FnAt P w K mg base "_law_least_row" 2 ["_law_purse_here", "_law_order_here"] spLsR
  f__law_end : FnAt P w K mg base "_law_end" 2 ["_law_row", "_law_moves"] spLend
  f_between : FnAtX P w K mg base "between" 6 ["n", "one", "other"] (spBw CN CU)
  f_holds : FnAt P w K mg base "holds" 10 ["paper"] (spHolds g65 R65)
theorem walk_ways : ∀ {ms : List (Int × Str)} {row r : List (Int × Int)}, walkM row ms = some r → ∀ m ∈ ms, PyData.strOk m.2 = true
  | [], _, _, _ => fun m hm => nomatch hm
  | m :: ms, row, r, h => fun k hk => by
    obtain ⟨r1, h1, h2⟩ := Option.bind_eq_some_iff.mp (show (stepM row m).bind (fun r => walkM r ms) = some r from h)
    rcases List.mem_cons.mp hk with rfl | hk
    · obtain ⟨f, e1, e2, e3, rfl⟩ := step_inv (k := k.1) (x := k.2) h1
      rw [e1]
      cases f
      · exact strOk_of _
      · exact strOk_of _
    · exact walk_ways h2 k hk
theorem mvs_dat {K : PySem.W.Frag} {H : Hp} : ∀ {vs : List V} {r : List (Int × Str)}, Mvs H vs r → DatAll K H (fun _ => True) vs (r.map fun m => .tuple [.int m.1, .str m.2])
  | _, _, .nil => .nil
  | _, _, .cons h x => .cons (.tup (SqT.of h) True.intro (.cons (.int _) (.cons (.str _) .nil))) (mvs_dat x)
theorem mvs_nice {ms : List (Int × Str)} (h : ∀ m ∈ ms, PyData.strOk m.2 = true) : Nice 2 (mvsD ms) := nice_list fun d hd => by
  obtain ⟨p, hp, rfl⟩ := List.mem_map.mp hd
  exact nice_tuple fun z hz => by
    rcases List.mem_cons.mp hz with rfl | hz
    · exact nice_int _
    · rw [List.mem_singleton.mp hz]; exact nice_str (h p hp)
theorem neMz {K : PySem.W.Frag} {H : Hp} {l z : Addr} {ws : List V} {ms : List (Int × Str)} {Q : VK} (mv : Mvs H ws ms) (hl : H l = some (.lst ws)) (hz : H z = some (.lst [])) (ok : ∀ m ∈ ms, PyData.strOk m.2 = true) (q : Q (.bl (!decide (ms = []))) H) : rNeD K (.ref l) (.ref z) H Q := by
  have nc := mvs_nice ok
  refine ⟨fun _ => True, mvsD ms, .list [], .lst (SqL.of hl) True.intro (mvs_dat mv), .lst (SqL.of hz) True.intro .nil, nc.lay, rfl, by have := nc.dp; omega, ?_⟩
  have e : PyData.eqv (mvsD ms) (.list []) = decide (ms = []) := by
    cases ms with
    | nil => rfl
    | cons m r => rfl
  rw [e]
  exact q
theorem cut_last {xs : List V} : cutV xs none (some (-1)) = xs.take (xs.length - 1) := by
  have e : HT.sIx xs.length 0 none = 0 := rfl
  have e2 : HT.sIx xs.length xs.length (some (-1)) = xs.length - 1 := by
    show (if (-1 : Int) < 0 then ((-1 : Int) + (xs.length : Int)).toNat else min (-1 : Int).toNat xs.length) = _
    rw [if_pos (by omega)]
    omega
  unfold cutV
  rw [e, e2, List.drop_zero, Nat.sub_zero]
theorem walk_short {n : Int} {xs : List Int} {row r : List (Int × Int)} {ms : List (Int × Str)} (L : LstR n xs r) (h : walkM row ms = some r) (ne : ms ≠ []) : ¬ walkM row (ms.take (ms.length - 1)) = some r := by
  intro z
  obtain ⟨ks, m, rfl⟩ : ∃ ks m, ms = ks ++ [m] := ⟨ms.dropLast, ms.getLast ne, (List.dropLast_concat_getLast ne).symm⟩
  rw [List.length_append, List.length_singleton, Nat.add_sub_cancel, List.take_left] at z
  rw [walk_snoc z] at h
  obtain ⟨f, e1, e2, e3, e4⟩ := step_inv (k := m.1) (x := m.2) h
  exact mv_ne L (a := (m.1 - 1).toNat) (by omega) f e4.symm
section
variable {P : Program} {w : World} {K : PySem.W.Frag} {mg : Str → Option Value} {base : Heap} {CN CU : Addr}
theorem sc_law : FnScope ["_law_script", "_law_k", "_law_purse_here", "_law_n", "_law_long", "_law_order_here", "_law_one", "_law_other", "_law_handed", "_law_mine", "_law_yours", "_law_told", "_law_begun", "_law_ended"] ["_law_script"] (defScope (top 78)) := ⟨rfl, rfl, rfl, by decide +kernel, rfl, by decide +kernel, by decide +kernel⟩
theorem ok_law {f : Addr} {fd : FuncData} (F : Fun K "law" "law" (top 78) f fd) (T : TL P w K mg base CN CU) : FnOk P w K mg base CX0 11 f fd ["_law_script"] (spLaw K) := by
  refine F.ok sc_law (fun vs H Q E h => ?_) (fun cdv A outer s H vs Q E hr h => ?_)
  · obtain ⟨a, ns, rfl, _⟩ := h
    rfl
  · obtain ⟨a, ns, rfl, hS, hlen, k⟩ := h
    refine ⟨_, (@pss_cons _ _ _ _ _ (ps_for PassesOwn.never rfl (pi_range1 rfl T.b_range (pa_cons (pe_callB (call_max2 rfl) rfl T.b_max (by decide +kernel) (pa_cons pe_int (pa_cons (pe_callB (call_min2 rfl) rfl T.b_min (by decide +kernel) (pa_cons (pe_callB (call_lenK (K := K) rfl) rfl T.b_len (by decide +kernel) (pa_cons (pv 0) pa_nil)) (pa_cons pe_int pa_nil))) pa_nil))) pa_nil)) (pg_name (i := 1) sc_law.nd rfl (Or.inl rfl)) (@pss_cons _ _ _ _ _ (ps_set (i := 2) sc_law.nd rfl (Or.inl rfl) (pe_callF T.f__law_purse (hr.mono (by first | decide | omega)) rfl (pa_cons (pv 0) (pa_cons (pv 1) pa_nil))))
      (@pss_cons _ _ _ _ _ (ps_set (i := 3) sc_law.nd rfl (Or.inl rfl) (pe_op op_add pe_int (pe_callF T.f__law_take (hr.mono (by first | decide | omega)) rfl (pa_cons (pv 2) (pa_cons pe_int pa_nil)))))
      (@pss_cons _ _ _ _ _ (ps_set (i := 4) sc_law.nd rfl (Or.inl rfl) (pe_cmpR op_eq (pe_callF T.f__law_take (hr.mono (by first | decide | omega)) rfl (pa_cons (pv 2) (pa_cons pe_int pa_nil))) pe_int (nomark _)))
      (@pss_cons _ _ _ _ _ (ps_set (i := 5) sc_law.nd rfl (Or.inl rfl) (pe_callF T.f__law_order (hr.mono (by first | decide | omega)) rfl (pa_cons (pv 2) (pa_cons (pv 3) pa_nil))))
      (@pss_cons _ _ _ _ _ (ps_if (pt_val (pv 4)) (pss_cons (ps_set (i := 3) sc_law.nd rfl (Or.inl rfl) (pe_ix (ix_listK (K := K) rfl) (pe_lst (pa_cons (pv 3) (pa_cons pe_int pa_nil))) (pe_callF T.f__law_take (hr.mono (by first | decide | omega)) rfl (pa_cons (pv 2) (pa_cons pe_int pa_nil))) (fun _ _ => rfl)))
      (pss_one (ps_set (i := 5) sc_law.nd rfl (Or.inl rfl) (pe_op (op_catA (K := K) rfl) (pe_callTy (call_tuple_rng rfl) rfl T.b_tuple (by decide +kernel) (pa_cons (pe_callTy call_range rfl T.b_range (by decide +kernel) (pa_cons pe_int (pa_cons (pe_op op_add (pv 3) pe_int) pa_nil))) pa_nil)) (pe_tup (pa_cons pe_int pa_nil)))))) pss_nil)
      (@pss_cons _ _ _ _ _ (ps_set (i := 6) sc_law.nd rfl (Or.inl rfl) (pe_callF T.f__law_least_row (hr.mono (by first | decide | omega)) rfl (pa_cons (pv 2) (pa_cons (pv 5) pa_nil))))
      (@pss_cons _ _ _ _ _ (ps_set (i := 7) sc_law.nd rfl (Or.inl rfl) (pe_callF T.f__law_least_row (hr.mono (by first | decide | omega)) rfl (pa_cons (pv 2) (pa_cons (pv 5) pa_nil))))
      (@pss_cons _ _ _ _ _ (ps_set (i := 8) sc_law.nd rfl (Or.inl rfl) (pe_lst (pa_cons (pe_callTy (call_list_ofK (K := K) rfl) rfl T.b_list (by decide +kernel) (pa_cons (pv 6) pa_nil)) (pa_cons (pe_callTy (call_list_ofK (K := K) rfl) rfl T.b_list (by decide +kernel) (pa_cons (pv 7) pa_nil)) pa_nil))))
      (@pss_one _ _ _ (ps_for PassesOwn.never rfl (pi_listK (K := K) rfl (@pe_lst _ _ _ _ (@pa_cons _ _ _ _ _ (pe_tup (pa_cons pe_int (pa_cons pe_int pa_nil))) (@pa_cons _ _ _ _ _ (pe_tup (pa_cons pe_int (pa_cons pe_int pa_nil))) (@pa_cons _ _ _ _ _ (pe_tup (pa_cons pe_int (pa_cons pe_int pa_nil))) (@pa_cons _ _ _ _ _ (pe_tup (pa_cons pe_int (pa_cons pe_int pa_nil))) pa_nil st_tup) st_tup) st_tup) st_tup))) (pg_tupK (K := K) (n := 2) rfl rfl (pgs_cons (pg_name (i := 9) sc_law.nd rfl (Or.inl rfl)) (pgs_cons (pg_name (i := 10) sc_law.nd rfl (Or.inl rfl)) pgs_nil))) (@pss_cons _ _ _ _ _ (ps_set (i := 11) sc_law.nd rfl (Or.inl rfl) (pe_callX0 T.f_between (hr.mono (by decide)) rfl (@pa_cons _ _ _ _ _ (pv 3) (@pa_cons _ _ _ _ _ (pe_ix (ix_listK (K := K) rfl) (pv 8) (pv 9) (fun _ _ => rfl)) (@pa_cons _ _ _ _ _ (pe_ix (ix_listK (K := K) rfl) (pv 8) (pv 10) (fun _ _ => rfl)) pa_nil st_sub) st_sub) st_name)))
      (@pss_cons _ _ _ _ _ (ps_if (PW.pt (pw_or (pt_cmpR (op_neD hr.units) (pe_callF T.f__law_end (hr.mono (by first | decide | omega)) rfl (pa_cons (pe_ix (ix_listK (K := K) rfl) (pv 8) (pv 9) (fun _ _ => rfl)) (pa_cons (pv 11) pa_nil))) (pe_ix (ix_listK (K := K) rfl) (pv 8) (pv 10) (fun _ _ => rfl)) (nomark _)) (pw_or1 (pt_cmpR (op_neD hr.units) (pv 8) (pe_lst (pa_cons (pv 6) (pa_cons (pv 7) pa_nil))) (nomark _))))) (pss_one (ps_ret pe_bl)) pss_nil)
      (@pss_cons _ _ _ _ _ (ps_par (i := 12) (j := 13) rfl sc_law.nd rfl rfl (by decide) rfl rfl (pa_cons (pe_ix (ix_listK (K := K) rfl) (pv 8) (pv 9) (fun _ _ => rfl)) (pa_cons (pe_ix (ix_listK (K := K) rfl) (pv 8) (pv 10) (fun _ _ => rfl)) pa_nil)) rfl)
      (@pss_cons _ _ _ _ _ (@ps_if _ _ _ _ _ _ _ _ (pt_cmpR op_isnotB (pe_callF T.f_holds (hr.mono (by first | decide | omega)) rfl (pa_cons (pe_tup (@pa_cons _ _ _ _ _ pe_str (@pa_cons _ _ _ _ _ (pv 3) (@pa_cons _ _ _ _ _ (pv 12) (@pa_cons _ _ _ _ _ (pv 11) (@pa_cons _ _ _ _ _ (pv 13) pa_nil st_name) st_name) st_name) st_name) st_con)) pa_nil)) pe_bl (nomark _)) (pss_one (ps_ret pe_bl)) pss_nil)
      (@pss_cons _ _ _ _ _ (@ps_if _ _ _ _ _ _ _ _ (PW.pt (pw_and (pt_cmpR (op_neD hr.units) (pv 11) (pe_lst pa_nil) (nomark _)) (pw_and1 (pt_cmpR op_isnotB (pe_callF T.f_holds (hr.mono (by first | decide | omega)) rfl (pa_cons (pe_tup (@pa_cons _ _ _ _ _ pe_str (@pa_cons _ _ _ _ _ (pv 3) (@pa_cons _ _ _ _ _ (pv 12) (@pa_cons _ _ _ _ _ (pe_slice (sl_listK (K := K) rfl) (pv 11) po_none (po_some (pe_un un_neg pe_int))) (@pa_cons _ _ _ _ _ (pv 13) pa_nil st_name) st_sub) st_name) st_name) st_con)) pa_nil)) pe_bl (nomark _))))) (pss_one (ps_ret pe_bl)) pss_nil)
      (pss_cons (ps_expr (pe_bmK (K := K) rfl PySem.F.plainAttrs_list PySem.F.slot_list_append PySem.F.type_list_append mt_append (pv 11) (pa_cons (pe_tup (pa_cons pe_int (pa_cons pe_str pa_nil))) pa_nil)))
      (pss_one (ps_expr (pe_bm0K (K := K) rfl PySem.F.plainAttrs_list PySem.F.slot_list_reverse PySem.F.type_list_reverse mt_reverse (pv 11)))))))))))))))))))))
      (pss_one (ps_ret pe_bl))), ?_⟩
    have big : (10000000 : Nat) ≤ sizeLine := by decide
    have two : 2 ≤ sizeLine := by decide
    refine ⟨_, rfl, a, _, rfl, .inl hS, _, _, rfl, _, _, rfl, _, rfl, ?b1, ?b2, ?_⟩
    case b1 => rw [List.length_map]; split <;> (try split) <;> omega
    case b2 => rw [List.length_map]; split <;> (try split) <;> omega
    refine for_range (fun i σ H' => (∃ v1 v2 v3 v4 v5 v6 v7 v8 v9 v10 v11 v12 v13, σ = [some (.ref a), v1, v2, v3, v4, v5, v6, v7, v8, v9, v10, v11, v12, v13]) ∧ Same H H' ∧ i ≤ 100) ⟨⟨_, _, _, _, _, _, _, _, _, _, _, _, _, rfl⟩, Same.refl _, by decide⟩ ?_ ?_
    · rintro i σ H0 hi ⟨⟨v1, v2, v3, v4, v5, v6, v7, v8, v9, v10, v11, v12, v13, rfl⟩, s0, _⟩
      have hi : i < 25 := Nat.lt_of_lt_of_le hi (by rw [List.length_map]; split <;> (try split) <;> omega)
      refine ⟨_, rfl, _, rfl, a, ns, _, rfl, s0.seq hS, by omega, by omega, fun p H1 hp pu1 s1 => ?_⟩
      have npH : H p = none := s0.free hp
      have a1 : Same H H1 := s0.trans s1
      refine ⟨_, rfl, p, 0, 8, rfl, pu1, by decide, by decide, by decide, fun r H2 r0 r1 pu2 s2 => ?_⟩
      have a2 := Same.of a1 npH s2
      obtain ⟨n0, hn⟩ : ∃ n : Int, 1 + r = n := ⟨_, rfl⟩
      refine add_at hn ?_
      refine ⟨_, rfl, p, 1, 8, rfl, pu2, by decide, by decide, by decide, fun sm H3 sm0 sm1 pu3 s3 => ⟨rfl, ?_⟩⟩
      have a3 := Same.of a2 npH s3
      refine ⟨_, rfl, _, rfl, p, 2, n0, rfl, pu3, by decide, by omega, by omega, fun t0 xs0 H4 ft0 ht0 o0 pu4 s4 => ?_⟩
      have a4 := Same.of a3 npH s4
      have ntp0 : t0 ≠ p := fun z => by subst z; exact (pu3.ne ft0) rfl
      refine gNJ ?_
      dsimp only
      refine seq_byJ (t := tIfS _ _ _) (fun σ' H' => ∃ (n : Int) (t : Addr) (xs : List Int) (c : Nat), σ' = [some (.ref a), some (.int (0 + (i : Int))), some (.ref p), some (.int n), some (.bl (decide (V.int sm = V.int 5))), some (.ref t), v6, v7, v8, v9, v10, v11, v12, v13] ∧ 1 ≤ n ∧ n ≤ 8 ∧ Same H H' ∧ Purse H' p c ∧ c ≤ 3000 ∧ t ≠ p ∧ H' t = some (.tup (xs.map V.int)) ∧ Ord n xs) (fun D' hD => ?_) ?_
      · refine ⟨_, rfl, _, rfl, ite2 (fun c => ?_) (fun c => ?_)⟩
        · refine ⟨_, rfl, two, fun lc flc => ?_⟩
          have q1 : Same H4 (upd H4 lc (.lst [.int n0, .int 8])) := Same.new flc
          have hq1 : upd H4 lc (.lst [.int n0, .int 8]) lc = some (.lst [.int n0, .int 8]) := upd_same
          have nlc : lc ≠ p := fun z => by subst z; exact (pu4.ne flc) rfl
          have puq := pu4.keep q1
          have aq := a4.trans q1
          generalize upd H4 lc (.lst [.int n0, .int 8]) = G1 at q1 hq1 puq aq ⊢
          refine ⟨_, rfl, p, _, 2, rfl, puq, by omega, by decide, by decide, fun r2 G2 r20 r21 pu5 s5 => ?_⟩
          have a5 := Same.of aq npH s5
          obtain ⟨n, hnn, n1, n8⟩ : ∃ n : Int, atI [V.int n0, V.int 8] r2 = some (.int n) ∧ 1 ≤ n ∧ n ≤ 8 := by
            have : r2 = 0 ∨ r2 = 1 := by omega
            rcases this with rfl | rfl
            · exact ⟨n0, rfl, by omega, by omega⟩
            · exact ⟨8, rfl, by omega, by omega⟩
          refine ⟨lc, _, _, .int n, rfl, rfl, SqL.of (s5 _ _ nlc hq1), hnn, ?_⟩
          refine ⟨_, rfl, _, _, rfl, rfl, .inr ⟨_, _, rfl, fun rr hrr => ⟨rr, _, _, rfl, upd_same, by omega, by omega, by omega, by omega, fun tt htt => ?_⟩⟩⟩
          have ne : tt ≠ rr := by intro z; subst z; rw [upd_same] at htt; cases htt
          rw [upd_ne ne] at htt
          have sR : Same G2 (upd (upd G2 rr (.rng 2 (n + 1))) tt (.tup ((ivl 2 (n + 1)).map V.int))) := fun b o e => by rw [upd_ne (ne_of_none e htt), upd_ne (ne_of_none e hrr)]; exact e
          have hT : upd (upd G2 rr (.rng 2 (n + 1))) tt (.tup ((ivl 2 (n + 1)).map V.int)) tt = some (.tup ((ivl 2 (n + 1)).map V.int)) := upd_same
          generalize upd (upd G2 rr (.rng 2 (n + 1))) tt (.tup ((ivl 2 (n + 1)).map V.int)) = G3 at sR hT ⊢
          refine ⟨(by show 1 ≤ sizeLine; omega), fun t1 ft1 => ?_⟩
          have s7 : Same G3 (upd G3 t1 (.tup [.int 1])) := Same.new ft1
          have h7 : upd G3 t1 (.tup [.int 1]) t1 = some (.tup [.int 1]) := upd_same
          have pu6 := pu5.keep sR
          have nt1 : t1 ≠ p := fun z => by subst z; exact (pu6.ne ft1) rfl
          generalize upd G3 t1 (.tup [.int 1]) = G4 at s7 h7 ⊢
          have pu7 := pu6.keep s7
          have a7 := a5.trans (sR.trans s7)
          refine ⟨tt, t1, _, _, rfl, rfl, SqT.of (s7 _ _ hT), SqT.of h7, by rw [List.length_map, ivl_length]; show _ + 1 ≤ _; omega, fun z => ?_, fun _ z => (nomatch z), fun _ _ pq fpq => ?_⟩
          · have e0 : ivl 2 (n + 1) = [] := List.map_eq_nil_iff.mp z
            exact hD _ _ ⟨n, t1, ivl 2 (n + 1) ++ [1], _, rfl, n1, n8, a7, pu7, by omega, nt1, by rw [e0]; exact h7, ord_long n1⟩
          · have npq : pq ≠ p := fun z => by subst z; exact (pu7.ne fpq) rfl
            exact hD _ _ ⟨n, pq, ivl 2 (n + 1) ++ [1], _, rfl, n1, n8, a7.trans (Same.new fpq), pu7.keep (Same.new fpq), by omega, npq, by rw [upd_same, List.map_append]; rfl, ord_long n1⟩
        · exact hD _ _ ⟨n0, t0, xs0, _, rfl, by omega, by omega, a4, pu4, by omega, ntp0, ht0, o0⟩
      rintro σ H5 ⟨n, t, xs, c, rfl, n1, n8, a5, pu5, cb, ntp, ht, o⟩
      refine ⟨_, rfl, _, rfl, p, c, t, n, xs, rfl, pu5, by omega, ht, o, n1, by omega, fun l1 e1 row H6 fl1 hl1 x1 g1 led1 c1 pu6 s6 => ?_⟩
      have a6 := Same.of a5 npH s6
      have nl1 : l1 ≠ p := fun z => by subst z; exact (pu5.ne fl1) rfl
      refine ⟨_, rfl, _, rfl, p, _, t, n, xs, rfl, pu6, by omega, s6 _ _ ntp ht, o, n1, by omega, fun l2 e2 q H7 fl2 hl2 x2 g2 led2 c2 pu7 s7 => ?_⟩
      have a7 := Same.of a6 npH s7
      have hl17 := s7 _ _ nl1 hl1
      have x17 := SameX.exs s7 pu6 x1
      have L1 : LstR n xs row := ⟨by omega, g1, led1, c1⟩
      have L2 : LstR n xs q := ⟨by omega, g2, led2, c2⟩
      have rl1 := L1.short n8
      have rl2 := L2.short n8
      refine ⟨_, rfl, l1, _, rfl, .inl (SqL.of hl17), fun h0 fh0 => ?_⟩
      have sA : Same H7 (upd H7 h0 (.lst e1)) := Same.new fh0
      have hA : upd H7 h0 (.lst e1) h0 = some (.lst e1) := upd_same
      generalize upd H7 h0 (.lst e1) = HA at sA hA ⊢
      refine ⟨_, rfl, l2, _, rfl, .inl (SqL.of (sA _ _ hl2)), fun h1 fh1 => ?_⟩
      have sB : Same HA (upd HA h1 (.lst e2)) := Same.new fh1
      have hB : upd HA h1 (.lst e2) h1 = some (.lst e2) := upd_same
      generalize upd HA h1 (.lst e2) = HB at sB hB ⊢
      refine ⟨two, fun lh flh => ?_⟩
      have sC : Same HB (upd HB lh (.lst [.ref h0, .ref h1])) := Same.new flh
      have hC : upd HB lh (.lst [.ref h0, .ref h1]) lh = some (.lst [.ref h0, .ref h1]) := upd_same
      generalize upd HB lh (.lst [.ref h0, .ref h1]) = HC at sC hC ⊢
      have b3 := sA.trans (sB.trans sC)
      have h0C := sC _ _ (sB _ _ hA)
      have h1C := sC _ _ hB
      have l1C := b3 _ _ hl17
      have l2C := b3 _ _ hl2
      have x1C := x17.keep (Same.tups b3)
      have x2C := x2.keep (Same.tups b3)
      have aC := a7.trans b3
      refine ⟨two, fun u0 fu0 => ?_⟩
      have t0 : Same HC (upd HC u0 (.tup [.int 0, .int 1])) := Same.new fu0
      have w0 : upd HC u0 (.tup [.int 0, .int 1]) u0 = some (.tup [.int 0, .int 1]) := upd_same
      generalize upd HC u0 (.tup [.int 0, .int 1]) = U0 at t0 w0 ⊢
      refine ⟨two, fun u1 fu1 => ?_⟩
      have t1 : Same U0 (upd U0 u1 (.tup [.int 1, .int 0])) := Same.new fu1
      have w1 : upd U0 u1 (.tup [.int 1, .int 0]) u1 = some (.tup [.int 1, .int 0]) := upd_same
      generalize upd U0 u1 (.tup [.int 1, .int 0]) = U1 at t1 w1 ⊢
      refine ⟨two, fun u2 fu2 => ?_⟩
      have t2 : Same U1 (upd U1 u2 (.tup [.int 0, .int 0])) := Same.new fu2
      have w2 : upd U1 u2 (.tup [.int 0, .int 0]) u2 = some (.tup [.int 0, .int 0]) := upd_same
      generalize upd U1 u2 (.tup [.int 0, .int 0]) = U2 at t2 w2 ⊢
      refine ⟨two, fun u3 fu3 => ?_⟩
      have t3 : Same U2 (upd U2 u3 (.tup [.int 0, .int 1])) := Same.new fu3
      have w3 : upd U2 u3 (.tup [.int 0, .int 1]) u3 = some (.tup [.int 0, .int 1]) := upd_same
      generalize upd U2 u3 (.tup [.int 0, .int 1]) = U3 at t3 w3 ⊢
      refine ⟨(by show 4 ≤ sizeLine; omega), fun lp flp => ?_⟩
      have t4 : Same U3 (upd U3 lp (.lst [.ref u0, .ref u1, .ref u2, .ref u3])) := Same.new flp
      have w4 : upd U3 lp (.lst [.ref u0, .ref u1, .ref u2, .ref u3]) lp = some (.lst [.ref u0, .ref u1, .ref u2, .ref u3]) := upd_same
      generalize upd U3 lp (.lst [.ref u0, .ref u1, .ref u2, .ref u3]) = U4 at t4 w4 ⊢
      have w3 := t4 _ _ w3
      have w2 := t4 _ _ (t3 _ _ w2)
      have w1 := t4 _ _ (t3 _ _ (t2 _ _ w1))
      have w0 := t4 _ _ (t3 _ _ (t2 _ _ (t1 _ _ w0)))
      have tD := t0.trans (t1.trans (t2.trans (t3.trans t4)))
      clear t0 t1 t2 t3 t4
      have led1' : LeastP n row := by unfold LeastP; rw [led1]; exact c1
      have led2' : LeastP n q := by unfold LeastP; rw [led2]; exact c2
      refine ⟨lp, rfl, ⟨_, SqL.of w4⟩, for_list (K := K) (a := lp) (xs := [.ref u0, .ref u1, .ref u2, .ref u3]) (fun j σ H' => (∃ v9 v10 v11 v12 v13, σ = [some (.ref a), some (.int (0 + (i : Int))), some (.ref p), some (.int n), some (.bl (decide (V.int sm = V.int 5))), some (.ref t), some (.ref l1), some (.ref l2), some (.ref lh), v9, v10, v11, v12, v13]) ∧ Same U4 H') ⟨⟨_, _, _, _, _, rfl⟩, Same.refl _⟩ (fun j σ H' _ z => SqL.of (z.2 _ _ w4)) ?_ ?_⟩
      · rintro j x σ G0 hj ⟨⟨v9, v10, v11, v12, v13, rfl⟩, g0⟩
        have d0 := tD.trans g0
        obtain ⟨u, iv, yv, aa, bb, ea, eb, ra, rb, rfl, hu, ia, ib, haa, hbb, xa, xb, La, Lb, pa, pb⟩ : ∃ (u : Addr) (iv yv : Int) (aa bb : Addr) (ea eb : List V) (ra rb : List (Int × Int)), x = .ref u ∧ G0 u = some (.tup [.int iv, .int yv]) ∧ atI [V.ref h0, V.ref h1] iv = some (.ref aa) ∧ atI [V.ref h0, V.ref h1] yv = some (.ref bb) ∧ HC aa = some (.lst ea) ∧ HC bb = some (.lst eb) ∧ Exs HC ea ra ∧ Exs HC eb rb ∧ LstR n xs ra ∧ LstR n xs rb ∧ LeastP n ra ∧ LeastP n rb := by
          match j, hj with
          | 0, hj => cases hj; exact ⟨u0, 0, 1, h0, h1, e1, e2, row, q, rfl, g0 _ _ w0, rfl, rfl, h0C, h1C, x1C, x2C, L1, L2, led1', led2'⟩
          | 1, hj => cases hj; exact ⟨u1, 1, 0, h1, h0, e2, e1, q, row, rfl, g0 _ _ w1, rfl, rfl, h1C, h0C, x2C, x1C, L2, L1, led2', led1'⟩
          | 2, hj => cases hj; exact ⟨u2, 0, 0, h0, h0, e1, e1, row, row, rfl, g0 _ _ w2, rfl, rfl, h0C, h0C, x1C, x1C, L1, L1, led1', led1'⟩
          | 3, hj => cases hj; exact ⟨u3, 0, 1, h0, h1, e1, e2, row, q, rfl, g0 _ _ w3, rfl, rfl, h0C, h1C, x1C, x2C, L1, L2, led1', led2'⟩
          | (j + 4), hj => simp at hj
        have lra := La.short n8
        have lrb := Lb.short n8
        refine ⟨u, _, rfl, SqT.of hu, rfl, _, _, rfl, _, _, rfl, rfl, ?_⟩
        refine ⟨_, rfl, _, rfl, _, rfl, lh, _, _, _, rfl, rfl, SqL.of (d0 _ _ hC), ia, ?_⟩
        refine ⟨_, rfl, _, rfl, lh, _, _, _, rfl, rfl, SqL.of (d0 _ _ hC), ib, ?_⟩
        refine ⟨n, aa, bb, ea, eb, ra, rb, rfl, by omega, n8, d0 _ _ haa, xa.keep (Same.tups d0), La.good, by omega, d0 _ _ hbb, xb.keep (Same.tups d0), Lb.good, by omega, fun _ _ _ ms l' ws G1 fl' hl' mv ml wk s1' => ?_, fun z => absurd ⟨pa, pb⟩ z, fun _ _ z => absurd (La.led.trans Lb.led.symm) z⟩
        have d1 := d0.trans s1'
        refine ⟨_, rfl, _, rfl, lh, _, _, _, rfl, rfl, SqL.of (d1 _ _ hC), ia, _, rfl, aa, l', ea, ws, ra, rb, ms, n, rfl, d1 _ _ haa, xa.keep (Same.tups d1), La.good, by omega, hl', mv, by omega, wk, fun le ee G2 he xe g2 => ?_⟩
        have d2 := d1.trans g2
        refine ⟨_, rfl, _, rfl, lh, _, _, _, rfl, rfl, SqL.of (d2 _ _ hC), ib, eqR he xe (d2 _ _ hbb) (xb.keep (Same.tups d2)) ⟨_, rfl, iteE (by rw [decide_eq_true rfl]; rfl) ?_⟩⟩
        refine ⟨_, rfl, _, rfl, _, rfl, two, fun ln fln => ?_⟩
        have d3 := d2.trans (Same.new (o := .lst [.ref l1, .ref l2]) fln)
        have g3 := g2.trans (Same.new (o := .lst [.ref l1, .ref l2]) fln)
        have hn3 : upd G2 ln (.lst [.ref l1, .ref l2]) ln = some (.lst [.ref l1, .ref l2]) := upd_same
        generalize upd G2 ln (.lst [.ref l1, .ref l2]) = G3 at d3 g3 hn3 ⊢
        refine neH8 (d3 _ _ hC) hn3 (d3 _ _ h0C) (d3 _ _ h1C) (d3 _ _ l1C) (d3 _ _ l2C) (x1C.keep (Same.tups d3)) (x2C.keep (Same.tups d3)) ⟨_, rfl, iteE rfl ?_⟩
        have hl3 := g3 _ _ hl'
        have mv3 := mv.keep (Same.tups g3)
        refine ⟨_, rfl, _, rfl, lh, _, _, _, rfl, rfl, SqL.of (d3 _ _ hC), ia, _, rfl, _, rfl, lh, _, _, _, rfl, rfl, SqL.of (d3 _ _ hC), ib, _, _, rfl, ?_⟩
        refine ⟨_, rfl, _, rfl, _, rfl, _, rfl, (by show 5 ≤ sizeLine; omega), fun up fup => ?_⟩
        have d4 := d3.trans (Same.new (o := .tup [.str (Str.ofString "walk"), .int n, .ref aa, .ref l', .ref bb]) fup)
        have g4 := g3.trans (Same.new (o := .tup [.str (Str.ofString "walk"), .int n, .ref aa, .ref l', .ref bb]) fup)
        have hp4 : upd G3 up (.tup [.str (Str.ofString "walk"), .int n, .ref aa, .ref l', .ref bb]) up = some (.tup [.str (Str.ofString "walk"), .int n, .ref aa, .ref l', .ref bb]) := upd_same
        generalize upd G3 up (.tup [.str (Str.ofString "walk"), .int n, .ref aa, .ref l', .ref bb]) = G4 at d4 g4 hp4 ⊢
        refine ⟨.ref up, fun _ => True, _, rfl, paperD hp4 (d4 _ _ haa) (xa.keep (Same.tups d4)) (g4 _ _ hl') (mv.keep (Same.tups g4)) (d4 _ _ hbb) (xb.keep (Same.tups d4)), fun _ => ⟨_, _, _, _, rfl, few_row (by omega), few_mvs (by omega), few_row (by omega)⟩, fun G5 g5 => ?_⟩
        rw [paper_is n1 (by omega) La.good Lb.good (by omega) (by omega), decide_eq_true wk]
        refine ⟨_, _, rfl, rfl, _, rfl, iteE rfl ?_⟩
        refine ⟨_, rfl, (by show 0 ≤ sizeLine; omega), fun lz flz => ?_⟩
        have d6 := (d4.trans g5).trans (Same.new (o := .lst []) flz)
        have g6 := (g4.trans g5).trans (Same.new (o := .lst []) flz)
        have hz6 : upd G5 lz (.lst []) lz = some (.lst []) := upd_same
        generalize upd G5 lz (.lst []) = G6 at d6 g6 hz6 ⊢
        have hl6 := g6 _ _ hl'
        have mv6 := mv.keep (Same.tups g6)
        have wl6 := mv6.length
        refine neMz mv6 hl6 hz6 (walk_ways wk) ⟨_, rfl, ?_⟩
        have fin : ∀ (G : Hp), Same G6 G → G l' = some (.lst ws) → ∀ (tf : Addr), G tf = none → Same U4 (upd (upd (upd G tf (.tup [V.int 1, V.str (Str.ofString "forth")])) l' (.lst (ws ++ [V.ref tf]))) l' (.lst (ws ++ [V.ref tf]).reverse)) := fun G hG hl tf ftf b o e => by
          have e0 := g0 _ _ e
          have nb : b ≠ l' := fun z => by rw [z, fl'] at e0; cases e0
          have eG := hG _ _ (g6 _ _ (s1' _ _ e0))
          rw [upd_ne nb, upd_ne nb, upd_ne (ne_of_none eG ftf)]
          exact eG
        by_cases em : ms = []
        · refine iteE (by rw [decide_eq_true em]; rfl) (iteE rfl ?_)
          refine ⟨_, rfl, .inl ⟨rfl, _, SqL.of hl6⟩, two, fun tf ftf => ?_⟩
          have ntf : l' ≠ tf := ne_of_none hl6 ftf
          refine ⟨l', ws, .ref tf, rfl, rfl, by rw [upd_ne ntf]; exact hl6, by omega, ?_⟩
          refine ⟨_, rfl, .inl ⟨rfl, _, SqL.of upd_same⟩, l', _, rfl, rfl, upd_same, ?_⟩
          exact ⟨⟨_, _, _, _, _, rfl⟩, fin G6 (Same.refl _) hl6 tf ftf⟩
        · rw [decide_eq_false em]
          refine iteT ?_
          refine ⟨_, rfl, _, rfl, _, rfl, ?_⟩
          dsimp only [tNoPart]
          refine ⟨_, rfl, _, rfl, l', ws, rfl, SqL.of hl6, fun lc flc => ?_⟩
          rw [cut_last]
          have d7 := d6.trans (Same.new (o := .lst (ws.take (ws.length - 1))) flc)
          have g7 := g6.trans (Same.new (o := .lst (ws.take (ws.length - 1))) flc)
          have f7 := Same.new (o := .lst (ws.take (ws.length - 1))) flc
          have hc7 : upd G6 lc (.lst (ws.take (ws.length - 1))) lc = some (.lst (ws.take (ws.length - 1))) := upd_same
          generalize upd G6 lc (.lst (ws.take (ws.length - 1))) = G7 at d7 g7 f7 hc7 ⊢
          have mvc : Mvs G7 (ws.take (ws.length - 1)) (ms.take (ms.length - 1)) := by
            have := Mvs.take (ws.length - 1) (mv.keep (Same.tups g7))
            rwa [wl6] at this ⊢
          refine ⟨_, rfl, (by show 5 ≤ sizeLine; omega), fun uq fuq => ?_⟩
          have d8 := d7.trans (Same.new (o := .tup [.str (Str.ofString "walk"), .int n, .ref aa, .ref lc, .ref bb]) fuq)
          have g8 := Same.new (o := .tup [.str (Str.ofString "walk"), .int n, .ref aa, .ref lc, .ref bb]) fuq
          have hp8 : upd G7 uq (.tup [.str (Str.ofString "walk"), .int n, .ref aa, .ref lc, .ref bb]) uq = some (.tup [.str (Str.ofString "walk"), .int n, .ref aa, .ref lc, .ref bb]) := upd_same
          generalize upd G7 uq (.tup [.str (Str.ofString "walk"), .int n, .ref aa, .ref lc, .ref bb]) = G8 at d8 g8 hp8 ⊢
          refine ⟨.ref uq, fun _ => True, _, rfl, paperD hp8 (d8 _ _ haa) (xa.keep (Same.tups d8)) (g8 _ _ hc7) (mvc.keep (Same.tups g8)) (d8 _ _ hbb) (xb.keep (Same.tups d8)), fun _ => ⟨_, _, _, _, rfl, few_row (by omega), few_mvs (by rw [List.length_take]; omega), few_row (by omega)⟩, fun G9 g9 => ?_⟩
          rw [paper_is n1 (by omega) La.good Lb.good (by omega) (by omega), decide_eq_false (walk_short Lb wk em)]
          have h69 := f7.trans (g8.trans g9)
          have hl9 := h69 _ _ hl6
          refine ⟨_, _, rfl, rfl, _, rfl, iteE rfl ?_⟩
          refine ⟨_, rfl, .inl ⟨rfl, _, SqL.of hl9⟩, two, fun tf ftf => ?_⟩
          have ntf : l' ≠ tf := ne_of_none hl9 ftf
          refine ⟨l', ws, .ref tf, rfl, rfl, by rw [upd_ne ntf]; exact hl9, by omega, ?_⟩
          refine ⟨_, rfl, .inl ⟨rfl, _, SqL.of upd_same⟩, l', _, rfl, rfl, upd_same, ?_⟩
          exact ⟨⟨_, _, _, _, _, rfl⟩, fin G9 h69 hl9 tf ftf⟩
      · rintro σ G0 ⟨⟨v9, v10, v11, v12, v13, rfl⟩, g0⟩
        exact ⟨⟨_, _, _, _, _, _, _, _, _, _, _, _, _, rfl⟩, aC.trans (tD.trans g0), by omega⟩
    · rintro σ H' _
      exact k H'
end
end Sw
namespace Sw
open PySem L2
theorem all_mk {l : PySem.W.OpenLaw} {w : World} {K : PySem.W.Frag} {h : Heap} {mg : Str → Option Value} {fa : Addr} {tk_MOST_THINGS tk_MOST_EXCHANGES : Tok} {U UU : Addr} {tc0 td0 tc1 td1 : Tok} {ep2 : Nat} {ta0 tb0 ta1 tb1 ta2 tb2 ta3 tb3 ta4 tb4 ta5 tb5 : Tok} {ep : Nat} (X : K.In h) (G : h.Ns mainGlobals mg) (hfa : mg "law" = some (.ref fa))
    {f0 : Addr} {od0 an0 : Option Addr} {sl0 : Array (Option Value)} {oc0 kV0 dc0 pm0 cd0 ct0 : Value}
    {f1 : Addr} {od1 an1 : Option Addr} {sl1 : Array (Option Value)} {oc1 kV1 dc1 pm1 cd1 ct1 : Value}
    {f2 : Addr} {od2 an2 : Option Addr} {sl2 : Array (Option Value)} {oc2 kV2 dc2 pm2 cd2 ct2 : Value}
    {f3 : Addr} {od3 an3 : Option Addr} {sl3 : Array (Option Value)} {oc3 kV3 dc3 pm3 cd3 ct3 : Value}
    {f4 : Addr} {od4 an4 : Option Addr} {sl4 : Array (Option Value)} {oc4 kV4 dc4 pm4 cd4 ct4 : Value}
    {f5 : Addr} {od5 an5 : Option Addr} {sl5 : Array (Option Value)} {oc5 kV5 dc5 pm5 cd5 ct5 : Value}
    {f6 : Addr} {od6 an6 : Option Addr} {sl6 : Array (Option Value)} {oc6 kV6 dc6 pm6 cd6 ct6 : Value}
    {f7 : Addr} {od7 an7 : Option Addr} {sl7 : Array (Option Value)} {oc7 kV7 dc7 pm7 cd7 ct7 : Value}
    {f8 : Addr} {od8 an8 : Option Addr} {sl8 : Array (Option Value)} {oc8 kV8 dc8 pm8 cd8 ct8 : Value}
    {f9 : Addr} {od9 an9 : Option Addr} {sl9 : Array (Option Value)} {oc9 kV9 dc9 pm9 cd9 ct9 : Value}
    {f10 : Addr} {od10 an10 : Option Addr} {sl10 : Array (Option Value)} {oc10 kV10 dc10 pm10 cd10 ct10 : Value}
    {f11 : Addr} {od11 an11 : Option Addr} {sl11 : Array (Option Value)} {oc11 kV11 dc11 pm11 cd11 ct11 : Value}
    {f12 : Addr} {od12 an12 : Option Addr} {sl12 : Array (Option Value)} {oc12 kV12 dc12 pm12 cd12 ct12 : Value}
    {f13 : Addr} {od13 an13 : Option Addr} {sl13 : Array (Option Value)} {oc13 kV13 dc13 pm13 cd13 ct13 : Value}
    {f14 : Addr} {od14 an14 : Option Addr} {sl14 : Array (Option Value)} {oc14 kV14 dc14 pm14 cd14 ct14 : Value}
    {f15 : Addr} {od15 an15 : Option Addr} {sl15 : Array (Option Value)} {oc15 kV15 dc15 pm15 cd15 ct15 : Value}
    {f16 : Addr} {od16 an16 : Option Addr} {sl16 : Array (Option Value)} {oc16 kV16 dc16 pm16 cd16 ct16 : Value}
    {f17 : Addr} {od17 an17 : Option Addr} {sl17 : Array (Option Value)} {oc17 kV17 dc17 pm17 cd17 ct17 : Value}
    {f18 : Addr} {od18 an18 : Option Addr} {sl18 : Array (Option Value)} {oc18 kV18 dc18 pm18 cd18 ct18 : Value}
    {f19 : Addr} {od19 an19 : Option Addr} {sl19 : Array (Option Value)} {oc19 kV19 dc19 pm19 cd19 ct19 : Value}
    {f20 : Addr} {od20 an20 : Option Addr} {sl20 : Array (Option Value)} {oc20 kV20 dc20 pm20 cd20 ct20 : Value}
    {f21 : Addr} {od21 an21 : Option Addr} {sl21 : Array (Option Value)} {oc21 kV21 dc21 pm21 cd21 ct21 : Value}
    {f22 : Addr} {od22 an22 : Option Addr} {sl22 : Array (Option Value)} {oc22 kV22 dc22 pm22 cd22 ct22 : Value}
    {f23 : Addr} {od23 an23 : Option Addr} {sl23 : Array (Option Value)} {oc23 kV23 dc23 pm23 cd23 ct23 : Value}
    {f24 : Addr} {od24 an24 : Option Addr} {sl24 : Array (Option Value)} {oc24 kV24 dc24 pm24 cd24 ct24 : Value}
    {f25 : Addr} {od25 an25 : Option Addr} {sl25 : Array (Option Value)} {oc25 kV25 dc25 pm25 cd25 ct25 : Value}
    {f26 : Addr} {od26 an26 : Option Addr} {sl26 : Array (Option Value)} {oc26 kV26 dc26 pm26 cd26 ct26 : Value}
    {f27 : Addr} {od27 an27 : Option Addr} {sl27 : Array (Option Value)} {oc27 kV27 dc27 pm27 cd27 ct27 : Value}
    {f28 : Addr} {od28 an28 : Option Addr} {sl28 : Array (Option Value)} {oc28 kV28 dc28 pm28 cd28 ct28 : Value}
    {f29 : Addr} {od29 an29 : Option Addr} {sl29 : Array (Option Value)} {oc29 kV29 dc29 pm29 cd29 ct29 : Value}
    {f30 : Addr} {od30 an30 : Option Addr} {sl30 : Array (Option Value)} {oc30 kV30 dc30 pm30 cd30 ct30 : Value}
    {f31 : Addr} {od31 an31 : Option Addr} {sl31 : Array (Option Value)} {oc31 kV31 dc31 pm31 cd31 ct31 : Value}
    {f32 : Addr} {od32 an32 : Option Addr} {sl32 : Array (Option Value)} {oc32 kV32 dc32 pm32 cd32 ct32 : Value}
    {f33 : Addr} {od33 an33 : Option Addr} {sl33 : Array (Option Value)} {oc33 kV33 dc33 pm33 cd33 ct33 : Value}
    {f34 : Addr} {od34 an34 : Option Addr} {sl34 : Array (Option Value)} {oc34 kV34 dc34 pm34 cd34 ct34 : Value}
    {f35 : Addr} {od35 an35 : Option Addr} {sl35 : Array (Option Value)} {oc35 kV35 dc35 pm35 cd35 ct35 : Value}
    (a0 : PySem.W.nsIn K mainGlobals "is_whole" = some (some (.ref f0))) (l0 : K.lookup f0 = some ⟨oc0, od0, .func (PySem.W.fnOf "is_whole" "is_whole" (defArgs (top 7)) (defBody (top 7)) (defScope (top 7)) .none kV0 dc0 pm0 an0 cd0 ct0), sl0⟩) (c0 : PySem.W.codeIn K cd0 "is_whole" = true) (k0 : PySem.W.keepIn K (.ref f0) = true)
    (a1 : PySem.W.nsIn K mainGlobals "is_between" = some (some (.ref f1))) (l1 : K.lookup f1 = some ⟨oc1, od1, .func (PySem.W.fnOf "is_between" "is_between" (defArgs (top 8)) (defBody (top 8)) (defScope (top 8)) .none kV1 dc1 pm1 an1 cd1 ct1), sl1⟩) (c1 : PySem.W.codeIn K cd1 "is_between" = true) (k1 : PySem.W.keepIn K (.ref f1) = true)
    (a2 : PySem.W.nsIn K mainGlobals "is_exchange" = some (some (.ref f2))) (l2 : K.lookup f2 = some ⟨oc2, od2, .func (PySem.W.fnOf "is_exchange" "is_exchange" (defArgs (top 21)) (defBody (top 21)) (defScope (top 21)) .none kV2 dc2 pm2 an2 cd2 ct2), sl2⟩) (c2 : PySem.W.codeIn K cd2 "is_exchange" = true) (k2 : PySem.W.keepIn K (.ref f2) = true)
    (a3 : PySem.W.nsIn K mainGlobals "is_row" = some (some (.ref f3))) (l3 : K.lookup f3 = some ⟨oc3, od3, .func (PySem.W.fnOf "is_row" "is_row" (defArgs (top 22)) (defBody (top 22)) (defScope (top 22)) .none kV3 dc3 pm3 an3 cd3 ct3), sl3⟩) (c3 : PySem.W.codeIn K cd3 "is_row" = true) (k3 : PySem.W.keepIn K (.ref f3) = true)
    (a4 : PySem.W.nsIn K mainGlobals "plain" = some (some (.ref f4))) (l4 : K.lookup f4 = some ⟨oc4, od4, .func (PySem.W.fnOf "plain" "plain" (defArgs (top 12)) (defBody (top 12)) (defScope (top 12)) .none kV4 dc4 pm4 an4 cd4 ct4), sl4⟩) (c4 : PySem.W.codeIn K cd4 "plain" = true) (k4 : PySem.W.keepIn K (.ref f4) = true)
    (a5 : PySem.W.nsIn K mainGlobals "round_from" = some (some (.ref f5))) (l5 : K.lookup f5 = some ⟨oc5, od5, .func (PySem.W.fnOf "round_from" "round_from" (defArgs (top 15)) (defBody (top 15)) (defScope (top 15)) .none kV5 dc5 pm5 an5 cd5 ct5), sl5⟩) (c5 : PySem.W.codeIn K cd5 "round_from" = true) (k5 : PySem.W.keepIn K (.ref f5) = true)
    (a6 : PySem.W.nsIn K mainGlobals "rounds" = some (some (.ref f6))) (l6 : K.lookup f6 = some ⟨oc6, od6, .func (PySem.W.fnOf "rounds" "rounds" (defArgs (top 16)) (defBody (top 16)) (defScope (top 16)) .none kV6 dc6 pm6 an6 cd6 ct6), sl6⟩) (c6 : PySem.W.codeIn K cd6 "rounds" = true) (k6 : PySem.W.keepIn K (.ref f6) = true)
    (a7 : PySem.W.nsIn K mainGlobals "exchanged" = some (some (.ref f7))) (l7 : K.lookup f7 = some ⟨oc7, od7, .func (PySem.W.fnOf "exchanged" "exchanged" (defArgs (top 23)) (defBody (top 23)) (defScope (top 23)) .none kV7 dc7 pm7 an7 cd7 ct7), sl7⟩) (c7 : PySem.W.codeIn K cd7 "exchanged" = true) (k7 : PySem.W.keepIn K (.ref f7) = true)
    (a8 : PySem.W.nsIn K mainGlobals "led" = some (some (.ref f8))) (l8 : K.lookup f8 = some ⟨oc8, od8, .func (PySem.W.fnOf "led" "led" (defArgs (top 24)) (defBody (top 24)) (defScope (top 24)) .none kV8 dc8 pm8 an8 cd8 ct8), sl8⟩) (c8 : PySem.W.codeIn K cd8 "led" = true) (k8 : PySem.W.keepIn K (.ref f8) = true)
    (a9 : PySem.W.nsIn K mainGlobals "is_least" = some (some (.ref f9))) (l9 : K.lookup f9 = some ⟨oc9, od9, .func (PySem.W.fnOf "is_least" "is_least" (defArgs (top 25)) (defBody (top 25)) (defScope (top 25)) .none kV9 dc9 pm9 an9 cd9 ct9), sl9⟩) (c9 : PySem.W.codeIn K cd9 "is_least" = true) (k9 : PySem.W.keepIn K (.ref f9) = true)
    (a10 : PySem.W.nsIn K mainGlobals "carried" = some (some (.ref f10))) (l10 : K.lookup f10 = some ⟨oc10, od10, .func (PySem.W.fnOf "carried" "carried" (defArgs (top 28)) (defBody (top 28)) (defScope (top 28)) .none kV10 dc10 pm10 an10 cd10 ct10), sl10⟩) (c10 : PySem.W.codeIn K cd10 "carried" = true) (k10 : PySem.W.keepIn K (.ref f10) = true)
    (a11 : PySem.W.nsIn K mainGlobals "moved" = some (some (.ref f11))) (l11 : K.lookup f11 = some ⟨oc11, od11, .func (PySem.W.fnOf "moved" "moved" (defArgs (top 29)) (defBody (top 29)) (defScope (top 29)) .none kV11 dc11 pm11 an11 cd11 ct11), sl11⟩) (c11 : PySem.W.codeIn K cd11 "moved" = true) (k11 : PySem.W.keepIn K (.ref f11) = true)
    (a12 : PySem.W.nsIn K mainGlobals "walked" = some (some (.ref f12))) (l12 : K.lookup f12 = some ⟨oc12, od12, .func (PySem.W.fnOf "walked" "walked" (defArgs (top 30)) (defBody (top 30)) (defScope (top 30)) .none kV12 dc12 pm12 an12 cd12 ct12), sl12⟩) (c12 : PySem.W.codeIn K cd12 "walked" = true) (k12 : PySem.W.keepIn K (.ref f12) = true)
    (a13 : PySem.W.nsIn K mainGlobals "nearest_other" = some (some (.ref f13))) (l13 : K.lookup f13 = some ⟨oc13, od13, .func (PySem.W.fnOf "nearest_other" "nearest_other" (defArgs (top 31)) (defBody (top 31)) (defScope (top 31)) .none kV13 dc13 pm13 an13 cd13 ct13), sl13⟩) (c13 : PySem.W.codeIn K cd13 "nearest_other" = true) (k13 : PySem.W.keepIn K (.ref f13) = true)
    (a14 : PySem.W.nsIn K mainGlobals "joining_move" = some (some (.ref f14))) (l14 : K.lookup f14 = some ⟨oc14, od14, .func (PySem.W.fnOf "joining_move" "joining_move" (defArgs (top 32)) (defBody (top 32)) (defScope (top 32)) .none kV14 dc14 pm14 an14 cd14 ct14), sl14⟩) (c14 : PySem.W.codeIn K cd14 "joining_move" = true) (k14 : PySem.W.keepIn K (.ref f14) = true)
    (a15 : PySem.W.nsIn K mainGlobals "starward" = some (some (.ref f15))) (l15 : K.lookup f15 = some ⟨oc15, od15, .func (PySem.W.fnOf "starward" "starward" (defArgs (top 33)) (defBody (top 33)) (defScope (top 33)) .none kV15 dc15 pm15 an15 cd15 ct15), sl15⟩) (c15 : PySem.W.codeIn K cd15 "starward" = true) (k15 : PySem.W.keepIn K (.ref f15) = true)
    (a16 : PySem.W.nsIn K mainGlobals "to_star" = some (some (.ref f16))) (l16 : K.lookup f16 = some ⟨oc16, od16, .func (PySem.W.fnOf "to_star" "to_star" (defArgs (top 34)) (defBody (top 34)) (defScope (top 34)) .none kV16 dc16 pm16 an16 cd16 ct16), sl16⟩) (c16 : PySem.W.codeIn K cd16 "to_star" = true) (k16 : PySem.W.keepIn K (.ref f16) = true)
    (a17 : PySem.W.nsIn K mainGlobals "between" = some (some (.ref f17))) (l17 : K.lookup f17 = some ⟨oc17, od17, .func (PySem.W.fnOf "between" "between" (defArgs (top 35)) (defBody (top 35)) (defScope (top 35)) .none kV17 dc17 pm17 an17 cd17 ct17), sl17⟩) (c17 : PySem.W.codeIn K cd17 "between" = true) (k17 : PySem.W.keepIn K (.ref f17) = true)
    (a18 : PySem.W.nsIn K mainGlobals "row_holds" = some (some (.ref f18))) (l18 : K.lookup f18 = some ⟨oc18, od18, .func (PySem.W.fnOf "row_holds" "row_holds" (defArgs (top 59)) (defBody (top 59)) (defScope (top 59)) .none kV18 dc18 pm18 an18 cd18 ct18), sl18⟩) (c18 : PySem.W.codeIn K cd18 "row_holds" = true) (k18 : PySem.W.keepIn K (.ref f18) = true)
    (a19 : PySem.W.nsIn K mainGlobals "least_holds" = some (some (.ref f19))) (l19 : K.lookup f19 = some ⟨oc19, od19, .func (PySem.W.fnOf "least_holds" "least_holds" (defArgs (top 60)) (defBody (top 60)) (defScope (top 60)) .none kV19 dc19 pm19 an19 cd19 ct19), sl19⟩) (c19 : PySem.W.codeIn K cd19 "least_holds" = true) (k19 : PySem.W.keepIn K (.ref f19) = true)
    (a20 : PySem.W.nsIn K mainGlobals "is_move" = some (some (.ref f20))) (l20 : K.lookup f20 = some ⟨oc20, od20, .func (PySem.W.fnOf "is_move" "is_move" (defArgs (top 61)) (defBody (top 61)) (defScope (top 61)) .none kV20 dc20 pm20 an20 cd20 ct20), sl20⟩) (c20 : PySem.W.codeIn K cd20 "is_move" = true) (k20 : PySem.W.keepIn K (.ref f20) = true)
    (a21 : PySem.W.nsIn K mainGlobals "is_walk" = some (some (.ref f21))) (l21 : K.lookup f21 = some ⟨oc21, od21, .func (PySem.W.fnOf "is_walk" "is_walk" (defArgs (top 62)) (defBody (top 62)) (defScope (top 62)) .none kV21 dc21 pm21 an21 cd21 ct21), sl21⟩) (c21 : PySem.W.codeIn K cd21 "is_walk" = true) (k21 : PySem.W.keepIn K (.ref f21) = true)
    (a22 : PySem.W.nsIn K mainGlobals "walk_holds" = some (some (.ref f22))) (l22 : K.lookup f22 = some ⟨oc22, od22, .func (PySem.W.fnOf "walk_holds" "walk_holds" (defArgs (top 63)) (defBody (top 63)) (defScope (top 63)) .none kV22 dc22 pm22 an22 cd22 ct22), sl22⟩) (c22 : PySem.W.codeIn K cd22 "walk_holds" = true) (k22 : PySem.W.keepIn K (.ref f22) = true)
    (a23 : PySem.W.nsIn K mainGlobals "half_holds" = some (some (.ref f23))) (l23 : K.lookup f23 = some ⟨oc23, od23, .func (PySem.W.fnOf "half_holds" "half_holds" (defArgs (top 64)) (defBody (top 64)) (defScope (top 64)) .none kV23 dc23 pm23 an23 cd23 ct23), sl23⟩) (c23 : PySem.W.codeIn K cd23 "half_holds" = true) (k23 : PySem.W.keepIn K (.ref f23) = true)
    (a24 : PySem.W.nsIn K mainGlobals "chain_holds" = some (some (.ref f24))) (l24 : K.lookup f24 = some ⟨oc24, od24, .func (PySem.W.fnOf "chain_holds" "chain_holds" (defArgs (top 65)) (defBody (top 65)) (defScope (top 65)) .none kV24 dc24 pm24 an24 cd24 ct24), sl24⟩) (c24 : PySem.W.codeIn K cd24 "chain_holds" = true) (k24 : PySem.W.keepIn K (.ref f24) = true)
    (a25 : PySem.W.nsIn K mainGlobals "counts_hold" = some (some (.ref f25))) (l25 : K.lookup f25 = some ⟨oc25, od25, .func (PySem.W.fnOf "counts_hold" "counts_hold" (defArgs (top 67)) (defBody (top 67)) (defScope (top 67)) .none kV25 dc25 pm25 an25 cd25 ct25), sl25⟩) (c25 : PySem.W.codeIn K cd25 "counts_hold" = true) (k25 : PySem.W.keepIn K (.ref f25) = true)
    (a26 : PySem.W.nsIn K mainGlobals "paper_holds" = some (some (.ref f26))) (l26 : K.lookup f26 = some ⟨oc26, od26, .func (PySem.W.fnOf "paper_holds" "paper_holds" (defArgs (top 68)) (defBody (top 68)) (defScope (top 68)) .none kV26 dc26 pm26 an26 cd26 ct26), sl26⟩) (c26 : PySem.W.codeIn K cd26 "paper_holds" = true) (k26 : PySem.W.keepIn K (.ref f26) = true)
    (a27 : PySem.W.nsIn K mainGlobals "holds" = some (some (.ref f27))) (l27 : K.lookup f27 = some ⟨oc27, od27, .func (PySem.W.fnOf "holds" "holds" (defArgs (top 69)) (defBody (top 69)) (defScope (top 69)) .none kV27 dc27 pm27 an27 cd27 ct27), sl27⟩) (c27 : PySem.W.codeIn K cd27 "holds" = true) (k27 : PySem.W.keepIn K (.ref f27) = true)
    (a28 : PySem.W.nsIn K mainGlobals "_law_purse" = some (some (.ref f28))) (l28 : K.lookup f28 = some ⟨oc28, od28, .func (PySem.W.fnOf "_law_purse" "_law_purse" (defArgs (top 71)) (defBody (top 71)) (defScope (top 71)) .none kV28 dc28 pm28 an28 cd28 ct28), sl28⟩) (c28 : PySem.W.codeIn K cd28 "_law_purse" = true) (k28 : PySem.W.keepIn K (.ref f28) = true)
    (a29 : PySem.W.nsIn K mainGlobals "_law_take" = some (some (.ref f29))) (l29 : K.lookup f29 = some ⟨oc29, od29, .func (PySem.W.fnOf "_law_take" "_law_take" (defArgs (top 72)) (defBody (top 72)) (defScope (top 72)) .none kV29 dc29 pm29 an29 cd29 ct29), sl29⟩) (c29 : PySem.W.codeIn K cd29 "_law_take" = true) (k29 : PySem.W.keepIn K (.ref f29) = true)
    (a30 : PySem.W.nsIn K mainGlobals "_law_order" = some (some (.ref f30))) (l30 : K.lookup f30 = some ⟨oc30, od30, .func (PySem.W.fnOf "_law_order" "_law_order" (defArgs (top 73)) (defBody (top 73)) (defScope (top 73)) .none kV30 dc30 pm30 an30 cd30 ct30), sl30⟩) (c30 : PySem.W.codeIn K cd30 "_law_order" = true) (k30 : PySem.W.keepIn K (.ref f30) = true)
    (a31 : PySem.W.nsIn K mainGlobals "_law_rounds" = some (some (.ref f31))) (l31 : K.lookup f31 = some ⟨oc31, od31, .func (PySem.W.fnOf "_law_rounds" "_law_rounds" (defArgs (top 74)) (defBody (top 74)) (defScope (top 74)) .none kV31 dc31 pm31 an31 cd31 ct31), sl31⟩) (c31 : PySem.W.codeIn K cd31 "_law_rounds" = true) (k31 : PySem.W.keepIn K (.ref f31) = true)
    (a32 : PySem.W.nsIn K mainGlobals "_law_least_row" = some (some (.ref f32))) (l32 : K.lookup f32 = some ⟨oc32, od32, .func (PySem.W.fnOf "_law_least_row" "_law_least_row" (defArgs (top 75)) (defBody (top 75)) (defScope (top 75)) .none kV32 dc32 pm32 an32 cd32 ct32), sl32⟩) (c32 : PySem.W.codeIn K cd32 "_law_least_row" = true) (k32 : PySem.W.keepIn K (.ref f32) = true)
    (a33 : PySem.W.nsIn K mainGlobals "_law_moved" = some (some (.ref f33))) (l33 : K.lookup f33 = some ⟨oc33, od33, .func (PySem.W.fnOf "_law_moved" "_law_moved" (defArgs (top 76)) (defBody (top 76)) (defScope (top 76)) .none kV33 dc33 pm33 an33 cd33 ct33), sl33⟩) (c33 : PySem.W.codeIn K cd33 "_law_moved" = true) (k33 : PySem.W.keepIn K (.ref f33) = true)
    (a34 : PySem.W.nsIn K mainGlobals "_law_end" = some (some (.ref f34))) (l34 : K.lookup f34 = some ⟨oc34, od34, .func (PySem.W.fnOf "_law_end" "_law_end" (defArgs (top 77)) (defBody (top 77)) (defScope (top 77)) .none kV34 dc34 pm34 an34 cd34 ct34), sl34⟩) (c34 : PySem.W.codeIn K cd34 "_law_end" = true) (k34 : PySem.W.keepIn K (.ref f34) = true)
    (a35 : PySem.W.nsIn K mainGlobals "law" = some (some (.ref f35))) (l35 : K.lookup f35 = some ⟨oc35, od35, .func (PySem.W.fnOf "law" "law" (defArgs (top 78)) (defBody (top 78)) (defScope (top 78)) .none kV35 dc35 pm35 an35 cd35 ct35), sl35⟩) (c35 : PySem.W.codeIn K cd35 "law" = true) (k35 : PySem.W.keepIn K (.ref f35) = true)
    (z_len : PySem.W.nsIn K mainGlobals "len" = some none)
    (z_abs : PySem.W.nsIn K mainGlobals "abs" = some none)
    (z_int : PySem.W.nsIn K mainGlobals "int" = some none)
    (z_all : PySem.W.nsIn K mainGlobals "all" = some none)
    (z_isinstance : PySem.W.nsIn K mainGlobals "isinstance" = some none)
    (z_bool : PySem.W.nsIn K mainGlobals "bool" = some none)
    (z_tuple : PySem.W.nsIn K mainGlobals "tuple" = some none)
    (z_list : PySem.W.nsIn K mainGlobals "list" = some none)
    (z_range : PySem.W.nsIn K mainGlobals "range" = some none)
    (z_min : PySem.W.nsIn K mainGlobals "min" = some none)
    (z_max : PySem.W.nsIn K mainGlobals "max" = some none)
    (z_sorted : PySem.W.nsIn K mainGlobals "sorted" = some none)
    (z_enumerate : PySem.W.nsIn K mainGlobals "enumerate" = some none)
    (z_reversed : PySem.W.nsIn K mainGlobals "reversed" = some none)
    (z_str : PySem.W.nsIn K mainGlobals "str" = some none)
    {C_NoMove C_NotLeast C_Unlike : Addr}
    (ac_NoMove : PySem.W.nsIn K mainGlobals "NoMove" = some (some (.ref C_NoMove)))
    (ac_NotLeast : PySem.W.nsIn K mainGlobals "NotLeast" = some (some (.ref C_NotLeast)))
    (ac_Unlike : PySem.W.nsIn K mainGlobals "Unlike" = some (some (.ref C_Unlike)))
    (xc_NoMove : ExcC K C_NoMove)
    (ei_NoMove : ExcI K C_NoMove)
    (kv_NoMove : PySem.W.kitOne K (.ref C_NoMove) (.type "ValueError") = some true)
    (kx_NoMove_NoMove : PySem.W.kitOne K (.ref C_NoMove) (.ref C_NoMove) = some true)
    (em_NoMove_NoMove : ExcM K C_NoMove C_NoMove true)
    (kx_NoMove_NotLeast : PySem.W.kitOne K (.ref C_NoMove) (.ref C_NotLeast) = some false)
    (kx_NoMove_Unlike : PySem.W.kitOne K (.ref C_NoMove) (.ref C_Unlike) = some false)
    (xc_NotLeast : ExcC K C_NotLeast)
    (ei_NotLeast : ExcI K C_NotLeast)
    (kv_NotLeast : PySem.W.kitOne K (.ref C_NotLeast) (.type "ValueError") = some true)
    (kx_NotLeast_NoMove : PySem.W.kitOne K (.ref C_NotLeast) (.ref C_NoMove) = some false)
    (kx_NotLeast_NotLeast : PySem.W.kitOne K (.ref C_NotLeast) (.ref C_NotLeast) = some true)
    (kx_NotLeast_Unlike : PySem.W.kitOne K (.ref C_NotLeast) (.ref C_Unlike) = some false)
    (xc_Unlike : ExcC K C_Unlike)
    (ei_Unlike : ExcI K C_Unlike)
    (kv_Unlike : PySem.W.kitOne K (.ref C_Unlike) (.type "ValueError") = some true)
    (kx_Unlike_NoMove : PySem.W.kitOne K (.ref C_Unlike) (.ref C_NoMove) = some false)
    (kx_Unlike_NotLeast : PySem.W.kitOne K (.ref C_Unlike) (.ref C_NotLeast) = some false)
    (kx_Unlike_Unlike : PySem.W.kitOne K (.ref C_Unlike) (.ref C_Unlike) = some true)
    (ag_MOST_THINGS : PySem.W.nsIn K mainGlobals "MOST_THINGS" = some (some (.int 12 tk_MOST_THINGS)))
    (ag_MOST_EXCHANGES : PySem.W.nsIn K mainGlobals "MOST_EXCHANGES" = some (some (.int 60 tk_MOST_EXCHANGES)))
    (au : PySem.W.nsIn K mainGlobals "PARTS_OF_PAPERS" = some (some (.ref U)))
    (lu : K.lookup U = some { cls := .type "dict", data := .dict [{ hash := PyData.keyHash w.params (Str.ofString "row"), key := .str (Str.ofString "row") ta0, val := .int 3 tb0 }, { hash := PyData.keyHash w.params (Str.ofString "least"), key := .str (Str.ofString "least") ta1, val := .int 3 tb1 }, { hash := PyData.keyHash w.params (Str.ofString "walk"), key := .str (Str.ofString "walk") ta2, val := .int 5 tb2 }, { hash := PyData.keyHash w.params (Str.ofString "half"), key := .str (Str.ofString "half") ta3, val := .int 4 tb3 }, { hash := PyData.keyHash w.params (Str.ofString "chain"), key := .str (Str.ofString "chain") ta4, val := .int 3 tb4 }, { hash := PyData.keyHash w.params (Str.ofString "counts"), key := .str (Str.ofString "counts") ta5, val := .int 3 tb5 }].toArray ep })
    (au2 : PySem.W.nsIn K mainGlobals "UNDOING" = some (some (.ref UU)))
    (lu2 : K.lookup UU = some { cls := .type "dict", data := .dict [{ hash := PyData.keyHash w.params (Str.ofString "forth"), key := .str (Str.ofString "forth") tc0, val := .str (Str.ofString "back") td0 }, { hash := PyData.keyHash w.params (Str.ofString "back"), key := .str (Str.ofString "back") tc1, val := .str (Str.ofString "forth") td1 }].toArray ep2 })
    (su2 : (UU == sysModules) = false)
    (su : (U == sysModules) = false)
    (kib : PySem.W.kitOne K (.type "int") (.type "bool") = some false) :
    ∃ fd : FuncData, (∀ (s : Shared) (v : Value), BindsTo s fd ⟨[v], []⟩ [("_law_script", v)]) ∧ ∀ base : Heap, K.In base → base.Ns mainGlobals mg → FnOk l.prog w K mg base CX0 11 fa fd ["_law_script"] (spLaw K) := by
  have F_is_whole := fun_mk (st := top 7) l0 c0 k0
  have b_is_whole := F_is_whole.binds (ps := ["thing"]) fun _ _ _ _ _ _ us hl => match us, hl with | [_], _ => rfl
  have m_is_whole := PySem.W.mg_of X G a0
  have F_is_between := fun_mk (st := top 8) l1 c1 k1
  have b_is_between := F_is_between.binds (ps := ["thing", "low", "high"]) fun _ _ _ _ _ _ us hl => match us, hl with | [_, _, _], _ => rfl
  have m_is_between := PySem.W.mg_of X G a1
  have F_is_exchange := fun_mk (st := top 21) l2 c2 k2
  have b_is_exchange := F_is_exchange.binds (ps := ["n", "thing"]) fun _ _ _ _ _ _ us hl => match us, hl with | [_, _], _ => rfl
  have m_is_exchange := PySem.W.mg_of X G a2
  have F_is_row := fun_mk (st := top 22) l3 c3 k3
  have b_is_row := F_is_row.binds (ps := ["n", "thing"]) fun _ _ _ _ _ _ us hl => match us, hl with | [_, _], _ => rfl
  have m_is_row := PySem.W.mg_of X G a3
  have F_plain := fun_mk (st := top 12) l4 c4 k4
  have b_plain := F_plain.binds (ps := ["n"]) fun _ _ _ _ _ _ us hl => match us, hl with | [_], _ => rfl
  have m_plain := PySem.W.mg_of X G a4
  have F_round_from := fun_mk (st := top 15) l5 c5 k5
  have b_round_from := F_round_from.binds (ps := ["order", "first"]) fun _ _ _ _ _ _ us hl => match us, hl with | [_, _], _ => rfl
  have m_round_from := PySem.W.mg_of X G a5
  have F_rounds := fun_mk (st := top 16) l6 c6 k6
  have b_rounds := F_rounds.binds (ps := ["order"]) fun _ _ _ _ _ _ us hl => match us, hl with | [_], _ => rfl
  have m_rounds := PySem.W.mg_of X G a6
  have F_exchanged := fun_mk (st := top 23) l7 c7 k7
  have b_exchanged := F_exchanged.binds (ps := ["exchange", "thing"]) fun _ _ _ _ _ _ us hl => match us, hl with | [_, _], _ => rfl
  have m_exchanged := PySem.W.mg_of X G a7
  have F_led := fun_mk (st := top 24) l8 c8 k8
  have b_led := F_led.binds (ps := ["n", "row"]) fun _ _ _ _ _ _ us hl => match us, hl with | [_, _], _ => rfl
  have m_led := PySem.W.mg_of X G a8
  have F_is_least := fun_mk (st := top 25) l9 c9 k9
  have b_is_least := F_is_least.binds (ps := ["n", "row"]) fun _ _ _ _ _ _ us hl => match us, hl with | [_, _], _ => rfl
  have m_is_least := PySem.W.mg_of X G a9
  have F_carried := fun_mk (st := top 28) l10 c10 k10
  have b_carried := F_carried.binds (ps := ["exchange", "other"]) fun _ _ _ _ _ _ us hl => match us, hl with | [_, _], _ => rfl
  have m_carried := PySem.W.mg_of X G a10
  have F_moved := fun_mk (st := top 29) l11 c11 k11
  have b_moved := F_moved.binds (ps := ["row", "k", "way"]) fun _ _ _ _ _ _ us hl => match us, hl with | [_, _, _], _ => rfl
  have m_moved := PySem.W.mg_of X G a11
  have F_walked := fun_mk (st := top 30) l12 c12 k12
  have b_walked := F_walked.binds (ps := ["row", "moves"]) fun _ _ _ _ _ _ us hl => match us, hl with | [_, _], _ => rfl
  have m_walked := PySem.W.mg_of X G a12
  have F_nearest_other := fun_mk (st := top 31) l13 c13 k13
  have b_nearest_other := F_nearest_other.binds (ps := ["row", "least"]) fun _ _ _ _ _ _ us hl => match us, hl with | [_, _], _ => rfl
  have m_nearest_other := PySem.W.mg_of X G a13
  have F_joining_move := fun_mk (st := top 32) l14 c14 k14
  have b_joining_move := F_joining_move.binds (ps := ["apart", "at", "other"]) fun _ _ _ _ _ _ us hl => match us, hl with | [_, _, _], _ => rfl
  have m_joining_move := PySem.W.mg_of X G a14
  have F_starward := fun_mk (st := top 33) l15 c15 k15
  have b_starward := F_starward.binds (ps := ["row", "leasts"]) fun _ _ _ _ _ _ us hl => match us, hl with | [_, _], _ => rfl
  have m_starward := PySem.W.mg_of X G a15
  have F_to_star := fun_mk (st := top 34) l16 c16 k16
  have b_to_star := F_to_star.binds (ps := ["n", "row"]) fun _ _ _ _ _ _ us hl => match us, hl with | [_, _], _ => rfl
  have m_to_star := PySem.W.mg_of X G a16
  have F_between := fun_mk (st := top 35) l17 c17 k17
  have b_between := F_between.binds (ps := ["n", "one", "other"]) fun _ _ _ _ _ _ us hl => match us, hl with | [_, _, _], _ => rfl
  have m_between := PySem.W.mg_of X G a17
  have F_row_holds := fun_mk (st := top 59) l18 c18 k18
  have b_row_holds := F_row_holds.binds (ps := ["order", "row"]) fun _ _ _ _ _ _ us hl => match us, hl with | [_, _], _ => rfl
  have m_row_holds := PySem.W.mg_of X G a18
  have F_least_holds := fun_mk (st := top 60) l19 c19 k19
  have b_least_holds := F_least_holds.binds (ps := ["order", "row"]) fun _ _ _ _ _ _ us hl => match us, hl with | [_, _], _ => rfl
  have m_least_holds := PySem.W.mg_of X G a19
  have F_is_move := fun_mk (st := top 61) l20 c20 k20
  have b_is_move := F_is_move.binds (ps := ["thing"]) fun _ _ _ _ _ _ us hl => match us, hl with | [_], _ => rfl
  have m_is_move := PySem.W.mg_of X G a20
  have F_is_walk := fun_mk (st := top 62) l21 c21 k21
  have b_is_walk := F_is_walk.binds (ps := ["thing"]) fun _ _ _ _ _ _ us hl => match us, hl with | [_], _ => rfl
  have m_is_walk := PySem.W.mg_of X G a21
  have F_walk_holds := fun_mk (st := top 63) l22 c22 k22
  have b_walk_holds := F_walk_holds.binds (ps := ["n", "one", "moves", "other"]) fun _ _ _ _ _ _ us hl => match us, hl with | [_, _, _, _], _ => rfl
  have m_walk_holds := PySem.W.mg_of X G a22
  have F_half_holds := fun_mk (st := top 64) l23 c23 k23
  have b_half_holds := F_half_holds.binds (ps := ["n", "one", "other"]) fun _ _ _ _ _ _ us hl => match us, hl with | [_, _, _], _ => rfl
  have m_half_holds := PySem.W.mg_of X G a23
  have F_chain_holds := fun_mk (st := top 65) l24 c24 k24
  have b_chain_holds := F_chain_holds.binds (ps := ["n", "sharings"]) fun _ _ _ _ _ _ us hl => match us, hl with | [_, _], _ => rfl
  have m_chain_holds := PySem.W.mg_of X G a24
  have F_counts_hold := fun_mk (st := top 67) l25 c25 k25
  have b_counts_hold := F_counts_hold.binds (ps := ["n", "lists"]) fun _ _ _ _ _ _ us hl => match us, hl with | [_, _], _ => rfl
  have m_counts_hold := PySem.W.mg_of X G a25
  have F_paper_holds := fun_mk (st := top 68) l26 c26 k26
  have b_paper_holds := F_paper_holds.binds (ps := ["word", "paper"]) fun _ _ _ _ _ _ us hl => match us, hl with | [_, _], _ => rfl
  have m_paper_holds := PySem.W.mg_of X G a26
  have F_holds := fun_mk (st := top 69) l27 c27 k27
  have b_holds := F_holds.binds (ps := ["paper"]) fun _ _ _ _ _ _ us hl => match us, hl with | [_], _ => rfl
  have m_holds := PySem.W.mg_of X G a27
  have F__law_purse := fun_mk (st := top 71) l28 c28 k28
  have b__law_purse := F__law_purse.binds (ps := ["_law_script", "_law_at"]) fun _ _ _ _ _ _ us hl => match us, hl with | [_, _], _ => rfl
  have m__law_purse := PySem.W.mg_of X G a28
  have F__law_take := fun_mk (st := top 72) l29 c29 k29
  have b__law_take := F__law_take.binds (ps := ["_law_purse_here", "_law_many"]) fun _ _ _ _ _ _ us hl => match us, hl with | [_, _], _ => rfl
  have m__law_take := PySem.W.mg_of X G a29
  have F__law_order := fun_mk (st := top 73) l30 c30 k30
  have b__law_order := F__law_order.binds (ps := ["_law_purse_here", "_law_n"]) fun _ _ _ _ _ _ us hl => match us, hl with | [_, _], _ => rfl
  have m__law_order := PySem.W.mg_of X G a30
  have F__law_rounds := fun_mk (st := top 74) l31 c31 k31
  have b__law_rounds := F__law_rounds.binds (ps := ["_law_order_here"]) fun _ _ _ _ _ _ us hl => match us, hl with | [_], _ => rfl
  have m__law_rounds := PySem.W.mg_of X G a31
  have F__law_least_row := fun_mk (st := top 75) l32 c32 k32
  have b__law_least_row := F__law_least_row.binds (ps := ["_law_purse_here", "_law_order_here"]) fun _ _ _ _ _ _ us hl => match us, hl with | [_, _], _ => rfl
  have m__law_least_row := PySem.W.mg_of X G a32
  have F__law_moved := fun_mk (st := top 76) l33 c33 k33
  have b__law_moved := F__law_moved.binds (ps := ["_law_row", "_law_k", "_law_way"]) fun _ _ _ _ _ _ us hl => match us, hl with | [_, _, _], _ => rfl
  have m__law_moved := PySem.W.mg_of X G a33
  have F__law_end := fun_mk (st := top 77) l34 c34 k34
  have b__law_end := F__law_end.binds (ps := ["_law_row", "_law_moves"]) fun _ _ _ _ _ _ us hl => match us, hl with | [_, _], _ => rfl
  have m__law_end := PySem.W.mg_of X G a34
  have F_law := fun_mk (st := top 78) l35 c35 k35
  have b_law := F_law.binds (ps := ["_law_script"]) fun _ _ _ _ _ _ us hl => match us, hl with | [_], _ => rfl
  have m_law := PySem.W.mg_of X G a35
  have z_len := PySem.W.mg_none_of X G z_len
  have z_abs := PySem.W.mg_none_of X G z_abs
  have z_int := PySem.W.mg_none_of X G z_int
  have z_all := PySem.W.mg_none_of X G z_all
  have z_isinstance := PySem.W.mg_none_of X G z_isinstance
  have z_bool := PySem.W.mg_none_of X G z_bool
  have z_tuple := PySem.W.mg_none_of X G z_tuple
  have z_list := PySem.W.mg_none_of X G z_list
  have z_range := PySem.W.mg_none_of X G z_range
  have z_min := PySem.W.mg_none_of X G z_min
  have z_max := PySem.W.mg_none_of X G z_max
  have z_sorted := PySem.W.mg_none_of X G z_sorted
  have z_enumerate := PySem.W.mg_none_of X G z_enumerate
  have z_reversed := PySem.W.mg_none_of X G z_reversed
  have z_str := PySem.W.mg_none_of X G z_str
  have mc_NoMove := PySem.W.mg_of X G ac_NoMove
  have mc_NotLeast := PySem.W.mg_of X G ac_NotLeast
  have mc_Unlike := PySem.W.mg_of X G ac_Unlike
  have mg_MOST_THINGS := PySem.W.mg_of X G ag_MOST_THINGS
  have mg_MOST_EXCHANGES := PySem.W.mg_of X G ag_MOST_EXCHANGES
  have e := hfa.symm.trans m_law
  cases e
  refine ⟨PySem.W.fnOf "law" "law" (defArgs (top 78)) (defBody (top 78)) (defScope (top 78)) .none kV35 dc35 pm35 an35 cd35 ct35, fun s v => .of_eq rfl, fun base _ _ => ?_⟩
  have t0 : TPurse mg := ⟨z_len, z_abs, z_int⟩
  have t1 : T1 mg K := { t0 with b_all := z_all, b_isinstance := z_isinstance, b_bool := z_bool, b_tuple := z_tuple, b_list := z_list, b_range := z_range, k_ib := kib }
  have m_und := PySem.W.mg_of X G au
  have m_und2 := PySem.W.mg_of X G au2
  have ku : KNum K w.params U partsP := ⟨su, by decide, _, _, lu, .cons (.cons (.cons (.cons (.cons (.cons .nil)))))⟩
  have ku2 : KTxt K w.params UU undoing := ⟨su2, by decide, _, _, lu2, .cons (.cons .nil)⟩
  have fiw : FnAt l.prog w K mg base "is_whole" 1 ["thing"] spIwD := ⟨⟨_, _, ok_iwD F_is_whole t1, m_is_whole, k0, b_is_whole⟩⟩
  have td : TD l.prog w K mg base := { t1 with f_is_whole := fiw }
  have fbt : FnAt l.prog w K mg base "is_between" 2 ["thing", "low", "high"] spBtD := ⟨⟨_, _, ok_btD F_is_between td, m_is_between, k1, b_is_between⟩⟩
  have fbi : FnAt l.prog w K mg base "is_between" 2 ["thing", "low", "high"] spBt := ⟨⟨_, _, FnOk.weak (fun _ H _ _ z => by obtain ⟨x, lo, hi, e, q⟩ := z; exact ⟨.int x, fun _ => True, .int x, lo, hi, e, .int x, q⟩) (ok_btD F_is_between td), m_is_between, k1, b_is_between⟩⟩
  have td2 : TD2 l.prog w K mg base := { t1 with f_is_between := fbt }
  have td3 : TD3 l.prog w K mg base (.int 60 tk_MOST_EXCHANGES) := { t1 with g_MOST_EXCHANGES := mg_MOST_EXCHANGES, r_MOST_EXCHANGES := ⟨_, rfl⟩, f_is_exchange := ⟨⟨_, _, ok_isex F_is_exchange td2, m_is_exchange, k2, b_is_exchange⟩⟩ }
  have tca : TCa l.prog w K mg base := { t1 with b_sorted := z_sorted, f_exchanged := ⟨⟨_, _, ok_ex F_exchanged, m_exchanged, k7, b_exchanged⟩⟩ }
  have tmv : TMv l.prog w K mg base UU C_NoMove := { t1 with
    f_is_between := fbi
    f_carried := ⟨⟨_, _, ok_car F_carried tca, m_carried, k10, b_carried⟩⟩
    g_UNDOING := m_und2
    r_UNDOING := rfl
    k_UNDOING := ku2
    c_NoMove := mc_NoMove
    x_NoMove := xc_NoMove }
  have fmv : FnAtX l.prog w K mg base "moved" 3 ["row", "k", "way"] (spMvX C_NoMove) := ⟨⟨_, _, ok_mvX F_moved tmv, m_moved, k11, b_moved⟩⟩
  have twk : TWk l.prog w K mg base C_NoMove := { t1 with f_moved := fmv }
  have tim : TIm l.prog w K mg base := { t1 with b_str := z_str, f_is_whole := fiw }
  have tik : TIk l.prog w K mg base := { t1 with f_is_move := ⟨⟨_, _, ok_ismv F_is_move tim, m_is_move, k20, b_is_move⟩⟩ }
  have twh : TWh l.prog w K mg base (.int 12 tk_MOST_THINGS) C_NoMove := { t1 with
    g_MOST_THINGS := mg_MOST_THINGS
    r_MOST_THINGS := ⟨_, rfl⟩
    f_is_between := fbt
    f_is_row := ⟨⟨_, _, ok_isrow F_is_row td3, m_is_row, k3, b_is_row⟩⟩
    f_is_walk := ⟨⟨_, _, ok_iswk F_is_walk tik, m_is_walk, k21, b_is_walk⟩⟩
    f_walked := ⟨⟨_, _, ok_wkX F_walked twk, m_walked, k12, b_walked⟩⟩
    c_NoMove := mc_NoMove
    e1 := em_NoMove_NoMove }
  have tph : TPh5 l.prog w K mg base := { t1 with
    f_walk_holds := ⟨⟨_, _, ok_wkh F_walk_holds twh, m_walk_holds, k22, b_walk_holds⟩⟩
    f_row_holds := ⟨⟨_, _, ok_nev F_row_holds fun _ _ _ _ h => h, m_row_holds, k18, b_row_holds⟩⟩
    f_least_holds := ⟨⟨_, _, ok_nev F_least_holds fun _ _ _ _ h => h, m_least_holds, k19, b_least_holds⟩⟩
    f_half_holds := ⟨⟨_, _, ok_nev F_half_holds fun _ _ _ _ h => h, m_half_holds, k23, b_half_holds⟩⟩
    f_chain_holds := ⟨⟨_, _, ok_nev F_chain_holds fun _ _ _ _ h => h, m_chain_holds, k24, b_chain_holds⟩⟩
    f_counts_hold := ⟨⟨_, _, ok_nev F_counts_hold fun _ _ _ _ h => h, m_counts_hold, k25, b_counts_hold⟩⟩ }
  have thd : THd l.prog w K mg base U g65 R65 9 := { t1 with b_str := z_str, g_PARTS := m_und, r_PARTS := rfl, k_PARTS := ku, f_paper_holds := ⟨⟨_, _, ok_ph5 F_paper_holds tph, m_paper_holds, k26, b_paper_holds⟩⟩ }
  have ftake : FnAt l.prog w K mg base "_law_take" 1 ["_law_purse_here", "_law_many"] spTake := ⟨⟨_, _, ok_take F__law_take, m__law_take, k29, b__law_take⟩⟩
  have fex : FnAt l.prog w K mg base "exchanged" 1 ["exchange", "thing"] spEx := ⟨⟨_, _, ok_ex F_exchanged, m_exchanged, k7, b_exchanged⟩⟩
  have t2 : T2 l.prog w K mg base := { t1 with f_plain := ⟨⟨_, _, ok_plain F_plain t1, m_plain, k4, b_plain⟩⟩, f_exchanged := fex }
  have tr0 : TR0 l.prog w K mg base := { t1 with b_min := z_min, f_round_from := ⟨⟨_, _, ok_rf F_round_from, m_round_from, k5, b_round_from⟩⟩ }
  have fled : FnAt l.prog w K mg base "led" 3 ["n", "row"] spLed := ⟨⟨_, _, ok_led F_led t2, m_led, k8, b_led⟩⟩
  have frd : FnAt l.prog w K mg base "rounds" 3 ["order"] spRounds := ⟨⟨_, _, ok_rounds F_rounds tr0, m_rounds, k6, b_rounds⟩⟩
  have tr1 : TR1 l.prog w K mg base := { t1 with f_led := fled, f_rounds := frd }
  have tno : TNo l.prog w K mg base := { t1 with b_min := z_min, b_enumerate := z_enumerate }
  have tst : TStw l.prog w K mg base := { t1 with f_nearest_other := ⟨⟨_, _, ok_no F_nearest_other tno, m_nearest_other, k13, b_nearest_other⟩⟩, f_joining_move := ⟨⟨_, _, ok_jm F_joining_move t1, m_joining_move, k14, b_joining_move⟩⟩ }
  have tts : TTs l.prog w K mg base C_NoMove C_NotLeast := { t1 with
    f_is_least := ⟨⟨_, _, ok_least F_is_least tr1, m_is_least, k9, b_is_least⟩⟩
    f_led := fled
    f_rounds := frd
    f_starward := ⟨⟨_, _, ok_stw F_starward tst, m_starward, k15, b_starward⟩⟩
    f_walked := ⟨⟨_, _, ok_wkX F_walked twk, m_walked, k12, b_walked⟩⟩
    c_NotLeast := mc_NotLeast
    x_NotLeast := xc_NotLeast }
  have fts : FnAtX l.prog w K mg base "to_star" 5 ["n", "row"] (spTs C_NotLeast) := ⟨⟨_, _, ok_ts F_to_star tts, m_to_star, k16, b_to_star⟩⟩
  have fro : FnAt l.prog w K mg base "_law_rounds" 1 ["_law_order_here"] spRounds := ⟨⟨_, _, ok_lrounds F__law_rounds t1, m__law_rounds, k31, b__law_rounds⟩⟩
  have tls : TLs l.prog w K mg base := { t1 with b_min := z_min, b_max := z_max, f__law_take := ftake, f__law_rounds := fro }
  have to : TO l.prog w K mg base := { t1 with f__law_take := ftake }
  have tlm : TLm l.prog w K mg base := { t1 with b_min := z_min, b_max := z_max }
  have tle : TLe l.prog w K mg base := { t1 with f__law_moved := ⟨⟨_, _, ok_lmv F__law_moved tlm, m__law_moved, k33, b__law_moved⟩⟩ }
  have tbw : TBw l.prog w K mg base UU C_NotLeast C_Unlike := { t1 with
    b_reversed := z_reversed
    f_led := fled
    f_to_star := fts
    g_UNDOING := m_und2
    r_UNDOING := rfl
    k_UNDOING := ku2
    c_Unlike := mc_Unlike
    x_Unlike := xc_Unlike }
  have tl : TL l.prog w K mg base C_NotLeast C_Unlike := { t1 with
    b_min := z_min
    b_max := z_max
    f__law_purse := ⟨⟨_, _, ok_purse F__law_purse t0, m__law_purse, k28, b__law_purse⟩⟩
    f__law_take := ftake
    f__law_order := ⟨⟨_, _, ok_order F__law_order to, m__law_order, k30, b__law_order⟩⟩
    f__law_least_row := ⟨⟨_, _, ok_lsr F__law_least_row tls, m__law_least_row, k32, b__law_least_row⟩⟩
    f__law_end := ⟨⟨_, _, ok_lend F__law_end tle, m__law_end, k34, b__law_end⟩⟩
    f_between := ⟨⟨_, _, ok_bw F_between tbw, m_between, k17, b_between⟩⟩
    f_holds := ⟨⟨_, _, ok_holds F_holds thd, m_holds, k27, b_holds⟩⟩ }
  exact ok_law F_law tl
theorem walk {l : PySem.W.OpenLaw} {q : Program} {loose : List Str} {XP : (Str → Option Value) → Heap → Prop} {YP : World → Heap → Prop} {d : DefRec} {K : Params → PySem.W.Frag} (hn : l.most = some 63) (hdf : d.params.defaults = [])
    (hY : ∀ (w : World) (h : Heap), YP w h → (K w.params).In h)
    (F : ∀ (w : World) (mg : Str → Option Value) (fa : Addr) (h : Heap), (K w.params).In h → h.Ns mainGlobals mg → mg d.name = some (.ref fa) →
      ∃ fd : FuncData, (∀ (s : Shared) (u : Value), BindsTo s fd ⟨[u], []⟩ [("_law_script", u)]) ∧ ∀ base : Heap, (K w.params).In base → base.Ns mainGlobals mg → FnOk l.prog w (K w.params) mg base CX0 11 fa fd ["_law_script"] (spLaw (K w.params))) :
    PySem.W.WalkO q loose XP YP l.row.toRowW d [] (fun f vs => PySem.call f vs) :=
  L2.walk_of (n := 63) (k := 11) (x := "_law_script") (CX := fun _ => CX0) (sp := fun w => spLaw (K w.params)) hn (by decide) hdf ⟨rfl, rfl, by decide, by decide⟩ hY F (fun _ _ a ns hl _ hS => ⟨a, ns, rfl, hS, hl, fun _ => rfl⟩) fun _ _ _ _ _ z => z
end Sw
def PySem.W.Fast.tw11746240182253131575 : Nat := 0
def PySem.W.Fast.tw509773520880954079 : Nat := 0
def PySem.W.Fast.tw6666904529436753742 : Nat := 0
def PySem.W.Fast.tw5670606749316694664 : Nat := 0
def PySem.W.Fast.tw16241131015863120169 : Nat := 0
def PySem.W.Fast.tw7317840198744414883 : Nat := 0
def PySem.W.Fast.tw1203900149081447938 : Nat := 0
def PySem.W.Fast.tw59047935848570798 : Nat := 0
def PySem.W.Fast.tw3761411964140453753 : Nat := 0
def PySem.W.Fast.tw16787439714299850161 : Nat := 0
def PySem.W.Fast.tw9930653968431293482 : Nat := 0
def PySem.W.Fast.tw3444640839481851731 : Nat := 0
def PySem.W.Fast.tw4222726733379056240 : Nat := 0
def PySem.W.Fast.tw1293445903518659164 : Nat := 0
def PySem.W.Fast.tw11887363395598772689 : Nat := 0
def PySem.W.Fast.tw10217954119836648451 : Nat := 0
def PySem.W.Fast.tw9345522781694344753 : Nat := 0
def PySem.W.Fast.tw10398472651289148147 : Nat := 0
def PySem.W.Fast.tw10914479927984960606 : Nat := 0
def PySem.W.Fast.tw15870480753476139014 : Nat := 0
def PySem.W.Fast.tw3717912485067036322 : Nat := 0
def PySem.W.Fast.tw5776622626802739180 : Nat := 0
def PySem.W.Fast.tw15886687968672519682 : Nat := 0
def PySem.W.Fast.tw811471718624929456 : Nat := 0
def PySem.W.Fast.tw16159170331928500721 : Nat := 0
def PySem.W.Fast.tw17675135607391727316 : Nat := 0
def PySem.W.Fast.tw15563044882222450561 : Nat := 0
def PySem.W.Fast.tw12189639898538842969 : Nat := 0
open PySem PySem.W PyProof.Rows
set_option maxRecDepth 100000 in
set_option maxHeartbeats 0 in
theorem PySem.Challenge.cw_swapstars_k18_whole_least_rows_walk_holds : PySem.Challenge.rw_swapstars_k18_whole_least_rows_walk.Holds := by
  w_on; o_law; k_head; (case hw => w_witness2)
  k_fill
  refine Sw.walk (l := PySem.Challenge.rw_swapstars_k18_whole_least_rows_walk) rfl rfl (fun w h Y => PySem.W.kIn_of Y) ?F
  case F =>
    intro w mg fa h KX G hmg
    refine' Sw.all_mk KX G hmg ?a0 ?l0 ?c0 ?k0 ?a1 ?l1 ?c1 ?k1 ?a2 ?l2 ?c2 ?k2 ?a3 ?l3 ?c3 ?k3 ?a4 ?l4 ?c4 ?k4 ?a5 ?l5 ?c5 ?k5 ?a6 ?l6 ?c6 ?k6 ?a7 ?l7 ?c7 ?k7 ?a8 ?l8 ?c8 ?k8 ?a9 ?l9 ?c9 ?k9 ?a10 ?l10 ?c10 ?k10 ?a11 ?l11 ?c11 ?k11 ?a12 ?l12 ?c12 ?k12 ?a13 ?l13 ?c13 ?k13 ?a14 ?l14 ?c14 ?k14 ?a15 ?l15 ?c15 ?k15 ?a16 ?l16 ?c16 ?k16 ?a17 ?l17 ?c17 ?k17 ?a18 ?l18 ?c18 ?k18 ?a19 ?l19 ?c19 ?k19 ?a20 ?l20 ?c20 ?k20 ?a21 ?l21 ?c21 ?k21 ?a22 ?l22 ?c22 ?k22 ?a23 ?l23 ?c23 ?k23 ?a24 ?l24 ?c24 ?k24 ?a25 ?l25 ?c25 ?k25 ?a26 ?l26 ?c26 ?k26 ?a27 ?l27 ?c27 ?k27 ?a28 ?l28 ?c28 ?k28 ?a29 ?l29 ?c29 ?k29 ?a30 ?l30 ?c30 ?k30 ?a31 ?l31 ?c31 ?k31 ?a32 ?l32 ?c32 ?k32 ?a33 ?l33 ?c33 ?k33 ?a34 ?l34 ?c34 ?k34 ?a35 ?l35 ?c35 ?k35 ?z_len ?z_abs ?z_int ?z_all ?z_isinstance ?z_bool ?z_tuple ?z_list ?z_range ?z_min ?z_max ?z_sorted ?z_enumerate ?z_reversed ?z_str ?ac_NoMove ?ac_NotLeast ?ac_Unlike ?xc_NoMove ?ei_NoMove ?kv_NoMove ?kx_NoMove_NoMove ?em_NoMove_NoMove ?kx_NoMove_NotLeast ?kx_NoMove_Unlike ?xc_NotLeast ?ei_NotLeast ?kv_NotLeast ?kx_NotLeast_NoMove ?kx_NotLeast_NotLeast ?kx_NotLeast_Unlike ?xc_Unlike ?ei_Unlike ?kv_Unlike ?kx_Unlike_NoMove ?kx_Unlike_NotLeast ?kx_Unlike_Unlike ?ag_MOST_THINGS ?ag_MOST_EXCHANGES ?au ?lu ?au2 ?lu2 ?su2 ?su ?kib
    (case a0 => k_is); (case l0 => k_is); (case c0 => k_is); (case k0 => k_is)
    (case a1 => k_is); (case l1 => k_is); (case c1 => k_is); (case k1 => k_is)
    (case a2 => k_is); (case l2 => k_is); (case c2 => k_is); (case k2 => k_is)
    (case a3 => k_is); (case l3 => k_is); (case c3 => k_is); (case k3 => k_is)
    (case a4 => k_is); (case l4 => k_is); (case c4 => k_is); (case k4 => k_is)
    (case a5 => k_is); (case l5 => k_is); (case c5 => k_is); (case k5 => k_is)
    (case a6 => k_is); (case l6 => k_is); (case c6 => k_is); (case k6 => k_is)
    (case a7 => k_is); (case l7 => k_is); (case c7 => k_is); (case k7 => k_is)
    (case a8 => k_is); (case l8 => k_is); (case c8 => k_is); (case k8 => k_is)
    (case a9 => k_is); (case l9 => k_is); (case c9 => k_is); (case k9 => k_is)
    (case a10 => k_is); (case l10 => k_is); (case c10 => k_is); (case k10 => k_is)
    (case a11 => k_is); (case l11 => k_is); (case c11 => k_is); (case k11 => k_is)
    (case a12 => k_is); (case l12 => k_is); (case c12 => k_is); (case k12 => k_is)
    (case a13 => k_is); (case l13 => k_is); (case c13 => k_is); (case k13 => k_is)
    (case a14 => k_is); (case l14 => k_is); (case c14 => k_is); (case k14 => k_is)
    (case a15 => k_is); (case l15 => k_is); (case c15 => k_is); (case k15 => k_is)
    (case a16 => k_is); (case l16 => k_is); (case c16 => k_is); (case k16 => k_is)
    (case a17 => k_is); (case l17 => k_is); (case c17 => k_is); (case k17 => k_is)
    (case a18 => k_is); (case l18 => k_is); (case c18 => k_is); (case k18 => k_is)
    (case a19 => k_is); (case l19 => k_is); (case c19 => k_is); (case k19 => k_is)
    (case a20 => k_is); (case l20 => k_is); (case c20 => k_is); (case k20 => k_is)
    (case a21 => k_is); (case l21 => k_is); (case c21 => k_is); (case k21 => k_is)
    (case a22 => k_is); (case l22 => k_is); (case c22 => k_is); (case k22 => k_is)
    (case a23 => k_is); (case l23 => k_is); (case c23 => k_is); (case k23 => k_is)
    (case a24 => k_is); (case l24 => k_is); (case c24 => k_is); (case k24 => k_is)
    (case a25 => k_is); (case l25 => k_is); (case c25 => k_is); (case k25 => k_is)
    (case a26 => k_is); (case l26 => k_is); (case c26 => k_is); (case k26 => k_is)
    (case a27 => k_is); (case l27 => k_is); (case c27 => k_is); (case k27 => k_is)
    (case a28 => k_is); (case l28 => k_is); (case c28 => k_is); (case k28 => k_is)
    (case a29 => k_is); (case l29 => k_is); (case c29 => k_is); (case k29 => k_is)
    (case a30 => k_is); (case l30 => k_is); (case c30 => k_is); (case k30 => k_is)
    (case a31 => k_is); (case l31 => k_is); (case c31 => k_is); (case k31 => k_is)
    (case a32 => k_is); (case l32 => k_is); (case c32 => k_is); (case k32 => k_is)
    (case a33 => k_is); (case l33 => k_is); (case c33 => k_is); (case k33 => k_is)
    (case a34 => k_is); (case l34 => k_is); (case c34 => k_is); (case k34 => k_is)
    (case a35 => k_is); (case l35 => k_is); (case c35 => k_is); (case k35 => k_is)
    (case z_len => k_is); (case z_abs => k_is); (case z_int => k_is); (case z_all => k_is); (case z_isinstance => k_is); (case z_bool => k_is); (case z_tuple => k_is); (case z_list => k_is); (case z_range => k_is); (case z_min => k_is); (case z_max => k_is); (case z_sorted => k_is); (case z_enumerate => k_is); (case z_reversed => k_is); (case z_str => k_is)
    (case ac_NoMove => k_is)
    (case ac_NotLeast => k_is)
    (case ac_Unlike => k_is)
    (case xc_NoMove => kernel_rfl)
    (case ei_NoMove => exact ⟨by k_is, by k_is, by k_is, by k_is, by k_is, by k_is, by k_is, by kernel_rfl⟩)
    (case kv_NoMove => kit_is)
    (case kx_NoMove_NoMove => kit_is)
    (case em_NoMove_NoMove => exact ⟨by k_is, by kernel_rfl, by k_is, by k_is⟩)
    (case kx_NoMove_NotLeast => kit_is)
    (case kx_NoMove_Unlike => kit_is)
    (case xc_NotLeast => kernel_rfl)
    (case ei_NotLeast => exact ⟨by k_is, by k_is, by k_is, by k_is, by k_is, by k_is, by k_is, by kernel_rfl⟩)
    (case kv_NotLeast => kit_is)
    (case kx_NotLeast_NoMove => kit_is)
    (case kx_NotLeast_NotLeast => kit_is)
    (case kx_NotLeast_Unlike => kit_is)
    (case xc_Unlike => kernel_rfl)
    (case ei_Unlike => exact ⟨by k_is, by k_is, by k_is, by k_is, by k_is, by k_is, by k_is, by kernel_rfl⟩)
    (case kv_Unlike => kit_is)
    (case kx_Unlike_NoMove => kit_is)
    (case kx_Unlike_NotLeast => kit_is)
    (case kx_Unlike_Unlike => kit_is)
    (case ag_MOST_THINGS => k_is)
    (case ag_MOST_EXCHANGES => k_is)
    (case au => k_is)
    (case lu => k_is)
    (case su => rfl)
    (case au2 => k_is)
    (case lu2 => k_is)
    (case su2 => rfl)
    (case kib => exact L2.kit_int_bool _)
