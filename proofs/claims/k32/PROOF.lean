import PyProof.Rows.All
import Wide.All
import OpenK.AllK
import Wide.FinOn
import Lean
import PyProof.EqAt
import PyProof.EqKinds
import PyProof.TupleCall
import KE.KIntText
import PyProof.StrBlockH
import PyProof.StrLawsTight
import PyProof.StrLawsReplace
import PyProof.StrLawsJoin
import PyProof.StrLawsNeg
import KE.LcSums
import KE.KSortAsk
import PyProof.ZipIter
import KE.KItemsList
import KE.KRevIter
import PySem.Challenge.RW_swapstars_k32_sharings_known
set_option Elab.async false
set_option linter.all false
set_option maxRecDepth 100000
set_option maxHeartbeats 8000000
namespace L2
open PySem PySem.Spec PyProof.Rows
abbrev Key := Sum Int Str
def keyIs : Key → Value → Bool
  | .inl k, v => Value.isInt k v
  | .inr x, v => Value.isStrOf x v
def keyH (w : World) : Key → Int
  | .inl k => hashInt k
  | .inr x => hashStr w x
theorem keyIs_shape : ∀ {k : Key} {v : Value}, keyIs k v = true → (∃ i t, k = Sum.inl i ∧ v = Value.int i t) ∨ (∃ x t, k = Sum.inr x ∧ v = Value.str x t)
  | .inl i, v, h => by
    obtain ⟨t, e⟩ := Value.isInt_shape (k := i) (v := v) h
    exact .inl ⟨i, t, rfl, e⟩
  | .inr x, v, h => by
    obtain ⟨t, e⟩ := Value.isStrOf_shape (x := x) (v := v) h
    exact .inr ⟨x, t, rfl, e⟩
theorem key_ll (a b : Int) : decide ((Sum.inl a : Key) = Sum.inl b) = (a == b) := by
  by_cases e : a = b
  · subst e; simp
  · have h : ¬ (Sum.inl a : Key) = Sum.inl b := fun q => e (Sum.inl.inj q)
    rw [decide_eq_false h]
    exact (beq_eq_false_iff_ne.mpr e).symm
theorem key_rr (a b : Str) : decide ((Sum.inr a : Key) = Sum.inr b) = decide (a = b) := by
  by_cases e : a = b
  · subst e; simp
  · have h : ¬ (Sum.inr a : Key) = Sum.inr b := fun q => e (Sum.inr.inj q)
    rw [decide_eq_false h, decide_eq_false e]
theorem key_lr (a : Int) (b : Str) : decide ((Sum.inl a : Key) = Sum.inr b) = false := decide_eq_false (fun q => nomatch q)
theorem key_rl (a : Str) (b : Int) : decide ((Sum.inr a : Key) = Sum.inl b) = false := decide_eq_false (fun q => nomatch q)
def mixKind (prog : Program) (w : World) : PySem.KeyKind prog w Key where
  is := keyIs
  hash := keyH w
  inj := fun v a b ha hb => by
    rcases keyIs_shape ha with ⟨i, t, rfl, rfl⟩ | ⟨x, t, rfl, rfl⟩
    · rcases keyIs_shape hb with ⟨j, u, rfl, e⟩ | ⟨y, u, rfl, e⟩
      · injection e with e1 _; rw [e1]
      · exact nomatch e
    · rcases keyIs_shape hb with ⟨j, u, rfl, e⟩ | ⟨y, u, rfl, e⟩
      · exact nomatch e
      · injection e with e1 _; rw [e1]
  byValue := fun k v h => by
    rcases keyIs_shape h with ⟨i, t, rfl, rfl⟩ | ⟨x, t, rfl, rfl⟩ <;> rfl
  pyHash := fun hv h => by
    rcases keyIs_shape hv with ⟨i, t, rfl, rfl⟩ | ⟨x, t, rfl, rfl⟩
    · exact wpAny_pyHash_int h
    · exact wpAny_pyHash_str h
  eqBool := fun hu hv h => by
    rcases keyIs_shape hu with ⟨i, t, rfl, rfl⟩ | ⟨x, t, rfl, rfl⟩
    · rcases keyIs_shape hv with ⟨j, u, rfl, rfl⟩ | ⟨y, u, rfl, rfl⟩
      · rw [key_ll] at h; exact wpAny_eqBool_int h
      · rw [key_lr] at h; exact SeqAt.EqAt.int_str i t y u _ _ _ _ h
    · rcases keyIs_shape hv with ⟨j, u, rfl, rfl⟩ | ⟨y, u, rfl, rfl⟩
      · rw [key_rl] at h; exact SeqAt.EqAt.str_int x t j u _ _ _ _ h
      · rw [key_rr] at h; exact wpAny_eqBool_str h
  «strs» := fun k x t v h => by
    rcases keyIs_shape h with ⟨i, u, rfl, e⟩ | ⟨y, u, rfl, e⟩
    · exact nomatch e
    · injection e with e1 _
      subst e1
      cases v <;> rfl
end L2
namespace L2
open PySem PySem.Spec PyProof.Rows
inductive V where
  | non | bl (b : Bool) | int (i : Int) | str (x : Str) | byt (b : Array UInt8) | flt (b : UInt64) | ref (a : Addr) | ty (n : String)
  deriving DecidableEq
def RelV : V → Value → Prop
  | .non, u => u = Value.none
  | .bl b, u => u = Value.bool b
  | .int i, u => ∃ t, u = Value.int i t
  | .str x, u => ∃ t, u = Value.str x t
  | .byt b, u => ∃ t, u = Value.bytes b t
  | .flt b, u => ∃ t, u = Value.float b t
  | .ref a, u => u = Value.ref a
  | .ty n, u => u = Value.type n
abbrev Vals : List V → List Value → Prop := Paired RelV
theorem Vals.length {xs : List V} {us : List Value} (r : Vals xs us) : xs.length = us.length := Paired.length r
theorem Vals.get : ∀ {xs : List V} {us : List Value} {i : Nat} {x : V}, Vals xs us → xs[i]? = some x → ∃ u, us[i]? = some u ∧ RelV x u
  | _, _, _, _, .nil, e => by simp at e
  | _, _, 0, _, .cons r _, e => by simp at e; subst e; exact ⟨_, rfl, r⟩
  | _, _, i + 1, x, .cons _ t, e => by
    obtain ⟨u, h1, h2⟩ := Vals.get (i := i) (x := x) t (by simpa using e)
    exact ⟨u, by simpa using h1, h2⟩
theorem Vals.set {x : V} {u : Value} (r : RelV x u) : ∀ {xs : List V} {us : List Value} (i : Nat), Vals xs us → Vals (xs.set i x) (us.set i u)
  | _, _, _, .nil => .nil
  | _, _, 0, .cons _ t => .cons r t
  | _, _, i + 1, .cons q t => .cons q (Vals.set r i t)
theorem Vals.append : ∀ {xs ys : List V} {us ws : List Value}, Vals xs us → Vals ys ws → Vals (xs ++ ys) (us ++ ws)
  | _, _, _, _, .nil, s => s
  | _, _, _, _, .cons r t, s => .cons r (Vals.append t s)
theorem Vals.take : ∀ {xs : List V} {us : List Value} (n : Nat), Vals xs us → Vals (xs.take n) (us.take n)
  | _, _, 0, _ => .nil
  | _, _, _ + 1, .nil => .nil
  | _, _, n + 1, .cons r t => .cons r (Vals.take n t)
theorem Vals.drop : ∀ {xs : List V} {us : List Value} (n : Nat), Vals xs us → Vals (xs.drop n) (us.drop n)
  | _, _, 0, r => r
  | _, _, _ + 1, .nil => .nil
  | _, _, n + 1, .cons _ t => Vals.drop n t
def RelO : Option V → Option Value → Prop
  | some v, some u => RelV v u
  | none, none => True
  | _, _ => False
def KV {κ : Type} : List (κ × V) → List (κ × Value) → Prop := Paired fun (p : κ × V) (q : κ × Value) => p.1 = q.1 ∧ RelV p.2 q.2
def kV : Key → V
  | .inl i => .int i
  | .inr x => .str x
inductive HO where
  | lst (xs : List V)
  | tup (xs : List V)
  | dK (kvs : List (Key × V)) | dT (kvs : List (List Key × V))
  | set (S : Int → Bool) (n : Nat)
  | ins (C dx : Addr) (fs : List (Str × V))
  | own (x : Addr)
  | xd (fs : List (Str × V))
  | met (f x : Addr)
  | rng (lo hi : Int)
  | frz (o : Obj) (u : HO)
  | tbl (ps : Array Value)
  | ext (φ : Heap → Prop)
abbrev Hp := Addr → Option HO
def upd (H : Hp) (a : Addr) (o : HO) : Hp := fun b => if b = a then some o else H b
theorem upd_same {H : Hp} {a : Addr} {o : HO} : upd H a o a = some o := by unfold upd; rw [if_pos rfl]
theorem upd_ne {H : Hp} {a b : Addr} {o : HO} (h : b ≠ a) : upd H a o b = H b := by unfold upd; rw [if_neg h]
theorem ne_of_none {H : Hp} {a b : Addr} {o : HO} (h : H a = some o) (h' : H b = none) : a ≠ b := by
  intro e; subst e; rw [h] at h'; cases h'
section
variable (P : Program) (w : World)
def ObjOk (H : Hp) (h : Heap) (a : Addr) : HO → Prop
  | .lst xs => xs.length ≤ sizeLine ∧ ∃ (its : List Value) (n : Nat), Vals xs its ∧ h.get? a = some { cls := .type "list", data := .seq its.toArray n }
  | .tup xs => xs.length ≤ sizeLine ∧ ∃ its : List Value, Vals xs its ∧ IsTup h a its.toArray
  | .dK kvs => kvs.length ≤ sizeLine ∧ (a == sysModules) = false ∧ ∃ vs, KV kvs vs ∧ h.DictOf (mixKind P w) a vs
  | .dT kvs => kvs.length ≤ sizeLine ∧ (a == sysModules) = false ∧ ∃ xs : List (List Key × Addr × Value),
      Paired (fun (p : List Key × V) (q : List Key × Addr × Value) => p.1 = q.1 ∧ H q.2.1 = some (.tup (p.1.map kV)) ∧ RelV p.2 q.2.2) kvs xs ∧
      ∃ o es ep, h.get? a = some o ∧ o.ExactDict ∧ o.data = .dict es ep ∧ es.toList = xs.map (entryOfKey (tupleKind (mixKind P w))) ∧ (xs.map (·.1)).Nodup
  | .set S n => h.SetOf (intKind P w) a S n
  | .ins C dx fs => H dx = some (.own a) ∧ fs.length ≤ 1000 ∧ dx ≠ a ∧ h.get? a = some (PySem.W.instObj C dx) ∧
      ∃ mA, h.Ns1 dx mA ∧ (∀ f, RelO (fs.lookup f) (mA f)) ∧ PySem.Within mA (fs.map (·.1))
  | .own _ => ∃ o, h.get? a = some o
  | .xd fs => ∃ mA, h.Ns1 a mA ∧ ∀ f, RelO (fs.lookup f) (mA f)
  | .rng lo hi => ∃ t u v, h.get? a = some { cls := .type "range", data := .fields #[.int lo t, .int hi u, .int 1 v] }
  | .frz o u => h.get? a = some o ∧ ObjOk H h a u
  | .tbl ps => h.get? a = some { cls := .none, data := .fields ps }
  | .met f x => h.get? a = some (PySem.W.methodObj (.ref f) (.ref x))
  | .ext φ => φ h ∧ (∃ o, h.get? a = some o) ∧ ∀ h1 h2 : Heap, φ h1 → (∀ o, h1.get? a = some o → h2.get? a = some o) → φ h2
def HOk (H : Hp) (h : Heap) : Prop := ∀ a o, H a = some o → ObjOk P w H h a o
end
section
variable {P : Program} {w : World} {H H' : Hp} {h h' : Heap} {a : Addr} {o : HO}
theorem ObjOk.lt (x : ObjOk P w H h a o) : a < h.objs.size := by
  cases o with
  | lst xs => obtain ⟨_, _, _, _, e⟩ := x; exact Heap.lt_size e
  | tup xs => obtain ⟨_, _, _, p⟩ := x; exact p.lt
  | dK kvs => obtain ⟨_, _, _, _, o, _, _, e, _⟩ := x; exact Heap.lt_size e
  | dT kvs => obtain ⟨_, _, _, _, o, _, _, e, _⟩ := x; exact Heap.lt_size e
  | set S n => obtain ⟨o, _, _, _, e, _⟩ := x; exact Heap.lt_size e
  | ins C dx fs => obtain ⟨_, _, _, e, _⟩ := x; exact Heap.lt_size e
  | own y => obtain ⟨_, e⟩ := x; exact Heap.lt_size e
  | xd fs => obtain ⟨_, ⟨_, _, _, e, _⟩, _⟩ := x; exact Heap.lt_size e
  | rng lo hi => obtain ⟨_, _, _, e⟩ := x; exact Heap.lt_size e
  | frz ob u => obtain ⟨e, _⟩ := x; exact Heap.lt_size e
  | tbl ps => exact Heap.lt_size (show h.get? a = some _ from x)
  | met f y => exact Heap.lt_size (show h.get? a = some _ from x)
  | ext φ => obtain ⟨_, ⟨_, e⟩, _⟩ := x; exact Heap.lt_size e
theorem Paired.mapP {α β : Type} {F G : α → β → Prop} : ∀ {l₁ : List α} {l₂ : List β}, Paired F l₁ l₂ → (∀ a b, F a b → G a b) → Paired G l₁ l₂
  | _, _, .nil, _ => .nil
  | _, _, .cons r t, f => .cons (f _ _ r) (Paired.mapP t f)
theorem ObjOk.stay (x : ObjOk P w H h a o) (k : ∀ b u, (b = a ∨ H b = some (.own a)) → h.get? b = some u → h'.get? b = some u)
    (ho : ∀ b, H b = some (.own a) → H' b = some (.own a)) (ht : ∀ b xs, H b = some (.tup xs) → H' b = some (.tup xs)) : ObjOk P w H' h' a o := by
  induction o with
  | lst xs => obtain ⟨z, its, n, r, e⟩ := x; exact ⟨z, its, n, r, k _ _ (.inl rfl) e⟩
  | tup xs => obtain ⟨z, its, r, ob, e, c⟩ := x; exact ⟨z, its, r, ob, k _ _ (.inl rfl) e, c⟩
  | dK kvs => obtain ⟨z, y, vs, r, ob, es, ep, e, c⟩ := x; exact ⟨z, y, vs, r, ob, es, ep, k _ _ (.inl rfl) e, c⟩
  | dT kvs =>
    obtain ⟨z, y, xs, r, ob, es, ep, e, c⟩ := x
    exact ⟨z, y, xs, Paired.mapP r fun p q z => ⟨z.1, ht _ _ z.2.1, z.2.2⟩, ob, es, ep, k _ _ (.inl rfl) e, c⟩
  | set S n => obtain ⟨ob, es, ep, t, e, c⟩ := x; exact ⟨ob, es, ep, t, k _ _ (.inl rfl) e, c⟩
  | ins C dx fs =>
    obtain ⟨d, z, ne, e, mA, ⟨od, es, ep, e2, c⟩, r⟩ := x
    exact ⟨ho _ d, z, ne, k _ _ (.inl rfl) e, mA, ⟨od, es, ep, k _ _ (.inr d) e2, c⟩, r⟩
  | own y => obtain ⟨ob, e⟩ := x; exact ⟨ob, k _ _ (.inl rfl) e⟩
  | xd fs => obtain ⟨mA, ⟨od, es, ep, e, c⟩, r⟩ := x; exact ⟨mA, ⟨od, es, ep, k _ _ (.inl rfl) e, c⟩, r⟩
  | rng lo hi => obtain ⟨t, u, v, e⟩ := x; exact ⟨t, u, v, k _ _ (.inl rfl) e⟩
  | frz ob u ih => obtain ⟨e, q⟩ := x; exact ⟨k _ _ (.inl rfl) e, ih q⟩
  | tbl ps =>
    have e : h.get? a = some { cls := .none, data := .fields ps } := x
    show h'.get? a = some { cls := .none, data := .fields ps }
    exact k a _ (.inl rfl) e
  | met f y =>
    have e : h.get? a = some (PySem.W.methodObj (.ref f) (.ref y)) := x
    show h'.get? a = some (PySem.W.methodObj (.ref f) (.ref y))
    exact k a _ (.inl rfl) e
  | ext φ => obtain ⟨p, ⟨o, e⟩, st⟩ := x; exact ⟨st _ _ p fun o q => k _ _ (.inl rfl) q, ⟨o, k _ _ (.inl rfl) e⟩, st⟩
theorem HOk.lt (x : HOk P w H h) (e : H a = some o) : a < h.objs.size := (x a o e).lt
theorem HOk.fresh (x : HOk P w H h) (e : h.objs.size ≤ a) : H a = none := by
  cases q : H a with
  | none => rfl
  | some u => exact absurd (Nat.lt_of_lt_of_le (x.lt q) e) (Nat.lt_irrefl _)
theorem HOk.kept (x : HOk P w H h) (k : ∀ b u, h.get? b = some u → h'.get? b = some u) : HOk P w H h' := fun a o e =>
  (x a o e).stay (fun b u _ q => k b u q) (fun _ q => q) fun _ _ q => q
theorem HOk.laid (x : HOk P w H h) (k : ∀ b u, h.get? b = some u → h'.get? b = some u) (hp : h.objs.size ≤ a) (new : ObjOk P w (upd H a o) h' a o) : HOk P w (upd H a o) h' := fun b u e => by
  have hn := x.fresh hp
  by_cases hb : b = a
  · subst hb; rw [upd_same] at e; cases e; exact new
  · rw [upd_ne hb] at e
    exact (x b u e).stay (fun c v _ q => k c v q) (fun c q => by rw [upd_ne (ne_of_none q hn)]; exact q) fun c xs q => by rw [upd_ne (ne_of_none q hn)]; exact q
end
def Rd (H : Hp) (a : Addr) (u : HO) : Prop := H a = some u ∨ ∃ o, H a = some (.frz o u)
theorem Rd.ok {P : Program} {w : World} {H : Hp} {h : Heap} {a : Addr} {u : HO} (r : Rd H a u) (x : HOk P w H h) : ObjOk P w H h a u := by
  rcases r with r | ⟨o, r⟩
  · exact x a u r
  · obtain ⟨_, q⟩ := x a _ r
    exact q
def Mut : Option HO → Prop
  | some (.lst _) => True
  | some (.dK _) => True
  | some (.dT _) => True
  | some (.set _ _) => True
  | some (.ins _ _ _) => True
  | some (.ext _) => True
  | _ => False
section
variable {P : Program} {w : World} {H : Hp} {h h' : Heap} {x e : Addr} {o' : HO}
theorem HOk.write (ok : HOk P w H h) (mu : Mut (H x)) (he : e = x ∨ H e = some (.own x)) (k : ∀ b u, b ≠ e → h.get? b = some u → h'.get? b = some u) (heo : ∃ u, h'.get? e = some u)
    (new : ObjOk P w (upd H x o') h' x o') : HOk P w (upd H x o') h' := fun b u q => by
  have nown : ∀ c y, H c = some (.own y) → c ≠ x := fun c y r z => by subst z; rw [r] at mu; exact mu
  have ntup : ∀ c xs, H c = some (.tup xs) → c ≠ x := fun c xs r z => by subst z; rw [r] at mu; exact mu
  by_cases hb : b = x
  · subst hb; rw [upd_same] at q; cases q; exact new
  · rw [upd_ne hb] at q
    by_cases hbe : b = e
    · have q' : H b = some (.own x) := by
        rcases he with z | z
        · exact absurd (hbe.trans z) hb
        · rw [hbe]; exact z
      rw [q] at q'; cases q'
      obtain ⟨v, hv⟩ := heo
      exact ⟨v, by rw [hbe]; exact hv⟩
    · refine (ok b u q).stay (fun c v hc r => k c v ?_ r) (fun c r => by rw [upd_ne (nown c b r)]; exact r) fun c xs r => by rw [upd_ne (ntup c xs r)]; exact r
      rcases hc with rfl | hc
      · exact hbe
      · rintro rfl
        rcases he with z | z
        · exact nown c b hc z
        · rw [hc] at z; cases z; exact hb rfl
end
structure Un (fs ex : List Addr) (H H' : Hp) (h h' : Heap) : Prop where
  keep : ∀ b o, h.get? b = some o → H b = none → b ∉ fs → b ∉ ex → h'.get? b = some o
  slot : ∀ b o, h.get? b = some o → H b = none → b ∈ fs → b ∉ ex → ∃ sl, h'.get? b = some { o with slots := sl }
  free : ∀ b o, h.get? b = some o → H b = none → b ∉ ex → H' b = none
  there : ∀ b o, h.get? b = some o → b ∉ ex → ∃ o', h'.get? b = some o'
  tups : ∀ b xs, H b = some (.tup xs) → H' b = some (.tup xs)
  frzs : ∀ b o u, H b = some (.frz o u) → H' b = some (.frz o u)
  tbls : ∀ b ps, H b = some (.tbl ps) → ∃ more, H' b = some (.tbl (ps ++ more))
section
variable {fs fs' ex ex' : List Addr} {H H1 H2 : Hp} {h h1 h2 h' : Heap} {a x e : Addr} {o : HO}
theorem Un.any (u : Un fs ex H H1 h h1) {b : Addr} {ob : Obj} (q : h.get? b = some ob) (n : H b = none) (hx : b ∉ ex) : ∃ sl, h1.get? b = some { ob with slots := sl } := by
  by_cases hb : b ∈ fs
  · exact u.slot b ob q n hb hx
  · exact ⟨ob.slots, u.keep b ob q n hb hx⟩
theorem Un.kept (k : ∀ b u, h.get? b = some u → h'.get? b = some u) : Un fs ex H H h h' :=
  ⟨fun b ob q _ _ _ => k b ob q, fun b ob q _ _ _ => ⟨ob.slots, k b ob q⟩, fun _ _ _ n _ => n, fun b ob q _ => ⟨ob, k b ob q⟩, fun _ _ q => q, fun _ _ _ q => q, fun _ ps q => ⟨#[], by rw [q]; simp⟩⟩
theorem Un.refl : Un fs ex H H h h := Un.kept fun _ _ q => q
theorem Un.laid (k : ∀ b u, h.get? b = some u → h'.get? b = some u) (hp : h.objs.size ≤ a) (hn : H a = none) : Un fs ex H (upd H a o) h h' where
  keep := fun b u q _ _ _ => k b u q
  slot := fun b u q _ _ _ => ⟨u.slots, k b u q⟩
  free := fun b u q n _ => by rw [upd_ne (Nat.ne_of_lt (Nat.lt_of_lt_of_le (Heap.lt_size q) hp))]; exact n
  there := fun b u q _ => ⟨u, k b u q⟩
  tups := fun b xs q => by rw [upd_ne (ne_of_none q hn)]; exact q
  frzs := fun b u xs q => by rw [upd_ne (ne_of_none q hn)]; exact q
  tbls := fun b ps q => ⟨#[], by rw [upd_ne (ne_of_none q hn), q]; simp⟩
theorem Un.write (mu : Mut (H x)) (he : e = x ∨ H e = some (.own x)) (k : ∀ b u, b ≠ e → h.get? b = some u → h'.get? b = some u) (heo : ∃ u, h'.get? e = some u) : Un fs ex H (upd H x o) h h' := by
  have hx : ∀ b, H b = none → b ≠ x := fun b n z => by subst z; rw [n] at mu; exact mu
  have hb : ∀ b, H b = none → b ≠ e := fun b n z => by
    subst z
    rcases he with r | r
    · exact hx b n r
    · rw [n] at r; cases r
  have hm : ∀ b u, H b = some u → ¬ Mut (some u) → b ≠ x := fun b u q nm z => by subst z; rw [q] at mu; exact nm mu
  refine ⟨fun b u q n _ _ => k b u (hb b n) q, fun b u q n _ _ => ⟨u.slots, k b u (hb b n) q⟩, fun b u q n _ => by rw [upd_ne (hx b n)]; exact n, fun b u q _ => ?_,
    fun b xs q => by rw [upd_ne (hm b _ q fun z => z)]; exact q, fun b u xs q => by rw [upd_ne (hm b _ q fun z => z)]; exact q, fun b ps q => ⟨#[], by rw [upd_ne (hm b _ q fun z => z), q]; simp⟩⟩
  by_cases hbe : b = e
  · subst hbe; exact heo
  · exact ⟨u, k b u hbe q⟩
end
def trk (h : Heap) (H : Hp) : List Addr := (List.range h.objs.size).filter fun a => (H a).isSome
def hidT (h : Heap) (H : Hp) : Heap := PySem.W.hideAll h (trk h H)
theorem hidT_size (h : Heap) (H : Hp) : (hidT h H).objs.size = h.objs.size := PySem.W.hideAll_size _ _
theorem hidT_get {h : Heap} {H : Hp} {b : Addr} {o : Obj} (e : h.get? b = some o) (n : H b = none) : (hidT h H).get? b = some o :=
  PySem.W.hideAll_get _ e fun hm => by
    have q : (H b).isSome = true := (List.mem_filter.mp hm).2
    rw [n] at q; simp at q
theorem of_hidT {h : Heap} {H : Hp} {b : Addr} {o : Obj} (e : (hidT h H).get? b = some o) : h.get? b = some o ∧ H b = none := by
  have e' : h.get? b = some o := PySem.W.of_hideAll (trk h H) e
  refine ⟨e', ?_⟩
  cases q : H b with
  | none => rfl
  | some x =>
    have hm : b ∈ trk h H := List.mem_filter.mpr ⟨List.mem_range.mpr (Heap.lt_size e'), by simp [q]⟩
    have z : (hidT h H).get? b = none := PySem.W.hideAll_none (trk h H) hm
    rw [z] at e; cases e
def allNews (g h : Heap) (L : Addr) : List (Addr × Obj) := (List.range h.objs.size).filterMap fun a => if a = L ∨ (g.get? a).isSome = true then none else (h.get? a).map fun o => (a, o)
def rest (g h : Heap) (L d : Addr) : List (Addr × Obj) := (allNews g h L).filter fun p => decide (p.1 ≠ d)
end L2
namespace L2
open PySem PySem.Spec PyProof.Rows
structure Mod (K : PySem.W.Frag) (mg : Str → Option Value) (base : Heap) : Prop where
  kin : K.In base
  glob : base.Ns mainGlobals mg
  blt : ∃ mb, base.Ns builtinsNs mb ∧ ∀ x : Str, x ≠ "__name__" → mb x = bootBuiltins x
  nolimit : base.NoLimit
structure Cx where
  prog : Program
  w : World
  K : PySem.W.Frag
  mg : Str → Option Value
  base : Heap
  A : Around
  N : List Str
  s₀ : Shared
  H₀ : Hp
  env : Env
  outer : List Env
  stack : List Env
  ex : List Addr
  fn : Str → Bool
  calm : Bool
  pn : List (Addr × Obj)
  xe : Value → Shared → Prop
def frs (l : List Env) : List Addr := l.filterMap (·.frame)
abbrev Cx.fs (X : Cx) : List Addr := frs X.outer
def Vis (sc : Scope) (x : Str) : Prop := sc.names.lookup x = some .local ∨ sc.names.lookup x = some .cell ∨ sc.names.lookup x = some .free
def Loc (sc : Scope) (x : Str) : Prop := sc.names.lookup x = some .local ∨ sc.names.lookup x = some .cell
def Look (env : Env) (h : Heap) (m : Str → Option Value) (x : Str) (u : Value) : Prop :=
  (env.kindOf x = some .local ∧ m x = some u) ∨ ((env.kindOf x = some .cell ∨ env.kindOf x = some .free) ∧ ∃ c, env.cells.lookup x = some c ∧ h.IsCell c (some u))
structure Cx.Ok (X : Cx) : Prop where
  mod : Mod X.K X.mg X.base
  kind : X.env.scope.kind = .function
  glob : X.env.globals = mainGlobals
  blt : X.env.builtins = builtinsNs
  above : X.s₀.heap.objs.size ≤ X.env.locals
  inj : ∀ x y c, X.env.cells.lookup x = some c → X.env.cells.lookup y = some c → x = y
  has : ∀ x, (X.env.kindOf x = some .cell ∨ X.env.kindOf x = some .free) → ∃ c, X.env.cells.lookup x = some c
  cab : ∀ x c, X.fn x = true → X.env.cells.lookup x = some c → X.s₀.heap.objs.size ≤ c
  hd : X.calm = true → X.A.handled = none
  frames : X.A.frames = some X.stack
  stk : X.stack = X.outer ∨ (X.stack = X.env :: X.outer ∧ X.env.frame = some X.env.locals)
  exf : ∀ b ∈ X.ex, b ≠ X.env.locals ∧ ∀ x c, X.env.cells.lookup x = some c → c ≠ b
  bs : ∀ b o, X.base.get? b = some o → X.s₀.heap.get? b = some o ∧ X.H₀ b = none
  bsz : X.base.objs.size ≤ X.s₀.heap.objs.size
  noex : ∀ b o, X.base.get? b = some o → b ∉ X.ex
  exfs : ∀ b ∈ X.ex, b ∉ X.fs
  funs : X.s₀.heap.FunFrames X.base X.outer
  frf : ∀ b ∈ X.fs, X.H₀ b = none
structure Inv (X : Cx) (pins : List (Addr × Obj)) (σ : List (Option V)) (H : Hp) (s : Shared) : Prop where
  ok : X.Ok
  os : s.os = X.s₀.os
  bare : AllBare s.gens
  base : Un X.fs X.ex X.H₀ H X.s₀.heap s.heap
  loc : ∃ m, s.heap.Ns X.env.locals m ∧ ∀ (i : Nat) (x : Str) (v : V), X.N[i]? = some x → σ[i]? = some (some v) → Vis X.env.scope x → ∃ u, RelV v u ∧ Look X.env s.heap m x u
  cell : ∀ x c, X.env.cells.lookup x = some c → ∃ v, s.heap.IsCell c v
  free : H X.env.locals = none
  freeC : ∀ x c, X.env.cells.lookup x = some c → H c = none
  pin : ∀ p ∈ X.pn ++ pins, s.heap.get? p.1 = some p.2 ∧ H p.1 = none ∧ p.1 ≠ X.env.locals ∧ p.1 ∉ X.fs ∧ ∀ v, p.2.data ≠ .cell v
  hok : HOk X.prog X.w H s.heap
  len : σ.length = X.N.length
section
variable {X : Cx} {pins : List (Addr × Obj)} {σ : List (Option V)} {H H' : Hp} {s : Shared} {h' : Heap}
theorem Cx.Ok.nofr (ok : X.Ok) {b : Addr} {o : Obj} (e : X.base.get? b = some o) : b ∉ X.fs := fun hb => by
  have := (ok.funs.mem hb).1
  rw [e] at this; cases this
theorem Inv.bs (I : Inv X pins σ H s) : ∀ b o, X.base.get? b = some o → s.heap.get? b = some o ∧ H b = none := fun b o e =>
  ⟨I.base.keep b o (I.ok.bs b o e).1 (I.ok.bs b o e).2 (I.ok.nofr e) (I.ok.noex b o e), I.base.free b o (I.ok.bs b o e).1 (I.ok.bs b o e).2 (I.ok.noex b o e)⟩
theorem Inv.bk (I : Inv X pins σ H s) : ∀ b o, X.base.get? b = some o → s.heap.get? b = some o := fun b o e => (I.bs b o e).1
theorem Inv.mod (I : Inv X pins σ H s) : Mod X.K X.mg X.base := I.ok.mod
theorem Inv.kIn (I : Inv X pins σ H s) : X.K.In s.heap := I.ok.mod.kin.keeps I.bk
theorem Inv.lt (I : Inv X pins σ H s) : X.env.locals < s.heap.objs.size := let ⟨_, hn, _⟩ := I.loc; hn.lt
theorem Inv.sz (I : Inv X pins σ H s) : X.s₀.heap.objs.size ≤ s.heap.objs.size := Nat.le_trans I.ok.above (Nat.le_of_lt I.lt)
theorem Inv.nofs (I : Inv X pins σ H s) {a : Addr} (h : s.heap.objs.size ≤ a) : a ∉ X.fs := fun hb => by
  obtain ⟨_, o, ho, _⟩ := I.ok.funs.mem hb
  exact absurd (Nat.lt_of_lt_of_le (Heap.lt_size ho) (Nat.le_trans I.sz h)) (Nat.lt_irrefl _)
theorem Inv.cne (I : Inv X pins σ H s) : ∀ x c, X.env.cells.lookup x = some c → c ≠ X.env.locals := fun x c e z => by
  obtain ⟨v, o, ho, hd⟩ := I.cell x c e
  obtain ⟨m, ⟨o', es, ep, ho', hd', _⟩, _⟩ := I.loc
  rw [z, ho'] at ho; cases ho; rw [hd'] at hd; cases hd
theorem Inv.funs (I : Inv X pins σ H s) : s.heap.FunFrames X.base X.outer := by
  have all : ∀ (l : List Env), (∀ b ∈ frs l, b ∈ X.fs) → X.s₀.heap.FunFrames X.base l → s.heap.FunFrames X.base l := by
    intro l
    induction l with
    | nil => intro _ _; trivial
    | cons env r ih =>
      intro hs hl
      obtain ⟨hk, ⟨L, o, hf, hn, ho, hd⟩, hr⟩ := hl
      have hL : L ∈ X.fs := hs L (by unfold frs; rw [List.filterMap_cons, hf]; exact List.mem_cons_self)
      obtain ⟨sl, e⟩ := I.base.slot L o ho (I.ok.frf L hL) hL fun z => I.ok.exfs L z hL
      exact ⟨hk, ⟨L, _, hf, hn, e, hd⟩, ih (fun b hb => hs b (by unfold frs; rw [List.filterMap_cons, hf]; exact List.mem_cons_of_mem _ hb)) hr⟩
  exact all X.outer (fun _ hb => hb) I.ok.funs
theorem Inv.stack (I : Inv X pins σ H s) : s.heap.FunFrames X.base X.stack := by
  rcases I.ok.stk with e | ⟨e, hf⟩
  · rw [e]; exact I.funs
  · rw [e]
    obtain ⟨m, hn, _⟩ := I.loc
    refine .cons (by rw [I.ok.kind]; decide) hf hn ?_ I.funs
    exact Heap.get?_none_of_le (Nat.le_trans I.ok.bsz I.ok.above)
theorem Inv.stkSub (I : Inv X pins σ H s) : ∀ b ∈ frs X.stack, b ∈ X.env.locals :: X.fs := fun b hb => by
  rcases I.ok.stk with e | ⟨e, hf⟩
  · rw [e] at hb; exact List.mem_cons_of_mem _ hb
  · rw [e] at hb
    unfold frs at hb
    rw [List.filterMap_cons, hf] at hb
    exact hb
theorem Inv.stkFree (I : Inv X pins σ H s) : ∀ b ∈ frs X.stack, H b = none := fun b hb => by
  rcases List.mem_cons.mp (I.stkSub b hb) with e | hb
  · rw [e]; exact I.free
  · obtain ⟨_, o, ho, _⟩ := I.ok.funs.mem hb
    exact I.base.free b o ho (I.ok.frf b hb) fun z => I.ok.exfs b z hb
theorem Inv.step {g' : Array GenState} {t' : Nat} {d' : Drawn} {ch : List Addr} (I : Inv X pins σ H s)
    (hch : ∀ b ∈ ch, (b ∈ X.ex ∨ X.s₀.heap.objs.size ≤ b) ∧ b ≠ X.env.locals ∧ (∀ x c, X.env.cells.lookup x = some c → c ≠ b) ∧ ∀ p ∈ X.pn ++ pins, p.1 ≠ b)
    (keep : ∀ b o, b ≠ X.env.locals → b ∉ X.fs → b ∉ ch → s.heap.get? b = some o → H b = none → h'.get? b = some o)
    (slot : ∀ b o, b ≠ X.env.locals → b ∈ X.fs → b ∉ ch → s.heap.get? b = some o → H b = none → ∃ sl, h'.get? b = some { o with slots := sl }) (free : ∀ b o, b ∉ ch → s.heap.get? b = some o → H b = none → H' b = none)
    (there : ∀ b o, b ∉ ch → s.heap.get? b = some o → ∃ o', h'.get? b = some o')
    (tups : ∀ b xs, H b = some (.tup xs) → H' b = some (.tup xs)) (frzs : ∀ b o u, H b = some (.frz o u) → H' b = some (.frz o u)) (tbls : ∀ b ps, H b = some (.tbl ps) → ∃ more, H' b = some (.tbl (ps ++ more)))
    (ns : ∀ m, s.heap.Ns X.env.locals m → h'.Ns X.env.locals m) (hok : HOk X.prog X.w H' h') (hg : AllBare g') :
    Inv X pins σ H' { s with heap := h', gens := g', drawn := d', toks := t' } := by
  have neL : ∀ b o, X.s₀.heap.get? b = some o → b ≠ X.env.locals := fun b o e => Nat.ne_of_lt (Nat.lt_of_lt_of_le (Heap.lt_size e) I.ok.above)
  have neC : ∀ b o, X.s₀.heap.get? b = some o → b ∉ X.ex → b ∉ ch := fun b o e hx hb => by
    rcases (hch b hb).1 with z | z
    · exact hx z
    · exact absurd (Nat.lt_of_lt_of_le (Heap.lt_size e) z) (Nat.lt_irrefl _)
  have cellK : ∀ x c, X.env.cells.lookup x = some c → ∀ v, s.heap.IsCell c v → h'.IsCell c v := fun x c e v ⟨o, ho, hd⟩ => by
    have nch : c ∉ ch := fun z => (hch c z).2.2.1 x c e rfl
    by_cases hc : c ∈ X.fs
    · obtain ⟨sl, q⟩ := slot c o (I.cne x c e) hc nch ho (I.freeC x c e)
      exact ⟨_, q, hd⟩
    · exact ⟨o, keep c o (I.cne x c e) hc nch ho (I.freeC x c e), hd⟩
  refine ⟨I.ok, I.os, hg, ⟨fun b o e n hb hx => ?_, fun b o e n hb hx => ?_, fun b o e n hx => ?_, fun b o e hx => ?_, fun b xs e => tups b xs (I.base.tups b xs e), fun b o xs e => frzs b o xs (I.base.frzs b o xs e), fun b ps e => ?_⟩, ?_, fun x c e => ?_, ?_, fun x c e => ?_, fun p hp => ?_, hok, I.len⟩
  · exact keep b o (neL b o e) hb (neC b o e hx) (I.base.keep b o e n hb hx) (I.base.free b o e n hx)
  · obtain ⟨sl, e1⟩ := I.base.slot b o e n hb hx
    obtain ⟨sl', e2⟩ := slot b _ (neL b o e) hb (neC b o e hx) e1 (I.base.free b o e n hx)
    exact ⟨sl', e2⟩
  · obtain ⟨o', e1⟩ := I.base.there b o e hx
    exact free b o' (neC b o e hx) e1 (I.base.free b o e n hx)
  · obtain ⟨o', e1⟩ := I.base.there b o e hx
    exact there b o' (neC b o e hx) e1
  · obtain ⟨m1, e1⟩ := I.base.tbls b ps e
    obtain ⟨m2, e2⟩ := tbls b _ e1
    exact ⟨m1 ++ m2, by rw [e2, Array.append_assoc]⟩
  · obtain ⟨m, hn, hl⟩ := I.loc
    refine ⟨m, ns m hn, fun i x v e1 e2 e3 => ?_⟩
    obtain ⟨u, r, l⟩ := hl i x v e1 e2 e3
    refine ⟨u, r, ?_⟩
    rcases l with l | ⟨k, c, e, z⟩
    · exact .inl l
    · exact .inr ⟨k, c, e, cellK x c e _ z⟩
  · obtain ⟨v, z⟩ := I.cell x c e
    exact ⟨v, cellK x c e v z⟩
  · obtain ⟨m, ⟨o, _, _, ho, _⟩, _⟩ := I.loc
    exact free _ o (fun z => (hch _ z).2.1 rfl) ho I.free
  · obtain ⟨v, o, ho, hd⟩ := I.cell x c e
    exact free c o (fun z => (hch c z).2.2.1 x c e rfl) ho (I.freeC x c e)
  · obtain ⟨e, n, ne, nf, d⟩ := I.pin p hp
    have nch : p.1 ∉ ch := fun z => (hch p.1 z).2.2.2 p hp rfl
    exact ⟨keep p.1 p.2 ne nf nch e n, free p.1 p.2 nch e n, ne, nf, d⟩
theorem Inv.un {t' : Nat} (I : Inv X pins σ H s) (u : Un X.fs [] H H' s.heap h') (hok : HOk X.prog X.w H' h') : Inv X pins σ H' { s with heap := h', toks := t' } := by
  obtain ⟨m, ⟨o, es, ep, ho, r⟩, _⟩ := id I.loc
  obtain ⟨sl, hL⟩ := u.any ho I.free (by simp)
  exact I.step (g' := s.gens) (d' := s.drawn) (ch := []) (fun _ z => nomatch z) (fun b o _ hb _ e n => u.keep b o e n hb (by simp)) (fun b o _ hb _ e n => u.slot b o e n hb (by simp)) (fun b o _ e n => u.free b o e n (by simp)) (fun b o _ e => u.there b o e (by simp)) u.tups u.frzs u.tbls (fun m' hm => by
    obtain ⟨o', es', ep', ho', r'⟩ := hm
    rw [ho] at ho'; cases ho'
    exact ⟨_, es', ep', hL, r'⟩) hok I.bare
theorem Inv.call {g' : Array GenState} {t' : Nat} {d' : Drawn} {ch : List Addr} (I : Inv X pins σ H s) (u : Un (frs X.stack) ch H H' s.heap h') (hok : HOk X.prog X.w H' h') (hg : AllBare g')
    (hch : ∀ b ∈ ch, (b ∈ X.ex ∨ X.s₀.heap.objs.size ≤ b) ∧ b ≠ X.env.locals ∧ (∀ x c, X.env.cells.lookup x = some c → c ≠ b) ∧ ∀ p ∈ X.pn ++ pins, p.1 ≠ b) :
    Inv X pins σ H' { s with heap := h', gens := g', drawn := d', toks := t' } := by
  obtain ⟨m, ⟨o, es, ep, ho, r⟩, _⟩ := id I.loc
  obtain ⟨sl, hL⟩ := u.any ho I.free fun z => (hch _ z).2.1 rfl
  exact I.step (ch := ch) hch (fun b o hL hb hc e n => u.keep b o e n (fun z => (List.mem_cons.mp (I.stkSub b z)).elim hL hb) hc) (fun b o _ _ hc e n => u.any e n hc) (fun b o hc e n => u.free b o e n hc) (fun b o hc e => u.there b o e hc) u.tups u.frzs u.tbls (fun m' hm => by
    obtain ⟨o', es', ep', ho', r'⟩ := hm
    rw [ho] at ho'; cases ho'
    exact ⟨_, es', ep', hL, r'⟩) hok hg
theorem Inv.turned {t' : Nat} {it : Addr} (I : Inv X pins σ H s) (k : ∀ b o, b ≠ it → s.heap.get? b = some o → h'.get? b = some o) (hn : H it = none) (hL : it ≠ X.env.locals)
    (h1 : it ∈ X.ex ∨ X.s₀.heap.objs.size ≤ it) (h2 : ∀ x c, X.env.cells.lookup x = some c → c ≠ it) (h3 : ∀ p ∈ X.pn ++ pins, p.1 ≠ it) : Inv X pins σ H { s with heap := h', toks := t' } := by
  have nit : ∀ b u, H b = some u → b ≠ it := fun b u e z => by rw [z, hn] at e; cases e
  refine I.step (g' := s.gens) (d' := s.drawn) (ch := [it]) (fun b hb => ?_) (fun b o _ _ hc e _ => k b o (fun z => hc (by simp [z])) e) (fun b o _ _ hc e _ => ⟨o.slots, k b o (fun z => hc (by simp [z])) e⟩) (fun _ _ _ _ n => n)
    (fun b o hc e => ⟨o, k b o (fun z => hc (by simp [z])) e⟩) (fun _ _ e => e) (fun _ _ _ e => e) (fun b ps e => ⟨#[], by rw [e]; simp⟩) (fun m hm => ?_) (fun b u e => ?_) I.bare
  · have e : b = it := by simpa using hb
    subst e
    exact ⟨h1, hL, h2, h3⟩
  · obtain ⟨o, es, ep, ho, r⟩ := hm
    exact ⟨o, es, ep, k _ o (Ne.symm hL) ho, r⟩
  · refine (I.hok b u e).stay (fun c v hc q => k c v ?_ q) (fun _ q => q) fun _ _ q => q
    rcases hc with z | z
    · rw [z]; exact nit b u e
    · exact nit c _ z
theorem Inv.tok (I : Inv X pins σ H s) (t : Nat) : Inv X pins σ H { s with toks := t } := I.un (h' := s.heap) (t' := t) Un.refl I.hok
theorem Inv.kept {t' : Nat} (I : Inv X pins σ H s) (k : ∀ b u, s.heap.get? b = some u → h'.get? b = some u) : Inv X pins σ H { s with heap := h', toks := t' } := I.un (Un.kept k) (I.hok.kept k)
theorem Inv.laid {a : Addr} {o : HO} {t' : Nat} (I : Inv X pins σ H s) (k : ∀ b u, s.heap.get? b = some u → h'.get? b = some u) (hp : s.heap.objs.size ≤ a) (new : ObjOk X.prog X.w (upd H a o) h' a o) :
    Inv X pins σ (upd H a o) { s with heap := h', toks := t' } := I.un (Un.laid k hp (I.hok.fresh hp)) (I.hok.laid k hp new)
theorem Inv.write {x e : Addr} {o : HO} {t' : Nat} (I : Inv X pins σ H s) (mu : Mut (H x)) (he : e = x ∨ H e = some (.own x)) (k : ∀ b u, b ≠ e → s.heap.get? b = some u → h'.get? b = some u) (heo : ∃ u, h'.get? e = some u)
    (new : ObjOk X.prog X.w (upd H x o) h' x o) : Inv X pins σ (upd H x o) { s with heap := h', toks := t' } := I.un (Un.write mu he k heo) (I.hok.write mu he k heo new)
theorem Inv.pins_of {pins' : List (Addr × Obj)} (I : Inv X pins σ H s) (h : ∀ p ∈ pins', s.heap.get? p.1 = some p.2 ∧ H p.1 = none ∧ p.1 ≠ X.env.locals ∧ p.1 ∉ X.fs ∧ ∀ v, p.2.data ≠ .cell v) : Inv X pins' σ H s :=
  ⟨I.ok, I.os, I.bare, I.base, I.loc, I.cell, I.free, I.freeC, fun p hp => (List.mem_append.mp hp).elim (fun z => I.pin p (List.mem_append_left _ z)) (h p), I.hok, I.len⟩
theorem nodup_ix {N : List Str} (hN : N.Nodup) {i j : Nat} {x : Str} (a : N[i]? = some x) (b : N[j]? = some x) : i = j := by
  obtain ⟨h1, e1⟩ := List.getElem?_eq_some_iff.mp a
  obtain ⟨h2, e2⟩ := List.getElem?_eq_some_iff.mp b
  exact (List.getElem_inj hN).mp (e1.trans e2.symm)
theorem store_ok2 {M : Model} {A : Around} {E : Value → Shared → Prop} {i : Nat} {x : Str} {v : V} {u : Value} {Q : Unit → Shared → Prop} (I : Inv X pins σ H s) (hN : X.N.Nodup) (hi : X.N[i]? = some x) (hx : Loc X.env.scope x) (r : RelV v u)
    (h : ∀ s', Inv X pins (σ.set i (some v)) H s' → (∃ a, Heap.SameBut a s.heap s'.heap ∧ (a = X.env.locals ∨ X.env.cells.lookup x = some a)) → Q () s') (hf : X.fn x = true ∨ X.env.scope.names.lookup x = some .local := by first | exact .inl rfl | exact .inr rfl | assumption) : wpAny M A (storeName X.env x u) Q E s := by
  obtain ⟨m, hn, hl⟩ := id I.loc
  have hcls : (X.env.scope.kind == .class || (X.env.scope.kind == .module && X.env.locals != X.env.globals)) = false := by rw [I.ok.kind]; rfl
  have hiσ : i < σ.length := by rw [I.len]; exact (List.getElem?_eq_some_iff.mp hi).1
  have cne := I.cne
  have tracked : ∀ {a : Addr} {h' : Heap}, (∃ o, s.heap.get? a = some o ∧ H a = none) → Heap.SameBut a s.heap h' → HOk X.prog X.w H h' := fun {a h'} ha hs b ob e => by
    obtain ⟨_, _, hfree⟩ := ha
    refine (I.hok b ob e).stay (fun c w' hc q => (hs.2 c ?_).trans q) (fun _ q => q) fun _ _ q => q
    rintro rfl
    rcases hc with rfl | hc
    · rw [hfree] at e; cases e
    · rw [hfree] at hc; cases hc
  rcases hx with hk | hk
  · refine wpAny_storeName_local hk hn (fun h' hn' hs => ?_) hcls
    obtain ⟨oL, _, _, hoL, _⟩ := id hn
    refine h _ ⟨I.ok, I.os, I.bare, ⟨fun b o e n hb hx => ?_, fun b o e n hb hx => ?_, I.base.free, fun b o e hx => ?_, I.base.tups, I.base.frzs, I.base.tbls⟩, ⟨_, hn', fun j y v' e1 e2 e3 => ?_⟩, fun y c e => ?_, I.free, I.freeC, fun p hp => ?_, tracked ⟨oL, hoL, I.free⟩ hs, by simpa using I.len⟩ ⟨_, hs, .inl rfl⟩
    · exact (hs.2 b (Nat.ne_of_lt (Nat.lt_of_lt_of_le (Heap.lt_size e) I.ok.above))).trans (I.base.keep b o e n hb hx)
    · obtain ⟨sl, e1⟩ := I.base.slot b o e n hb hx
      exact ⟨sl, (hs.2 b (Nat.ne_of_lt (Nat.lt_of_lt_of_le (Heap.lt_size e) I.ok.above))).trans e1⟩
    · obtain ⟨o', e1⟩ := I.base.there b o e hx
      exact ⟨o', (hs.2 b (Nat.ne_of_lt (Nat.lt_of_lt_of_le (Heap.lt_size e) I.ok.above))).trans e1⟩
    · by_cases hj : j = i
      · subst hj
        rw [hi] at e1; cases e1
        rw [List.getElem?_set_self hiσ] at e2
        cases e2
        exact ⟨u, r, .inl ⟨hk, by simp⟩⟩
      · rw [List.getElem?_set_ne (Ne.symm hj)] at e2
        obtain ⟨u', r', q⟩ := hl j y v' e1 e2 e3
        refine ⟨u', r', ?_⟩
        rcases q with ⟨k, e⟩ | ⟨k, c, e, z⟩
        · refine .inl ⟨k, ?_⟩
          have : y ≠ x := fun e => hj (nodup_ix hN e1 (e ▸ hi))
          simp [this, e]
        · exact .inr ⟨k, c, e, z.sameBut hs (cne y c e)⟩
    · obtain ⟨w', z⟩ := I.cell y c e
      exact ⟨w', z.sameBut hs (cne y c e)⟩
    · obtain ⟨e, n, ne, nf, d⟩ := I.pin p hp
      exact ⟨(hs.2 p.1 ne).trans e, n, ne, nf, d⟩
  · have hfn : X.fn x = true := by
      rcases hf with z | z
      · exact z
      · rw [z] at hk; cases hk
    obtain ⟨c, hc⟩ := I.ok.has x (.inl hk)
    obtain ⟨w', z⟩ := I.cell x c hc
    refine wpAny_storeName_cell I.ok.kind hk hc z (fun h' hc' hs => ?_)
    obtain ⟨oc, hoc, hocd⟩ := id z
    refine h { s with heap := h' } ⟨I.ok, I.os, I.bare, ⟨fun b o e n hb hx => ?_, fun b o e n hb hx => ?_, I.base.free, fun b o e hx => ?_, I.base.tups, I.base.frzs, I.base.tbls⟩, ⟨m, hn.sameBut hs (Ne.symm (cne x c hc)), fun j y v' e1 e2 e3 => ?_⟩, fun y c' e => ?_, I.free, I.freeC, fun p hp => ?_, tracked ⟨oc, hoc, I.freeC x c hc⟩ hs, by simpa using I.len⟩ ⟨c, hs, .inr hc⟩
    · exact (hs.2 b (Nat.ne_of_lt (Nat.lt_of_lt_of_le (Heap.lt_size e) (I.ok.cab x c hfn hc)))).trans (I.base.keep b o e n hb hx)
    · obtain ⟨sl, e1⟩ := I.base.slot b o e n hb hx
      exact ⟨sl, (hs.2 b (Nat.ne_of_lt (Nat.lt_of_lt_of_le (Heap.lt_size e) (I.ok.cab x c hfn hc)))).trans e1⟩
    · obtain ⟨o', e1⟩ := I.base.there b o e hx
      exact ⟨o', (hs.2 b (Nat.ne_of_lt (Nat.lt_of_lt_of_le (Heap.lt_size e) (I.ok.cab x c hfn hc)))).trans e1⟩
    · by_cases hj : j = i
      · subst hj
        rw [hi] at e1; cases e1
        rw [List.getElem?_set_self hiσ] at e2
        cases e2
        exact ⟨u, r, .inr ⟨.inl hk, c, hc, hc'⟩⟩
      · rw [List.getElem?_set_ne (Ne.symm hj)] at e2
        obtain ⟨u', r', q⟩ := hl j y v' e1 e2 e3
        refine ⟨u', r', ?_⟩
        rcases q with q | ⟨k, c', e, z'⟩
        · exact .inl q
        · refine .inr ⟨k, c', e, z'.sameBut hs ?_⟩
          rintro rfl
          exact hj (nodup_ix hN e1 (I.ok.inj _ _ _ e hc ▸ hi))
    · by_cases hcc : c' = c
      · subst hcc; exact ⟨_, hc'⟩
      · obtain ⟨w2, z2⟩ := I.cell y c' e
        exact ⟨w2, z2.sameBut hs hcc⟩
    · obtain ⟨e, n, ne, nf, d⟩ := I.pin p hp
      refine ⟨(hs.2 p.1 ?_).trans e, n, ne, nf, d⟩
      intro q
      rw [q, hoc] at e
      have q' : oc = p.2 := Option.some.inj e
      exact d w' (by rw [← q']; exact hocd)
theorem store_ok {M : Model} {A : Around} {E : Value → Shared → Prop} {i : Nat} {x : Str} {v : V} {u : Value} {Q : Unit → Shared → Prop} (I : Inv X pins σ H s) (hN : X.N.Nodup) (hi : X.N[i]? = some x) (hx : Loc X.env.scope x) (r : RelV v u)
    (h : ∀ s', Inv X pins (σ.set i (some v)) H s' → Q () s') (hf : X.fn x = true ∨ X.env.scope.names.lookup x = some .local := by first | exact .inl rfl | exact .inr rfl | assumption) : wpAny M A (storeName X.env x u) Q E s :=
  store_ok2 I hN hi hx r (fun s' I' _ => h s' I') hf
theorem Inv.call' {s' : Shared} {ch : List Addr} (I : Inv X pins σ H s) (ho : s'.os = s.os) (u : Un (frs X.stack) ch H H' s.heap s'.heap) (hok : HOk X.prog X.w H' s'.heap) (hg : AllBare s'.gens)
    (hch : ∀ b ∈ ch, (b ∈ X.ex ∨ X.s₀.heap.objs.size ≤ b) ∧ b ≠ X.env.locals ∧ (∀ x c, X.env.cells.lookup x = some c → c ≠ b) ∧ ∀ p ∈ X.pn ++ pins, p.1 ≠ b) : Inv X pins σ H' s' := by
  obtain ⟨h', g', d', t', o'⟩ := s'
  have e : o' = s.os := ho
  subst e
  exact I.call (g' := g') (t' := t') (d' := d') u hok hg hch
end
abbrev XK := Value → Option Addr → Hp → Prop
abbrev St := List (Option V)
abbrev VK := V → Hp → Prop
abbrev TE := St → Hp → VK → Prop
abbrev TT := St → Hp → (Bool → Hp → Prop) → Prop
abbrev TA := St → Hp → (List V → Hp → Prop) → Prop
structure Ends where
  nx : St → Hp → Prop
  rt : VK
  bk : St → Hp → Prop := fun _ _ => False
  ct : St → Hp → Prop := fun _ _ => False
abbrev TS := Ends → St → Hp → Prop
def EP (X : Cx) (pins : List (Addr × Obj)) (σ : St) (Q : VK) (u : Value) (s' : Shared) : Prop := ∃ v H', Inv X pins σ H' s' ∧ RelV v u ∧ Q v H'
def TP (X : Cx) (pins : List (Addr × Obj)) (σ : St) (Q : Bool → Hp → Prop) (b : Bool) (s' : Shared) : Prop := ∃ H', Inv X pins σ H' s' ∧ Q b H'
def AP (X : Cx) (pins : List (Addr × Obj)) (σ : St) (Q : List V → Hp → Prop) (us : List Value) (s' : Shared) : Prop := ∃ vs H', Inv X pins σ H' s' ∧ Vals vs us ∧ Q vs H'
def SP (X : Cx) (pins : List (Addr × Obj)) (D : Ends) (f : Flow) (s' : Shared) : Prop :=
  match f with
  | .next => ∃ σ' H', Inv X pins σ' H' s' ∧ D.nx σ' H'
  | .brk => ∃ σ' H', Inv X pins σ' H' s' ∧ D.bk σ' H'
  | .cont => ∃ σ' H', Inv X pins σ' H' s' ∧ D.ct σ' H'
  | .ret u => ∃ v σ' H', Inv X pins σ' H' s' ∧ RelV v u ∧ D.rt v H'
def PE (X : Cx) (e : Expr) (t : TE) : Prop :=
  ∀ (pins : List (Addr × Obj)) (s : Shared) (σ : St) (H : Hp) (Q : VK), Inv X pins σ H s → t σ H Q → wpAny (model X.prog X.w) X.A (eval e X.env) (EP X pins σ Q) X.xe s
def PT (X : Cx) (e : Expr) (t : TT) : Prop :=
  ∀ (pins : List (Addr × Obj)) (s : Shared) (σ : St) (H : Hp) (Q : Bool → Hp → Prop), Inv X pins σ H s → t σ H Q → wpAny (model X.prog X.w) X.A (isTrue e X.env (eval e X.env)) (TP X pins σ Q) X.xe s
def PW (X : Cx) (e : Expr) (t : TT) : Prop :=
  ∀ (whole : Sem Value) (pins : List (Addr × Obj)) (s : Shared) (σ : St) (H : Hp) (Q : Bool → Hp → Prop), Inv X pins σ H s → t σ H Q → wpAny (model X.prog X.w) X.A (isTrue e X.env whole) (TP X pins σ Q) X.xe s
theorem PW.pt {X : Cx} {e : Expr} {t : TT} (h : PW X e t) : PT X e t := h _
def PA (X : Cx) (es : List Expr) (t : TA) : Prop :=
  ∀ (pos : Pos) (pins : List (Addr × Obj)) (s : Shared) (σ : St) (H : Hp) (Q : List V → Hp → Prop), Inv X pins σ H s → t σ H Q → wpAny (model X.prog X.w) X.A (spliced (backTo pos (starEach es X.env))) (AP X pins σ Q) X.xe s
def PS (X : Cx) (st : Stmt) (t : TS) : Prop :=
  ∀ (pins : List (Addr × Obj)) (s : Shared) (σ : St) (H : Hp) (D : Ends), Inv X pins σ H s → t D σ H → wpAny (model X.prog X.w) X.A (exec st X.env) (SP X pins D) X.xe s
def PSs (X : Cx) (st : List Stmt) (t : TS) : Prop :=
  ∀ (pins : List (Addr × Obj)) (s : Shared) (σ : St) (H : Hp) (D : Ends), Inv X pins σ H s → t D σ H → wpAny (model X.prog X.w) X.A (execs st X.env) (SP X pins D) X.xe s
theorem thn {α : Type} {t : Sem α} {Q Q' : α → Shared → Prop} {M : Model} {A : Around} {E : Value → Shared → Prop} {s : Shared} (h : wpAny M A t Q E s) (hQ : ∀ a s, Q a s → Q' a s) : wpAny M A t Q' E s := wpAny_mono h hQ fun _ _ x => x
end L2
namespace L2
open PySem PySem.Spec PyProof.Rows
section
variable {X : Cx}
theorem bin {a b : Expr} {ta tb : TE} (ha : PE X a ta) (hb : PE X b tb) {pins : List (Addr × Obj)} {s : Shared} {σ : St} {H : Hp} {R : V → V → Hp → Prop} (I : Inv X pins σ H s) (h : ta σ H fun x H1 => tb σ H1 fun y H2 => R x y H2)
    {α : Type} {Q : α → Shared → Prop} {f : Value → Value → Sem α}
    (hf : ∀ v u s2 x y H2, Inv X pins σ H2 s2 → RelV x v → RelV y u → R x y H2 → wpAny (model X.prog X.w) X.A (f v u) Q X.xe s2) :
    wpAny (model X.prog X.w) X.A (eval a X.env) (fun v s₁ => wpAny (model X.prog X.w) X.A (eval b X.env) (fun u s₂ => wpAny (model X.prog X.w) X.A (f v u) Q X.xe s₂) X.xe s₁) X.xe s := by
  refine thn (ha pins s σ H _ I h) fun v s1 ⟨x, H1, I1, r1, q1⟩ => ?_
  refine thn (hb pins s1 σ H1 _ I1 q1) fun u s2 ⟨y, H2, I2, r2, q2⟩ => ?_
  exact hf v u s2 x y H2 I2 r1 r2 q2
def tVar (i : Nat) : TE := fun σ H Q => ∃ v, σ[i]? = some (some v) ∧ Q v H
def tC (v : V) : TE := fun _ H Q => Q v H
theorem pe_var {i : Nat} {x : Str} {pos : Pos} (hN : X.N[i]? = some x) (hv : Vis X.env.scope x) (hd : (x == ("__debug__" : Str)) = false := by decide) (hcd : (x == ("__classdict__" : Str)) = false := by decide) : PE X (.Name x pos) (tVar i) := by
  intro pins s σ H Q I h
  obtain ⟨v, e, h⟩ := h
  obtain ⟨m, hn, hl⟩ := I.loc
  obtain ⟨u, r, l⟩ := hl i x v hN e hv
  have fin : EP X pins σ Q u s := ⟨v, H, I, r, h⟩
  rcases l with ⟨hk, hm⟩ | ⟨hk, c, hc, hcell⟩
  · exact wpAny_Name (wpAny_loadName_local I.ok.kind hk hn hm fin) hd
  · rcases hk with hk | hk
    · exact wpAny_Name (wpAny_loadName_cell I.ok.kind hk hc hcell fin) hd
    · exact wpAny_Name (wpAny_loadName_free I.ok.kind hk hc hcell fin hcd) hd
theorem pe_int {i j pos} : PE X (.Constant (.int i) j pos) (tC (.int i)) := fun _ _ _ H _ I h => wpAny_Constant_int ⟨.int i, H, I.tok _, ⟨_, rfl⟩, h⟩
theorem pe_bl {b j pos} : PE X (.Constant (.bool b) j pos) (tC (.bl b)) := fun _ _ _ H _ I h => Constant_bool ⟨.bl b, H, I, rfl, h⟩
theorem pe_non {j pos} : PE X (.Constant .none j pos) (tC .non) := fun _ _ _ H _ I h => Constant_none ⟨.non, H, I, rfl, h⟩
theorem pe_str {x j pos} : PE X (.Constant (.str x) j pos) (tC (.str x)) := fun _ _ _ H _ I h => Calls.Constant_str ⟨.str x, H, I.tok _, ⟨_, rfl⟩, h⟩
def Gl (X : Cx) (x : Str) : Prop := X.env.kindOf x = some .globalImplicit
theorem ld_glob {E : Value → Shared → Prop} {pins : List (Addr × Obj)} {s : Shared} {σ : St} {H : Hp} {x : Str} {u : Value} {pos : Pos} {Q : Value → Shared → Prop} (I : Inv X pins σ H s) (hg : Gl X x) (hm : X.mg x = some u) (h : Q u s)
    (hd : (x == ("__debug__" : Str)) = false := by decide) : wpAny (model X.prog X.w) X.A (eval (.Name x pos) X.env) Q E s :=
  Calls.Name_function_global I.ok.kind hg (Calls.loadGlobal_global (by rw [I.ok.glob]; exact I.mod.glob.keeps I.bk) hm h) hd
theorem ld_blt {E : Value → Shared → Prop} {pins : List (Addr × Obj)} {s : Shared} {σ : St} {H : Hp} {x : Str} {u : Value} {pos : Pos} {Q : Value → Shared → Prop} (I : Inv X pins σ H s) (hg : Gl X x) (hm : X.mg x = none) (hv : bootBuiltins x = some u) (h : Q u s)
    (hn : x ≠ "__name__" := by decide) (hd : (x == ("__debug__" : Str)) = false := by decide) : wpAny (model X.prog X.w) X.A (eval (.Name x pos) X.env) Q E s := by
  obtain ⟨mb, h1, h2⟩ := I.mod.blt
  exact Calls.Name_function_global I.ok.kind hg (Calls.loadGlobal_builtin (by rw [I.ok.glob]; exact I.mod.glob.keeps I.bk) hm (by rw [I.ok.blt]; exact h1.keeps I.bk) ((h2 x hn).trans hv) h) hd
theorem pe_bltn {x : Str} {v : V} {u : Value} {pos : Pos} (hg : Gl X x) (hm : X.mg x = none) (hv : bootBuiltins x = some u) (r : RelV v u) (hn : x ≠ "__name__" := by decide) (hd : (x == ("__debug__" : Str)) = false := by decide) : PE X (.Name x pos) (tC v) :=
  fun _ _ _ H _ I h => ld_blt I hg hm hv ⟨v, H, I, r, h⟩ hn hd
variable {a b : Expr} {ta tb : TE} {pos : Pos}
def PC (X : Cx) (op : CmpOp) (a b : Expr) (t : TE) : Prop :=
  ∀ (pins : List (Addr × Obj)) (s : Shared) (σ : St) (H : Hp) (Q : VK), Inv X pins σ H s → t σ H Q →
    wpAny (model X.prog X.w) X.A (eval a X.env) (fun v s₁ => wpAny (model X.prog X.w) X.A (eval b X.env) (fun u s₂ => wpAny (model X.prog X.w) X.A (compareOp op v u) (EP X pins σ Q) X.xe s₂) X.xe s₁) X.xe s
def tB (t : TE) : TT := fun σ H Q => t σ H fun x H1 => ∃ c, x = .bl c ∧ Q c H1
theorem pt_cmp {op : CmpOp} {t : TE} (h : PC X op a b t) (h1 : behindInMarks op b = false := by first | exact nobehind _ (by decide) (by decide) | rfl) : PT X (.Compare a [op] [b] pos) (tB t) := by
  intro pins s σ H Q I hw
  refine wpAny_isTrue_Compare1 (thn (h pins s σ H _ I hw) fun v s1 h1 => thn h1 fun u s2 h2 => thn h2 fun c s3 ⟨x, H1, I1, r1, q1⟩ => ?_) h1
  obtain ⟨d, rfl, q⟩ := q1
  cases r1
  exact wpAny_truthy_bool ⟨H1, I1, q⟩
theorem pt_val {e : Expr} {t : TE} (h : PE X e t) (he : ∀ whole, isTrue e X.env whole = (do let v ← whole; standAt e.pos; holding [v] (truthy v)) := by intro _; rfl) : PT X e (tB t) := by
  intro pins s σ H Q I hw
  refine isTrue_plain (thn (h pins s σ H _ I hw) fun v s1 ⟨x, H1, I1, r1, q1⟩ => ?_) (he _)
  obtain ⟨d, rfl, q⟩ := q1
  cases r1
  exact wpAny_truthy_bool ⟨H1, I1, q⟩
variable {tA tB' : TT} {rest : List Expr}
def tAnd (t u : TT) : TT := fun σ H Q => t σ H fun c H1 => if c = true then u σ H1 Q else Q false H1
def tOr (t u : TT) : TT := fun σ H Q => t σ H fun c H1 => if c = true then Q true H1 else u σ H1 Q
def tNot (t : TT) : TT := fun σ H Q => t σ H fun c H1 => Q (!c) H1
theorem pw_and1 (ha : PT X a tA) : PW X (.BoolOp .And [a] pos) tA := by
  intro wh pins s σ H Q I h
  refine isTrue_and (thn (ha pins s σ H Q I h) fun c s1 e => ?_)
  cases c with
  | true => exact isTrue_and_nil e
  | false => exact e
theorem pw_or1 (ha : PT X a tA) : PW X (.BoolOp .Or [a] pos) tA := by
  intro wh pins s σ H Q I h
  refine isTrue_or (thn (ha pins s σ H Q I h) fun c s1 e => ?_)
  cases c with
  | false => exact isTrue_or_nil e
  | true => exact e
theorem pw_and (ha : PT X a tA) (hb : PW X (.BoolOp .And (b :: rest) pos) tB') : PW X (.BoolOp .And (a :: b :: rest) pos) (tAnd tA tB') := by
  intro wh pins s σ H Q I h
  refine isTrue_and (thn (ha pins s σ H _ I h) fun c s1 ⟨H1, I1, q1⟩ => ?_)
  cases c with
  | true => exact hb wh pins s1 σ H1 Q I1 q1
  | false => exact ⟨H1, I1, q1⟩
theorem pw_or (ha : PT X a tA) (hb : PW X (.BoolOp .Or (b :: rest) pos) tB') : PW X (.BoolOp .Or (a :: b :: rest) pos) (tOr tA tB') := by
  intro wh pins s σ H Q I h
  refine isTrue_or (thn (ha pins s σ H _ I h) fun c s1 ⟨H1, I1, q1⟩ => ?_)
  cases c with
  | true => exact ⟨H1, I1, q1⟩
  | false => exact hb wh pins s1 σ H1 Q I1 q1
theorem pt_not (ha : PT X a tA) : PT X (.UnaryOp .Not a pos) (tNot tA) := by
  intro pins s σ H Q I h
  exact isTrue_not (ha pins s σ H (fun c H1 => Q (!c) H1) I h)
def tAndV (ta tb : TE) : TE := fun σ H Q => ta σ H fun x H1 => ∃ c, x = .bl c ∧ if c = true then tb σ H1 Q else Q (.bl false) H1
def tNotV (ta : TE) : TE := fun σ H Q => ta σ H fun x H1 => ∃ c, x = .bl c ∧ Q (.bl (!c)) H1
theorem pe_one {op} {t : TE} (h : PE X a t) : PE X (.BoolOp op [a] pos) t := fun pins s σ H Q I hw => BoolOp_one (h pins s σ H Q I hw)
theorem pe_and (ha : PE X a ta) (hb : PE X (.BoolOp .And (b :: rest) pos) tb) : PE X (.BoolOp .And (a :: b :: rest) pos) (tAndV ta tb) := by
  intro pins s σ H Q I h
  refine BoolOp_and (thn (ha pins s σ H _ I h) fun v s1 ⟨x, H1, I1, r1, q1⟩ => ?_)
  obtain ⟨c, rfl, q1⟩ := q1
  cases r1
  refine wpAny_truthy_bool ?_
  cases c with
  | true => exact hb pins s1 σ H1 Q I1 q1
  | false => exact ⟨.bl false, H1, I1, rfl, q1⟩
theorem pe_not (ha : PE X a ta) : PE X (.UnaryOp .Not a pos) (tNotV ta) := by
  intro pins s σ H Q I h
  refine UnaryOp_ (thn (ha pins s σ H _ I h) fun v s1 ⟨x, H1, I1, r1, q1⟩ => ?_)
  obtain ⟨c, rfl, q1⟩ := q1
  cases r1
  exact not_of (wpAny_truthy_bool ⟨.bl (!c), H1, I1, rfl, q1⟩)
def tIf (t : TT) (ta tb : TE) : TE := fun σ H Q => t σ H fun c H1 => if c = true then ta σ H1 Q else tb σ H1 Q
theorem pe_ifExp {c : Expr} (hc : PT X c tA) (ha : PE X a ta) (hb : PE X b tb) : PE X (.IfExp c a b pos) (tIf tA ta tb) := by
  intro pins s σ H Q I h
  refine wpAny_IfExp (thn (hc pins s σ H _ I h) fun d s1 ⟨H1, I1, q1⟩ => ?_)
  cases d with
  | true => exact ha pins s1 σ H1 Q I1 q1
  | false => exact hb pins s1 σ H1 Q I1 q1
end
end L2
namespace L2
open PySem PySem.Spec PyProof.Rows
def SqL (K : PySem.W.Frag) (H : Hp) (a : Addr) (xs : List V) : Prop :=
  Rd H a (.lst xs) ∨
    ∃ (o : Obj) (its : Array Value) (n : Nat), K.lookup a = some o ∧ o.cls = .type "list" ∧ o.dict = none ∧ o.data = .seq its n ∧ its.size ≤ sizeLine ∧ Vals xs its.toList
def SqT (K : PySem.W.Frag) (H : Hp) (a : Addr) (xs : List V) : Prop :=
  Rd H a (.tup xs) ∨
    ∃ (o : Obj) (its : Array Value) (n : Nat), K.lookup a = some o ∧ o.cls = .type "tuple" ∧ o.data = .seq its n ∧ its.size ≤ sizeLine ∧ Vals xs its.toList
def absV : Value → Option V
  | .none => some .non
  | .bool b => some (.bl b)
  | .int i _ => some (.int i)
  | .str x _ => some (.str x)
  | .bytes b _ => some (.byt b)
  | .float b _ => some (.flt b)
  | .ref a => some (.ref a)
  | .type n => some (.ty n)
  | _ => none
theorem RelV.abs {x : V} {u : Value} (r : RelV x u) : absV u = some x := by
  cases x with
  | non => cases r; rfl
  | bl _ => cases r; rfl
  | int _ => obtain ⟨t, rfl⟩ := r; rfl
  | str _ => obtain ⟨t, rfl⟩ := r; rfl
  | byt _ => obtain ⟨t, rfl⟩ := r; rfl
  | flt _ => obtain ⟨t, rfl⟩ := r; rfl
  | ref _ => cases r; rfl
  | ty _ => cases r; rfl
theorem RelV.inj {x y : V} {u : Value} (r : RelV x u) (q : RelV y u) : x = y := Option.some.inj (r.abs.symm.trans q.abs)
theorem Vals.inj : ∀ {xs ys : List V} {us : List Value}, Vals xs us → Vals ys us → xs = ys
  | _, _, _, .nil, .nil => rfl
  | _, _, _, .cons r t, .cons r' t' => by rw [r.inj r', Vals.inj t t']
section
variable {X : Cx} {pins : List (Addr × Obj)} {σ : St} {H : Hp} {s : Shared} {a : Addr} {xs ys : List V}
theorem SqL.of {K : PySem.W.Frag} (h : H a = some (.lst xs)) : SqL K H a xs := .inl (.inl h)
theorem SqT.of {K : PySem.W.Frag} (h : H a = some (.tup xs)) : SqT K H a xs := .inl (.inl h)
theorem Inv.list (I : Inv X pins σ H s) (h : SqL X.K H a xs) : ∃ its : List Value, Vals xs its ∧ PlainL s.heap a its.toArray ∧ xs.length ≤ sizeLine := by
  rcases h with h | ⟨o, its, n, hk, hc, hd, hs, hz, r⟩
  · obtain ⟨z, its, n, r, e⟩ := h.ok I.hok
    exact ⟨its, r, ⟨_, n, e, rfl, rfl, rfl⟩, z⟩
  · refine ⟨its.toList, r, ⟨o, n, I.kIn a o hk, hc, hd, by simpa using hs⟩, ?_⟩
    have e := r.length
    simp only [Array.length_toList] at e
    omega
theorem Inv.tuple (I : Inv X pins σ H s) (h : SqT X.K H a xs) : ∃ its : List Value, Vals xs its ∧ IsTup s.heap a its.toArray ∧ xs.length ≤ sizeLine := by
  rcases h with h | ⟨o, its, n, hk, hc, hs, hz, r⟩
  · obtain ⟨z, its, r, p⟩ := h.ok I.hok
    exact ⟨its, r, p, z⟩
  · refine ⟨its.toList, r, ⟨o, I.kIn a o hk, hc, n, by simpa using hs⟩, ?_⟩
    have e := r.length
    simp only [Array.length_toList] at e
    omega
theorem Inv.list_inj (I : Inv X pins σ H s) (h : SqL X.K H a xs) (h' : SqL X.K H a ys) : xs = ys := by
  obtain ⟨its, r, ⟨o, n, e, _, _, d⟩, _⟩ := I.list h
  obtain ⟨its', r', ⟨o', n', e', _, _, d'⟩, _⟩ := I.list h'
  rw [e] at e'; cases e'
  rw [d] at d'
  injection d' with d1 _
  have : its = its' := by simpa using congrArg Array.toList d1
  subst this
  exact r.inj r'
theorem Inv.tuple_inj (I : Inv X pins σ H s) (h : SqT X.K H a xs) (h' : SqT X.K H a ys) : xs = ys := by
  obtain ⟨its, r, ⟨o, e, _, n, d⟩, _⟩ := I.tuple h
  obtain ⟨its', r', ⟨o', e', _, n', d'⟩, _⟩ := I.tuple h'
  rw [e] at e'; cases e'
  rw [d] at d'
  injection d' with d1 _
  have : its = its' := by simpa using congrArg Array.toList d1
  subst this
  exact r.inj r'
end
abbrev Cx.wish (X : Cx) (E : Value → Shared → Prop) : Cx := { X with xe := E }
abbrev Cx.nox (X : Cx) : Cx := X.wish fun _ _ => False
theorem Cx.Ok.wish {X : Cx} (ok : X.Ok) (E : Value → Shared → Prop) : (X.wish E).Ok :=
  ⟨ok.mod, ok.kind, ok.glob, ok.blt, ok.above, ok.inj, ok.has, ok.cab, ok.hd, ok.frames, ok.stk, ok.exf, ok.bs, ok.bsz, ok.noex, ok.exfs, ok.funs, ok.frf⟩
theorem Cx.Ok.unwish {X : Cx} {E : Value → Shared → Prop} (ok : (X.wish E).Ok) : X.Ok :=
  ⟨ok.mod, ok.kind, ok.glob, ok.blt, ok.above, ok.inj, ok.has, ok.cab, ok.hd, ok.frames, ok.stk, ok.exf, ok.bs, ok.bsz, ok.noex, ok.exfs, ok.funs, ok.frf⟩
section
variable {X : Cx} {pins : List (Addr × Obj)} {σ : St} {H : Hp} {s : Shared} {E : Value → Shared → Prop}
theorem Inv.wish (I : Inv X pins σ H s) (E : Value → Shared → Prop) : Inv (X.wish E) pins σ H s := ⟨I.ok.wish E, I.os, I.bare, I.base, I.loc, I.cell, I.free, I.freeC, I.pin, I.hok, I.len⟩
theorem Inv.unwish (I : Inv (X.wish E) pins σ H s) : Inv X pins σ H s := ⟨I.ok.unwish, I.os, I.bare, I.base, I.loc, I.cell, I.free, I.freeC, I.pin, I.hok, I.len⟩
theorem SP.unwish {D : Ends} {f : Flow} {s' : Shared} (h : SP (X.wish E) pins D f s') : SP X pins D f s' := by
  cases f with
  | next => obtain ⟨σ', H', I, q⟩ := h; exact ⟨σ', H', I.unwish, q⟩
  | brk => obtain ⟨σ', H', I, q⟩ := h; exact ⟨σ', H', I.unwish, q⟩
  | cont => obtain ⟨σ', H', I, q⟩ := h; exact ⟨σ', H', I.unwish, q⟩
  | ret u => obtain ⟨v, σ', H', I, r, q⟩ := h; exact ⟨v, σ', H', I.unwish, r, q⟩
theorem PSs.nox {st : List Stmt} {t : TS} (h : PSs X.nox st t) : PSs X st t := fun pins s σ H D I hw =>
  wpAny_mono (h pins s σ H D (I.wish _) hw) (fun _ _ q => q.unwish) fun _ _ z => False.elim z
end
section
variable {X : Cx} {st : Stmt} {rest : List Stmt} {t u : TS} {e : Expr} {te : TE} {pos : Pos}
def tNext : TS := fun D σ H => D.nx σ H
def tSeq (t u : TS) : TS := fun D σ H => t { D with nx := u D } σ H
theorem pss_nil : PSs X [] tNext := fun _ _ σ H _ I h => wpAny_execs_nil ⟨σ, H, I, h⟩
theorem pss_cons (h1 : PS X st t) (h2 : PSs X rest u) : PSs X (st :: rest) (tSeq t u) := by
  intro pins s σ H D I h
  refine wpAny_execs_cons (thn (h1 pins s σ H { D with nx := u D } I h) fun f s1 q => ?_)
  cases f with
  | next =>
    obtain ⟨σ', H', I', q⟩ := q
    exact h2 pins s1 σ' H' D I' q
  | ret v => exact q
  | brk => exact q
  | cont => exact q
theorem pss_one (h1 : PS X st t) : PSs X [st] t := by
  intro pins s σ H D I h
  refine wpAny_execs_cons (thn (h1 pins s σ H D I h) fun f s1 q => ?_)
  cases f with
  | next => exact wpAny_execs_nil q
  | ret v => exact q
  | brk => exact q
  | cont => exact q
theorem Inv.quiet {pins : List (Addr × Obj)} {σ : St} {H : Hp} {s : Shared} (I : Inv X pins σ H s) : interactive X.env = false := by simp [interactive, I.ok.kind]
def tDrop (te : TE) : TS := fun D σ H => te σ H fun _ H1 => D.nx σ H1
theorem ps_expr (he : PE X e te) (hs : swapsWith e none pos.line X.env = pure false := by rfl) : PS X (.Expr e pos) (tDrop te) := by
  intro pins s σ H D I h
  exact wpAny_Expr_any (thn (he pins s σ H _ I h) fun v s1 ⟨x, H1, I1, r1, q1⟩ => ⟨σ, H1, I1, q1⟩) I.quiet hs
def tRet (te : TE) : TS := fun D σ H => te σ H D.rt
theorem ps_ret (he : PE X e te) : PS X (.Return (some e) pos) (tRet te) := by
  intro pins s σ H D I h
  exact wpAny_Return_some (thn (he pins s σ H _ I h) fun v s1 ⟨x, H1, I1, r1, q1⟩ => ⟨x, σ, H1, I1, r1, q1⟩)
def tIfS (c : TT) (t u : TS) : TS := fun D σ H => c σ H fun b H1 => if b = true then t D σ H1 else u D σ H1
theorem ps_if {c : Expr} {a b : List Stmt} {tc : TT} (hc : PT X c tc) (ha : PSs X a t) (hb : PSs X b u) : PS X (.If c a b pos) (tIfS tc t u) := by
  intro pins s σ H D I h
  refine wpAny_If (thn (hc pins s σ H _ I h) fun d s1 ⟨H1, I1, q1⟩ => ?_)
  cases d with
  | true => exact ha pins s1 σ H1 D I1 q1
  | false => exact hb pins s1 σ H1 D I1 q1
end
abbrev TG := V → St → Hp → (St → Hp → Prop) → Prop
abbrev TGs := List V → St → Hp → (St → Hp → Prop) → Prop
def PG (X : Cx) (target : Expr) (t : TG) : Prop :=
  ∀ (pins : List (Addr × Obj)) (s : Shared) (σ : St) (H : Hp) (v : V) (u : Value) (Q : St → Hp → Prop), Inv X pins σ H s → RelV v u → t v σ H Q →
    wpAny (model X.prog X.w) X.A (assign target X.env u) (fun _ s' => ∃ σ' H', Inv X pins σ' H' s' ∧ Q σ' H') X.xe s
def PGs (X : Cx) (ts : List Expr) (t : TGs) : Prop :=
  ∀ (pins : List (Addr × Obj)) (s : Shared) (σ : St) (H : Hp) (vs : List V) (us : List Value) (Q : St → Hp → Prop), Inv X pins σ H s → Vals vs us → t vs σ H Q →
    wpAny (model X.prog X.w) X.A (assignInOrder ((assignEach ts X.env).map (·.2)) us) (fun _ s' => ∃ σ' H', Inv X pins σ' H' s' ∧ Q σ' H') X.xe s
section
variable {X : Cx} {pos : Pos}
def gName (i : Nat) : TG := fun v σ H Q => Q (σ.set i (some v)) H
theorem pg_name {i : Nat} {x : Str} (hN : X.N.Nodup) (hi : X.N[i]? = some x) (hx : Loc X.env.scope x) (hf : X.fn x = true ∨ X.env.scope.names.lookup x = some .local := by first | exact .inl rfl | exact .inr rfl | assumption) : PG X (.Name x pos) (gName i) := by
  intro pins s σ H v u Q I r h
  exact wpAny_assign_Name (store_ok I hN hi hx r (fun s' I' => ⟨_, H, I', h⟩) hf)
def gNil : TGs := fun vs σ H Q => vs = [] ∧ Q σ H
def gCons (t : TG) (u : TGs) : TGs := fun vs σ H Q => ∃ v r, vs = v :: r ∧ t v σ H fun σ' H' => u r σ' H' Q
theorem pgs_nil : PGs X [] gNil := by
  intro pins s σ H vs us Q I r h
  obtain ⟨e, h⟩ := h
  subst e
  cases r
  exact assignInOrder_nil ⟨σ, H, I, h⟩
theorem pgs_cons {e : Expr} {es : List Expr} {t : TG} {u : TGs} (h1 : PG X e t) (h2 : PGs X es u)
    (hs : (assignEach (e :: es) X.env).map (·.2) = assign e X.env :: (assignEach es X.env).map (·.2) := by rfl) : PGs X (e :: es) (gCons t u) := by
  intro pins s σ H vs us Q I r h
  obtain ⟨v, vr, e1, h⟩ := h
  subst e1
  cases r with
  | cons r rr =>
    rw [hs]
    refine assignInOrder_cons (thn (h1 pins s σ H _ _ _ I r h) fun _ s1 ⟨σ1, H1, I1, q1⟩ => ?_)
    exact h2 pins s1 σ1 H1 _ _ Q I1 rr q1
def gTup (K : PySem.W.Frag) (n : Nat) (t : TGs) : TG := fun v σ H Q => ∃ a xs, v = .ref a ∧ SqT K H a xs ∧ xs.length = n ∧ t xs σ H Q
theorem pg_tup {es : List Expr} {k : Nat} {t : TGs} {n : Nat} (hc : X.calm = true) (h : PGs X es t)
    (hn : (assignEach es X.env).length = n := by rfl) (hst : (assignEach es X.env).findIdx? (·.1) = none := by rfl) : PG X (.Tuple es k pos) (gTup X.K n t) := by
  intro pins s σ H v u Q I r hw
  obtain ⟨a, xs, e1, hq, hl, hw⟩ := hw
  subst e1
  cases r
  obtain ⟨its, rv, ht, hz⟩ := I.tuple hq
  refine assign_Tuple_tuple (I.ok.hd hc) ht (by simp [hn, ← hl, rv.length]) hst fun h' hx => ?_
  have I1 : Inv X pins σ H { s with heap := h' } := I.kept (t' := s.toks) fun b o e => hx b o (Nat.ne_of_lt (Heap.lt_size e)) e
  exact h pins _ σ H xs _ Q I1 (by simpa using rv) hw
def tAsg (te : TE) (g : TG) : TS := fun D σ H => te σ H fun x H1 => g x σ H1 D.nx
theorem ps_set {i : Nat} {x : Str} {e : Expr} {te : TE} {pos' : Pos} (hN : X.N.Nodup) (hi : X.N[i]? = some x) (hx : Loc X.env.scope x) (he : PE X e te) (hs : swapsWith e (some (.Name x pos')) pos.line X.env = pure false := by rfl) (hf : X.fn x = true ∨ X.env.scope.names.lookup x = some .local := by first | exact .inl rfl | exact .inr rfl | assumption) :
    PS X (.Assign [.Name x pos'] e pos) (tAsg te (gName i)) := by
  intro pins s σ H D I h
  refine wpAny_Assign_Name (thn (he pins s σ H _ I h) fun v s1 ⟨y, H1, I1, r1, q1⟩ => ?_) hs
  exact store_ok I1 hN hi hx r1 (fun s2 I2 => ⟨_, H1, I2, q1⟩) hf
end
structure It where
  go : Nat → Hp → Prop
  yld : Nat → Hp → V → Hp → Prop
  stop : Nat → Hp → Prop
def FpOk (X : Cx) (pins : List (Addr × Obj)) (H : Hp) (b : Addr) : Prop :=
  H b = none ∧ b ≠ X.env.locals ∧ b ∉ X.fs ∧ (b ∈ X.ex ∨ X.s₀.heap.objs.size ≤ b) ∧ (∀ x c, X.env.cells.lookup x = some c → c ≠ b) ∧ ∀ p ∈ X.pn ++ pins, p.1 ≠ b
theorem Inv.fpOk {X : Cx} {pins : List (Addr × Obj)} {σ : St} {H H' : Hp} {s : Shared} {b : Addr} (I : Inv X pins σ H s) (hb : s.heap.objs.size ≤ b) (hn : H' b = none) : FpOk X pins H' b := by
  refine ⟨hn, Nat.ne_of_gt (Nat.lt_of_lt_of_le I.lt hb), I.nofs hb, .inr (Nat.le_trans I.sz hb), fun x c e z => ?_, fun p hp z => ?_⟩
  · obtain ⟨v, q⟩ := I.cell x c e
    exact absurd (Nat.lt_of_lt_of_le q.lt (by rw [z]; exact hb)) (Nat.lt_irrefl _)
  · exact absurd (Nat.lt_of_lt_of_le (Heap.lt_size (I.pin p hp).1) (by rw [z]; exact hb)) (Nat.lt_irrefl _)
structure Turn (P : Program) (w : World) (K : PySem.W.Frag) (tg : Expr) (J : It) (fp : List Addr) (it : Addr) (tn : Nat → Heap → Prop) : Prop where
  mem : it ∈ fp
  obj : ∀ i h, tn i h → ∀ b ∈ fp, ∃ o, h.get? b = some o ∧ ∀ v, o.data ≠ .cell v
  keep : ∀ i h h', tn i h → (∀ b ∈ fp, ∀ o, h.get? b = some o → h'.get? b = some o) → tn i h'
  item : ∀ (X : Cx), X.prog = P → X.w = w → X.K = K → X.calm = true → ∀ (i : Nat) (pins : List (Addr × Obj)) (s : Shared) (σ : St) (H : Hp) (E : Value → Shared → Prop), Inv X pins σ H s → (∀ b ∈ fp, FpOk X pins H b) → tn i s.heap → J.go i H →
    wpAny (model P w) X.A (pyNext (.ref it)) (fun r s1 => ∃ u, r = some u ∧
      wpAny (model P w) X.A (letOwnedTupleGo tg (.ref it) u) (fun _ s2 => ∃ x H', Inv X pins σ H' s2 ∧ RelV x u ∧ J.yld i H x H' ∧ tn (i + 1) s2.heap ∧ ∀ b ∈ fp, H' b = none) E s1) E s
  done : ∀ (X : Cx), X.prog = P → X.w = w → X.K = K → X.calm = true → ∀ (i : Nat) (pins : List (Addr × Obj)) (s : Shared) (σ : St) (H : Hp) (E : Value → Shared → Prop), Inv X pins σ H s → (∀ b ∈ fp, FpOk X pins H b) → tn i s.heap → J.stop i H →
    wpAny (model P w) X.A (pyNext (.ref it)) (fun r s1 => r = none ∧ Inv X pins σ H s1) E s
  self : ∀ (A : Around) (i : Nat) (s : Shared) (Q : Value → Shared → Prop) (E : Value → Shared → Prop), tn i s.heap → Q (.ref it) s → wpAny (model P w) A (pyIter (.ref it)) Q E s
abbrev TI := St → Hp → (It → Hp → Prop) → Prop
def PIE (X : Cx) (pins : List (Addr × Obj)) (σ : St) (tg : Expr) (R : It → Hp → Prop) (itv : Value) (s2 : Shared) : Prop :=
  ∃ (it : Addr) (fp : List Addr) (tn : Nat → Heap → Prop) (J : It) (H' : Hp), itv = .ref it ∧ Inv X pins σ H' s2 ∧ Turn X.prog X.w X.K tg J fp it tn ∧ tn 0 s2.heap ∧ (∀ b ∈ fp, FpOk X pins H' b) ∧ R J H'
def PI (X : Cx) (tg iter : Expr) (wi : TI) : Prop :=
  ∀ (pins : List (Addr × Obj)) (s : Shared) (σ : St) (H : Hp) (R : It → Hp → Prop), Inv X pins σ H s → wi σ H R →
    wpAny (model X.prog X.w) X.A (eval iter X.env) (fun v s1 => wpAny (model X.prog X.w) X.A (pyIter v) (PIE X pins σ tg R) X.xe s1) X.xe s
theorem go_of {M : Model} {A : Around} {E : Value → Shared → Prop} {s : Shared} {tg : Expr} {it : Addr} {u : Value} {o : Obj} {n : String} {vs : Array Value} {Q : Unit → Shared → Prop} (ho : s.heap.get? it = some o) (hc : o.cls = .type n) (hd : o.data = .fields vs)
    (hn : ["enumerate", "zip", "dict_itemiterator", "dict_reverseitemiterator", "odict_iterator", "itertools.zip_longest", "itertools.pairwise"].contains n = false) (hQ : Q () s) : wpAny M A (letOwnedTupleGo tg (.ref it) u) Q E s := by
  unfold letOwnedTupleGo
  cases tg <;> first
    | exact wpAny_pure hQ
    | (cases u <;> first
        | exact wpAny_pure hQ
        | (refine wpAny_bind (wpAny_load ho ?_)
           rw [hc, hd]
           show wpAny M A (if (["enumerate", "zip", "dict_itemiterator", "dict_reverseitemiterator", "odict_iterator", "itertools.zip_longest", "itertools.pairwise"].contains n && vs[0]? == some (rawInt _)) = true then _ else _) Q E s
           rw [if_neg (by intro h; rw [hn, Bool.false_and] at h; cases h)]
           exact wpAny_pure hQ))
def Itl (K : PySem.W.Frag) (a : Addr) : It :=
  ⟨fun i H => ∃ xs x, SqL K H a xs ∧ xs[i]? = some x, fun i H x H' => H' = H ∧ ∀ xs, SqL K H a xs → xs[i]? = some x, fun i H => ∃ xs, SqL K H a xs ∧ xs.length ≤ i⟩
def Itt (K : PySem.W.Frag) (a : Addr) : It :=
  ⟨fun i H => ∃ xs x, SqT K H a xs ∧ xs[i]? = some x, fun i H x H' => H' = H ∧ ∀ xs, SqT K H a xs → xs[i]? = some x, fun i H => ∃ xs, SqT K H a xs ∧ xs.length ≤ i⟩
def Itr (lo : Int) (n : Nat) : It := ⟨fun i _ => i < n, fun i H x H' => H' = H ∧ x = .int (lo + i), fun i _ => n ≤ i⟩
theorem turn_list {P : Program} {w : World} {K : PySem.W.Frag} {tg : Expr} (a it : Addr) : Turn P w K tg (Itl K a) [it] it (fun i h => h.IsListIter it a i) where
  mem := by simp
  obj := fun i h st b hb => by
    have e : b = it := by simpa using hb
    subst e
    obtain ⟨o, e, c, d⟩ := st
    exact ⟨o, e, fun v z => by rw [d] at z; cases z⟩
  keep := fun i h h' st k => st.at fun o e => k it (by simp) o e
  item := by
    intro X hP hw hK hc i pins s σ H E I hf st hg
    subst hP hw hK
    obtain ⟨xs, x, hq, hx⟩ := hg
    obtain ⟨its, rv, p, hz⟩ := I.list hq
    obtain ⟨u, hu, ru⟩ := rv.get hx
    obtain ⟨f0, f1, f2, f3, f4, f5⟩ := hf it (by simp)
    refine wpAny_pyNext_list_item st p.isList (x := u) (by simpa using hu) fun h' st' sb => ?_
    have I1 : Inv X pins σ H { s with heap := h' } := I.turned (t' := s.toks) (fun b o hb e => (sb.2 b hb).trans e) f0 f1 f3 f4 f5
    obtain ⟨o, e, c, d⟩ := id st'
    exact ⟨u, rfl, go_of (s := { s with heap := h' }) e c d (by decide) ⟨x, H, I1, ru, ⟨rfl, fun ys hy => by rw [I.list_inj hy hq]; exact hx⟩, st', fun b hb => (hf b hb).1⟩⟩
  done := by
    intro X hP hw hK hc i pins s σ H E I hf st hg
    subst hP hw hK
    obtain ⟨xs, hq, hx⟩ := hg
    obtain ⟨its, rv, p, hz⟩ := I.list hq
    obtain ⟨f0, f1, f2, f3, f4, f5⟩ := hf it (by simp)
    have hl := rv.length
    exact wpAny_pyNext_list_end (I.ok.hd hc) st p.isList (by simp; omega) fun h' eb => ⟨rfl, I.turned (t' := s.toks) (fun b o hb e => eb b o hb e) f0 f1 f3 f4 f5⟩
  self := fun _ _ _ _ _ st h => wpAny_pyIter_listiter st h
theorem turn_tuple {P : Program} {w : World} {K : PySem.W.Frag} {tg : Expr} (a it : Addr) : Turn P w K tg (Itt K a) [it] it (fun i h => h.IsTupleIter it a i) where
  mem := by simp
  obj := fun i h st b hb => by
    have e : b = it := by simpa using hb
    subst e
    obtain ⟨o, e, c, d⟩ := st
    exact ⟨o, e, fun v z => by rw [d] at z; cases z⟩
  keep := fun i h h' st k => st.at fun o e => k it (by simp) o e
  item := by
    intro X hP hw hK hc i pins s σ H E I hf st hg
    subst hP hw hK
    obtain ⟨xs, x, hq, hx⟩ := hg
    obtain ⟨its, rv, p, hz⟩ := I.tuple hq
    obtain ⟨u, hu, ru⟩ := rv.get hx
    obtain ⟨f0, f1, f2, f3, f4, f5⟩ := hf it (by simp)
    refine wpAny_pyNext_tuple_item st (show s.heap.IsTuple a its.toArray from p) (x := u) (by simpa using hu) fun h' st' sb => ?_
    have I1 : Inv X pins σ H { s with heap := h' } := I.turned (t' := s.toks) (fun b o hb e => (sb.2 b hb).trans e) f0 f1 f3 f4 f5
    obtain ⟨o, e, c, d⟩ := id st'
    exact ⟨u, rfl, go_of (s := { s with heap := h' }) e c d (by decide) ⟨x, H, I1, ru, ⟨rfl, fun ys hy => by rw [I.tuple_inj hy hq]; exact hx⟩, st', fun b hb => (hf b hb).1⟩⟩
  done := by
    intro X hP hw hK hc i pins s σ H E I hf st hg
    subst hP hw hK
    obtain ⟨xs, hq, hx⟩ := hg
    obtain ⟨its, rv, p, hz⟩ := I.tuple hq
    obtain ⟨f0, f1, f2, f3, f4, f5⟩ := hf it (by simp)
    have hl := rv.length
    exact wpAny_pyNext_tuple_end (I.ok.hd hc) st (show s.heap.IsTuple a its.toArray from p) (by simp; omega) fun h' eb => ⟨rfl, I.turned (t' := s.toks) (fun b o hb e => eb b o hb e) f0 f1 f3 f4 f5⟩
  self := fun _ _ _ _ _ st h => wpAny_pyIter_tupleiter st h
theorem turn_range {P : Program} {w : World} {K : PySem.W.Frag} {tg : Expr} (it : Addr) (lo : Int) (n : Nat) : Turn P w K tg (Itr lo n) [it] it (fun i h => IsRangeIter h it (lo + (i : Nat) * 1) ((n : Int) - (i : Nat)) 1) where
  mem := by simp
  obj := fun i h st b hb => by
    have e : b = it := by simpa using hb
    subst e
    exact ⟨_, st, fun v z => by
      have z' : Data.fields _ = Data.cell v := z
      cases z'⟩
  keep := fun i h h' st k => k it (by simp) _ st
  item := by
    intro X hP hw hK hc i pins s σ H E I hf st hg
    subst hP hw hK
    obtain ⟨f0, f1, f2, f3, f4, f5⟩ := hf it (by simp)
    have W := Walks.range (prog := X.prog) (w := X.w) (I.ok.hd hc) it lo 1 n
    refine W.item i s _ _ hg st fun v h' tk hv st' kk => ?_
    obtain ⟨t, rfl⟩ := hv
    have I1 : Inv X pins σ H { s with heap := h', toks := tk } := I.turned (fun b o hb e => kk b o (by simpa using hb) e) f0 f1 f3 f4 f5
    refine ⟨_, rfl, go_of (s := { s with heap := h', toks := tk }) (n := "range_iterator") st' rfl rfl (by decide) ⟨.int (lo + i), H, I1, ⟨t, ?_⟩, ⟨rfl, rfl⟩, st', fun b hb => (hf b hb).1⟩⟩
    rw [Int.mul_one]
  done := by
    intro X hP hw hK hc i pins s σ H E I hf st hg
    subst hP hw hK
    obtain ⟨f0, f1, f2, f3, f4, f5⟩ := hf it (by simp)
    exact wpAny_pyNext_range_end (I.ok.hd hc) st (by have : n ≤ i := hg; omega) fun h' eb => ⟨rfl, I.turned (t' := s.toks) (fun b o hb e => eb b o hb e) f0 f1 f3 f4 f5⟩
  self := fun _ _ _ _ _ st h => wpAny_pyIter_rangeiter st h
end L2
namespace L2
open PySem PySem.Spec PyProof.Rows
section
variable {X : Cx} {tg : Expr}
def iList (K : PySem.W.Frag) (tl : TE) : TI := fun σ H R => tl σ H fun x H1 => ∃ a, x = .ref a ∧ (∃ xs, SqL K H1 a xs) ∧ R (Itl K a) H1
def iTup (K : PySem.W.Frag) (tl : TE) : TI := fun σ H R => tl σ H fun x H1 => ∃ a, x = .ref a ∧ (∃ xs, SqT K H1 a xs) ∧ R (Itt K a) H1
theorem pi_list {l : Expr} {tl : TE} (hl : PE X l tl) : PI X tg l (iList X.K tl) := by
  intro pins s σ H R I h
  refine thn (hl pins s σ H _ I h) fun v s1 ⟨x, H1, I1, r1, q1⟩ => ?_
  obtain ⟨a, e, ⟨xs, hq⟩, q⟩ := q1
  subst e
  cases r1
  obtain ⟨its, rv, p, hz⟩ := I1.list hq
  refine wpAny_pyIter_list p.isList ?_
  refine ⟨s1.heap.objs.size, [s1.heap.objs.size], _, _, H1, rfl, I1.kept (t' := s1.toks) fun b o e => Heap.get?_push_of_some _ e, turn_list a _, ⟨_, Heap.get?_push_size _ rfl, rfl, rfl⟩, fun b hb => ?_, q⟩
  have e : b = s1.heap.objs.size := by simpa using hb
  subst e
  exact I1.fpOk (Nat.le_refl _) (I1.hok.fresh (Nat.le_refl _))
theorem pi_tup {l : Expr} {tl : TE} (hl : PE X l tl) : PI X tg l (iTup X.K tl) := by
  intro pins s σ H R I h
  refine thn (hl pins s σ H _ I h) fun v s1 ⟨x, H1, I1, r1, q1⟩ => ?_
  obtain ⟨a, e, ⟨xs, hq⟩, q⟩ := q1
  subst e
  cases r1
  obtain ⟨its, rv, p, hz⟩ := I1.tuple hq
  refine wpAny_pyIter_tuple (show s1.heap.IsTuple a its.toArray from p) ?_
  refine ⟨s1.heap.objs.size, [s1.heap.objs.size], _, _, H1, rfl, I1.kept (t' := s1.toks) fun b o e => Heap.get?_push_of_some _ e, turn_tuple a _, ⟨_, Heap.get?_push_size _ rfl, rfl, rfl⟩, fun b hb => ?_, q⟩
  have e : b = s1.heap.objs.size := by simpa using hb
  subst e
  exact I1.fpOk (Nat.le_refl _) (I1.hok.fresh (Nat.le_refl _))
theorem range_it {pins : List (Addr × Obj)} {σ : St} {H : Hp} {s : Shared} {R : It → Hp → Prop} {E : Value → Shared → Prop} {lo hi : Int} {t u v : Tok} {tk : Nat} (I : Inv X pins σ H s) (h1 : -(2 ^ 62) ≤ lo) (h2 : lo < 2 ^ 62) (h3 : -(2 ^ 62) ≤ hi) (h4 : hi < 2 ^ 62)
    (q : R (Itr lo (hi - lo).toNat) H) : wpAny (model X.prog X.w) X.A (pyIter (.ref s.heap.objs.size)) (PIE X pins σ tg R) E { s with heap := s.heap.push { cls := .type "range", data := .fields #[.int lo t, .int hi u, .int 1 v] }, toks := tk } := by
  refine wpAny_pyIter_range (IsRange.new ..) (small_one h1 h2 h3 h4) ?_
  have I1 : Inv X pins σ H { s with heap := s.heap.push { cls := .type "range", data := .fields #[.int lo t, .int hi u, .int 1 v] }, toks := tk } := I.kept fun b o e => Heap.get?_push_of_some _ e
  refine ⟨(s.heap.push { cls := .type "range", data := .fields #[.int lo t, .int hi u, .int 1 v] }).objs.size, [(s.heap.push { cls := .type "range", data := .fields #[.int lo t, .int hi u, .int 1 v] }).objs.size], _, _, H, rfl,
    I1.kept (t' := tk) fun b o e => Heap.get?_push_of_some _ e, turn_range _ lo (hi - lo).toNat, ?_, fun b hb => ?_, q⟩
  · have e1 : lo + ((0 : Nat) : Int) * 1 = lo := by simp
    have e2 : (((hi - lo).toNat : Nat) : Int) - ((0 : Nat) : Int) = Builtin.Range.rangeSize lo hi 1 := by rw [rangeSize_one]; split <;> omega
    show IsRangeIter _ _ (lo + ((0 : Nat) : Int) * 1) ((((hi - lo).toNat : Nat) : Int) - ((0 : Nat) : Int)) 1
    rw [e1, e2]
    exact Heap.get?_push_size _ rfl
  · have e : b = (s.heap.push { cls := .type "range", data := .fields #[.int lo t, .int hi u, .int 1 v] }).objs.size := by simpa using hb
    subst e
    exact I1.fpOk (Nat.le_refl _) (I1.hok.fresh (Nat.le_refl _))
def iRng1 (ta : TA) : TI := fun σ H R => ta σ H fun vs H1 => ∃ j : Int, vs = [.int j] ∧ -(2 ^ 62) ≤ j ∧ j < 2 ^ 62 ∧ R (Itr 0 j.toNat) H1
def iRng2 (ta : TA) : TI := fun σ H R => ta σ H fun vs H1 => ∃ i j : Int, vs = [.int i, .int j] ∧ (-(2 ^ 62) ≤ i ∧ i < 2 ^ 62 ∧ -(2 ^ 62) ≤ j ∧ j < 2 ^ 62) ∧ R (Itr i (j - i).toNat) H1
theorem pi_range1 {a : Expr} {ta : TA} {p pos : Pos} (hg : Gl X "range") (hm : X.mg "range" = none) (ha : PA X [a] ta) (hs : starEach [a] X.env = [(false, eval a X.env)] := by rfl) : PI X tg (.Call (.Name "range" p) [a] [] pos) (iRng1 ta) := by
  intro pins s σ H R I h
  refine Call_ (ld_blt I hg hm boot_range (PyProof.Rows.callWith_type1 (thn (ha pos pins s σ H _ I h) fun us s1 ⟨vs, H1, I1, r1, q1⟩ => ?_) hs rfl))
  obtain ⟨j, e, q1, q2, q⟩ := q1
  subst e
  cases r1 with
  | cons r rr =>
    cases rr
    obtain ⟨t, rfl⟩ := r
    exact call_range_1 (range_it I1 (by omega) (by omega) q1 q2 (by simpa using q))
theorem pi_range2 {a b : Expr} {ta : TA} {p pos : Pos} (hg : Gl X "range") (hm : X.mg "range" = none) (ha : PA X [a, b] ta) (hs : starEach [a, b] X.env = [(false, eval a X.env), (false, eval b X.env)] := by rfl) (hs2 : starEach [b] X.env = [(false, eval b X.env)] := by rfl) :
    PI X tg (.Call (.Name "range" p) [a, b] [] pos) (iRng2 ta) := by
  intro pins s σ H R I h
  refine Call_ (ld_blt I hg hm boot_range (PyProof.Rows.callWith_type1 (thn (ha pos pins s σ H _ I h) fun us s1 ⟨vs, H1, I1, r1, q1⟩ => ?_) (by rw [hs, hs2]) (by rw [hs2]; rfl)))
  obtain ⟨i, j, e, ⟨q1, q2, q3, q4⟩, q⟩ := q1
  subst e
  cases r1 with
  | cons r rr =>
    cases rr with
    | cons r' rr =>
      cases rr
      obtain ⟨t, rfl⟩ := r
      obtain ⟨t', rfl⟩ := r'
      exact call_range_2 (range_it I1 q1 q2 q3 q4 q)
def tFor (wi : TI) (g : TG) (tb : TS) : TS := fun D σ H => wi σ H fun J H1 => ∃ W : Nat → Nat → St → Hp → Prop, (∃ m, W 0 m σ H1) ∧ ∀ i m σ H, W i m σ H →
  (J.stop i H ∧ D.nx σ H) ∨ (J.go i H ∧ ∃ N : St → Hp → Prop, (∀ σ' H', N σ' H' → ∃ m', m' < m ∧ W (i + 1) m' σ' H') ∧ ∀ x H', J.yld i H x H' → g x σ H' fun σ2 H2 => tb { D with nx := N, ct := N, bk := D.nx } σ2 H2)
def pinsAt (fp : List Addr) (h : Heap) : List (Addr × Obj) := fp.filterMap fun b => (h.get? b).map fun o => (b, o)
theorem mem_pinsAt {fp : List Addr} {h : Heap} {b : Addr} {o : Obj} (hb : b ∈ fp) (e : h.get? b = some o) : (b, o) ∈ pinsAt fp h := List.mem_filterMap.mpr ⟨b, hb, by rw [e]; rfl⟩
theorem of_pinsAt {fp : List Addr} {h : Heap} {p : Addr × Obj} (hp : p ∈ pinsAt fp h) : p.1 ∈ fp ∧ h.get? p.1 = some p.2 := by
  obtain ⟨b, hb, e⟩ := List.mem_filterMap.mp hp
  cases q : h.get? b with
  | none => rw [q] at e; cases e
  | some o =>
    rw [q] at e
    have e' : (b, o) = p := Option.some.inj e
    subst e'
    exact ⟨hb, q⟩
theorem Inv.pinned {pins : List (Addr × Obj)} {σ : St} {H : Hp} {s : Shared} {fp : List Addr} (I : Inv X pins σ H s) (hf : ∀ b ∈ fp, FpOk X pins H b) (ho : ∀ b ∈ fp, ∃ o, s.heap.get? b = some o ∧ ∀ v, o.data ≠ .cell v) : Inv X (pins ++ pinsAt fp s.heap) σ H s :=
  I.pins_of fun p hp => (List.mem_append.mp hp).elim (fun z => I.pin p (List.mem_append_right _ z)) fun z => by
    obtain ⟨hb, e⟩ := of_pinsAt z
    obtain ⟨f0, f1, f2, _⟩ := hf p.1 hb
    obtain ⟨o, e', d⟩ := ho p.1 hb
    rw [e] at e'; cases e'
    exact ⟨e, f0, f1, f2, d⟩
theorem Inv.unpinned {pins pl : List (Addr × Obj)} {σ : St} {H : Hp} {s : Shared} (I : Inv X (pins ++ pl) σ H s) : Inv X pins σ H s := I.pins_of fun p hp => I.pin p (List.mem_append_right _ (List.mem_append_left _ hp))
theorem ps_for {iter : Expr} {body : List Stmt} {wi : TI} {g : TG} {tb : TS} {pos : Pos} (hp : PassesOwn (model X.prog X.w) X.A X.env X.xe) (hc : X.calm = true) (hi : PI X tg iter wi) (hg : PG X tg g) (hb : PSs X body tb)
    (hs : ∀ x, foldedSetIterable iter X.env x = pure x := by intro _; rfl) : PS X (.For tg iter body [] pos) (tFor wi g tb) := by
  intro pins s σ H D I h
  refine wpAny_For (thn (hi pins s σ H _ I h) fun v s1 h1 => thn h1 fun itv s2 h2 => ?_) hs
  obtain ⟨it, fp, tn, J, H2, e, I2, T, st2, f2, W, ⟨m0, w0⟩, turn⟩ := h2
  subst e
  -- what stays true of the iterator's objects through the loop
  have stat : ∀ {H' : Hp}, (∀ b ∈ fp, H' b = none) → ∀ b ∈ fp, FpOk X pins H' b := fun hn b hb => ⟨hn b hb, (f2 b hb).2⟩
  refine codeAny_forLoop_any (fun n s' => ∃ i σ' H', Inv X pins σ' H' s' ∧ tn i s'.heap ∧ (∀ b ∈ fp, H' b = none) ∧ W i n σ' H') ?_ m0 ⟨0, σ, H2, I2, st2, fun b hb => (f2 b hb).1, w0⟩
  rintro n s3 ⟨i, σ3, H3, I3, st3, fr3, w3⟩
  rcases turn i n σ3 H3 w3 with ⟨stop, qn⟩ | ⟨go, N, hN, step⟩
  · refine wpAny_passesOwn hp (thn (T.done X rfl rfl rfl hc i pins s3 σ3 H3 X.xe I3 (stat fr3) st3 stop) fun r s4 ⟨hr, I4⟩ => ?_)
    subst hr
    exact wpAny_execs_nil ⟨σ3, H3, I4, qn⟩
  · refine wpAny_passesOwn hp (thn (T.item X rfl rfl rfl hc i pins s3 σ3 H3 X.xe I3 (stat fr3) st3 go) fun r s4 ⟨u, hr, h4⟩ => ?_)
    subst hr
    refine wpAny_passesOwn hp (thn h4 fun _ s5 ⟨x, H5, I5, r5, y5, st5, fr5⟩ => ?_)
    have I5' := I5.pinned (stat fr5) (T.obj _ _ st5)
    refine wpAny_passesOwn hp (thn (hg _ s5 σ3 H5 x u _ I5' r5 (step x H5 y5)) fun _ s6 ⟨σ6, H6, I6, q6⟩ => ?_)
    refine wpAny_passesOwn hp (thn (hb _ s6 σ6 H6 _ I6 q6) fun f s7 q7 => ?_)
    have again : ∀ {σ7 : St} {H7 : Hp}, Inv X (pins ++ pinsAt fp s5.heap) σ7 H7 s7 → N σ7 H7 → ∃ m, m < n ∧ ∃ i σ' H', Inv X pins σ' H' s7 ∧ tn i s7.heap ∧ (∀ b ∈ fp, H' b = none) ∧ W i m σ' H' := fun {σ7 H7} I7 n7 => by
      obtain ⟨m', hm, w7⟩ := hN σ7 H7 n7
      refine ⟨m', hm, i + 1, σ7, H7, I7.unpinned, T.keep _ _ _ st5 fun b hb o e => (I7.pin (b, o) (List.mem_append_right _ (List.mem_append_right _ (mem_pinsAt hb e)))).1, fun b hb => ?_, w7⟩
      obtain ⟨o, e, d⟩ := T.obj _ _ st5 b hb
      exact (I7.pin (b, o) (List.mem_append_right _ (List.mem_append_right _ (mem_pinsAt hb e)))).2.1
    cases f with
    | next => obtain ⟨σ7, H7, I7, n7⟩ := q7; exact again I7 n7
    | cont => obtain ⟨σ7, H7, I7, n7⟩ := q7; exact again I7 n7
    | brk => obtain ⟨σ7, H7, I7, q7⟩ := q7; exact ⟨σ7, H7, I7.unpinned, q7⟩
    | ret v => obtain ⟨x7, σ7, H7, I7, r7, q7⟩ := q7; exact ⟨x7, σ7, H7, I7.unpinned, r7, q7⟩
end
theorem for_list {K : PySem.W.Frag} {a : Addr} {xs : List V} {g : TG} {tb : TS} {D : Ends} {σ : St} {H : Hp} (Pv : Nat → St → Hp → Prop) (h0 : Pv 0 σ H) (hl : ∀ i σ H, i ≤ xs.length → Pv i σ H → SqL K H a xs)
    (hs : ∀ i x σ H, xs[i]? = some x → Pv i σ H → g x σ H fun σ2 H2 => tb { D with nx := Pv (i + 1), ct := Pv (i + 1), bk := D.nx } σ2 H2) (hd : ∀ σ H, Pv xs.length σ H → D.nx σ H) :
    ∃ W : Nat → Nat → St → Hp → Prop, (∃ m, W 0 m σ H) ∧ ∀ i m σ H, W i m σ H →
      ((Itl K a).stop i H ∧ D.nx σ H) ∨ ((Itl K a).go i H ∧ ∃ N : St → Hp → Prop, (∀ σ' H', N σ' H' → ∃ m', m' < m ∧ W (i + 1) m' σ' H') ∧ ∀ x H', (Itl K a).yld i H x H' → g x σ H' fun σ2 H2 => tb { D with nx := N, ct := N, bk := D.nx } σ2 H2) := by
  refine ⟨fun i m σ H => m = xs.length - i ∧ i ≤ xs.length ∧ Pv i σ H, ⟨xs.length, by simp, Nat.zero_le _, h0⟩, ?_⟩
  rintro i m σ H ⟨rfl, hi, p⟩
  have q := hl i σ H hi p
  by_cases hlt : i < xs.length
  · refine .inr ⟨⟨xs, xs[i], q, by simp [hlt]⟩, Pv (i + 1), fun σ' H' p' => ⟨xs.length - (i + 1), by omega, rfl, hlt, p'⟩, fun x H' y => ?_⟩
    obtain ⟨e, y⟩ := y
    subst e
    exact hs i x σ _ (y xs q) p
  · have e : i = xs.length := by omega
    subst e
    exact .inl ⟨⟨xs, q, Nat.le_refl _⟩, hd σ H p⟩
theorem for_tup {K : PySem.W.Frag} {a : Addr} {xs : List V} {g : TG} {tb : TS} {D : Ends} {σ : St} {H : Hp} (Pv : Nat → St → Hp → Prop) (h0 : Pv 0 σ H) (hl : ∀ i σ H, i ≤ xs.length → Pv i σ H → SqT K H a xs)
    (hs : ∀ i x σ H, xs[i]? = some x → Pv i σ H → g x σ H fun σ2 H2 => tb { D with nx := Pv (i + 1), ct := Pv (i + 1), bk := D.nx } σ2 H2) (hd : ∀ σ H, Pv xs.length σ H → D.nx σ H) :
    ∃ W : Nat → Nat → St → Hp → Prop, (∃ m, W 0 m σ H) ∧ ∀ i m σ H, W i m σ H →
      ((Itt K a).stop i H ∧ D.nx σ H) ∨ ((Itt K a).go i H ∧ ∃ N : St → Hp → Prop, (∀ σ' H', N σ' H' → ∃ m', m' < m ∧ W (i + 1) m' σ' H') ∧ ∀ x H', (Itt K a).yld i H x H' → g x σ H' fun σ2 H2 => tb { D with nx := N, ct := N, bk := D.nx } σ2 H2) := by
  refine ⟨fun i m σ H => m = xs.length - i ∧ i ≤ xs.length ∧ Pv i σ H, ⟨xs.length, by simp, Nat.zero_le _, h0⟩, ?_⟩
  rintro i m σ H ⟨rfl, hi, p⟩
  have q := hl i σ H hi p
  by_cases hlt : i < xs.length
  · refine .inr ⟨⟨xs, xs[i], q, by simp [hlt]⟩, Pv (i + 1), fun σ' H' p' => ⟨xs.length - (i + 1), by omega, rfl, hlt, p'⟩, fun x H' y => ?_⟩
    obtain ⟨e, y⟩ := y
    subst e
    exact hs i x σ _ (y xs q) p
  · have e : i = xs.length := by omega
    subst e
    exact .inl ⟨⟨xs, q, Nat.le_refl _⟩, hd σ H p⟩
theorem for_range {lo : Int} {n : Nat} {g : TG} {tb : TS} {D : Ends} {σ : St} {H : Hp} (Pv : Nat → St → Hp → Prop) (h0 : Pv 0 σ H)
    (hs : ∀ i σ H, i < n → Pv i σ H → g (.int (lo + i)) σ H fun σ2 H2 => tb { D with nx := Pv (i + 1), ct := Pv (i + 1), bk := D.nx } σ2 H2) (hd : ∀ σ H, Pv n σ H → D.nx σ H) :
    ∃ W : Nat → Nat → St → Hp → Prop, (∃ m, W 0 m σ H) ∧ ∀ i m σ H, W i m σ H →
      ((Itr lo n).stop i H ∧ D.nx σ H) ∨ ((Itr lo n).go i H ∧ ∃ N : St → Hp → Prop, (∀ σ' H', N σ' H' → ∃ m', m' < m ∧ W (i + 1) m' σ' H') ∧ ∀ x H', (Itr lo n).yld i H x H' → g x σ H' fun σ2 H2 => tb { D with nx := N, ct := N, bk := D.nx } σ2 H2) := by
  refine ⟨fun i m σ H => m = n - i ∧ i ≤ n ∧ Pv i σ H, ⟨n, by simp, Nat.zero_le _, h0⟩, ?_⟩
  rintro i m σ H ⟨rfl, hi, p⟩
  by_cases hlt : i < n
  · refine .inr ⟨hlt, Pv (i + 1), fun σ' H' p' => ⟨n - (i + 1), by omega, rfl, hlt, p'⟩, fun x H' y => ?_⟩
    obtain ⟨e, y⟩ := y
    subst e y
    exact hs i σ _ hlt p
  · have e : i = n := by omega
    subst e
    exact .inl ⟨Nat.le_refl _, hd σ H p⟩
end L2
namespace L2
open PySem PySem.Spec PyProof.Rows
abbrev R2 := V → V → Hp → VK → Prop
def OpR (X : Cx) (f : Value → Value → Sem Value) (r : R2) : Prop :=
  ∀ (pins : List (Addr × Obj)) (s : Shared) (σ : St) (H : Hp) (x y : V) (v u : Value) (Q : VK), Inv X pins σ H s → RelV x v → RelV y u → r x y H Q →
    wpAny (model X.prog X.w) X.A (f v u) (EP X pins σ Q) X.xe s
def CallR (X : Cx) (f : Value) (r : List V → Hp → VK → Prop) : Prop :=
  ∀ (pins : List (Addr × Obj)) (s : Shared) (σ : St) (H : Hp) (xs : List V) (us : List Value) (Q : VK), Inv X pins σ H s → Vals xs us → r xs H Q →
    wpAny (model X.prog X.w) X.A (call f us) (EP X pins σ Q) X.xe s
def tOp (r : R2) (ta tb : TE) : TE := fun σ H Q => ta σ H fun x H1 => tb σ H1 fun y H2 => r x y H2 Q
def rI (C : Int → Int → Prop) (g : Int → Int → V) : R2 := fun x y H Q => ∃ i j, x = .int i ∧ y = .int j ∧ C i j ∧ Q (g i j) H
def rI0 (g : Int → Int → V) : R2 := fun x y H Q => ∃ i j, x = .int i ∧ y = .int j ∧ Q (g i j) H
section
variable {X : Cx} {a b c : Expr} {ta tb tc : TE} {pos : Pos}
theorem binT (ha : PE X a ta) (hb : PE X b tb) {pins : List (Addr × Obj)} {s : Shared} {σ : St} {H : Hp} {R : V → V → Hp → Prop} (I : Inv X pins σ H s)
    (h : ta σ H fun x H1 => tb σ H1 fun y H2 => R x y H2) {Q : Value → Shared → Prop} {f : Value → Value → Sem Value}
    (hf : ∀ v u s2 x y H2, Inv X pins σ H2 s2 → RelV x v → RelV y u → R x y H2 → wpAny (model X.prog X.w) X.A (f v u) Q X.xe s2) :
    wpAny (model X.prog X.w) X.A (eval a X.env) (fun v s₁ => wpAny (model X.prog X.w) X.A (eval b X.env) (fun u s₂ => wpAny (model X.prog X.w) X.A (f v u) Q X.xe s₂) X.xe s₁) X.xe s := by
  refine thn (ha pins s σ H _ I h) fun v s1 ⟨x, H1, I1, r1, q1⟩ => ?_
  refine thn (hb pins s1 σ H1 _ I1 q1) fun u s2 ⟨y, H2, I2, r2, q2⟩ => ?_
  exact hf v u s2 x y H2 I2 r1 r2 q2
theorem pe_op {op : Operator} {r : R2} (ho : OpR X (binaryOp op) r) (ha : PE X a ta) (hb : PE X b tb) : PE X (.BinOp a op b pos) (tOp r ta tb) := by
  intro pins s σ H Q I h
  exact wpAny_BinOp (binT ha hb I h fun v u s2 x y H2 I2 rx ry q => ho pins s2 σ H2 x y v u Q I2 rx ry q)
theorem opI {f : Value → Value → Sem Value} {C : Int → Int → Prop} {g : Int → Int → Int}
    (rule : ∀ (i j : Int) (t u : Tok) (s : Shared) (Q : Value → Shared → Prop) (E : Value → Shared → Prop), C i j → Q (.int (g i j) s.toks) { s with toks := s.toks + 1 } → wpAny (model X.prog X.w) X.A (f (.int i t) (.int j u)) Q E s) :
    OpR X f (rI C fun i j => .int (g i j)) := by
  intro pins s σ H x y v u Q I rx ry h
  obtain ⟨i, j, rfl, rfl, hc, q⟩ := h
  obtain ⟨t, rfl⟩ := rx
  obtain ⟨t', rfl⟩ := ry
  exact rule i j t t' s _ _ hc ⟨.int (g i j), H, I.tok _, ⟨_, rfl⟩, q⟩
theorem opI0 {f : Value → Value → Sem Value} {g : Int → Int → Int}
    (rule : ∀ (i j : Int) (t u : Tok) (s : Shared) (Q : Value → Shared → Prop) (E : Value → Shared → Prop), Q (.int (g i j) s.toks) { s with toks := s.toks + 1 } → wpAny (model X.prog X.w) X.A (f (.int i t) (.int j u)) Q E s) :
    OpR X f (rI0 fun i j => .int (g i j)) := by
  intro pins s σ H x y v u Q I rx ry h
  obtain ⟨i, j, rfl, rfl, q⟩ := h
  obtain ⟨t, rfl⟩ := rx
  obtain ⟨t', rfl⟩ := ry
  exact rule i j t t' s _ _ ⟨.int (g i j), H, I.tok _, ⟨_, rfl⟩, q⟩
theorem opB0 {f : Value → Value → Sem Value} {g : Int → Int → Bool}
    (rule : ∀ (i j : Int) (t u : Tok) (s : Shared) (Q : Value → Shared → Prop) (E : Value → Shared → Prop), Q (.bool (g i j)) s → wpAny (model X.prog X.w) X.A (f (.int i t) (.int j u)) Q E s) :
    OpR X f (rI0 fun i j => .bl (g i j)) := by
  intro pins s σ H x y v u Q I rx ry h
  obtain ⟨i, j, rfl, rfl, q⟩ := h
  obtain ⟨t, rfl⟩ := rx
  obtain ⟨t', rfl⟩ := ry
  exact rule i j t t' s _ _ ⟨.bl (g i j), H, I, rfl, q⟩
def CPow (i j : Int) : Prop := 0 ≤ j ∧ j ≤ 1000000 ∧ i.natAbs < 2 ^ 64
def CMul (i j : Int) : Prop := (-(2 ^ 64) < i ∧ i < 2 ^ 64) ∨ (-(2 ^ 64) < j ∧ j < 2 ^ 64)
theorem CMul.ok {i j : Int} (h : CMul i j) : IntMulOk i j := by
  rcases h with ⟨h1, h2⟩ | ⟨h1, h2⟩
  · exact .of_left (intBits_le_64 h1 h2)
  · exact .of_right (intBits_le_64 h1 h2)
theorem op_add : OpR X (binaryOp .Add) (rI0 fun i j => .int (i + j)) := opI0 fun _ _ _ _ _ _ _ q => add_int q
theorem op_sub : OpR X (binaryOp .Sub) (rI0 fun i j => .int (i - j)) := opI0 fun _ _ _ _ _ _ _ q => sub_int q
theorem op_mul : OpR X (binaryOp .Mult) (rI CMul fun i j => .int (i * j)) := opI fun _ _ _ _ _ _ _ hc q => mul_int q hc.ok
theorem op_mod : OpR X (binaryOp .Mod) (rI (fun _ j => 0 < j) fun i j => .int (i % j)) := opI fun i j _ _ _ _ _ hc q => by
  have h1 : (0 : Int) < j := hc
  exact mod_int' (by omega) (by rw [Int.fmod_eq_emod_of_nonneg i (by omega)]; exact q)
theorem op_pow : OpR X (binaryOp .Pow) (rI CPow fun i j => .int (i ^ j.toNat)) := opI fun _ _ _ _ _ _ _ hc q => pow_int_small hc.1 hc.2.1 hc.2.2 q
end
def scal : V → V → Bool
  | .non, .non => true | .non, .int _ => true | .int _, .non => true | .non, .bl _ => true | .bl _, .non => true | .non, .str _ => true | .str _, .non => true
  | .int _, .int _ => true | .bl _, .bl _ => true | .str _, .str _ => true | .byt _, .byt _ => true
  | .int _, .str _ => true | .str _, .int _ => true | .bl _, .str _ => true | .str _, .bl _ => true
  | _, _ => false
def rEq : R2 := fun x y H Q => scal x y = true ∧ Q (.bl (decide (x = y))) H
def rNe : R2 := fun x y H Q => scal x y = true ∧ Q (.bl (!decide (x = y))) H
theorem dec_int {i j : Int} : decide (V.int i = V.int j) = (i == j) := by
  rw [Bool.eq_iff_iff]
  simp
theorem dec_bl {i j : Bool} : decide (V.bl i = V.bl j) = (i == j) := by
  rw [Bool.eq_iff_iff]
  simp
theorem dec_str {i j : Str} : decide (V.str i = V.str j) = (i == j) := by
  rw [Bool.eq_iff_iff]
  simp
theorem dec_byt {i j : Array UInt8} : decide (V.byt i = V.byt j) = (i.toList == j.toList) := by
  rw [Bool.eq_iff_iff]
  cases i
  cases j
  simp
section
variable {X : Cx} {a b c : Expr} {ta tb tc : TE} {pos : Pos}
theorem fin_bl {pins : List (Addr × Obj)} {σ : St} {H : Hp} {s : Shared} {Q : VK} {k k' : Bool} (I : Inv X pins σ H s) (q : Q (.bl k) H) (e : k = k') : EP X pins σ Q (.bool k') s := by
  subst e
  exact ⟨.bl k, H, I, rfl, q⟩
theorem op_eq : OpR X (compareOp .Eq) rEq := by
  intro pins s σ H x y v u Q I rx ry h
  obtain ⟨hs, q⟩ := h
  cases x with
  | non =>
    cases rx
    cases y with
    | non => cases ry; exact PySem.EqNone.eq_none_none (fin_bl I q (by simp))
    | bl j => cases ry; exact PySem.EqNone.eq_none_bool (fin_bl I q (by simp))
    | int j => obtain ⟨t', rfl⟩ := ry; exact PySem.EqNone.eq_none_int (fin_bl I q (by simp))
    | str j => obtain ⟨t', rfl⟩ := ry; exact PySem.EqNone.eq_none_str (fin_bl I q (by simp))
    | _ => exact absurd (show false = true from hs) Bool.false_ne_true
  | bl i =>
    cases rx
    cases y with
    | non => cases ry; exact PySem.EqNone.eq_bool_none (fin_bl I q (by simp))
    | bl j => cases ry; exact eq_bool (fin_bl I q dec_bl)
    | str j => obtain ⟨t', rfl⟩ := ry; exact PySem.EqMixed.eq_bool_str (fin_bl I q (by simp))
    | _ => exact absurd (show false = true from hs) Bool.false_ne_true
  | int i =>
    obtain ⟨t, rfl⟩ := rx
    cases y with
    | non => cases ry; exact PySem.EqNone.eq_int_none (fin_bl I q (by simp))
    | int j => obtain ⟨t', rfl⟩ := ry; exact eq_int (fin_bl I q dec_int)
    | str j => obtain ⟨t', rfl⟩ := ry; exact PySem.EqMixed.eq_int_str (fin_bl I q (by simp))
    | _ => exact absurd (show false = true from hs) Bool.false_ne_true
  | str i =>
    obtain ⟨t, rfl⟩ := rx
    cases y with
    | non => cases ry; exact PySem.EqNone.eq_str_none (fin_bl I q (by simp))
    | bl j => cases ry; exact PySem.EqMixed.eq_str_bool (fin_bl I q (by simp))
    | int j => obtain ⟨t', rfl⟩ := ry; exact PySem.EqMixed.eq_str_int (fin_bl I q (by simp))
    | str j => obtain ⟨t', rfl⟩ := ry; exact eq_str (fin_bl I q dec_str)
    | _ => exact absurd (show false = true from hs) Bool.false_ne_true
  | byt i =>
    obtain ⟨t, rfl⟩ := rx
    cases y with
    | byt j => obtain ⟨t', rfl⟩ := ry; exact PySem.W.eq_bytes (fin_bl I q dec_byt)
    | _ => exact absurd (show false = true from hs) Bool.false_ne_true
  | _ => cases y <;> exact absurd (show false = true from hs) Bool.false_ne_true
theorem op_ne : OpR X (compareOp .NotEq) rNe := by
  intro pins s σ H x y v u Q I rx ry h
  obtain ⟨hs, q⟩ := h
  cases x with
  | non =>
    cases rx
    cases y with
    | non => cases ry; exact PySem.EqNone.ne_none_none (fin_bl I q (by simp))
    | bl j => cases ry; exact PySem.EqNone.ne_none_bool (fin_bl I q (by simp))
    | int j => obtain ⟨t', rfl⟩ := ry; exact PySem.EqNone.ne_none_int (fin_bl I q (by simp))
    | str j => obtain ⟨t', rfl⟩ := ry; exact PySem.EqNone.ne_none_str (fin_bl I q (by simp))
    | _ => exact absurd (show false = true from hs) Bool.false_ne_true
  | bl i =>
    cases rx
    cases y with
    | non => cases ry; exact PySem.EqNone.ne_bool_none (fin_bl I q (by simp))
    | bl j => cases ry; exact ne_bool (fin_bl I q (congrArg not dec_bl))
    | str j => obtain ⟨t', rfl⟩ := ry; exact PySem.EqMixed.ne_bool_str (fin_bl I q (by simp))
    | _ => exact absurd (show false = true from hs) Bool.false_ne_true
  | int i =>
    obtain ⟨t, rfl⟩ := rx
    cases y with
    | non => cases ry; exact PySem.EqNone.ne_int_none (fin_bl I q (by simp))
    | int j => obtain ⟨t', rfl⟩ := ry; exact ne_int (fin_bl I q (congrArg not dec_int))
    | str j => obtain ⟨t', rfl⟩ := ry; exact PySem.EqMixed.ne_int_str (fin_bl I q (by simp))
    | _ => exact absurd (show false = true from hs) Bool.false_ne_true
  | str i =>
    obtain ⟨t, rfl⟩ := rx
    cases y with
    | non => cases ry; exact PySem.EqNone.ne_str_none (fin_bl I q (by simp))
    | bl j => cases ry; exact PySem.EqMixed.ne_str_bool (fin_bl I q (by simp))
    | int j => obtain ⟨t', rfl⟩ := ry; exact PySem.EqMixed.ne_str_int (fin_bl I q (by simp))
    | str j => obtain ⟨t', rfl⟩ := ry; exact ne_str (fin_bl I q (congrArg not dec_str))
    | _ => exact absurd (show false = true from hs) Bool.false_ne_true
  | byt i =>
    obtain ⟨t, rfl⟩ := rx
    cases y with
    | byt j => obtain ⟨t', rfl⟩ := ry; exact PySem.W.ne_bytes (fin_bl I q (congrArg not dec_byt))
    | _ => exact absurd (show false = true from hs) Bool.false_ne_true
  | _ => cases y <;> exact absurd (show false = true from hs) Bool.false_ne_true
theorem op_lt : OpR X (compareOp .Lt) (rI0 fun i j => .bl (decide (i < j))) := opB0 fun _ _ _ _ _ _ _ q => lt_int q
theorem op_le : OpR X (compareOp .LtE) (rI0 fun i j => .bl (decide (i ≤ j))) := opB0 fun _ _ _ _ _ _ _ q => le_int q
theorem op_gt : OpR X (compareOp .Gt) (rI0 fun i j => .bl (decide (j < i))) := opB0 fun _ _ _ _ _ _ _ q => gt_int q
theorem op_ge : OpR X (compareOp .GtE) (rI0 fun i j => .bl (decide (j ≤ i))) := opB0 fun _ _ _ _ _ _ _ q => ge_int q
theorem nomark (b : Expr) {op : CmpOp} (h : op ≠ .In := by decide) (h2 : op ≠ .NotIn := by decide) : behindInMarks op b = false := by
  have e1 : (op == CmpOp.In) = false := by cases op <;> first | rfl | exact absurd rfl h
  have e2 : (op == CmpOp.NotIn) = false := by cases op <;> first | rfl | exact absurd rfl h2
  cases b <;> simp [behindInMarks, e1, e2]
theorem pe_cmpR {op : CmpOp} {r : R2} (ho : OpR X (compareOp op) r) (ha : PE X a ta) (hb : PE X b tb) (hm : behindInMarks op b = false) : PE X (.Compare a [op] [b] pos) (tOp r ta tb) := by
  intro pins s σ H Q I h
  exact wpAny_Compare1 (binT ha hb I h fun v u s2 x y H2 I2 rx ry q => ho pins s2 σ H2 x y v u Q I2 rx ry q) hm
def tTest (t : TE) : TT := fun σ H Q => t σ H fun x H' => ∃ k, x = .bl k ∧ Q k H'
theorem pt_cmpR {op : CmpOp} {r : R2} (ho : OpR X (compareOp op) r) (ha : PE X a ta) (hb : PE X b tb) (hm : behindInMarks op b = false) : PT X (.Compare a [op] [b] pos) (tTest (tOp r ta tb)) := by
  intro pins s σ H Q I h
  refine wpAny_isTrue_Compare1 (thn (ha pins s σ H _ I h) fun v s1 ⟨x, H1, I1, r1, q1⟩ => thn (hb pins s1 σ H1 _ I1 q1) fun u s2 ⟨y, H2, I2, r2, q2⟩ =>
    thn (ho pins s2 σ H2 x y v u _ I2 r1 r2 q2) fun c s3 ⟨z, H3, I3, r3, k, e, q3⟩ => ?_) hm
  subst e
  cases r3
  exact wpAny_truthy_bool ⟨H3, I3, q3⟩
def tChain (r r' : R2) (ta tb tc : TE) : TE := fun σ H Q => ta σ H fun x H1 => tb σ H1 fun y H2 => r x y H2 fun z H3 => ∃ k, z = .bl k ∧
  (if k = true then tc σ H3 fun w' H4 => r' y w' H4 Q else Q (.bl false) H3)
theorem pe_chain {op op' : CmpOp} {r r' : R2} (ho : OpR X (compareOp op) r) (ho' : OpR X (compareOp op') r') (ha : PE X a ta) (hb : PE X b tb) (hc : PE X c tc)
    (hm : lastMarks [op, op'] [b, c] = false := by with_unfolding_all rfl) : PE X (.Compare a [op, op'] [b, c] pos) (tChain r r' ta tb tc) := by
  intro pins s σ H Q I h
  refine Compare_chain (thn (ha pins s σ H _ I h) fun v s1 ⟨x, H1, I1, r1, q1⟩ => chain_link (thn (hb pins s1 σ H1 _ I1 q1) fun u s2 ⟨y, H2, I2, r2, q2⟩ =>
    thn (ho pins s2 σ H2 x y v u _ I2 r1 r2 q2) fun d s3 ⟨z, H3, I3, r3, k, e, q3⟩ => ?_)) hm
  subst e
  cases r3
  refine wpAny_truthy_bool ?_
  cases k with
  | false => exact ite_ff ⟨.bl false, H3, I3, rfl, q3⟩
  | true => exact ite_tt (chain_last (thn (hc pins s3 σ H3 _ I3 q3) fun w' s4 ⟨z', H4, I4, r4, q4⟩ => ho' pins s4 σ H4 y z' u w' Q I4 r2 r4 q4))
theorem line63 : (sizeLine : Nat) < 2 ^ 63 := by rw [sizeLine_eq]; decide
theorem vals1 {x : V} {us : List Value} (r : Vals [x] us) : ∃ u, us = [u] ∧ RelV x u := by
  cases r with
  | cons r1 r2 => cases r2; exact ⟨_, rfl, r1⟩
theorem vals2 {x y : V} {us : List Value} (r : Vals [x, y] us) : ∃ u w', us = [u, w'] ∧ RelV x u ∧ RelV y w' := by
  cases r with
  | cons r1 r2 =>
    cases r2 with
    | cons r3 r4 => cases r4; exact ⟨_, _, rfl, r1, r3⟩
theorem call_abs : CallR X (.builtin "abs") (fun xs H Q => ∃ i, xs = [.int i] ∧ Q (.int (if i < 0 then -i else i)) H) := by
  intro pins s σ H xs us Q I r h
  obtain ⟨i, rfl, q⟩ := h
  obtain ⟨u, rfl, t, rfl⟩ := vals1 r
  exact call_abs_int fun u tk => ⟨.int (if i < 0 then -i else i), H, I.tok _, ⟨_, rfl⟩, q⟩
theorem call_max2 (hc : X.calm = true) : CallR X (.builtin "max") (fun xs H Q => ∃ i j, xs = [.int i, .int j] ∧ Q (.int (if j > i then j else i)) H) := by
  intro pins s σ H xs us Q I r h
  obtain ⟨i, j, rfl, q⟩ := h
  obtain ⟨u, w', rfl, ⟨t, rfl⟩, ⟨t', rfl⟩⟩ := vals2 r
  refine max_two_ints (I.ok.hd hc) fun h' tk k => ⟨_, H, I.kept k, ?_, q⟩
  by_cases hj : j > i
  · rw [if_pos hj, if_pos hj]; exact ⟨_, rfl⟩
  · rw [if_neg hj, if_neg hj]; exact ⟨_, rfl⟩
theorem call_min2 (hc : X.calm = true) : CallR X (.builtin "min") (fun xs H Q => ∃ i j, xs = [.int i, .int j] ∧ Q (.int (if j < i then j else i)) H) := by
  intro pins s σ H xs us Q I r h
  obtain ⟨i, j, rfl, q⟩ := h
  obtain ⟨u, w', rfl, ⟨t, rfl⟩, ⟨t', rfl⟩⟩ := vals2 r
  refine min_two_ints (I.ok.hd hc) fun h' tk k => ⟨_, H, I.kept k, ?_, q⟩
  by_cases hj : j < i
  · rw [if_pos hj, if_pos hj]; exact ⟨_, rfl⟩
  · rw [if_neg hj, if_neg hj]; exact ⟨_, rfl⟩
theorem call_str_int : CallR X (.type "str") (fun xs H Q => ∃ i, xs = [.int i] ∧ i.natAbs.log2 < 1920 ∧ Q (.str (toString i)) H) := by
  intro pins s σ H xs us Q I r h
  obtain ⟨i, rfl, hz, q⟩ := h
  obtain ⟨u, rfl, t, rfl⟩ := vals1 r
  exact PySem.P.str_of_int hz ⟨.str _, H, I.tok _, ⟨_, rfl⟩, q⟩
end
end L2
namespace L2
open PySem PySem.Spec PyProof.Rows
structure ObjM (h : Heap) (x dx C : Addr) (mA : Str → Option Value) : Prop where
  obj : h.get? x = some (PySem.W.instObj C dx)
  ns : h.Ns1 dx mA
  ne : dx ≠ x
theorem lookIn_ns {h : Heap} {dx : Addr} {mA : Str → Option Value} (n : h.Ns1 dx mA) : ∃ od, h.get? dx = some od ∧ ∀ name, PySem.W.lookIn name od = some (mA name) := by
  obtain ⟨o, es, ep, ho, hd, hk, _, hm⟩ := n
  refine ⟨o, ho, fun name => ?_⟩
  have e := hm name
  unfold nsFind findBy at e
  rw [← Array.find?_toList] at e
  unfold PySem.W.lookIn
  rw [hd]
  dsimp only
  split
  · rename_i y q
    rw [q] at e
    exact congrArg some e
  · rename_i q
    rw [q] at e
    have a : es.toList.any (·.refKey) = false := by
      rw [List.any_eq_false]
      intro y hy
      obtain ⟨z, t, hkey⟩ := hk y (Array.mem_toList_iff.mp hy)
      simp [DictEntry.refKey, hkey]
    have a' : ¬ es.toList.any (·.refKey) = true := by rw [a]; exact Bool.false_ne_true
    rw [if_neg a']
    exact congrArg some e
theorem ObjM.look {h : Heap} {x dx C : Addr} {mA : Str → Option Value} (I : ObjM h x dx C mA) : ∃ od, PySem.W.InstAt h x (PySem.W.instObj C dx) C (some od) ∧ ∀ name, PySem.W.lookIn name od = some (mA name) :=
  let ⟨od, ho, hl⟩ := lookIn_ns I.ns
  ⟨od, ⟨I.obj, rfl, rfl, ho⟩, hl⟩
section
variable {P : Program} {w : World} {H H' : Hp} {h h' : Heap} {a C dx : Addr} {fs fs' : List (Str × V)}
theorem ins_get (hok : HOk P w H h) (e : H a = some (.ins C dx fs)) : ∃ mA, ObjM h a dx C mA ∧ (∀ f, RelO (fs.lookup f) (mA f)) ∧ PySem.Within mA (fs.map (·.1)) ∧ fs.length ≤ 1000 ∧ H dx = some (.own a) := by
  obtain ⟨d, z, ne, ob, mA, n, r, q⟩ := (show ObjOk P w H h a (.ins C dx fs) from hok a _ e)
  exact ⟨mA, ⟨ob, n, ne⟩, r, q, z, d⟩
end
structure Cls (K : PySem.W.Frag) (C : Addr) : Prop where
  pg : PySem.W.plainGet K C Str.empty = true
  hd : PySem.W.hasDictIn K C = true
  po : PySem.W.plainOver K C = true
  sa : PySem.W.findIn K (.ref C) "__setattr__" = some (some (.builtin "object.__setattr__"))
theorem Cls.get {K : PySem.W.Frag} {C : Addr} (c : Cls K C) (f : Str) : PySem.W.plainGet K C f = true := c.pg
structure Con (K : PySem.W.Frag) (C : Addr) (f : Str) (v : V) (u : Value) : Prop where
  at_ : PySem.W.findIn K (.ref C) f = some (some u)
  rel : RelV v u
  get : PySem.W.specialIn K u "__get__" = some none
  cp : PySem.W.copiedNames.contains f = false
structure Meth (K : PySem.W.Frag) (C : Addr) (m : Str) (f : Addr) : Prop where
  at_ : PySem.W.findIn K (.ref C) m = some (some (.ref f))
  fn : PySem.W.isFn K (.ref f) = true
  kp : PySem.W.keepIn K (.ref f) = true
section
variable {X : Cx} {pins : List (Addr × Obj)} {σ : St} {H : Hp} {s : Shared} {A : Around} {E : Value → Shared → Prop} {Q : Value → Shared → Prop} {c : Value} {b : Bool}
inductive TyOf (K : PySem.W.Frag) (H : Hp) : V → Value → Prop where
  | non : TyOf K H .non (.type "NoneType")
  | bl (x : Bool) : TyOf K H (.bl x) (.type "bool")
  | int (i : Int) : TyOf K H (.int i) (.type "int")
  | str (x : Str) : TyOf K H (.str x) (.type "str")
  | flt (x : UInt64) : TyOf K H (.flt x) (.type "float")
  | lst {a : Addr} {xs : List V} (e : H a = some (.lst xs)) : TyOf K H (.ref a) (.type "list")
  | frz {a : Addr} {o : Obj} {xs : List V} (e : H a = some (.frz o (.lst xs))) : TyOf K H (.ref a) (.type "list")
  | tup {a : Addr} {xs : List V} (e : H a = some (.tup xs)) : TyOf K H (.ref a) (.type "tuple")
  | dK {a : Addr} {kvs : List (Key × V)} (e : H a = some (.dK kvs)) : TyOf K H (.ref a) (.type "dict")
  | dT {a : Addr} {kvs : List (List Key × V)} (e : H a = some (.dT kvs)) : TyOf K H (.ref a) (.type "dict")
  | ins {a C dx : Addr} {fs : List (Str × V)} (e : H a = some (.ins C dx fs)) (cl : Cls K C) (ha : PySem.W.findIn K (.ref C) "__class__" = some (some (.builtin "object.__class__")))
      (hn : PySem.W.specialIn K (.builtin "object.__class__") "__get__" = some (some (.builtin "getset_descriptor.__get__"))) (htk : PySem.W.takesIn K (.builtin "object.__class__") = some true)
      (hm : PySem.W.mroIn K C (.type "object") = some true) : TyOf K H (.ref a) (.ref C)
theorem isinst_ok {x : V} {u t : Value} (I : Inv X pins σ H s) (rx : RelV x u) (ty : TyOf X.K H x t) (e : PySem.W.kitOne X.K t c = some b) (h : ∀ tk, Q (.bool b) { s with toks := tk }) :
    wpAny (model X.prog X.w) A (call (.builtin "isinstance") [u, c]) Q E s := by
  cases ty with
  | non => cases (show u = Value.none from rx); exact PySem.W.kia_one PySem.W.kitx_none I.kIn True.intro e (fun z => nomatch z) h
  | bl y => cases (show u = Value.bool y from rx); exact PySem.W.kia_one PySem.W.kitx_bool I.kIn True.intro e (fun z => nomatch z) h
  | int i => obtain ⟨t, q⟩ := (show ∃ t, u = Value.int i t from rx); cases q; exact PySem.W.kia_one PySem.W.kitx_int I.kIn True.intro e (fun z => nomatch z) h
  | str y => obtain ⟨t, q⟩ := (show ∃ t, u = Value.str y t from rx); cases q; exact PySem.W.kia_one PySem.W.kitx_str I.kIn True.intro e (fun z => nomatch z) h
  | flt y => obtain ⟨t, q⟩ := (show ∃ t, u = Value.float y t from rx); cases q; exact PySem.W.kia_one PySem.W.kitx_float I.kIn True.intro e (fun z => nomatch z) h
  | @lst a xs ea =>
    cases (show u = Value.ref a from rx)
    obtain ⟨_, _, n, _, h1⟩ := (show ObjOk X.prog X.w H s.heap a (.lst xs) from I.hok a _ ea)
    exact PySem.W.kia_one PySem.W.kitx_list I.kIn ⟨_, h1, rfl⟩ e (fun z => nomatch z) h
  | @frz a ob xs ea =>
    cases (show u = Value.ref a from rx)
    obtain ⟨_, _, _, n, _, h1⟩ := (show ObjOk X.prog X.w H s.heap a (.frz ob (.lst xs)) from I.hok a _ ea)
    exact PySem.W.kia_one PySem.W.kitx_list I.kIn ⟨_, h1, rfl⟩ e (fun z => nomatch z) h
  | @tup a xs ea =>
    cases (show u = Value.ref a from rx)
    obtain ⟨_, _, _, p⟩ := (show ObjOk X.prog X.w H s.heap a (.tup xs) from I.hok a _ ea)
    obtain ⟨o, h1, h2, _⟩ := p
    exact PySem.W.kia_one PySem.W.kitx_tuple I.kIn ⟨o, h1, h2⟩ e (fun z => nomatch z) h
  | @dK a kvs ea =>
    cases (show u = Value.ref a from rx)
    obtain ⟨_, _, vs, _, p⟩ := (show ObjOk X.prog X.w H s.heap a (.dK kvs) from I.hok a _ ea)
    obtain ⟨o, es, ep, h1, h2, _⟩ := p
    exact PySem.W.kia_one PySem.W.kitx_dict I.kIn ⟨o, h1, h2.1⟩ e (fun z => nomatch z) h
  | @dT a kvs ea =>
    cases (show u = Value.ref a from rx)
    obtain ⟨_, _, xs, _, o, es, ep, h1, h2, _⟩ := (show ObjOk X.prog X.w H s.heap a (.dT kvs) from I.hok a _ ea)
    exact PySem.W.kia_one PySem.W.kitx_dict I.kIn ⟨o, h1, h2.1⟩ e (fun z => nomatch z) h
  | @ins a C dx fs ea cl ha hn htk hm =>
    cases (show u = Value.ref a from rx)
    obtain ⟨mA, O, _⟩ := ins_get I.hok ea
    obtain ⟨od, J, _⟩ := O.look
    exact PySem.W.kia_one (PySem.W.kitx_own (cl.get _) cl.hd ha hn htk hm) I.kIn J e (fun z => nomatch z) h
end
end L2
namespace L2
open PySem PySem.Spec PyProof.Rows
structure Room (k : Nat) (A : Around) : Prop where
  hd : A.handled = none
  gd : A.guards = some []
  dp : A.depth + 3 * k + 5 < recursionLimit
  un : A.units + 16 * k + 200 < cLine
theorem Room.mono {j k : Nat} {A : Around} (r : Room k A) (h : j ≤ k) : Room j A := ⟨r.hd, r.gd, by have := r.dp; omega, by have := r.un; omega⟩
theorem Room.deeper {k : Nat} {A : Around} (r : Room (k + 1) A) (env : Env) : Room k (A.deeper env) :=
  ⟨r.hd, r.gd, by have := r.dp; show A.depth + 1 + 3 * k + 5 < _; omega, by have := r.un; show A.units + 3 + 16 * k + 200 < _; omega⟩
theorem Room.depth {k : Nat} {A : Around} (r : Room k A) : A.depth < recursionLimit := by have := r.dp; omega
theorem Room.units {k : Nat} {A : Around} (r : Room k A) : A.units + 64 < cLine := by have := r.un; omega
def tNil : TA := fun _ H Q => Q [] H
def tCons (ta : TE) (tr : TA) : TA := fun σ H Q => ta σ H fun x H1 => tr σ H1 fun xs H2 => Q (x :: xs) H2
section
variable {X : Cx} {e : Expr} {es : List Expr} {te : TE} {t : TA} {pos : Pos}
theorem pa_nil : PA X [] tNil := fun _ _ _ _ H Q I h => Calls.spliced_nil ⟨[], H, I, .nil, h⟩
theorem pa_cons (ha : PE X e te) (hr : PA X es t) (hs : starEach (e :: es) X.env = (false, eval e X.env) :: starEach es X.env := by rfl) : PA X (e :: es) (tCons te t) := by
  intro pos pins s σ H Q I h
  rw [hs]
  show wpAny _ _ (spliced ((false, eval e X.env) :: backTo pos (starEach es X.env))) _ _ s
  refine Calls.spliced_cons (thn (ha pins s σ H _ I h) fun u s1 ⟨x, H1, I1, r1, q1⟩ => ?_)
  exact thn (hr pos pins s1 σ H1 _ I1 q1) fun us s2 ⟨xs, H2, I2, r2, q2⟩ => ⟨x :: xs, H2, I2, .cons r1 r2, q2⟩
def tTup (t : TA) : TE := fun σ H Q => t σ H fun xs H1 => xs.length ≤ sizeLine ∧ ∀ p, H1 p = none → Q (.ref p) (upd H1 p (.tup xs))
def tLst (t : TA) : TE := fun σ H Q => t σ H fun xs H1 => xs.length ≤ sizeLine ∧ ∀ p, H1 p = none → Q (.ref p) (upd H1 p (.lst xs))
theorem pe_tup {x1} (h : PA X es t) : PE X (.Tuple es x1 pos) (tTup t) := by
  intro pins s σ H Q I hq
  refine wpAny_Tuple_spliced (thn (h pos pins s σ H _ I hq) fun us s1 ⟨xs, H1, I1, r, z, q⟩ => ⟨by rw [← r.length]; exact z, ?_⟩)
  have hf : H1 s1.heap.objs.size = none := I1.hok.fresh (Nat.le_refl _)
  refine ⟨.ref s1.heap.objs.size, upd H1 s1.heap.objs.size (.tup xs), I1.laid (t' := s1.toks) (fun b u e => Heap.get?_push_of_some _ e) (Nat.le_refl _) ?_, rfl, q _ hf⟩
  exact ⟨z, us, r, ⟨_, Heap.get?_push_size _ rfl, rfl, _, rfl⟩⟩
theorem pe_lst (h : PA X es t) : PE X (.List es pos) (tLst t) := by
  intro pins s σ H Q I hq
  refine wpAny_List_spliced (thn (h pos pins s σ H _ I hq) fun us s1 ⟨xs, H1, I1, r, z, q⟩ => ⟨by rw [← r.length]; exact z, ?_⟩)
  have hf : H1 s1.heap.objs.size = none := I1.hok.fresh (Nat.le_refl _)
  refine ⟨.ref s1.heap.objs.size, upd H1 s1.heap.objs.size (.lst xs), I1.laid (t' := s1.toks) (fun b u e => Heap.get?_push_of_some _ e) (Nat.le_refl _) ?_, rfl, q _ hf⟩
  exact ⟨z, us, 0, r, Heap.get?_push_size _ rfl⟩
end
abbrev Sp := List V → Hp → VK → XK → Prop
abbrev CXT := List Env → Hp → Shared → XK → Value → Shared → Prop
structure Env0 (P : Program) (w : World) (K : PySem.W.Frag) (mg : Str → Option Value) (base : Heap) (A : Around) (outer : List Env) (s : Shared) (H : Hp) : Prop where
  frames : A.frames = some outer
  mod : Mod K mg base
  bs : ∀ b o, base.get? b = some o → s.heap.get? b = some o ∧ H b = none
  bsz : base.objs.size ≤ s.heap.objs.size
  funs : s.heap.FunFrames base outer
  frf : ∀ b ∈ frs outer, H b = none
  hok : HOk P w H s.heap
  bare : AllBare s.gens
def CE (outer : List Env) (P : Program) (w : World) (H : Hp) (s : Shared) (Q : VK) (u : Value) (s' : Shared) : Prop :=
  ∃ v H', s'.os = s.os ∧ AllBare s'.gens ∧ Un (frs outer) [] H H' s.heap s'.heap ∧ HOk P w H' s'.heap ∧ RelV v u ∧ Q v H'
def CR (CX : CXT) (outer : List Env) (P : Program) (w : World) (H : Hp) (s : Shared) (Q : VK) (E : XK) (r : Result) (s' : Shared) : Prop :=
  match r with
  | .ok (.ret u) => CE outer P w H s Q u s'
  | .ok _ => False
  | .error e => CX outer H s E e s'
structure FnOk (P : Program) (w : World) (K : PySem.W.Frag) (mg : Str → Option Value) (base : Heap) (CX : CXT) (k : Nat) (f : Addr) (fd : FuncData) (ps : List Str) (sp : Sp) : Prop where
  len : ∀ vs H Q E, sp vs H Q E → vs.length = ps.length
  run : ∀ (A : Around) (outer : List Env) (s : Shared) (H : Hp) (args : Args) (us : List Value) (vs : List V) (Q : VK) (E : XK), Room k A → Env0 P w K mg base A outer s H → BindsTo s fd args (ps.zip us) → Vals vs us → sp vs H Q E →
    codeAny (model P w) A (.call (.ref f) args) (CR CX outer P w H s Q E) s
section
variable {X : Cx} {pins : List (Addr × Obj)} {σ : St} {H : Hp} {s s' : Shared}
theorem Inv.env0 (I : Inv X pins σ H s) : Env0 X.prog X.w X.K X.mg X.base X.A X.stack s H :=
  ⟨I.ok.frames, I.ok.mod, I.bs, Nat.le_trans I.ok.bsz I.sz, I.stack, I.stkFree, I.hok, I.bare⟩
theorem Inv.after {Q : VK} {u : Value} (I : Inv X pins σ H s) (h : CE X.stack X.prog X.w H s Q u s') : EP X pins σ Q u s' := by
  obtain ⟨v, H', os, bare, un, hok, r, q⟩ := h
  obtain ⟨hh, g, d, t, os'⟩ := s'
  obtain rfl : os' = s.os := os
  exact ⟨v, H', I.call (h' := hh) (g' := g) (d' := d) (t' := t) (ch := []) un hok bare (fun b z => absurd z (by simp)), r, q⟩
end
def tCall (sp : Sp) (dvs : List V) (E : XK) (t : TA) : TE := fun σ H Q => t σ H fun vs H1 => sp (vs ++ dvs) H1 Q E
def Binds (K : PySem.W.Frag) (fd : FuncData) (ps : List Str) (ds : List Value) : Prop :=
  ∀ (s : Shared) (us : List Value), K.In s.heap → (us ++ ds).length = ps.length → BindsTo s fd ⟨us, []⟩ (ps.zip (us ++ ds))
theorem Binds.all {K : PySem.W.Frag} {fd : FuncData} {ps : List Str} (h : ∀ us : List Value, us.length = ps.length → bindArgs fd ⟨us, []⟩ = pure (ps.zip us)) : Binds K fd ps [] := fun s us _ hl => by
  rw [List.append_nil] at hl ⊢
  exact .of_eq (h us hl)
def Passes (CX : CXT) (X : Cx) (E : XK) : Prop := ∀ (pins : List (Addr × Obj)) (σ : St) (H : Hp) (s : Shared) (e : Value) (s' : Shared), Inv X pins σ H s → CX X.stack H s E e s' → X.xe e s'
section
variable {X : Cx} {CX : CXT} {k : Nat} {f C : Addr} {fd : FuncData} {ps : List Str} {sp : Sp} {dvs : List V} {ds : List Value} {E : XK} {x m : Str} {p pos apos : Pos} {e o : Expr} {es : List Expr} {ta : TE} {t : TA}
theorem run_fn {pins : List (Addr × Obj)} {σ : St} {H : Hp} {s : Shared} {Q : VK} {us : List Value} {vs : List V} (F : FnOk X.prog X.w X.K X.mg X.base CX k f fd ps sp) (hr : Room k X.A) (hb : Binds X.K fd ps ds) (hd : Vals dvs ds) (hx : Passes CX X E)
    (I : Inv X pins σ H s) (r : Vals vs us) (h : sp (vs ++ dvs) H Q E) : wpAny (model X.prog X.w) X.A (call (.ref f) us) (EP X pins σ Q) X.xe s := by
  have r2 : Vals (vs ++ dvs) (us ++ ds) := r.append hd
  have hl : (us ++ ds).length = ps.length := by rw [← r2.length]; exact F.len _ _ _ _ h
  refine wpAny_call (codeAny_mono (F.run X.A X.stack s H ⟨us, []⟩ (us ++ ds) (vs ++ dvs) Q E hr I.env0 (hb s us I.kIn hl) r2 h) fun r s' hq => ?_)
  cases r with
  | error e => exact hx pins σ H s e s' I hq
  | ok fl =>
    cases fl with
    | ret u => exact I.after hq
    | next => exact False.elim hq
    | brk => exact False.elim hq
    | cont => exact False.elim hq
theorem pe_call (F : FnOk X.prog X.w X.K X.mg X.base CX k f fd ps sp) (hr : Room k X.A) (hg : Gl X x) (hm : X.mg x = some (.ref f)) (hk : PySem.W.keepIn X.K (.ref f) = true) (hb : Binds X.K fd ps ds) (hd : Vals dvs ds) (hx : Passes CX X E)
    (ha : PA X (e :: es) t) (hdb : (x == ("__debug__" : Str)) = false := by decide) (he : starEach (e :: es) X.env = (false, eval e X.env) :: starEach es X.env := by rfl) (hpl : (backTo pos (starEach es X.env)).any (·.1) = false := by rfl) :
    PE X (.Call (.Name x p) (e :: es) [] pos) (tCall sp dvs E t) := by
  intro pins s σ H Q I h
  refine wpAny_Call_Name_kw (ld_glob I hg hm ?_ hdb)
  refine PySem.W.callWith_K (h₀ := X.base) I.ok.mod.kin hk (thn (ha pos pins s σ H _ I h) fun us s1 ⟨vs, H1, I1, r, q⟩ => ⟨I1.kIn, ?_⟩) he hpl
  exact run_fn F hr hb hd hx I1 r q
structure Mk (K : PySem.W.Frag) (C f : Addr) : Prop where
  makes : PySem.W.makesIn K C = true
  init : PySem.W.findIn K (.ref C) "__init__" = some (some (.ref f))
  fn : PySem.W.isFn K (.ref f) = true
  kp : PySem.W.keepIn K (.ref C) = true
end
def PK (X : Cx) (kws : List Keyword) (t : TA) : Prop :=
  ∀ (pos : Pos) (pins : List (Addr × Obj)) (s : Shared) (σ : St) (H : Hp) (Q : List V → Hp → Prop), Inv X pins σ H s → t σ H Q → wpAny (model X.prog X.w) X.A (evalAll ((backToKw pos (keywordEach kws X.env)).map (·.2))) (AP X pins σ Q) X.xe s
section
variable {X : Cx} {CX : CXT} {k : Nat} {f C : Addr} {fd : FuncData} {ps ks : List Str} {sp : Sp} {E : XK} {x m : Str} {p pos apos kpos : Pos} {e o : Expr} {es : List Expr} {kws : List Keyword} {te ta : TE} {t tk : TA} {nm : Option Str}
structure KBinds (K : PySem.W.Frag) (fd : FuncData) (ps ks : List Str) (g : List Value → List Value → List Value) (gV : List V → List V → List V) : Prop where
  to : ∀ (s : Shared) (us ws : List Value), K.In s.heap → (g us ws).length = ps.length → BindsTo s fd ⟨us, ks.zip ws⟩ (ps.zip (g us ws))
  rel : ∀ {vs : List V} {us : List Value} {zs : List V} {ws : List Value}, Vals vs us → Vals zs ws → Vals (gV vs zs) (g us ws)
variable {g : List Value → List Value → List Value} {gV : List V → List V → List V}
end
structure FnScope (N P : List Str) (sc : Scope) : Prop where
  kind : sc.kind = .function
  co : sc.isCoroutine = false
  gen : sc.isGenerator = false
  nd : N.Nodup
  pre : N.take P.length = P
  par : ∀ x ∈ P, sc.names.lookup x = some .local ∨ sc.names.lookup x = some .cell
  nofree : ∀ y ∈ sc.names, y.2 ≠ .free
theorem bindL_out {kindOf : Str → Option NameKind} {x : Str} : ∀ {binds : List (Str × Value)} {m : Str → Option Value}, (∀ v, (x, v) ∉ binds) → bindL kindOf binds m x = m x
  | [], _, _ => rfl
  | (n, v) :: r, m, h => by
    unfold bindL
    rw [bindL_out fun w hw => h w (List.mem_cons_of_mem _ hw)]
    split
    · have : x ≠ n := by rintro rfl; exact h v List.mem_cons_self
      simp [this]
    · rfl
theorem bindC_out {kindOf : Str → Option NameKind} {x : Str} : ∀ {binds : List (Str × Value)} {m : Str → Option Value}, (∀ v, (x, v) ∉ binds) → bindC kindOf binds m x = m x
  | [], _, _ => rfl
  | (n, v) :: r, m, h => by
    unfold bindC
    rw [bindC_out fun w hw => h w (List.mem_cons_of_mem _ hw)]
    split
    · rfl
    · have : x ≠ n := by rintro rfl; exact h v List.mem_cons_self
      simp [this]
theorem bindL_get {kindOf : Str → Option NameKind} {x : Str} {v : Value} : ∀ {P : List Str} {vs : List Value} {i : Nat} {m : Str → Option Value}, P.Nodup → P[i]? = some x → vs[i]? = some v → kindOf x = some .local →
    bindL kindOf (P.zip vs) m x = some v
  | [], _, _, _, _, h, _, _ => by simp at h
  | _ :: _, [], _, _, _, _, h, _ => by simp at h
  | p :: P, w :: vs, 0, m, nd, h1, h2, hk => by
    simp at h1 h2; subst h1; subst h2
    show bindL kindOf ((p, w) :: P.zip vs) m p = _
    unfold bindL
    rw [bindL_out fun v hv => (List.nodup_cons.mp nd).1 (List.of_mem_zip hv).1, if_pos hk]
    simp
  | p :: P, w :: vs, i + 1, m, nd, h1, h2, hk => by
    show bindL kindOf ((p, w) :: P.zip vs) m x = _
    unfold bindL
    exact bindL_get (i := i) (List.nodup_cons.mp nd).2 (by simpa using h1) (by simpa using h2) hk
theorem bindC_get {kindOf : Str → Option NameKind} {x : Str} {v : Value} : ∀ {P : List Str} {vs : List Value} {i : Nat} {m : Str → Option Value}, P.Nodup → P[i]? = some x → vs[i]? = some v → kindOf x ≠ some .local →
    bindC kindOf (P.zip vs) m x = some v
  | [], _, _, _, _, h, _, _ => by simp at h
  | _ :: _, [], _, _, _, _, h, _ => by simp at h
  | p :: P, w :: vs, 0, m, nd, h1, h2, hk => by
    simp at h1 h2; subst h1; subst h2
    show bindC kindOf ((p, w) :: P.zip vs) m p = _
    unfold bindC
    rw [bindC_out fun v hv => (List.nodup_cons.mp nd).1 (List.of_mem_zip hv).1, if_neg hk]
    simp
  | p :: P, w :: vs, i + 1, m, nd, h1, h2, hk => by
    show bindC kindOf ((p, w) :: P.zip vs) m x = _
    unfold bindC
    exact bindC_get (i := i) (List.nodup_cons.mp nd).2 (by simpa using h1) (by simpa using h2) hk
def start (N : List Str) (vs : List V) : St := vs.map some ++ List.replicate (N.length - vs.length) none
def cxOf (CX : CXT) (P : Program) (w : World) (K : PySem.W.Frag) (mg : Str → Option Value) (base : Heap) (N : List Str) (qual : Str) (scope : Scope) (f : Addr) (cd : Value) (A : Around) (outer : List Env) (s : Shared) (H : Hp) (E : XK) : Cx where
  prog := P
  w := w
  K := K
  mg := mg
  base := base
  A := A.deeper (envOfC qual scope s.heap.objs.size f cd)
  N := N
  s₀ := s
  H₀ := H
  env := envOfC qual scope s.heap.objs.size f cd
  outer := outer
  stack := envOfC qual scope s.heap.objs.size f cd :: outer
  ex := []
  calm := true
  fn := fun _ => true
  pn := []
  xe := fun e s' => wpAny (model P w) (A.deeper (envOfC qual scope s.heap.objs.size f cd)) (leaving (envOfC qual scope s.heap.objs.size f cd) e) (fun _ s'' => CX outer H s E e s'') (fun e' s'' => CX outer H s E e' s'') s'
theorem cell_has {sc : Scope} {n : Nat} {x : Str} (h : sc.names.lookup x = some .cell) : ∃ c, (cellsFrom n sc.names []).lookup x = some c := by
  have q := PySem.W.cellsFrom_some sc.names n [] (.inl h)
  exact Option.isSome_iff_exists.mp q
theorem inv_start {CX : CXT} {P : Program} {w : World} {K : PySem.W.Frag} {mg : Str → Option Value} {base : Heap} {N ps : List Str} {qual : Str} {scope : Scope} {f : Addr} {cd : Value} {A : Around} {outer : List Env} {s s1 : Shared} {H : Hp} {E : XK} {us : List Value} {vs : List V}
    (S : FnScope N ps scope) (hd : A.handled = none) (e0 : Env0 P w K mg base A outer s H) (hl : vs.length = ps.length) (r : Vals vs us)
    (x : InCallC s s.heap.objs.size (bindL (envOfC qual scope s.heap.objs.size f cd).kindOf (ps.zip us) fun _ => none) (cellsFrom (s.heap.objs.size + 1) scope.names []) (bindC (envOfC qual scope s.heap.objs.size f cd).kindOf (ps.zip us) fun _ => none) s1) :
    Inv (cxOf CX P w K mg base N qual scope f cd A outer s H E) [] (start N vs) H s1 := by
  have hpl : ps.length ≤ N.length := by have := congrArg List.length S.pre; rw [List.length_take] at this; omega
  obtain ⟨h1, tk, rfl, hk⟩ := x.done
  have noA : ∀ b : Addr, b ∉ (cxOf CX P w K mg base N qual scope f cd A outer s H E).ex := fun b z => absurd (show b ∈ ([] : List Addr) from z) (by simp)
  refine ⟨⟨e0.mod, S.kind, rfl, rfl, Nat.le_refl _, fun y z c h1 h2 => ?_, fun y hy => ?_, fun y c _ h => ?_, fun _ => hd, Around.frames_deeper e0.frames, .inr ⟨rfl, rfl⟩, fun b z => absurd z (noA b), e0.bs, e0.bsz, fun b _ _ => noA b, fun b z => absurd z (noA b), e0.funs, e0.frf⟩,
    rfl, e0.bare, Un.kept hk, ⟨_, x.toInCall.ns, fun i y v h1 h2 h3 => ?_⟩, fun y c h => ⟨_, x.cell y c h⟩, e0.hok.fresh (Nat.le_refl _), fun y c h => ?_, fun p hp => absurd (show p ∈ ([] : List (Addr × Obj)) from hp) (by simp), e0.hok.kept hk, ?_⟩
  · exact name_of_addr x.apart (PySem.mem_of_lookup h1) (PySem.mem_of_lookup h2)
  · have hy : scope.names.lookup y = some .cell ∨ scope.names.lookup y = some .free := hy
    rcases hy with hy | hy
    · exact cell_has hy
    · exact absurd rfl (S.nofree _ (PySem.mem_of_lookup hy))
  · exact Nat.le_of_lt (x.above y c (PySem.mem_of_lookup h))
  · have hi : i < vs.length := by
      unfold start at h2
      by_cases hi : i < vs.length
      · exact hi
      · rw [List.getElem?_append_right (by simpa using hi)] at h2
        rw [List.getElem?_replicate] at h2
        split at h2 <;> cases h2
    have ha : vs[i]? = some v := by
      unfold start at h2
      rw [List.getElem?_append_left (by simpa using hi), List.getElem?_map] at h2
      cases e : vs[i]? with
      | none => rw [e] at h2; cases h2
      | some a => rw [e] at h2; cases h2; rfl
    obtain ⟨u, hu, rv⟩ := r.get ha
    have hp : ps[i]? = some y := by
      rw [← S.pre, List.getElem?_take_of_lt (by omega)]; exact h1
    have ndP : ps.Nodup := by rw [← S.pre]; exact S.nd.sublist (List.take_sublist _ _)
    refine ⟨u, rv, ?_⟩
    rcases S.par y (List.mem_of_getElem? hp) with k | k
    · exact .inl ⟨k, bindL_get ndP hp hu k⟩
    · obtain ⟨c, e⟩ := cell_has (n := s.heap.objs.size + 1) k
      refine .inr ⟨.inl k, c, e, ?_⟩
      have q := x.cell y c e
      rw [bindC_get ndP hp hu (by show scope.names.lookup y ≠ _; rw [k]; decide)] at q
      exact q
  · exact e0.hok.fresh (Nat.le_of_lt (x.above y c (PySem.mem_of_lookup h)))
  · unfold start
    show _ = N.length
    rw [List.length_append, List.length_map, List.length_replicate]
    omega
theorem fn_of {CX : CXT} {P : Program} {w : World} {K : PySem.W.Frag} {mg : Str → Option Value} {base : Heap} {k : Nat} {f : Addr} {name qual : Str} {params : Arguments} {body : List Stmt} {scope : Scope} {dV kV doc pm cdv ct oc : Value} {an od : Option Addr}
    {osl : Array (Option Value)} {N ps : List Str} {sp : Sp} (lk : K.lookup f = some ⟨oc, od, .func (PySem.W.fnOf name qual params body scope dV kV doc pm an cdv ct), osl⟩) (hcd : PySem.W.codeIn K cdv qual = true) (S : FnScope N ps scope)
    (len : ∀ vs H Q E, sp vs H Q E → vs.length = ps.length)
    (hbody : ∀ (A : Around) (outer : List Env) (s : Shared) (H : Hp) (vs : List V) (Q : VK) (E : XK), Room k (A.deeper (envOfC qual scope s.heap.objs.size f cdv)) → sp vs H Q E →
      ∃ t, PSs (cxOf CX P w K mg base N qual scope f cdv A outer s H E) body t ∧ t { nx := fun _ H' => Q .non H', rt := Q } (start N vs) H) :
    FnOk P w K mg base CX (k + 1) f (PySem.W.fnOf name qual params body scope dV kV doc pm an cdv ct) ps sp := by
  refine ⟨len, fun A outer s H args us vs Q E hr e0 hb r hsp => ?_⟩
  have hl := len _ _ _ _ hsp
  have KX : K.In s.heap := e0.mod.kin.keeps fun b o e => (e0.bs b o e).1
  have lim : s.heap.NoLimit := e0.mod.nolimit.keeps fun b o e => (e0.bs b o e).1
  have hkind : ∀ y ∈ ps.zip us, scope.names.lookup y.1 = some .local ∨ (scope.names.lookup y.1 = some .cell ∧ ((cellsFrom (s.heap.objs.size + 1) scope.names []).lookup y.1).isSome = true) := fun ⟨n, v⟩ hy => by
    rcases S.par n (List.of_mem_zip hy).1 with q | q
    · exact .inl q
    · exact .inr ⟨q, PySem.W.cellsFrom_some _ _ _ (.inl q)⟩
  refine codeAny_call_function hr.depth (KX _ _ lk) rfl S.co S.gen rfl (PySem.W.codeRec_of KX hcd) (hb _ _ _ _ ?_)
  refine wpAny_newFunctionEnv_cells S.kind hkind fun env he s1 x => ?_
  subst he
  refine ⟨lim.keeps x.toInCall.keep, codeAny_func ?_⟩
  obtain ⟨t, ht, hq⟩ := hbody A outer s H vs Q E (hr.deeper _) hsp
  have I : Inv (cxOf CX P w K mg base N qual scope f cdv A outer s H E) [] (start N vs) H s1 := inv_start S hr.hd e0 hl r x
  refine wpAny_mono (ht [] s1 (start N vs) H _ I hq) (fun fl s' hs => ?_) fun e s' hs => hs
  have fin : ∀ {σ' : St} {H' : Hp} {v : V} {u : Value}, Inv (cxOf CX P w K mg base N qual scope f cdv A outer s H E) [] σ' H' s' → RelV v u → Q v H' → CE outer P w H s Q u s' :=
    fun {σ' H' v u} J rv q => ⟨v, H', J.os, J.bare, J.base, J.hok, rv, q⟩
  cases fl with
  | ret u =>
    obtain ⟨v, σ', H', J, rv, q⟩ := hs
    exact fin J rv q
  | next =>
    obtain ⟨σ', H', J, q⟩ := hs
    exact fin (v := V.non) (u := Value.none) J rfl q
  | brk =>
    obtain ⟨_, _, _, q⟩ := hs
    exact False.elim q
  | cont =>
    obtain ⟨_, _, _, q⟩ := hs
    exact False.elim q
end L2
namespace L2
open PySem PySem.Spec PyProof.Rows
section
variable {X : Cx} {x : Str} {p pos : Pos} {e : Expr} {es : List Expr} {t : TA} {id T : String} {r : List V → Hp → VK → Prop}
def tCB (r : List V → Hp → VK → Prop) (t : TA) : TE := fun σ H Q => t σ H fun vs H1 => r vs H1 Q
theorem pe_callB (hc : CallR X (.builtin id) r) (hg : Gl X x) (hm : X.mg x = none) (hv : bootBuiltins x = some (.builtin id)) (ha : PA X (e :: es) t) (hn : x ≠ "__name__" := by decide) (hdb : (x == ("__debug__" : Str)) = false := by decide)
    (he : starEach (e :: es) X.env = (false, eval e X.env) :: starEach es X.env := by rfl) (hpl : (backTo pos (starEach es X.env)).any (·.1) = false := by rfl) : PE X (.Call (.Name x p) (e :: es) [] pos) (tCB r t) := by
  intro pins s σ H Q I h
  refine wpAny_Call_Name_kw (ld_blt I hg hm hv ?_ hn hdb)
  exact PyProof.Rows.callWith_builtin1 (thn (ha pos pins s σ H _ I h) fun us s1 ⟨vs, H1, I1, r1, q1⟩ => hc pins s1 σ H1 vs us Q I1 r1 q1) he hpl
theorem pe_callTy (hc : CallR X (.type T) r) (hg : Gl X x) (hm : X.mg x = none) (hv : bootBuiltins x = some (.type T)) (ha : PA X (e :: es) t) (hn : x ≠ "__name__" := by decide) (hdb : (x == ("__debug__" : Str)) = false := by decide)
    (he : starEach (e :: es) X.env = (false, eval e X.env) :: starEach es X.env := by rfl) (hpl : (backTo pos (starEach es X.env)).any (·.1) = false := by rfl) : PE X (.Call (.Name x p) (e :: es) [] pos) (tCB r t) := by
  intro pins s σ H Q I h
  refine wpAny_Call_Name_kw (ld_blt I hg hm hv ?_ hn hdb)
  exact PyProof.Rows.callWith_type1 (thn (ha pos pins s σ H _ I h) fun us s1 ⟨vs, H1, I1, r1, q1⟩ => hc pins s1 σ H1 vs us Q I1 r1 q1) he hpl
end
end L2
namespace HT
open PySem PyProof.Rows
theorem rcLt_int (A : Around) (s : Shared) (a : Int) (t : Tok) (c : Int) (u : Tok) (prog : Program) (w : World) (E : Value → Shared → Prop) (Q : Value → Shared → Prop) (h : Q (.bool (decide (a < c))) s) :
    wpAny (model prog w) A (richCompare .Lt (.int a t) (.int c u)) Q E s :=
  (PyProof.Rows.lt_int h : wpAny (model prog w) A (compareOp .Lt (.int a t) (.int c u)) Q E s)
section
variable {prog : Program} {w : World} {A : Around} {E : Value → Shared → Prop} {s : Shared}
def sIx (n d : Nat) : Option Int → Nat
  | none => d
  | some v => if v < 0 then (v + (n : Int)).toNat else min v.toNat n
end
end HT
namespace L2
open PySem PySem.Spec PyProof.Rows
abbrev TO := St → Hp → (Option Int → Hp → Prop) → Prop
def PO (X : Cx) (e : Option Expr) (t : TO) : Prop :=
  ∀ (pins : List (Addr × Obj)) (s : Shared) (σ : St) (H : Hp) (Q : Option Int → Hp → Prop), Inv X pins σ H s → t σ H Q →
    wpAny (model X.prog X.w) X.A (evalPart e X.env) (fun u s' => ∃ o H', Inv X pins σ H' s' ∧ IsPart u o ∧ Q o H') X.xe s
def tNoPart : TO := fun _ H Q => Q none H
def tPart (t : TE) : TO := fun σ H Q => t σ H fun x H1 => ∃ i, x = .int i ∧ Q (some i) H1
section
variable {X : Cx} {e : Expr} {te : TE} {lo hi : Option Expr} {tl th : TO} {pos p2 : Pos}
theorem po_none : PO X none tNoPart := by
  intro pins s σ H Q I h
  rw [evalPart_none]
  exact wpAny_pure ⟨none, H, I, .none, h⟩
theorem po_some (h : PE X e te) : PO X (some e) (tPart te) := by
  intro pins s σ H Q I hw
  rw [evalPart_some]
  refine thn (h pins s σ H _ I hw) fun u s1 ⟨x, H1, I1, r1, q1⟩ => ?_
  obtain ⟨i, rfl, q⟩ := q1
  obtain ⟨t, rfl⟩ := r1
  exact ⟨some i, H1, I1, .int i t, q⟩
def SlR (X : Cx) (r : V → Option Int → Option Int → Hp → VK → Prop) : Prop :=
  ∀ (pins : List (Addr × Obj)) (s : Shared) (σ : St) (H : Hp) (x : V) (v vl vu : Value) (lo hi : Option Int) (sl : Addr) (Q : VK), Inv X pins σ H s → RelV x v → s.heap.IsSliceOf sl vl vu .none → IsPart vl lo → IsPart vu hi → r x lo hi H Q →
    ∃ T id, typeLookup (.type T) "__getitem__" = pure (some (.builtin id)) ∧ s.TypeIs v T ∧ wpAny (model X.prog X.w) X.A (getItem v (.ref sl)) (EP X pins σ Q) X.xe s
def tSl (r : V → Option Int → Option Int → Hp → VK → Prop) (te : TE) (tl th : TO) : TE := fun σ H Q => te σ H fun x H1 => tl σ H1 fun l H2 => th σ H2 fun u H3 => r x l u H3 Q
theorem pe_slice {r : V → Option Int → Option Int → Hp → VK → Prop} (hr : SlR X r) (he : PE X e te) (hl : PO X lo tl) (hu : PO X hi th) : PE X (.Subscript e (.Slice lo hi none p2) pos) (tSl r te tl th) := by
  intro pins s σ H Q I h
  refine Subscript_ (thn (he pins s σ H _ I h) fun v s1 ⟨x, H1, I1, r1, q1⟩ => ?_)
  refine wpAny_Slice (thn (hl pins s1 σ H1 _ I1 q1) fun vl s2 ⟨l, H2, I2, pl, q2⟩ => thn (hu pins s2 σ H2 _ I2 q2) fun vu s3 ⟨u, H3, I3, pu, q3⟩ => ?_)
  rw [evalPart_none]
  refine wpAny_pure ?_
  have I4 : Inv X pins σ H3 { s3 with heap := s3.heap.push { cls := .type "slice", data := .fields #[vl, vu, .none] } } := I3.kept (t' := s3.toks) fun b ob q => Heap.get?_push_of_some _ q
  obtain ⟨T, id, hT, ht, hg⟩ := hr pins { s3 with heap := s3.heap.push { cls := .type "slice", data := .fields #[vl, vu, .none] } } σ H3 x v vl vu l u s3.heap.objs.size Q I4 r1 (Heap.IsSliceOf.new ..) pl pu q3
  show wpAny (model X.prog X.w) X.A (subscriptTail e (.Slice lo hi none p2) v (.ref s3.heap.objs.size)) (EP X pins σ Q) X.xe { s3 with heap := s3.heap.push { cls := .type "slice", data := .fields #[vl, vu, .none] } }
  exact tail_any (ops := [.ref s3.heap.objs.size, v]) ht hT hg (by with_unfolding_all rfl)
def cutV (xs : List V) (lo hi : Option Int) : List V := (xs.drop (HT.sIx xs.length 0 lo)).take (HT.sIx xs.length xs.length hi - HT.sIx xs.length 0 lo)
theorem cutV_length (xs : List V) (lo hi : Option Int) : (cutV xs lo hi).length ≤ xs.length := by
  unfold cutV
  rw [List.length_take, List.length_drop]
  omega
end
end L2
namespace L2
open PySem PySem.Spec PyProof.Rows
def ixN (n : Nat) (i : Int) : Option Nat := if 0 ≤ i then (if i < n then some i.toNat else none) else if -(n : Int) ≤ i then some (i + n).toNat else none
def atI {α : Type} (xs : List α) (i : Int) : Option α := (ixN xs.length i).bind fun j => xs[j]?
theorem ixN_seq {n : Nat} {i : Int} {j : Nat} (h : ixN n i = some j) : seqIndex? i n = some j ∧ j < n ∧ -(n : Int) ≤ i ∧ i < n := by
  unfold ixN at h
  by_cases h0 : 0 ≤ i
  · rw [if_pos h0] at h
    by_cases h1 : i < n
    · rw [if_pos h1] at h
      have e : i.toNat = j := Option.some.inj h
      exact ⟨by rw [seqIndex_of h0 h1, e], by omega, by omega, h1⟩
    · rw [if_neg h1] at h; cases h
  · rw [if_neg h0] at h
    by_cases h1 : -(n : Int) ≤ i
    · rw [if_pos h1] at h
      have e : (i + n).toNat = j := Option.some.inj h
      exact ⟨by rw [seqIndex_neg (by omega) h1, e], by omega, h1, by omega⟩
    · rw [if_neg h1] at h; cases h
theorem atI_get {α : Type} {xs : List α} {i : Int} {v : α} (h : atI xs i = some v) : ∃ j, seqIndex? i xs.length = some j ∧ xs[j]? = some v ∧ j < xs.length ∧ -(xs.length : Int) ≤ i ∧ i < xs.length := by
  unfold atI at h
  cases e : ixN xs.length i with
  | none => rw [e] at h; cases h
  | some j =>
    rw [e] at h
    obtain ⟨h1, h2, h3, h4⟩ := ixN_seq e
    exact ⟨j, h1, h, h2, h3, h4⟩
theorem atI_nat {α : Type} {xs : List α} {j : Nat} {v : α} (h : xs[j]? = some v) : atI xs (j : Int) = some v := by
  have hj : j < xs.length := (List.getElem?_eq_some_iff.mp h).1
  have e : ixN xs.length (j : Int) = some j := by
    unfold ixN
    rw [if_pos (by omega), if_pos (by omega)]; simp
  unfold atI; rw [e]; exact h
def PlainIx (b : Expr) : Prop := ∀ o i, subscripted b false o i = operate [o, i] (getItem o i)
def IxR (X : Cx) (r : R2) : Prop :=
  ∀ (value slice : Expr) (pins : List (Addr × Obj)) (s : Shared) (σ : St) (H : Hp) (x y : V) (v u : Value) (Q : VK), Inv X pins σ H s → RelV x v → RelV y u → r x y H Q →
    subscripted slice false v u = operate [v, u] (getItem v u) → wpAny (model X.prog X.w) X.A (subscriptTail value slice v u) (EP X pins σ Q) X.xe s
def MtR (X : Cx) (id : String) (r : V → List V → Hp → VK → Prop) : Prop :=
  ∀ (pins : List (Addr × Obj)) (s : Shared) (σ : St) (H : Hp) (x : V) (xs : List V) (v : Value) (us : List Value) (Q : VK), Inv X pins σ H s → RelV x v → Vals xs us → r x xs H Q →
    wpAny (model X.prog X.w) X.A (call (.builtin id) (v :: us)) (EP X pins σ Q) X.xe s
section
variable {X : Cx} {a b : Expr} {ta tb : TE} {pos : Pos}
theorem pe_ix {r : R2} (hr : IxR X r) (ha : PE X a ta) (hb : PE X b tb) (hs : PlainIx b) : PE X (.Subscript a b pos) (tOp r ta tb) := by
  intro pins s σ H Q I h
  exact Subscript_ (binT ha hb I h fun v u s2 x y H2 I2 rx ry q => hr a b pins s2 σ H2 x y v u Q I2 rx ry q (hs _ _))
def rIxL (K : PySem.W.Frag) : R2 := fun x y H Q => ∃ p xs i v, x = .ref p ∧ y = .int i ∧ SqL K H p xs ∧ atI xs i = some v ∧ Q v H
theorem ix_list : IxR X (rIxL X.K) := by
  intro value slice pins s σ H x y v u Q I rx ry h hs
  obtain ⟨p, xs, i, z, rfl, rfl, hq, he, q⟩ := h
  cases rx
  obtain ⟨t, rfl⟩ := ry
  obtain ⟨its, r, pl, hz⟩ := I.list hq
  obtain ⟨j, h1, h2, h3, h4, h5⟩ := atI_get he
  obtain ⟨w, ew, rw'⟩ := r.get h2
  have hl := r.length
  have hn := line63
  have fin : EP X pins σ Q w s := ⟨z, H, I, rw', q⟩
  by_cases h0 : 0 ≤ i
  · have hj : i.toNat = j := by
      rw [seqIndex_of h0 h5] at h1
      exact Option.some.inj h1
    exact item_listR pl.isList h0 (by omega) (by rw [hj]; simpa using ew) fin hs
  · have hj : (i + (its.toArray.size : Int)).toNat = j := by
      rw [seqIndex_neg (by omega) h4] at h1
      rw [List.size_toArray, ← hl]
      exact Option.some.inj h1
    exact subscriptTail_builtinR (x := w) pl.isList.typeIs slot_list_getitem.lookup
      (wpAny_getItem_list_neg (Q := fun r s' => r = w ∧ EP X pins σ Q r s') pl.isList (by omega) (by rw [List.size_toArray] <;> omega) (by omega) (by rw [hj]; simpa using ew) ⟨rfl, fin⟩) hs
theorem slice_bounds (lo hi : Option Int) (n : Nat) : (sliceBounds lo hi none n).1 = ((HT.sIx n 0 lo : Nat) : Int) ∧ (sliceBounds lo hi none n).2.1 = ((HT.sIx n n hi : Nat) : Int) ∧ (sliceBounds lo hi none n).2.2 = 1 := by
  refine ⟨?_, ?_, rfl⟩
  · cases lo with
    | none => simp [sliceBounds, HT.sIx]
    | some i =>
      simp only [sliceBounds, HT.sIx, Option.getD_none, show (1 : Int) > 0 by decide, if_true]
      by_cases h : i < 0
      · simp only [h, if_true] <;> omega
      · simp only [h, if_false] <;> omega
  · cases hi with
    | none => simp [sliceBounds, HT.sIx]
    | some i =>
      simp only [sliceBounds, HT.sIx, Option.getD_none, show (1 : Int) > 0 by decide, if_true]
      by_cases h : i < 0
      · simp only [h, if_true] <;> omega
      · simp only [h, if_false] <;> omega
theorem slicePick_cut (its : List Value) (lo hi : Option Int) : slicePick its.toArray lo hi none = ((its.drop (HT.sIx its.length 0 lo)).take (HT.sIx its.length its.length hi - HT.sIx its.length 0 lo)).toArray := by
  obtain ⟨h1, h2, h3⟩ := slice_bounds lo hi its.toArray.size
  unfold slicePick
  rw [h1, h2, h3]
  simp only [sliceRange_one, pick_run, List.size_toArray] <;> rfl
def rSlL (K : PySem.W.Frag) : V → Option Int → Option Int → Hp → VK → Prop := fun x lo hi H Q => ∃ a xs, x = .ref a ∧ SqL K H a xs ∧ ∀ p, H p = none → Q (.ref p) (upd H p (.lst (cutV xs lo hi)))
theorem sl_list : SlR X (rSlL X.K) := by
  intro pins s σ H x v vl vu lo hi sl Q I rx hs pl pu h
  obtain ⟨a, xs, rfl, hx, q⟩ := h
  cases rx
  obtain ⟨its, r, ht, hz⟩ := I.list hx
  have hlen := r.length
  refine ⟨"list", _, slot_list_getitem.lookup, ht.isList.typeIs, ?_⟩
  refine wpAny_getItem_list_slice ht.isList hs pl pu .none (by simp) ?_ (by rw [List.size_toArray] <;> omega)
  rw [slicePick_cut, ← hlen]
  refine ⟨.ref s.heap.objs.size, _, I.laid (t' := s.toks) (o := .lst (cutV xs lo hi)) (fun b ob q => Heap.get?_push_of_some _ q) (Nat.le_refl _) ?_, rfl, q _ (I.hok.fresh (Nat.le_refl _))⟩
  exact ⟨Nat.le_trans (cutV_length xs lo hi) hz, _, 0, (r.drop (HT.sIx xs.length 0 lo)).take (HT.sIx xs.length xs.length hi - HT.sIx xs.length 0 lo), Heap.get?_push_size _ rfl⟩
def flatV : V → Bool
  | .non => true
  | .bl _ => true
  | .int _ => true
  | .str _ => true
  | _ => false
def eqV : V → V → Bool
  | .non, .non => true
  | .bl a, .bl b => a == b
  | .bl a, .int b => (if a then 1 else 0) == b
  | .int a, .bl b => a == (if b then 1 else 0)
  | .int a, .int b => a == b
  | .str a, .str b => a == b
  | _, _ => false
theorem eqAt_V {A : Around} {s : Shared} {y x : V} {u v : Value} (ry : RelV y u) (rx : RelV x v) (fy : flatV y = true) (fx : flatV x = true) : SeqAt.EqAt A s u v (eqV y x) := by
  cases y with
  | non =>
    cases ry
    cases x with
    | non => cases rx; exact SeqAt.EqAt.same _
    | bl b => cases rx; exact SeqAt.EqAt.none_bool b
    | int b => obtain ⟨t, rfl⟩ := rx; exact SeqAt.EqAt.none_int b t
    | str b => obtain ⟨t, rfl⟩ := rx; exact SeqAt.EqAt.none_str b t
    | _ => exact absurd (show false = true from fx) Bool.false_ne_true
  | bl a =>
    cases ry
    cases x with
    | non => cases rx; exact SeqAt.EqAt.bool_none a
    | bl b => cases rx; exact SeqAt.EqAt.bool_bool a b
    | int b => obtain ⟨t, rfl⟩ := rx; exact SeqAt.EqAt.bool_int a b t
    | str b => obtain ⟨t, rfl⟩ := rx; exact SeqAt.EqAt.bool_str a b t
    | _ => exact absurd (show false = true from fx) Bool.false_ne_true
  | int a =>
    obtain ⟨t', rfl⟩ := ry
    cases x with
    | non => cases rx; exact SeqAt.EqAt.int_none a t'
    | bl b => cases rx; exact SeqAt.EqAt.int_bool a t' b
    | int b => obtain ⟨t, rfl⟩ := rx; exact SeqAt.EqAt.int_int a t' b t
    | str b => obtain ⟨t, rfl⟩ := rx; exact SeqAt.EqAt.int_str a t' b t
    | _ => exact absurd (show false = true from fx) Bool.false_ne_true
  | str a =>
    obtain ⟨t', rfl⟩ := ry
    cases x with
    | non => cases rx; exact SeqAt.EqAt.str_none a t'
    | bl b => cases rx; exact SeqAt.EqAt.str_bool a t' b
    | int b => obtain ⟨t, rfl⟩ := rx; exact SeqAt.EqAt.str_int a t' b t
    | str b => obtain ⟨t, rfl⟩ := rx; exact SeqAt.EqAt.str_str a t' b t
    | _ => exact absurd (show false = true from fx) Bool.false_ne_true
  | _ => exact absurd (show false = true from fy) Bool.false_ne_true
def eqU (x : V) (u : Value) : Bool := match u with
  | .none => eqV .non x
  | .bool b => eqV (.bl b) x
  | .int i _ => eqV (.int i) x
  | .str z _ => eqV (.str z) x
  | _ => false
theorem eqU_of {x y : V} {u : Value} (r : RelV y u) (f : flatV y = true) : eqU x u = eqV y x := by
  cases y with
  | non => cases r; rfl
  | bl b => cases r; rfl
  | int i => obtain ⟨t, rfl⟩ := r; rfl
  | str z => obtain ⟨t, rfl⟩ := r; rfl
  | _ => exact absurd (show false = true from f) Bool.false_ne_true
theorem any_eqU {x : V} : ∀ {xs : List V} {us : List Value}, Vals xs us → xs.all flatV = true → us.any (eqU x) = xs.any fun y => eqV y x
  | _, _, .nil, _ => rfl
  | y :: xs, u :: us, .cons r t, f => by
    rw [List.all_cons, Bool.and_eq_true] at f
    rw [List.any_cons, List.any_cons, eqU_of r f.1, any_eqU t f.2]
theorem mem_eqAt {A : Around} {s : Shared} {x : V} {v : Value} (rx : RelV x v) (fx : flatV x = true) : ∀ {xs : List V} {us : List Value}, Vals xs us → xs.all flatV = true → ∀ u ∈ us, SeqAt.EqAt A s u v (eqU x u)
  | _, _, .nil, _ => fun u hu => by cases hu
  | y :: xs, u :: us, .cons r t, f => fun u' hu => by
    rw [List.all_cons, Bool.and_eq_true] at f
    rcases List.mem_cons.mp hu with rfl | hu
    · rw [eqU_of r f.1]; exact eqAt_V r rx f.1 fx
    · exact mem_eqAt rx fx t f.2 u' hu
def inV (x : V) (xs : List V) : Bool := xs.any fun y => eqV y x
def rIn (K : PySem.W.Frag) (neg : Bool) : R2 := fun x y H Q => ∃ p xs, y = .ref p ∧ (SqL K H p xs ∨ SqT K H p xs) ∧ flatV x = true ∧ xs.all flatV = true ∧ Q (.bl (if neg then !inV x xs else inV x xs)) H
theorem op_in_seq : OpR X (compareOp .In) (rIn X.K false) := by
  intro pins s σ H x y v u Q I rx ry h
  obtain ⟨p, xs, rfl, hq, fx, fs, q⟩ := h
  cases ry
  rcases hq with hq | hq
  · obtain ⟨its, r, pl, hz⟩ := I.list hq
    refine SeqAt.in_listAt (eqU x) pl.isList (fun w hw => mem_eqAt rx fx r fs w (by simpa using hw)) ⟨.bl _, H, I, rfl, ?_⟩
    rw [show its.toArray.any (eqU x) = its.any (eqU x) by simp, any_eqU r fs]
    exact q
  · obtain ⟨its, r, pl, hz⟩ := I.tuple hq
    refine SeqAt.in_tupleAt (eqU x) pl (fun w hw => mem_eqAt rx fx r fs w (by simpa using hw)) ⟨.bl _, H, I, rfl, ?_⟩
    rw [show its.toArray.any (eqU x) = its.any (eqU x) by simp, any_eqU r fs]
    exact q
theorem op_notIn_seq : OpR X (compareOp .NotIn) (rIn X.K true) := by
  intro pins s σ H x y v u Q I rx ry h
  obtain ⟨p, xs, rfl, hq, fx, fs, q⟩ := h
  cases ry
  rcases hq with hq | hq
  · obtain ⟨its, r, pl, hz⟩ := I.list hq
    refine SeqAt.notIn_listAt (eqU x) pl.isList (fun w hw => mem_eqAt rx fx r fs w (by simpa using hw)) ⟨.bl _, H, I, rfl, ?_⟩
    rw [show its.toArray.any (eqU x) = its.any (eqU x) by simp, any_eqU r fs]
    exact q
  · obtain ⟨its, r, pl, hz⟩ := I.tuple hq
    refine SeqAt.notIn_tupleAt (eqU x) pl (fun w hw => mem_eqAt rx fx r fs w (by simpa using hw)) ⟨.bl _, H, I, rfl, ?_⟩
    rw [show its.toArray.any (eqU x) = its.any (eqU x) by simp, any_eqU r fs]
    exact q
theorem call_len_seq : CallR X (.builtin "len") (fun xs H Q => ∃ p ys, xs = [.ref p] ∧ (SqL X.K H p ys ∨ SqT X.K H p ys) ∧ Q (.int ys.length) H) := by
  intro pins s σ H xs us Q I r h
  obtain ⟨p, ys, rfl, hq, q⟩ := h
  obtain ⟨u, rfl, rx⟩ := vals1 r
  cases rx
  have hn := line63
  rcases hq with hq | hq
  · obtain ⟨its, r', pl, hz⟩ := I.list hq
    have hlen := r'.length
    exact Calls.call_len_list pl.isList (by simp only [List.size_toArray] <;> omega) ⟨.int ys.length, H, I.tok _, ⟨s.toks + 1, by rw [List.size_toArray, hlen]⟩, q⟩
  · obtain ⟨its, r', pl, hz⟩ := I.tuple hq
    have hlen := r'.length
    exact len_tuple pl (by simp only [List.size_toArray] <;> omega) ⟨.int ys.length, H, I.tok _, ⟨s.toks + 1, by rw [List.size_toArray, hlen]⟩, q⟩
theorem call_list_of : CallR X (.type "list") (fun xs H Q => ∃ p ys, xs = [.ref p] ∧ (SqL X.K H p ys ∨ SqT X.K H p ys) ∧ ∀ l, H l = none → Q (.ref l) (upd H l (.lst ys))) := by
  intro pins s σ H xs us Q I r h
  obtain ⟨p, ys, rfl, hq, q⟩ := h
  obtain ⟨u, rfl, rx⟩ := vals1 r
  cases rx
  have fin : ∀ (its : List Value), Vals ys its → ys.length ≤ sizeLine → ∀ (h' : Heap) (c' : Nat), (∀ b o', s.heap.get? b = some o' → h'.get? b = some o') →
      h'.get? s.heap.objs.size = some { cls := .type "list", dict := none, data := .seq its.toArray c', slots := #[] } → EP X pins σ Q (.ref s.heap.objs.size) { s with heap := h' } := fun its r' hz h' c' kp e =>
    ⟨.ref s.heap.objs.size, _, I.laid (t' := s.toks) kp (Nat.le_refl _) (show ObjOk X.prog X.w _ h' _ (.lst ys) from ⟨hz, its, c', r', e⟩), rfl, q _ (I.hok.fresh (Nat.le_refl _))⟩
  rcases hq with hq | hq
  · obtain ⟨its, r', pl, hz⟩ := I.list hq
    have hlen := r'.length
    obtain ⟨o, ho, hc, n, hd⟩ := pl.isList
    exact call_list_seq p (.inl rfl) ho hc hd (fun h' c' kp e => fin its r' hz h' c' kp e) (by simp only [List.size_toArray] <;> omega)
  · obtain ⟨its, r', pl, hz⟩ := I.tuple hq
    have hlen := r'.length
    obtain ⟨o, ho, hc, n, hd⟩ := pl
    exact call_list_seq p (.inr rfl) ho hc hd (fun h' c' kp e => fin its r' hz h' c' kp e) (by simp only [List.size_toArray] <;> omega)
theorem call_tuple_of : CallR X (.type "tuple") (fun xs H Q => ∃ p ys, xs = [.ref p] ∧ ((SqL X.K H p ys ∧ ∀ l, H l = none → Q (.ref l) (upd H l (.tup ys))) ∨ (SqT X.K H p ys ∧ Q (.ref p) H))) := by
  intro pins s σ H xs us Q I r h
  obtain ⟨p, ys, rfl, h⟩ := h
  obtain ⟨u, rfl, rx⟩ := vals1 r
  cases rx
  rcases h with ⟨hq, q⟩ | ⟨hq, q⟩
  · obtain ⟨its, r', pl, hz⟩ := I.list hq
    have hlen := r'.length
    refine call_tuple_list pl.isList (fun h' kp => ?_) (by simp only [List.size_toArray] <;> omega)
    have I1 : Inv X pins σ H { s with heap := h' } := I.kept (t' := s.toks) kp
    have I2 : Inv X pins σ (upd H h'.objs.size (.tup ys)) { s with heap := h'.push { cls := .type "tuple", data := .seq its.toArray } } :=
      I1.laid (t' := s.toks) (fun b o e => Heap.get?_push_of_some _ e) (Nat.le_refl _) (show ObjOk X.prog X.w _ _ _ (.tup ys) from ⟨hz, its, r', IsTup.new _ _⟩)
    exact ⟨.ref h'.objs.size, _, I2, rfl, q _ (I1.hok.fresh (Nat.le_refl _))⟩
  · obtain ⟨its, r', pl, hz⟩ := I.tuple hq
    exact call_tuple_same pl ⟨.ref p, H, I, rfl, q⟩
def tyV (K : PySem.W.Frag) (T : String) (x : V) (H : Hp) : Prop := match x with
  | .str _ => T = "str"
  | .int _ => T = "int"
  | .ref p => (T = "list" ∧ ∃ xs, SqL K H p xs) ∨ (T = "tuple" ∧ ((∃ o, K.lookup p = some o ∧ o.cls = .type "tuple" ∧ o.dict = none) ∨ ∃ o xs, H p = some (.frz o (.tup xs)) ∧ o.cls = .type "tuple" ∧ o.dict = none)) ∨
      (T = "dict" ∧ ((∃ kvs, H p = some (.dK kvs)) ∨ ∃ kvs, H p = some (.dT kvs))) ∨ (T = "set" ∧ ∃ S n, H p = some (.set S n))
  | _ => False
theorem tyV_is {pins : List (Addr × Obj)} {σ : St} {H : Hp} {s : Shared} {T : String} {x : V} {v : Value} (I : Inv X pins σ H s) (r : RelV x v) (ty : tyV X.K T x H) :
    s.TypeIs v T ∧ ∀ a, v = .ref a → ∃ ob, s.heap.get? a = some ob ∧ ob.dict = none := by
  cases x with
  | str z =>
    obtain ⟨t, rfl⟩ := r
    cases (show T = "str" from ty)
    exact ⟨typeIs_str s z t, fun _ e => nomatch e⟩
  | int i =>
    obtain ⟨t, rfl⟩ := r
    cases (show T = "int" from ty)
    exact ⟨typeIs_int s i t, fun _ e => nomatch e⟩
  | ref p =>
    cases r
    rcases ty with ⟨rfl, xs, hq⟩ | ⟨rfl, ⟨o, hk, hc, hd⟩ | ⟨o, xs, hk, hc, hd⟩⟩ | ⟨rfl, hk⟩ | ⟨rfl, S, n, hk⟩
    · obtain ⟨its, _, pl, _⟩ := I.list hq
      refine ⟨pl.isList.typeIs, fun a e => ?_⟩
      cases e
      obtain ⟨o, n, e, c, hd, _⟩ := pl
      exact ⟨o, e, hd⟩
    · refine ⟨⟨o, I.kIn p o hk, hc⟩, fun a e => ?_⟩
      cases e
      exact ⟨o, I.kIn _ o hk, hd⟩
    · obtain ⟨e, _⟩ := (show ObjOk X.prog X.w H s.heap p (.frz o (.tup xs)) from I.hok p _ hk)
      exact ⟨⟨o, e, hc⟩, fun a z => by cases z; exact ⟨o, e, hd⟩⟩
    · have z : ∃ o, s.heap.get? p = some o ∧ o.ExactDict := by
        rcases hk with ⟨kvs, hk⟩ | ⟨kvs, hk⟩
        · obtain ⟨_, _, _, _, o, _, _, e, ex, _⟩ := I.hok p _ hk
          exact ⟨o, e, ex⟩
        · obtain ⟨_, _, _, _, o, _, _, e, ex, _⟩ := I.hok p _ hk
          exact ⟨o, e, ex⟩
      obtain ⟨o, e, ex⟩ := z
      refine ⟨⟨o, e, ex.1⟩, fun a e2 => ?_⟩
      cases e2
      exact ⟨o, e, ex.2.1⟩
    · obtain ⟨o, _, _, _, e, ex, _⟩ := I.hok p _ hk
      refine ⟨⟨o, e, ex.1⟩, fun a e2 => ?_⟩
      cases e2
      exact ⟨o, e, ex.2.1⟩
  | _ => exact False.elim ty
def tBM (K : PySem.W.Frag) (T : String) (r : V → List V → Hp → VK → Prop) (to : TE) (t : TA) : TE := fun σ H Q => to σ H fun x H1 => tyV K T x H1 ∧ t σ H1 fun xs H2 => r x xs H2 Q
variable {o e : Expr} {es : List Expr} {to : TE} {t : TA} {name : Str} {apos cpos : Pos} {T id : String} {r : V → List V → Hp → VK → Prop}
theorem pe_bm (pa : PlainAttrs T) (slot : Slot T name id) (hty : typeOf (.builtin id) = pure (.type "method_descriptor")) (hm : MtR X id r) (ho : PE X o to) (ha : PA X (e :: es) t)
    (hbase : attributeBase o name X.env (eval o X.env) = eval o X.env := by rfl)
    (hfew : ((backTo cpos (starEach (e :: es) X.env)).all (fun x => !x.1) && (backToKw cpos (keywordEach [] X.env)).all (fun x => x.1.isSome)
      && decide ((e :: es).length + ([] : List Keyword).length + (if ([] : List Keyword).isEmpty then 0 else 1) < 30)) = true := by rfl)
    (hline : (apos.endLine == cpos.line) = true := by rfl) (hs : starEach (e :: es) X.env = (false, eval e X.env) :: starEach es X.env := by rfl) (hplain : (backTo cpos (starEach es X.env)).any (·.1) = false := by rfl) :
    PE X (.Call (.Attribute o name apos) (e :: es) [] cpos) (tBM X.K T r to t) := by
  intro pins s σ H Q I h
  refine wpAny_Call_method_late hbase hfew hline rfl (thn (ho pins s σ H _ I h) fun v s1 ⟨x, H1, I1, r1, ty, q1⟩ => ?_)
  obtain ⟨h1, h2⟩ := tyV_is I1 r1 ty
  refine ⟨T, id, pa, slot, hty, h1, h2, ?_⟩
  have hA := ha cpos pins s1 σ H1 _ I1 q1
  rw [hs] at hA ⊢
  refine Calls.callWith_builtin (by show (false || (backTo cpos (starEach es X.env)).any (·.1)) = false; rw [hplain] <;> rfl) (Calls.evalArgs_plain ?_)
  exact thn hA fun us s2 ⟨vs, H2, I2, r2, q2⟩ => hm pins s2 σ H2 x vs v us Q I2 r1 r2 q2
/- xs.append(e), list.index on a module's tuple .. are MtR facts of 06m -/
end
end L2
namespace L2
open PySem PySem.Spec PyProof.Rows
def MtM (X : Cx) (id : String) (r : V → List V → Hp → VK → Prop) : Prop :=
  ∀ (pins : List (Addr × Obj)) (s : Shared) (σ : St) (H : Hp) (x : V) (xs : List V) (v : Value) (us : List Value) (Q : VK), Inv X pins σ H s → RelV x v → Vals xs us → r x xs H Q →
    wpAny (model X.prog X.w) X.A (call (.builtin id) (v :: us)) (EP X pins σ Q) X.xe s
theorem Vals.one : ∀ {x : V} {us : List Value}, Vals [x] us → ∃ u, us = [u] ∧ RelV x u
  | _, _, .cons r .nil => ⟨_, rfl, r⟩
theorem Vals.dropLast {xs : List V} {us : List Value} (h : Vals xs us) : Vals xs.dropLast us.dropLast := by
  induction h with
  | nil => exact .nil
  | cons r t ih =>
    cases t with
    | nil => exact .nil
    | cons q t' => exact .cons r ih
theorem Vals.eraseIdx : ∀ {xs : List V} {us : List Value} (i : Nat), Vals xs us → Vals (xs.eraseIdx i) (us.eraseIdx i)
  | _, _, _, .nil => .nil
  | _, _, 0, .cons _ t => t
  | _, _, i + 1, .cons r t => .cons r (Vals.eraseIdx i t)
theorem Vals.reverse {xs : List V} {us : List Value} (h : Vals xs us) : Vals xs.reverse us.reverse := by
  induction h with
  | nil => exact .nil
  | cons r t ih => rw [List.reverse_cons, List.reverse_cons]; exact Vals.append ih (.cons r .nil)
theorem erase_last {α : Type} (l : List α) : l.eraseIdx (l.length - 1) = l.dropLast := by
  induction l with
  | nil => rfl
  | cons a r ih =>
    cases r with
    | nil => rfl
    | cons b r =>
      have e : (a :: b :: r).length - 1 = ((b :: r).length - 1) + 1 := by
        have h1 : (a :: b :: r).length = r.length + 2 := rfl
        have h2 : (b :: r).length = r.length + 1 := rfl
        omega
      rw [e, List.eraseIdx_cons_succ, ih]
      all_goals rfl
theorem len_erase {α : Type} : ∀ (l : List α) (i : Nat), (l.eraseIdx i).length ≤ l.length
  | [], _ => Nat.le_refl _
  | _ :: _, 0 => Nat.le_succ _
  | _ :: r, i + 1 => Nat.succ_le_succ (len_erase r i)
section
variable {X : Cx} {pins : List (Addr × Obj)} {σ : St} {H : Hp} {s : Shared} {l b : Addr} {xs ys zs : List V}
theorem Inv.lset {its its' : List Value} {n : Nat} {f : Array Value → Array Value} {t' : Nat} (I : Inv X pins σ H s) (hH : H l = some (.lst xs))
    (e : s.heap.get? l = some { cls := .type "list", data := .seq its.toArray n }) (hf : f its.toArray = its'.toArray) (hv : Vals ys its') (hz : ys.length ≤ sizeLine) :
    Inv X pins σ (upd H l (.lst ys)) { s with heap := s.heap.update l (Obj.mapSeq f), toks := t' } := by
  have q := PySem.IsL.update e f
  rw [hf] at q
  refine I.write (x := l) (e := l) (by rw [hH]; exact trivial) (.inl rfl) (fun b' u hb hu => (Heap.get?_update_other s.heap (Obj.mapSeq f) (Ne.symm hb)).trans hu) ⟨_, q⟩ ?_
  exact ⟨hz, its', _, hv, q⟩
theorem Inv.lnew {its : List Value} {t' : Nat} (I : Inv X pins σ H s) (hv : Vals ys its) (hz : ys.length ≤ sizeLine) :
    Inv X pins σ (upd H s.heap.objs.size (.lst ys)) { s with heap := s.heap.push { cls := .type "list", data := .seq its.toArray }, toks := t' } :=
  I.laid (fun _ _ q => Heap.get?_push_of_some _ q) (Nat.le_refl _) ⟨hz, its, 0, hv, Heap.get?_push_size _ rfl⟩
theorem Inv.fresh (I : Inv X pins σ H s) : H s.heap.objs.size = none := I.hok.fresh (Nat.le_refl _)
theorem Inv.lstM (I : Inv X pins σ H s) (hH : H l = some (.lst xs)) : xs.length ≤ sizeLine ∧ ∃ (its : List Value) (n : Nat), Vals xs its ∧ xs.length = its.length ∧ s.heap.get? l = some { cls := .type "list", data := .seq its.toArray n } := by
  obtain ⟨z, its, n, r, e⟩ := I.hok l _ hH
  exact ⟨z, its, n, r, r.length, e⟩
theorem notLongL {n : Nat} (h : n ≤ sizeLine) : Builtin.List.listTooLong n = false := by
  unfold Builtin.List.listTooLong
  exact decide_eq_false (by omega)
end
section
variable {X : Cx}
def rAppend : V → List V → Hp → VK → Prop := fun x vs H Q => ∃ l xs y, x = .ref l ∧ vs = [y] ∧ H l = some (.lst xs) ∧ xs.length < sizeLine ∧ Q .non (upd H l (.lst (xs ++ [y])))
theorem mt_append : MtM X "list.append" rAppend := by
  intro pins s σ H x vs v us Q I rx rv h
  obtain ⟨l, xs, y, rfl, rfl, hH, hz, q⟩ := h
  cases rx
  obtain ⟨u, rfl, ru⟩ := rv.one
  obtain ⟨z, its, n, r, hl, e⟩ := I.lstM hH
  refine call_meets F.slot_list_append ⟨_, e, rfl⟩ F.entry_list_append (F.args_list_append_2 _ _) (PySem.list_append l its.toArray n u (by rw [List.size_toArray]; omega)) ⟨e, ?_⟩
  refine ⟨.non, _, I.lset (its' := its ++ [u]) hH e (by simp) (r.append (.cons ru .nil)) ?_, rfl, q⟩
  rw [List.length_append, List.length_singleton]
  omega
def rExtend : V → List V → Hp → VK → Prop := fun x vs H Q => ∃ l b xs zs, x = .ref l ∧ vs = [.ref b] ∧ H l = some (.lst xs) ∧ H b = some (.lst zs) ∧ xs.length + zs.length ≤ sizeLine ∧ Q .non (upd H l (.lst (xs ++ zs)))
theorem mt_extend : MtM X "list.extend" rExtend := by
  intro pins s σ H x vs v us Q I rx rv h
  obtain ⟨l, b, xs, zs, rfl, rfl, hH, hB, hz, q⟩ := h
  cases rx
  obtain ⟨u, rfl, ru⟩ := rv.one
  cases ru
  obtain ⟨z, its, n, r, hl, e⟩ := I.lstM hH
  obtain ⟨z2, its2, n2, r2, hl2, e2⟩ := I.lstM hB
  have hsz : its.toArray.size + its2.toArray.size ≤ sizeLine := by rw [List.size_toArray, List.size_toArray]; omega
  have hlong : ¬ (!its.toArray.isEmpty && Builtin.List.listTooLong (its.toArray.size + its2.toArray.size)) = true := by
    rw [notLongL hsz, Bool.and_false]
    exact Bool.false_ne_true
  refine call_meets F.slot_list_extend ⟨_, e, rfl⟩ F.entry_list_extend (F.args_list_extend_2 _ _)
    (AutoSeq1.list_extend_list_list_0 l its.toArray n b its2.toArray n2 hlong (by rw [List.size_toArray]; omega) (by omega)) ⟨e, e2, ?_⟩
  refine ⟨.non, _, I.lset (its' := its ++ its2) hH e (by simp) (r.append r2) ?_, rfl, q⟩
  rw [List.length_append]
  omega
def rPopAt : V → List V → Hp → VK → Prop := fun x vs H Q => ∃ l xs i k y, x = .ref l ∧ vs = [.int i] ∧ H l = some (.lst xs) ∧ -(2 ^ 63) ≤ i ∧ i < 2 ^ 63 ∧ seqIndex? i xs.length = some k ∧ xs[k]? = some y ∧ Q y (upd H l (.lst (xs.eraseIdx k)))
theorem mt_popAt : MtM X "list.pop" rPopAt := by
  intro pins s σ H x vs v us Q I rx rv h
  obtain ⟨l, xs, i, k, y, rfl, rfl, hH, h1, h2, hk, hy, q⟩ := h
  cases rx
  obtain ⟨u, rfl, ru⟩ := rv.one
  obtain ⟨t, rfl⟩ := ru
  obtain ⟨z, its, n, r, hl, e⟩ := I.lstM hH
  obtain ⟨w, hw, rw'⟩ := r.get hy
  refine call_meets F.slot_list_pop ⟨_, e, rfl⟩ F.entry_list_pop (F.args_list_pop_2 _ _)
    (MeetsSeq.list_pop_at l its.toArray n i t k w (fitsIndex_both h1 h2) (by rw [List.size_toArray, ← hl]; exact hk) (by rw [← Array.getElem?_toList]; exact hw) (by rw [List.size_toArray]; omega)) ⟨e, ?_⟩
  refine ⟨y, _, I.lset (its' := its.eraseIdx k) hH e ?_ (r.eraseIdx k) ?_, rw', q⟩
  · show its.toArray.eraseIdxIfInBounds k = (its.eraseIdx k).toArray
    rw [List.eraseIdxIfInBounds_toArray]
  · have := len_erase xs k
    omega
def rCat : R2 := fun x y H Q => ∃ l b xs zs, x = .ref l ∧ y = .ref b ∧ H l = some (.lst xs) ∧ H b = some (.lst zs) ∧ xs.length + zs.length ≤ sizeLine ∧ ∀ p, H p = none → Q (.ref p) (upd H p (.lst (xs ++ zs)))
theorem op_cat : OpR X (binaryOp .Add) rCat := by
  intro pins s σ H x y v u Q I rx ry h
  obtain ⟨l, b, xs, zs, rfl, rfl, hH, hB, hz, q⟩ := h
  cases rx
  cases ry
  obtain ⟨z, its, n, r, hl, e⟩ := I.lstM hH
  obtain ⟨z2, its2, n2, r2, hl2, e2⟩ := I.lstM hB
  refine PySem.P.add_list e e2 ?_ (by rw [List.size_toArray, List.size_toArray]; omega)
  have ea : its.toArray ++ its2.toArray = (its ++ its2).toArray := by simp
  rw [ea]
  exact ⟨.ref _, _, I.lnew (t' := s.toks) (r.append r2) (by rw [List.length_append]; omega), rfl, q _ I.fresh⟩
end
end L2
namespace L2
open PySem PySem.Spec PyProof.Rows
section
variable {κ : Type} [DecidableEq κ]
theorem KV.length {kvs : List (κ × V)} {vs : List (κ × Value)} (r : KV kvs vs) : kvs.length = vs.length := Paired.length r
end
structure M1 (X : Cx) (o : Expr) (m : Str) (apos : Pos) (e : Expr) (cpos : Pos) : Prop where
  base : attributeBase o m X.env (eval o X.env) = eval o X.env
  few : ((backTo cpos (starEach [e] X.env)).all (fun x => !x.1) && (backToKw cpos (keywordEach [] X.env)).all (fun x => x.1.isSome)
    && decide (([e] : List Expr).length + ([] : List Keyword).length + (if ([] : List Keyword).isEmpty then 0 else 1) < 30)) = true
  line : (apos.endLine == cpos.line) = true
  trees : backTo cpos (starEach [e] X.env) = [(false, eval e X.env)]
structure M2 (X : Cx) (o : Expr) (m : Str) (apos : Pos) (e f : Expr) (cpos : Pos) : Prop where
  base : attributeBase o m X.env (eval o X.env) = eval o X.env
  few : ((backTo cpos (starEach [e, f] X.env)).all (fun x => !x.1) && (backToKw cpos (keywordEach [] X.env)).all (fun x => x.1.isSome)
    && decide (([e, f] : List Expr).length + ([] : List Keyword).length + (if ([] : List Keyword).isEmpty then 0 else 1) < 30)) = true
  line : (apos.endLine == cpos.line) = true
  trees : backTo cpos (starEach [e, f] X.env) = [(false, eval e X.env), (false, eval f X.env)]
end L2
namespace Att
open PySem PySem.W PySem.Calls PyProof.Rows
theorem ints_of_wellAll {P : Params} {h : Heap} : ∀ (ns : List Int) (vs : List Value), WellAll P h vs (ns.map WData.int) → IntsAre vs ns := by
  intro ns
  induction ns with
  | nil =>
    intro vs w
    rw [List.map_nil] at w
    cases w
    exact .nil
  | cons n ns ih =>
    intro vs w
    rw [List.map_cons] at w
    cases w with
    | cons a b =>
      cases a
      exact .cons _ _ (ih _ b)
theorem script_of {l : OpenLaw} {n : Nat} (hn : l.most = some n) {P : Params} {h : Heap} {args : List WData} {vals : List Value}
    (hpre : l.row.toRowW.claim.pre args = true) (hwl : WellAll P h vals args) :
    ∃ a vs ns, vals = [Value.ref a] ∧ args = [WData.list (ns.map WData.int)] ∧ h.get? a = some { cls := .type "list", data := .seq vs.toArray } ∧ IntsAre vs ns ∧ ns.length ≤ n := by
  have hsh : WShape.hasAll [] args [.list .int] = true := (pre_splitW hpre).1
  have hc : l.pre.holds [] { args := args } = true := (pre_splitW hpre).2
  obtain ⟨d, r, rfl, h1, h2⟩ := hasAllW_cons hsh
  obtain rfl := hasAllW_nil h2
  obtain ⟨xs, rfl, h3⟩ := hasW_list h1
  obtain ⟨ns, rfl⟩ := items_int h3
  have hlen : ns.length ≤ n := by
    unfold OpenLaw.pre at hc
    have h4 : (WTm.not (.lt (.lit (.int (n : Int))) (.len (.arg 0)))).holds [] { args := [.list (ns.map .int)] } = true := by
      have h4 := (holds_andW hc).1
      rw [hn] at h4
      exact h4
    have h5 := condW_of h4 (w_not (w_lt w_lit (w_len_list (w_arg rfl))))
    rw [List.length_map] at h5
    refine Nat.le_of_not_lt fun q => ?_
    have q' : (n : Int) < ((ns.length : Nat) : Int) := by omega
    first
      | (rw [decide_eq_true q'] at h5; exact absurd h5 (by decide))
      | (simp at h5; omega)
  cases hwl with
  | cons w1 w2 =>
    cases w2
    cases w1 with
    | list ho hall => exact ⟨_, _, ns, rfl, rfl, ho, ints_of_wellAll ns _ hall, hlen⟩
theorem post_true (l : OpenLaw) (args : List WData) : l.row.toRowW.claim.post args (.bool true) args = true :=
  postW_of (r := l.row.toRowW) (X := (true == true))
    (show WShape.has [] (.bool true) .bool = true by first | rfl | decide | simp [WShape.has, WShape.arms, WShape.armsAll])
    (show (WTm.eq .res (.lit (.bool true))).value [] { args := args, res := some (.bool true), after := args } = some (.bool (true == true)) from w_eq_bool (w_res rfl) w_lit) rfl
theorem attach_call {l : OpenLaw} {n : Nat} {q : Program} {loose : List Str} {XP : (Str → Option Value) → Heap → Prop} {YP : World → Heap → Prop} {d : DefRec}
    (hn : l.most = some n) (hdf : d.params.defaults = [])
    (call : ∀ (w : World) (s₀ s₁ : Shared) (mg mb : Str → Option Value) (fa : Addr) (o : Obj) (pm cd doc : Value) (a : Addr) (vs : List Value) (ns : List Int),
      Ground q loose [] XP w s₀ mg mb s₁.heap → YP w s₁.heap →
      s₁.heap.get? fa = some o → o.data = .func (docDef d.name d.params d.body d.scope pm cd doc) → s₁.heap.CodeRec cd d.name → mg d.name = some (.ref fa) →
      s₁.heap.get? a = some { cls := .type "list", data := .seq vs.toArray } → IntsAre vs ns → ns.length ≤ n → s₁.gens = #[] →
      codeAny (model l.prog w) callerA (.call (.ref fa) ⟨[.ref a], []⟩) (fun r s' => r = .ok (.ret (.bool true)) ∧ OldK s₁.heap s'.heap ∧ s'.os = s₁.os ∧ AllBare s'.gens) s₁) :
    WalkO q loose XP YP l.row.toRowW d [] (fun f vs => PySem.call f vs) := by
  intro w s₀ s₁ mg mb G Y fa o pm cd doc dV kV ho hd hcd hD hmg hg args vals as hpre hlay hrd hwl hlo
  obtain rfl : dV = .none := Dflts.none hD hdf
  obtain rfl : kV = .none := Dflts.noKw hD
  obtain ⟨a, vs, ns, rfl, rfl, hobj, hints, hlen⟩ := script_of hn hpre hwl
  refine enter_call (codeAny_mono (call w s₀ s₁ mg mb fa o pm cd doc a vs ns G Y ho (fd_plain hd) hcd hmg hobj hints hlen hg) fun r s' hq => ?_)
  obtain ⟨rfl, h2, h3, h4⟩ := hq
  exact ⟨.inl ⟨.bool true, .bool true, [], rfl, fun _ => rfl, .bool true, post_true l _, fun _ => ⟨List.Pairwise.nil, fun _ hm => (nomatch hm)⟩⟩, h2, h3, h4⟩
section
variable {prog : Program} {w : World} {A : Around} {E : Value → Shared → Prop} {s : Shared} {K : Frag}
def ledger (h : Heap) (L d : Addr) : List (Addr × Obj) := (List.range h.objs.size).filterMap fun a => if a = L ∨ a = d then none else (h.get? a).map fun o => (a, o)
end
end Att
namespace L2
open PySem PySem.Spec PyProof.Rows
theorem vals_ints : ∀ {vs : List Value} {ns : List Int}, IntsAre vs ns → Vals (ns.map V.int) vs
  | _, _, .nil => .nil
  | _, _, .cons n t h => .cons ⟨t, rfl⟩ (vals_ints h)
def Only (H : Hp) : Prop := ∀ b, H b = none ∨ ∃ o xs, H b = some (.frz o (.lst xs))
theorem law_call {P : Program} {w : World} {K : PySem.W.Frag} {mg mb : Str → Option Value} {CX : CXT} {k : Nat} {fa a : Addr} {fd : FuncData} {x : Str} {sp : Sp} {s₁ : Shared} {vs : List Value} {ns : List Int}
    (KX : K.In s₁.heap) (hns : s₁.heap.Ns mainGlobals mg) (hb : s₁.heap.Ns builtinsNs mb) (hbb : ∀ x : Str, x ≠ "__name__" → mb x = bootBuiltins x) (hlim : s₁.heap.NoLimit) (hg : s₁.gens = #[])
    (ha : s₁.heap.get? a = some { cls := .type "list", data := .seq vs.toArray }) (hi : IntsAre vs ns) (hl : ns.length ≤ sizeLine) (hr : Room k callerA)
    (F : ∀ base : Heap, K.In base → base.Ns mainGlobals mg → FnOk P w K mg base CX k fa fd [x] sp) (hbind : ∀ (s : Shared) (u : Value), BindsTo s fd ⟨[u], []⟩ [(x, u)])
    (hsp : ∀ H : Hp, Only H → SqL K H a (ns.map V.int) → sp [.ref a] H (fun v _ => v = .bl true) fun _ _ _ => False)
    (hCX : ∀ H e s', CX [] H s₁ (fun _ _ _ => False) e s' → False) :
    codeAny (model P w) callerA (.call (.ref fa) ⟨[.ref a], []⟩) (fun r s' => r = .ok (.ret (.bool true)) ∧ OldK s₁.heap s'.heap ∧ s'.os = s₁.os ∧ AllBare s'.gens) s₁ := by
  have rv := vals_ints hi
  have lenV := hi.length
  -- from an abstract heap in which nothing but the script may be tracked
  have core : ∀ H : Hp, Only H → SqL K H a (ns.map V.int) → HOk P w H s₁.heap → (∀ b, H b ≠ none → b = a) → (H a ≠ none → K.lookup a = none) →
      codeAny (model P w) callerA (.call (.ref fa) ⟨[.ref a], []⟩) (fun r s' => r = .ok (.ret (.bool true)) ∧ OldK s₁.heap s'.heap ∧ s'.os = s₁.os ∧ AllBare s'.gens) s₁ := by
    intro H hO hS hok hA hK
    have base_of : ∀ {b : Addr} {o : Obj}, s₁.heap.get? b = some o → H b = none → (hidT s₁.heap H).get? b = some o := fun e n => hidT_get e n
    have noA : ∀ {b : Addr} {o : Obj} {es : Array DictEntry} {ep : Nat}, s₁.heap.get? b = some o → o.data = .dict es ep → H b = none := fun {b o es ep} e d => by
      cases q : H b with
      | none => rfl
      | some u =>
        have e' : b = a := hA b (by rw [q]; simp)
        subst e'
        rw [ha] at e; cases e
        have d' : Data.seq vs.toArray _ = Data.dict es ep := d
        cases d'
    have nsK : ∀ {b : Addr} {m : Str → Option Value}, s₁.heap.Ns b m → (hidT s₁.heap H).Ns b m := fun {b m} ⟨o, es, ep, e, d, r⟩ => ⟨o, es, ep, base_of e (noA e d), d, r⟩
    have hKb : K.In (hidT s₁.heap H) := fun b o e => base_of (KX b o e) (by
      cases q : H b with
      | none => rfl
      | some u =>
        have e' : b = a := hA b (by rw [q]; simp)
        subst e'
        rw [hK (by rw [q]; simp)] at e; cases e)
    have hM : Mod K mg (hidT s₁.heap H) := ⟨hKb, nsK hns, ⟨mb, nsK hb, hbb⟩, let ⟨mc, h1, h2⟩ := hlim; ⟨mc, nsK h1, h2⟩⟩
    have e0 : Env0 P w K mg (hidT s₁.heap H) callerA [] s₁ H := ⟨rfl, hM, fun b o e => of_hidT e, Nat.le_of_eq (hidT_size _ _), trivial, fun b hb => absurd (show b ∈ ([] : List Addr) from hb) (by simp), hok, .of_eq hg⟩
    refine codeAny_mono ((F _ hKb (nsK hns)).run callerA [] s₁ H ⟨[.ref a], []⟩ [.ref a] [.ref a] _ _ hr e0 (hbind s₁ (.ref a)) (.cons rfl .nil) (hsp H hO hS)) fun r s' h => ?_
    cases r with
    | error e => exact (hCX H e s' h).elim
    | ok fl =>
      cases fl with
      | next => exact False.elim h
      | brk => exact False.elim h
      | cont => exact False.elim h
      | ret u =>
        obtain ⟨v, H', os, bare, un, hok', r', q⟩ := h
        have q' : v = .bl true := q
        subst q'
        obtain rfl : u = Value.bool true := r'
        refine ⟨rfl, OldK.of_keep fun b o e => ?_, os, bare⟩
        cases q : H b with
        | none => exact un.keep b o e q (by intro z; exact absurd (show b ∈ ([] : List Addr) from z) (by simp)) (by simp)
        | some u =>
          rcases hO b with z | ⟨ob, xs, z⟩
          · rw [q] at z; cases z
          · have z2 := un.frzs b ob _ z
            obtain ⟨e1, _⟩ := hok b _ z
            obtain ⟨e2, _⟩ := hok' b _ z2
            rw [e] at e1; cases e1
            exact e2
  cases hk : K.lookup a with
  | some o =>
    -- the script is one of the module's own objects
    have e := KX a o hk
    rw [ha] at e
    cases e
    refine core (fun _ => none) (fun _ => .inl rfl) (.inr ⟨_, vs.toArray, _, hk, rfl, rfl, rfl, by rw [List.size_toArray, lenV]; exact hl, by simpa using rv⟩) (fun b u z => by have z' : (none : Option HO) = some u := z; cases z') (fun b z => absurd rfl z) fun z => absurd rfl z
  | none =>
    refine core (fun b => if b = a then some (.frz { cls := .type "list", data := .seq vs.toArray } (.lst (ns.map V.int))) else none) (fun b => ?_) (.inl (.inr ⟨{ cls := .type "list", data := .seq vs.toArray }, if_pos rfl⟩)) (fun b u z => ?_) (fun b z => ?_) fun _ => hk
    · by_cases hb : b = a
      · exact .inr ⟨_, _, if_pos hb⟩
      · exact .inl (if_neg hb)
    · by_cases hb : b = a
      · have z' := (if_pos hb).symm.trans z
        cases z'
        subst hb
        exact ⟨ha, by rw [List.length_map]; exact hl, vs, _, rv, ha⟩
      · have z' := (if_neg hb).symm.trans z
        cases z'
    · by_cases hb : b = a
      · exact hb
      · exact absurd (if_neg hb) z
end L2
namespace L2
open PySem PySem.Spec PyProof.Rows
theorem walk_of {l : PySem.W.OpenLaw} {n k : Nat} {q : Program} {loose : List Str} {XP : (Str → Option Value) → Heap → Prop} {YP : World → Heap → Prop} {d : DefRec} {K : Params → PySem.W.Frag} {CX : World → CXT} {sp : World → Sp} {x : Str}
    (hn : l.most = some n) (hn2 : n ≤ sizeLine) (hdf : d.params.defaults = []) (hr : Room k callerA)
    (hY : ∀ (w : World) (h : Heap), YP w h → (K w.params).In h)
    (F : ∀ (w : World) (mg : Str → Option Value) (fa : Addr) (h : Heap), (K w.params).In h → h.Ns mainGlobals mg → mg d.name = some (.ref fa) →
      ∃ fd : FuncData, (∀ (s : Shared) (u : Value), BindsTo s fd ⟨[u], []⟩ [(x, u)]) ∧
        ∀ base : Heap, (K w.params).In base → base.Ns mainGlobals mg → FnOk l.prog w (K w.params) mg base (CX w) k fa fd [x] (sp w))
    (hsp : ∀ (w : World) (H : Hp) (a : Addr) (ns : List Int), ns.length ≤ n → Only H → SqL (K w.params) H a (ns.map V.int) → sp w [.ref a] H (fun v _ => v = .bl true) fun _ _ _ => False)
    (hCX : ∀ (w : World) (H : Hp) (s : Shared) (e : Value) (s' : Shared), CX w [] H s (fun _ _ _ => False) e s' → False) :
    PySem.W.WalkO q loose XP YP l.row.toRowW d [] (fun f vs => PySem.call f vs) := by
  refine Att.attach_call hn hdf fun w s₀ s₁ mg mb fa o pm cd doc a vs ns G Y ho hd hcd hmg hobj hints hlen hg => ?_
  have KX := hY w _ Y
  obtain ⟨fd, hb, hF⟩ := F w mg fa _ KX G.T.g hmg
  exact law_call KX G.T.g G.T.b G.T.builtins G.T.nolimit hg hobj hints (Nat.le_trans hlen hn2) hr hF hb (fun H hO hS => hsp w H a ns hlen hO hS) fun H e s' => hCX w H s₁ e s'
end L2
namespace L2
open PySem PySem.Spec PyProof.Rows
def defArgs (s : Stmt) : Arguments := match s with
  | .FunctionDef _ a _ _ _ _ _ _ _ _ => a
  | _ => { posonlyargs := [], args := [], vararg := none, kwonlyargs := [], kw_defaults := [], kwarg := none, defaults := [] }
def defBody (s : Stmt) : List Stmt := match s with
  | .FunctionDef _ _ b _ _ _ _ _ _ _ => b
  | _ => []
def defScope (s : Stmt) : Scope := match s with
  | .FunctionDef _ _ _ _ _ _ sc _ _ _ => sc
  | _ => { kind := .function, names := [], isGenerator := false, isCoroutine := false }
abbrev CX0 : CXT := fun _ _ _ _ _ _ => False
abbrev E0 : XK := fun _ _ _ => False
theorem pass0 {X : Cx} : Passes CX0 X E0 := fun _ _ _ _ _ _ _ h => h.elim
structure Fun (K : PySem.W.Frag) (x qual : Str) (st : Stmt) (f : Addr) (fd : FuncData) : Prop where
  ex : ∃ (oc : Value) (od : Option Addr) (kV doc pm : Value) (an : Option Addr) (cdv ct : Value) (osl : Array (Option Value)),
    fd = PySem.W.fnOf x qual (defArgs st) (defBody st) (defScope st) .none kV doc pm an cdv ct ∧ K.lookup f = some ⟨oc, od, .func fd, osl⟩ ∧ PySem.W.codeIn K cdv qual = true
  kp : PySem.W.keepIn K (.ref f) = true
section
variable {P : Program} {w : World} {K : PySem.W.Frag} {mg : Str → Option Value} {base : Heap}
theorem Fun.ok {x qual : Str} {st : Stmt} {f : Addr} {fd : FuncData} {N ps : List Str} {k : Nat} {sp : Sp} (F : Fun K x qual st f fd) (S : FnScope N ps (defScope st)) (len : ∀ vs H Q E, sp vs H Q E → vs.length = ps.length)
    (hbody : ∀ (cdv : Value) (A : Around) (outer : List Env) (s : Shared) (H : Hp) (vs : List V) (Q : VK) (E : XK), Room k (A.deeper (envOfC qual (defScope st) s.heap.objs.size f cdv)) → sp vs H Q E →
      ∃ t, PSs (cxOf CX0 P w K mg base N qual (defScope st) f cdv A outer s H E).nox (defBody st) t ∧ t { nx := fun _ H' => Q .non H', rt := Q } (start N vs) H) : FnOk P w K mg base CX0 (k + 1) f fd ps sp := by
  obtain ⟨oc, od, kV, doc, pm, an, cdv, ct, osl, rfl, lk, hcd⟩ := F.ex
  refine fn_of lk hcd S len fun A outer s H vs Q E hr hsp => ?_
  obtain ⟨t, h, q⟩ := hbody cdv A outer s H vs Q E hr hsp
  exact ⟨t, h.nox, q⟩
theorem Fun.binds {x qual : Str} {st : Stmt} {f : Addr} {fd : FuncData} {ps : List Str} (F : Fun K x qual st f fd)
    (h : ∀ (kV doc pm : Value) (an : Option Addr) (cdv ct : Value) (us : List Value), us.length = ps.length → bindArgs (PySem.W.fnOf x qual (defArgs st) (defBody st) (defScope st) .none kV doc pm an cdv ct) ⟨us, []⟩ = pure (ps.zip us)) : Binds K fd ps [] := by
  obtain ⟨oc, od, kV, doc, pm, an, cdv, ct, osl, rfl, lk, hcd⟩ := F.ex
  exact .all (h kV doc pm an cdv ct)
theorem fun_mk {x qual : Str} {st : Stmt} {f : Addr} {oc : Value} {od an : Option Addr} {osl : Array (Option Value)} {kV doc pm cdv ct : Value} (l : K.lookup f = some ⟨oc, od, .func (PySem.W.fnOf x qual (defArgs st) (defBody st) (defScope st) .none kV doc pm an cdv ct), osl⟩)
    (c : PySem.W.codeIn K cdv qual = true) (k : PySem.W.keepIn K (.ref f) = true) : Fun K x qual st f (PySem.W.fnOf x qual (defArgs st) (defBody st) (defScope st) .none kV doc pm an cdv ct) := ⟨⟨oc, od, kV, doc, pm, an, cdv, ct, osl, rfl, l, c⟩, k⟩
end
section
variable {X : Cx}
theorem pv (i : Nat) {x : Str} {pos : Pos} (hN : X.N[i]? = some x := by rfl) (hv : Vis X.env.scope x := by first | exact Or.inl rfl | exact Or.inr (Or.inl rfl) | exact Or.inr (Or.inr rfl)) (hd : (x == ("__debug__" : Str)) = false := by decide)
    (hcd : (x == ("__classdict__" : Str)) = false := by decide) : PE X (.Name x pos) (tVar i) := pe_var hN hv hd hcd
end
theorem iteF {A B : Prop} (h : B) : if false = true then A else B := by
  rw [if_neg Bool.false_ne_true]
  exact h
theorem iteT {A B : Prop} (h : A) : if true = true then A else B := by
  rw [if_pos rfl]
  exact h
theorem ite2 {c A B : Prop} [Decidable c] (h1 : c → A) (h2 : ¬ c → B) : if c then A else B := by
  by_cases h : c
  · rw [if_pos h]
    exact h1 h
  · rw [if_neg h]
    exact h2 h
def Same (H H' : Hp) : Prop := ∀ b o, H b = some o → H' b = some o
theorem Same.refl (H : Hp) : Same H H := fun _ _ h => h
theorem Same.trans {H H1 H2 : Hp} (a : Same H H1) (b : Same H1 H2) : Same H H2 := fun c o h => b c o (a c o h)
theorem Same.free {H H' : Hp} (e : Same H H') {l : Addr} (h : H' l = Option.none) : H l = Option.none := by
  cases q : H l with
  | none => rfl
  | some o =>
    rw [e l o q] at h
    cases h
theorem Same.seq {K : PySem.W.Frag} {H H' : Hp} {a : Addr} {xs : List V} (e : Same H H') (h : SqL K H a xs) : SqL K H' a xs := by
  rcases h with (h | ⟨o, h⟩) | h
  · exact .inl (.inl (e _ _ h))
  · exact .inl (.inr ⟨o, e _ _ h⟩)
  · exact .inr h
end L2
namespace L2
open PySem PySem.Spec PyProof.Rows
def closL (cells : List (Str × Addr)) : List (Str × NameKind) → List (Str × Addr) → List (Str × Addr)
  | [], acc => acc
  | (n, k) :: r, acc => if (k == NameKind.free) = true then (match cells.lookup n with | some c => closL cells r ((n, c) :: acc) | none => closL cells r acc) else closL cells r acc
theorem closL_run {env : Env} : ∀ (ns : List (Str × NameKind)) (acc : List (Str × Addr)), (∀ y ∈ ns, y.2 = .free → ∃ c, env.cells.lookup y.1 = some c) →
    (forIn ns acc (fun x cs => (match x with | (name, kind) => if (kind == NameKind.free) = true then (do let c ← cellOf env name; pure (ForInStep.yield ((name, c) :: cs))) else pure (ForInStep.yield cs))) : Sem (List (Str × Addr))) = pure (closL env.cells ns acc)
  | [], acc, _ => rfl
  | (n, k) :: r, acc, h => by
    rw [List.forIn_cons]
    by_cases hk : (k == NameKind.free) = true
    · obtain ⟨c, hc⟩ := h (n, k) List.mem_cons_self (by simpa using hk)
      have hc : env.cells.lookup n = some c := hc
      have e := closL_run (env := env) r ((n, c) :: acc) fun y hy => h y (List.mem_cons_of_mem _ hy)
      simp only [closL, hk, if_true, cellOf, hc, pure_bind]
      exact e
    · have e := closL_run (env := env) r acc fun y hy => h y (List.mem_cons_of_mem _ hy)
      have hk : (k == NameKind.free) = false := by simpa using hk
      simp only [closL, hk, Bool.false_eq_true, if_false, pure_bind]
      exact e
theorem closureFor_eq {scope : Scope} {env : Env} (h : ∀ y ∈ scope.names, y.2 = .free → ∃ c, env.cells.lookup y.1 = some c) : closureFor scope env = pure (closL env.cells scope.names []) := by
  have e := closL_run (env := env) scope.names [] h
  unfold closureFor
  simp only [bind_pure]
  first
    | exact e
    | (refine Eq.trans ?_ e; congr 1)
    | (simp only [bind_pure_comp] at e ⊢; exact e)
theorem closL_sub {cells : List (Str × Addr)} : ∀ {ns : List (Str × NameKind)} {acc : List (Str × Addr)} {x : Str} {c : Addr}, (closL cells ns acc).lookup x = some c → acc.lookup x = some c ∨ cells.lookup x = some c
  | [], acc, x, c, h => .inl h
  | (n, k) :: r, acc, x, c, h => by
    unfold closL at h
    split at h
    · split at h
      · rename_i q hq
        rcases closL_sub h with z | z
        · rw [List.lookup_cons] at z
          cases hx : x == n with
          | true =>
            rw [hx] at z
            cases z
            have : x = n := by simpa using hx
            subst this
            exact .inr hq
          | false =>
            rw [hx] at z
            exact .inl z
        · exact .inr z
      · exact closL_sub h
    · exact closL_sub h
theorem closL_has {cells : List (Str × Addr)} : ∀ {ns : List (Str × NameKind)} {acc : List (Str × Addr)} {x : Str} {c : Addr}, cells.lookup x = some c → ((x, NameKind.free) ∈ ns ∨ acc.lookup x = some c) → (closL cells ns acc).lookup x = some c
  | [], acc, x, c, hc, h => h.elim (fun z => nomatch z) fun z => z
  | (n, k) :: r, acc, x, c, hc, h => by
    unfold closL
    split
    · rename_i hk
      split
      · rename_i q hq
        refine closL_has hc ?_
        rcases h with h | h
        · rcases List.mem_cons.mp h with e | h
          · cases e
            rw [hc] at hq
            cases hq
            exact .inr (by simp)
          · exact .inl h
        · by_cases e : x = n
          · subst e
            rw [hc] at hq
            cases hq
            exact .inr (by simp)
          · exact .inr (by rw [List.lookup_cons, (by simpa using e : (x == n) = false)]; exact h)
      · rename_i hq
        refine closL_has hc ?_
        rcases h with h | h
        · rcases List.mem_cons.mp h with e | h
          · cases e
            rw [hc] at hq
            cases hq
          · exact .inl h
        · exact .inr h
    · rename_i hk
      refine closL_has hc ?_
      rcases h with h | h
      · rcases List.mem_cons.mp h with e | h
        · cases e
          exact absurd rfl hk
        · exact .inl h
      · exact .inr h
theorem lookup_relabel_free {env : Env} : ∀ {names : List (Str × NameKind)} {x : Str}, names.lookup x = some .free →
    (names.map fun (n, k) => if (k == NameKind.free && env.scope.kind == .function && env.kindOf n == some .cell) then (n, NameKind.cell) else (n, k)).lookup x = some .cell ∨
    (names.map fun (n, k) => if (k == NameKind.free && env.scope.kind == .function && env.kindOf n == some .cell) then (n, NameKind.cell) else (n, k)).lookup x = some .free
  | [], _, h => by simp at h
  | (n, k) :: r, x, h => by
    have ih := @lookup_relabel_free env r x
    show List.lookup x ((if (k == NameKind.free && env.scope.kind == .function && env.kindOf n == some .cell) = true then (n, NameKind.cell) else (n, k)) :: _) = _ ∨ List.lookup x ((if (k == NameKind.free && env.scope.kind == .function && env.kindOf n == some .cell) = true then (n, NameKind.cell) else (n, k)) :: _) = _
    cases hx : x == n with
    | true =>
      simp only [List.lookup_cons, hx] at h
      cases h
      by_cases hc : (NameKind.free == NameKind.free && env.scope.kind == .function && env.kindOf n == some .cell) = true
      · rw [if_pos hc]; simp [List.lookup_cons, hx]
      · rw [if_neg hc]; simp [List.lookup_cons, hx]
    | false =>
      simp only [List.lookup_cons, hx] at h
      by_cases hc : (k == NameKind.free && env.scope.kind == .function && env.kindOf n == some .cell) = true
      · rw [if_pos hc]; simp only [List.lookup_cons, hx]; exact ih h
      · rw [if_neg hc]; simp only [List.lookup_cons, hx]; exact ih h
theorem of_relabel {env : Env} : ∀ {names : List (Str × NameKind)} {x : Str} {q : NameKind}, (names.map fun (n, k) => if (k == NameKind.free && env.scope.kind == .function && env.kindOf n == some .cell) then (n, NameKind.cell) else (n, k)).lookup x = some q →
    (∀ y ∈ names, y.2 ≠ .cell) → q = .cell ∨ q = .free → (x, NameKind.free) ∈ names
  | [], _, _, h, _, _ => by simp at h
  | (n, k) :: r, x, q, h, hn, hq => by
    have ih := @of_relabel env r x q
    have h : List.lookup x ((if (k == NameKind.free && env.scope.kind == .function && env.kindOf n == some .cell) = true then (n, NameKind.cell) else (n, k)) :: r.map fun (n, k) => if (k == NameKind.free && env.scope.kind == .function && env.kindOf n == some .cell) then (n, NameKind.cell) else (n, k)) = some q := h
    have nk : k ≠ .cell := hn (n, k) List.mem_cons_self
    have hn' : ∀ y ∈ r, y.2 ≠ .cell := fun y hy => hn y (List.mem_cons_of_mem _ hy)
    cases hx : x == n with
    | true =>
      have e : x = n := by simpa using hx
      subst e
      by_cases hc : (k == NameKind.free && env.scope.kind == .function && env.kindOf x == some .cell) = true
      · have : k = .free := by
          simp only [Bool.and_eq_true] at hc
          simpa using hc.1.1
        subst this
        exact List.mem_cons_self
      · rw [if_neg hc] at h
        simp only [List.lookup_cons, hx] at h
        cases h
        rcases hq with z | z
        · exact absurd z nk
        · rw [z]; exact List.mem_cons_self
    | false =>
      by_cases hc : (k == NameKind.free && env.scope.kind == .function && env.kindOf n == some .cell) = true
      · rw [if_pos hc] at h; simp only [List.lookup_cons, hx] at h; exact List.mem_cons_of_mem _ (ih h hn' hq)
      · rw [if_neg hc] at h; simp only [List.lookup_cons, hx] at h; exact List.mem_cons_of_mem _ (ih h hn' hq)
end L2
namespace L2
open PySem PySem.Spec PyProof.Rows
def startC (ix : List (Option Nat)) (σ : St) : St := ix.map fun o => o.bind fun i => (σ[i]?).join
def cxC (X : Cx) (N : List Str) (scope : Scope) (C : Addr) (fp : List Addr) (s : Shared) (H : Hp) : Cx :=
  { X with N := N, s₀ := s, H₀ := H, env := compEnvC scope (closL X.env.cells scope.names []) C X.env, outer := X.stack, stack := X.stack, ex := fp, fn := fun _ => false, xe := fun _ _ => False }
structure CompOk (X : Cx) (scope : Scope) (N : List Str) (ix : List (Option Nat)) : Prop where
  kind : scope.kind = .function
  nocell : ∀ y ∈ scope.names, y.2 ≠ .cell
  len : ix.length = N.length
  names : ∀ y ∈ scope.names, y.2 = .local → scope.names.lookup y.1 = some .local
  fr : ∀ y ∈ scope.names, y.2 = .free → X.env.kindOf y.1 = some .cell ∨ X.env.kindOf y.1 = some .free
  cap : ∀ (j i : Nat), ix[j]? = some (some i) → ∃ x : Str, N[j]? = some x ∧ X.N[i]? = some x ∧ scope.names.lookup x = some .free ∧ (x, NameKind.free) ∈ scope.names
theorem mem_of_lookup {names : List (Str × NameKind)} {x : Str} {k : NameKind} (h : names.lookup x = some k) : (x, k) ∈ names := by
  induction names with
  | nil => simp at h
  | cons p r ih =>
    obtain ⟨n, q⟩ := p
    rw [List.lookup_cons] at h
    cases hx : x == n with
    | true =>
      rw [hx] at h; cases h; have : x = n := by simpa using hx
      subst this; exact List.mem_cons_self
    | false => rw [hx] at h; exact List.mem_cons_of_mem _ (ih h)
section
variable {X : Cx} {pins : List (Addr × Obj)} {σ : St} {H : Hp} {s : Shared} {scope : Scope} {N : List Str} {ix : List (Option Nat)} {fp : List Addr}
theorem CompOk.ok (c : CompOk X scope N ix) (I : Inv X pins σ H s) (hf : ∀ b ∈ fp, FpOk X pins H b) (hlt : ∀ b ∈ fp, b < s.heap.objs.size) {C : Nat} (hC : s.heap.objs.size ≤ C) : (cxC X N scope C fp s H).Ok where
  mod := I.ok.mod
  kind := c.kind
  glob := I.ok.glob
  blt := I.ok.blt
  above := hC
  inj := fun x y d h1 h2 => by
    have h1 : (closL X.env.cells scope.names []).lookup x = some d := h1
    have h2 : (closL X.env.cells scope.names []).lookup y = some d := h2
    rcases closL_sub h1 with z | z
    · simp at z
    · rcases closL_sub h2 with z' | z'
      · simp at z'
      · exact I.ok.inj x y d z z'
  has := fun x h => by
    have hm : (x, NameKind.free) ∈ scope.names := by
      rcases h with h | h
      · exact of_relabel h c.nocell (.inl rfl)
      · exact of_relabel h c.nocell (.inr rfl)
    obtain ⟨d, hd⟩ := I.ok.has x (c.fr _ hm rfl)
    exact ⟨d, closL_has hd (.inl hm)⟩
  cab := fun x d h => by cases h
  hd := I.ok.hd
  frames := I.ok.frames
  stk := .inl rfl
  exf := fun b hb => by
    refine ⟨fun z => ?_, fun x d e z => ?_⟩
    · have z : b = C := z
      have := hlt b hb
      rw [z] at this
      exact absurd (Nat.lt_of_lt_of_le this hC) (Nat.lt_irrefl _)
    · rcases closL_sub e with q | q
      · simp at q
      · exact (hf b hb).2.2.2.2.1 x d q z
  bs := fun b o e => I.bs b o e
  bsz := Nat.le_trans I.ok.bsz I.sz
  noex := fun b o e hb => by
    rcases (hf b hb).2.2.2.1 with z | z
    · exact I.ok.noex b o e z
    · exact absurd (Nat.lt_of_lt_of_le (Heap.lt_size (I.ok.bs b o e).1) z) (Nat.lt_irrefl _)
  exfs := fun b hb z => by
    rcases List.mem_cons.mp (I.stkSub b z) with e | e
    · exact (hf b hb).2.1 e
    · exact (hf b hb).2.2.1 e
  funs := I.stack
  frf := I.stkFree
theorem CompOk.enter (c : CompOk X scope N ix) (I : Inv X pins σ H s) (hf : ∀ b ∈ fp, FpOk X pins H b) (ho : ∀ b ∈ fp, ∃ o, s.heap.get? b = some o ∧ ∀ v, o.data ≠ .cell v) {C D : Nat} {h' : Heap} {t' : Nat} {m : Str → Option Value} {oD : Obj} (hC : C = s.heap.objs.size + 1) (hD : D = s.heap.objs.size)
    (k : ∀ b o, s.heap.get? b = some o → h'.get? b = some o) (hn : h'.Ns C m) (hoD : h'.get? D = some oD) (hdD : ∀ v, oD.data ≠ .cell v) :
    Inv (cxC X N scope C fp s H) (pins ++ [(D, oD)]) (startC ix σ) H { s with heap := h', toks := t' } := by
  have hlt : ∀ b ∈ fp, b < s.heap.objs.size := fun b hb => let ⟨o, e, _⟩ := ho b hb; Heap.lt_size e
  have sub : ∀ x d, (closL X.env.cells scope.names []).lookup x = some d → X.env.cells.lookup x = some d := fun x d e => by
    rcases closL_sub e with z | z
    · simp at z
    · exact z
  refine ⟨c.ok I hf hlt (by omega), rfl, I.bare, Un.kept k, ⟨m, hn, fun j x v e1 e2 e3 => ?_⟩, fun x d e => ?_, I.hok.fresh (by show s.heap.objs.size ≤ C; omega), fun x d e => I.freeC x d (sub x d e), fun p hp => ?_, I.hok.kept k, ?_⟩
  · have e2 : (ix.map fun o => o.bind fun i => (σ[i]?).join)[j]? = some (some v) := e2
    rw [List.getElem?_map] at e2
    cases hj : ix[j]? with
    | none => rw [hj] at e2; cases e2
    | some o =>
      rw [hj] at e2
      cases o with
      | none => cases e2
      | some i =>
        have e2 : some ((σ[i]?).join) = some (some v) := e2
        obtain ⟨x', a1, a2, a3, a4⟩ := c.cap j i hj
        have e1 : N[j]? = some x := e1
        rw [e1] at a1
        cases a1
        have hs : σ[i]? = some (some v) := by
          have z := Option.some.inj e2
          cases q : σ[i]? with
          | none => rw [q] at z; cases z
          | some w => rw [q] at z; have z : w = some v := z; rw [z]
        have kx := c.fr _ a4 rfl
        obtain ⟨m0, hn0, hl0⟩ := I.loc
        obtain ⟨u, r, l⟩ := hl0 i x v a2 hs (kx.elim (fun z => .inr (.inl z)) fun z => .inr (.inr z))
        refine ⟨u, r, .inr ⟨?_, ?_⟩⟩
        · exact lookup_relabel_free (env := X.env) a3
        · rcases l with ⟨z, _⟩ | ⟨_, d, hd, hcell⟩
          · rcases kx with q | q <;> rw [q] at z <;> cases z
          · refine ⟨d, closL_has hd (.inl a4), ?_⟩
            obtain ⟨o, ho, hdt⟩ := hcell
            exact ⟨o, k d o ho, hdt⟩
  · obtain ⟨v, o, ho, hdt⟩ := I.cell x d (sub x d e)
    exact ⟨v, o, k d o ho, hdt⟩
  · have nstk : ∀ b, b ≠ X.env.locals → b ∉ X.fs → b ∉ frs X.stack := fun b h1 h2 z => by
      rcases List.mem_cons.mp (I.stkSub b z) with e | e
      · exact h1 e
      · exact h2 e
    have old : ∀ p ∈ X.pn ++ pins, h'.get? p.1 = some p.2 ∧ H p.1 = none ∧ p.1 ≠ C ∧ p.1 ∉ frs X.stack ∧ ∀ v, p.2.data ≠ .cell v := fun p hp => by
      obtain ⟨a1, a2, a3, a4, a5⟩ := I.pin p hp
      have : @LT.lt Nat _ p.1 s.heap.objs.size := Heap.lt_size a1
      exact ⟨k _ _ a1, a2, Nat.ne_of_lt (by rw [hC]; exact Nat.lt_succ_of_lt this), nstk _ a3 a4, a5⟩
    have hp : p ∈ X.pn ++ (pins ++ [(D, oD)]) := hp
    rcases List.mem_append.mp hp with z | z
    · exact old p (List.mem_append_left _ z)
    · rcases List.mem_append.mp z with z | z
      · exact old p (List.mem_append_right _ z)
      · have e : p = (D, oD) := by simpa using z
        subst e
        have lt : @LT.lt Nat _ X.env.locals s.heap.objs.size := I.lt
        refine ⟨hoD, I.hok.fresh (by show s.heap.objs.size ≤ D; omega), (by show (D : Nat) ≠ C; omega), nstk D (Nat.ne_of_gt (by rw [hD]; exact lt)) (I.nofs (by omega)), hdD⟩
  · show (ix.map _).length = N.length
    rw [List.length_map, c.len]
theorem CompOk.leave (c : CompOk X scope N ix) (I : Inv X pins σ H s) (hf : ∀ b ∈ fp, FpOk X pins H b) {C D : Nat} {σ' : St} {H' : Hp} {s' : Shared} {ys : List V} {its : List Value} {n : Nat} {pl : List (Addr × Obj)} (hC : C = s.heap.objs.size + 1) (hD : D = s.heap.objs.size)
    (I' : Inv (cxC X N scope C fp s H) (pl ++ [(D, { cls := .type "list", data := .seq its.toArray n })]) σ' H' s') (rv : Vals ys its) (hz : ys.length ≤ sizeLine) :
    Inv X pins σ (upd H' D (.lst ys)) s' := by
  have pD := I'.pin (D, _) (List.mem_append_right _ (List.mem_append_right _ List.mem_cons_self))
  have hDn : H' D = none := pD.2.1
  have u : Un (frs X.stack) fp H H' s.heap s'.heap := I'.base
  have hlt : ∀ b o, s.heap.get? b = some o → b ≠ D := fun b o e => Nat.ne_of_lt (by have : @LT.lt Nat _ b s.heap.objs.size := Heap.lt_size e; rw [hD]; exact this)
  refine I.call' (ch := fp) I'.os ?_ ?_ I'.bare fun b hb => ?_
  · refine ⟨u.keep, u.slot, fun b o e n hx => by rw [upd_ne (hlt b o e)]; exact u.free b o e n hx, u.there, fun b xs e => ?_, fun b o w e => ?_, fun b ps e => ?_⟩
    · have e' := u.tups b xs e
      rw [upd_ne (ne_of_none e' hDn)]; exact e'
    · have e' := u.frzs b o w e
      rw [upd_ne (ne_of_none e' hDn)]; exact e'
    · obtain ⟨more, e'⟩ := u.tbls b ps e
      exact ⟨more, by rw [upd_ne (ne_of_none e' hDn)]; exact e'⟩
  · intro b o e
    by_cases hb : b = D
    · subst hb
      rw [upd_same] at e
      cases e
      exact ⟨hz, its, n, rv, pD.1⟩
    · rw [upd_ne hb] at e
      refine (I'.hok b o e).stay (fun _ _ _ q => q) (fun a q => ?_) fun a xs q => ?_
      · rw [upd_ne (ne_of_none q hDn)]; exact q
      · rw [upd_ne (ne_of_none q hDn)]; exact q
  · obtain ⟨f0, f1, f2, f3, f4, f5⟩ := hf b hb
    exact ⟨f3, f1, f4, f5⟩
end
end L2
namespace L2
open PySem PySem.Spec PyProof.Rows
section
variable {prog : Program} {w : World} {A : Around} {R : Result → Shared → Prop} {s : Shared}
theorem compLoop_any {elt target iter : Expr} {ifs : List Expr} {scope : Scope} {pos : Pos} {it acc : Value} {env : Env} (I : Nat → Shared → Prop)
    (turn : ∀ n s, I n s → wpAny (model prog w) A (pyNext it) (fun r s₁ => match r with
      | none => R (.ok .next) s₁
      | some v => wpAny (model prog w) A (letOwnedTupleGo target it v) (fun _ s₁ => wpAny (model prog w) A (assign target env v) (fun _ s₂ =>
          wpAny (model prog w) A (forIn ifs true fun c r => if r = true then do let ok ← isTrue c env (eval c env); pure (ForInStep.yield ok) else pure (ForInStep.yield r)) (fun ok s₃ =>
            if ok = true then wpAny (model prog w) A (eval elt env) (fun x s₄ =>
              wpAny (model prog w) A (call (.builtin "list.append") [acc, x]) (fun _ s₅ => ∃ m, m < n ∧ I m s₅) (fun _ _ => False) s₄) (fun _ _ => False) s₃
            else ∃ m, m < n ∧ I m s₃) (fun _ _ => False) s₂) (fun _ _ => False) s₁) (fun _ _ => False) s₁) (fun _ _ => False) s)
    (n : Nat) (h : I n s) :
    codeAny (model prog w) A (.compLoop (.ListComp elt [⟨target, iter, ifs, 0⟩] scope pos) 0 it acc env) R s := by
  refine codeAny_loop rfl I (fun n s hI => ?_) n h
  show wpAny _ A ((compTurn (.ListComp elt [⟨target, iter, ifs, 0⟩] scope pos) 0 it acc env).onRaise (fun x => do noteFrame x env; theTreesLotGoes x)) _ _ s
  refine wpAny_noted ?_
  rw [compTurn_list]
  refine wpAny_bind (wpAny_standAt (wpAny_bind (wpAny_mono (turn n s hI) (fun r s₁ h₁ => ?_) fun _ _ h' => h'.elim)))
  cases r with
  | none => exact wpAny_pure h₁
  | some v =>
    refine wpAny_bind (wpAny_mono h₁ (fun _ s₁ h₁ => ?_) fun _ _ h' => h'.elim)
    refine wpAny_bind (wpAny_mono h₁ (fun _ s₂ h₂ => wpAny_bind (wpAny_mono h₂ (fun ok s₃ h₃ => ?_) fun _ _ h' => h'.elim)) fun _ _ h' => h'.elim)
    cases ok with
    | false => exact wpAny_pure ⟨rfl, h₃⟩
    | true =>
      refine wpAny_bind (wpAny_bind (wpAny_mono h₃ (fun x s₄ h₄ => wpAny_bind (wpAny_mono h₄ (fun _ s₅ h₅ => ?_) fun _ _ h' => h'.elim)) fun _ _ h' => h'.elim))
      exact wpAny_pure (wpAny_pure ⟨rfl, h₅⟩)
end
def PIf (X : Cx) (cs : List Expr) (t : TT) : Prop :=
  ∀ (pins : List (Addr × Obj)) (s : Shared) (σ : St) (H : Hp) (Q : Bool → Hp → Prop), Inv X pins σ H s → t σ H Q →
    wpAny (model X.prog X.w) X.A (forIn cs true fun c r => if r = true then do let ok ← isTrue c X.env (eval c X.env); pure (ForInStep.yield ok) else pure (ForInStep.yield r)) (TP X pins σ Q) X.xe s
def tTrue : TT := fun _ H Q => Q true H
theorem pif_nil {X : Cx} : PIf X [] tTrue := fun _ _ _ H _ I h => wpAny_tests_nil ⟨H, I, h⟩
theorem pif_one {X : Cx} {c : Expr} {t : TT} (h : PT X c t) : PIf X [c] t := fun pins s σ H Q I q => wpAny_tests_one (h pins s σ H Q I q)
abbrev WC := Nat → Nat → List V → St → Hp → Prop
def rComp (ix : List (Option Nat)) (g : TG) (tc : TT) (te : TE) (σ : St) (Q : VK) (J : It) (H1 : Hp) : Prop :=
  ∃ W : WC, (∃ m, W 0 m [] (startC ix σ) H1) ∧ ∀ i m ys σ' H', W i m ys σ' H' →
    (J.stop i H' ∧ ys.length ≤ sizeLine ∧ ∀ p, H' p = none → Q (.ref p) (upd H' p (.lst ys))) ∨
    (J.go i H' ∧ ys.length < sizeLine ∧ ∀ x H2, J.yld i H' x H2 → g x σ' H2 fun σ2 H3 => tc σ2 H3 fun b H4 =>
      if b = true then te σ2 H4 fun v H5 => ∃ m', m' < m ∧ W (i + 1) m' (ys ++ [v]) σ2 H5 else ∃ m', m' < m ∧ W (i + 1) m' ys σ2 H4)
def tComp (ix : List (Option Nat)) (wi : TI) (g : TG) (tc : TT) (te : TE) : TE := fun σ H Q => wi σ H (rComp ix g tc te σ Q)
section
variable {X : Cx} {scope : Scope} {N : List Str} {ix : List (Option Nat)} {elt tg iter : Expr} {ifs : List Expr} {g : TG} {tc : TT} {te : TE} {pos : Pos}
theorem comp_block {pins : List (Addr × Obj)} {σ : St} {s2 : Shared} {Q : VK} {itv : Value} {RR : Value → Addr → Result → Shared → Prop} {E : Value → Shared → Prop} (c : CompOk X scope N ix) (hc : X.calm = true)
    (hg : ∀ C fp s H, PG (cxC X N scope C fp s H) tg g) (ht : ∀ C fp s H, PIf (cxC X N scope C fp s H) ifs tc) (he : ∀ C fp s H, PE (cxC X N scope C fp s H) elt te)
    (h2 : PIE X pins σ tg (rComp ix g tc te σ Q) itv s2)
    (hR : ∀ (D C : Addr) (s' : Shared) (H' : Hp) (m : Str → Option Value), Inv X pins σ H' s' → s'.heap.Ns C m → H' C = none → X.s₀.heap.objs.size ≤ C → (∀ p ∈ X.pn ++ pins, p.1 ≠ C) → C ≠ X.env.locals → (∀ x c, X.env.cells.lookup x = some c → c ≠ C) → Q (.ref D) H' → RR (.ref D) C (.ok .next) s') :
    wpAny (model X.prog X.w) X.A (newList []) (fun acc s₃ => wpAny (model X.prog X.w) X.A (newFunctionEnv scope X.env.globals (closL X.env.cells scope.names []) [] X.env.qual none .none (some X.env)) (fun cenv s₄ =>
      codeAny (model X.prog X.w) X.A (.compStart (.ListComp elt [⟨tg, iter, ifs, 0⟩] scope pos) 0 itv acc { cenv with scope := relabel scope X.env }) (RR acc cenv.locals) s₄) E s₃) E s2 := by
  obtain ⟨it, fp, tn, J, H2, rfl, I2, T, st2, f2, W, ⟨m0, w0⟩, turn⟩ := h2
  refine wpAny_newObj_type (wpAny_newFunctionEnv c.nocell (by intro y hy; simp at hy) (fun h₁ hns₁ hsb₁ => ?_) c.kind)
  dsimp only at hns₁ hsb₁ ⊢
  generalize hH2 : s2.heap.push { cls := .type "list", dict := none, data := .seq ([] : List Value).toArray } = G2 at hns₁ hsb₁ ⊢
  have hCs : G2.objs.size = s2.heap.objs.size + 1 := by rw [← hH2, Heap.size_push]
  generalize hCe : G2.objs.size = C at hns₁ hsb₁ hCs ⊢
  generalize hDe : s2.heap.objs.size = D at hCs ⊢
  have ltC : ∀ b, @LT.lt Nat _ b D → b ≠ C := fun b hb => Nat.ne_of_lt (by rw [hCs]; exact Nat.lt_succ_of_lt hb)
  have ltS : ∀ b o, s2.heap.get? b = some o → @LT.lt Nat _ b D := fun b o e => by rw [← hDe]; exact Heap.lt_size e
  have hDC : D ≠ C := Nat.ne_of_lt (by rw [hCs]; exact Nat.lt_succ_self _)
  have old : ∀ b o, s2.heap.get? b = some o → h₁.get? b = some o := fun b o e => hsb₁.extBut b o (ltC b (ltS b o e)) (Heap.get?_push_of_some _ (hH2 ▸ Heap.get?_push_of_some _ e))
  have hoD : h₁.get? D = some { cls := .type "list", dict := none, data := .seq ([] : List Value).toArray } := by
    refine hsb₁.extBut _ _ hDC (Heap.get?_push_of_some _ ?_)
    rw [← hH2, ← hDe]
    exact Heap.get?_push_size _ rfl
  have I4 : Inv (cxC X N scope C fp s2 H2) (pins ++ [(D, { cls := .type "list", data := .seq ([] : List Value).toArray })]) (startC ix σ) H2 { s2 with heap := h₁, toks := s2.toks + ([] : List (Str × Value)).length } :=
    c.enter I2 f2 (T.obj _ _ st2) (by rw [hCs, hDe]) hDe.symm old hns₁ hoD fun v z => by cases z
  have st4 : tn 0 h₁ := T.keep _ _ _ st2 fun b _ o e => old b o e
  have pinD : ∀ p ∈ X.pn ++ pins, p.1 ≠ D := fun p hp => Nat.ne_of_lt (ltS _ _ (I2.pin p hp).1)
  have pinC : ∀ p ∈ X.pn ++ pins, p.1 ≠ C := fun p hp => ltC _ (ltS _ _ (I2.pin p hp).1)
  have celD : ∀ x d, X.env.cells.lookup x = some d → @LT.lt Nat _ d D := fun x d e => by
    obtain ⟨v, o, ho, _⟩ := I2.cell x d e
    exact ltS d o ho
  have fpD : ∀ b ∈ fp, @LT.lt Nat _ b D := fun b hb => by
    obtain ⟨o, e, _⟩ := T.obj _ _ st2 b hb
    exact ltS b o e
  have sub : ∀ x d, (closL X.env.cells scope.names []).lookup x = some d → X.env.cells.lookup x = some d := fun x d e => by
    rcases closL_sub e with z | z
    · simp at z
    · exact z
  have stat : ∀ {H' : Hp} {oD : Obj}, (∀ b ∈ fp, H' b = none) → ∀ b ∈ fp, FpOk (cxC X N scope C fp s2 H2) (pins ++ [(D, oD)]) H' b := fun {H' oD} hn b hb => by
    obtain ⟨f0, f1, f2, f3, f4, f5⟩ := f2 b hb
    refine ⟨hn b hb, ltC b (fpD b hb), fun z => ?_, .inl hb, fun x d e => f4 x d (sub x d e), fun p hp => ?_⟩
    · rcases List.mem_cons.mp (I2.stkSub b z) with e | e
      · exact f1 e
      · exact f2 e
    · have hp : p ∈ X.pn ++ (pins ++ [(D, oD)]) := hp
      rw [← List.append_assoc] at hp
      rcases List.mem_append.mp hp with z | z
      · exact f5 p z
      · have e : p = (D, oD) := by simpa using z
        subst e
        exact Nat.ne_of_gt (fpD b hb)
  have loop : ∀ s3 : Shared, s3 = { s2 with heap := h₁, toks := s2.toks + ([] : List (Str × Value)).length } →
      codeAny (model X.prog X.w) X.A (.compLoop (.ListComp elt [⟨tg, iter, ifs, 0⟩] scope pos) 0 (.ref it) (.ref D) (cxC X N scope C fp s2 H2).env) (RR (.ref D) C) s3 := by
    rintro s3 rfl
    refine compLoop_any (fun n s' => ∃ i σ' H' ys its k, Inv (cxC X N scope C fp s2 H2) (pins ++ [(D, { cls := .type "list", data := .seq (List.toArray its) k })]) σ' H' s' ∧ tn i s'.heap ∧ (∀ b ∈ fp, H' b = none) ∧ Vals ys its ∧ W i n ys σ' H') ?_ m0
      ⟨0, _, H2, [], [], _, I4, st4, fun b hb => (f2 b hb).1, .nil, w0⟩
    rintro n s3 ⟨i, σ3, H3, ys, its, k, I3, st3, fr3, rv, w3⟩
    rcases turn i n ys σ3 H3 w3 with ⟨stop, hz, qn⟩ | ⟨go, hz, step⟩
    · refine thn (T.done (cxC X N scope C fp s2 H2) rfl rfl rfl hc i _ s3 σ3 H3 _ I3 (stat fr3) st3 stop) fun r s4 ⟨hr, I4⟩ => ?_
      subst hr
      have hDn : H3 D = none := (I3.pin (D, _) (List.mem_append_right _ (List.mem_append_right _ List.mem_cons_self))).2.1
      obtain ⟨m4, hn4, _⟩ := id I4.loc
      refine hR D C s4 _ m4 (c.leave I2 f2 (by rw [hCs, hDe]) hDe.symm I4 rv hz) hn4 ?_ ?_ pinC ?_ (fun x d e => ltC d (celD x d e)) (qn D hDn)
      · rw [upd_ne hDC.symm]; exact I4.free
      · refine Nat.le_trans I2.sz ?_
        rw [hDe, hCs]; exact Nat.le_succ _
      · refine Nat.ne_of_gt (Nat.lt_of_lt_of_le I2.lt ?_)
        rw [hDe, hCs]; exact Nat.le_succ _
    · refine thn (T.item (cxC X N scope C fp s2 H2) rfl rfl rfl hc i _ s3 σ3 H3 _ I3 (stat fr3) st3 go) fun r s4 ⟨u, hr, h4⟩ => ?_
      subst hr
      refine thn h4 fun _ s5 ⟨x, H5, I5, r5, y5, st5, fr5⟩ => ?_
      have I5' := I5.pinned (stat fr5) (T.obj _ _ st5)
      refine thn (hg C fp s2 H2 _ s5 σ3 H5 x u _ I5' r5 (step x H5 y5)) fun _ s6 ⟨σ6, H6, I6, q6⟩ => ?_
      refine thn (ht C fp s2 H2 _ s6 σ6 H6 _ I6 q6) fun ok s7 ⟨H7, I7, q7⟩ => ?_
      have keep : ∀ {s' : Shared} {σ' : St} {H' : Hp}, Inv (cxC X N scope C fp s2 H2) ((pins ++ [(D, { cls := .type "list", data := .seq its.toArray k })]) ++ pinsAt fp s5.heap) σ' H' s' → tn (i + 1) s'.heap ∧ ∀ b ∈ fp, H' b = none := fun {s' σ' H'} I' => by
        refine ⟨T.keep _ _ _ st5 fun b hb o e => (I'.pin (b, o) (List.mem_append_right _ (List.mem_append_right _ (mem_pinsAt hb e)))).1, fun b hb => ?_⟩
        obtain ⟨o, e, d⟩ := T.obj _ _ st5 b hb
        exact (I'.pin (b, o) (List.mem_append_right _ (List.mem_append_right _ (mem_pinsAt hb e)))).2.1
      cases ok with
      | false =>
        rw [if_neg Bool.false_ne_true]
        rw [if_neg Bool.false_ne_true] at q7
        obtain ⟨m', hm, w7⟩ := q7
        obtain ⟨k1, k2⟩ := keep I7
        exact ⟨m', hm, i + 1, σ6, H7, ys, its, k, I7.unpinned, k1, k2, rv, w7⟩
      | true =>
        rw [if_pos rfl]
        rw [if_pos rfl] at q7
        refine thn (he C fp s2 H2 _ s7 σ6 H7 _ I7 q7) fun y s8 ⟨v, H8, I8, r8, m', hm, w8⟩ => ?_
        obtain ⟨k1, k2⟩ := keep I8
        have pD := I8.pin (D, _) (List.mem_append_right _ (List.mem_append_left _ (List.mem_append_right _ List.mem_cons_self)))
        have I8u := I8.unpinned
        have I8v : Inv (cxC X N scope C fp s2 H2) pins σ6 H8 s8 := I8u.unpinned
        have len := rv.length
        refine wpAny_list_append_plain (items := its.toArray) (hsz := by simp; omega) ⟨k, pD.1⟩ fun h9 hl9 hs9 => ?_
        obtain ⟨k9, e9⟩ := hl9
        have I9 : Inv (cxC X N scope C fp s2 H2) pins σ6 H8 { s8 with heap := h9 } := by
          refine I8v.turned (t' := s8.toks) (it := D) (fun b o hb e => hs9.extBut b o hb e) pD.2.1 hDC (.inr ?_) (fun x d e => Nat.ne_of_lt (celD x d (sub x d e))) fun p hp => ?_
          · show s2.heap.objs.size ≤ D
            rw [hDe]; exact Nat.le_refl _
          · exact pinD p hp
        have e9' : h9.get? D = some { cls := .type "list", data := .seq (its ++ [y]).toArray k9 } := by
          rw [e9]; simp
        refine ⟨m', hm, i + 1, σ6, H8, ys ++ [v], its ++ [y], k9, I9.pins_of fun p hp => ?_, T.keep _ _ _ k1 fun b hb o e => hs9.extBut b o (Nat.ne_of_lt (fpD b hb)) e, k2, rv.append (.cons r8 .nil), w8⟩
        rcases List.mem_append.mp hp with z | z
        · exact I9.pin p (List.mem_append_right _ z)
        · have e : p = (D, { cls := .type "list", data := .seq (its ++ [y]).toArray k9 }) := by simpa using z
          subst e
          exact ⟨e9', pD.2.1, pD.2.2.1, pD.2.2.2.1, fun v z => by cases z⟩
  exact codeAny_compStart_list (loop _ rfl) (T.self _ 0 _ _ _ st4 (loop _ rfl))
variable {wi : TI}
theorem pe_comp (c : CompOk X scope N ix) (hc : X.calm = true) (hi : PI X tg iter wi) (hg : ∀ C fp s H, PG (cxC X N scope C fp s H) tg g) (ht : ∀ C fp s H, PIf (cxC X N scope C fp s H) ifs tc) (he : ∀ C fp s H, PE (cxC X N scope C fp s H) elt te)
    (hs : ∀ x, foldedSetIterable iter X.env x = pure x := by intro _; rfl) : PE X (.ListComp elt [⟨tg, iter, ifs, 0⟩] scope pos) (tComp ix wi g tc te) := by
  intro pins s σ H Q I h
  rw [eval_ListComp]
  have hcl : ∀ y ∈ scope.names, y.2 = NameKind.free → ∃ d, X.env.cells.lookup y.1 = some d := fun y hy e => I.ok.has _ (c.fr y hy e)
  refine wpAny_comprehension_free (use := none) rfl hs (closureFor_eq hcl) c.kind c.names (thn (hi pins s σ H _ I h) fun v s1 h1 => thn h1 fun itv s2 h2 => ?_)
  refine comp_block (RR := fun acc C => compPost (model X.prog X.w) X.A X.xe none (EP X pins σ Q) acc C) c hc hg ht he h2 ?_
  intro D C s' H' m I' hn hC hz hp hL hcells q
  exact ⟨m, hn, fun h' hs' => ⟨.ref D, H', I'.turned (t' := s'.toks) (fun b o hb e => hs'.extBut b o hb e) hC hL (.inr hz) hcells hp, rfl, q⟩⟩
theorem ps_comp {i : Nat} {x : Str} {px spos : Pos} (hN : X.N.Nodup) (hx0 : X.N[i]? = some x) (hx : X.env.scope.names.lookup x = some .local) (c : CompOk X scope N ix) (hc : X.calm = true) (hi : PI X tg iter wi) (hg : ∀ C fp s H, PG (cxC X N scope C fp s H) tg g) (ht : ∀ C fp s H, PIf (cxC X N scope C fp s H) ifs tc) (he : ∀ C fp s H, PE (cxC X N scope C fp s H) elt te)
    (hsw : swapsWith (.ListComp elt [⟨tg, iter, ifs, 0⟩] scope pos) (some (.Name x px)) spos.line X.env = pure true := by rfl)
    (hs : ∀ x, foldedSetIterable iter X.env x = pure x := by intro _; rfl) : PS X (.Assign [.Name x px] (.ListComp elt [⟨tg, iter, ifs, 0⟩] scope pos) spos) (tAsg (tComp ix wi g tc te) (gName i)) := by
  intro pins s σ H D0 I h
  rw [exec_Assign_Name_used _ _ _ _ hsw]
  refine wpAny_bind (wpAny_standAt (wpAny_bind ?_))
  show wpAny _ _ (do let _ ← comprehension (.ListComp elt [⟨tg, iter, ifs, 0⟩] scope pos) scope X.env _ (newList []) false (eval iter X.env) (some (assign (.Name x px) X.env))) _ _ s
  have hcl : ∀ y ∈ scope.names, y.2 = NameKind.free → ∃ d, X.env.cells.lookup y.1 = some d := fun y hy e => I.ok.has _ (c.fr y hy e)
  refine wpAny_bind (wpAny_mono (wpAny_comprehension_free (use := some (assign (.Name x px) X.env)) (Q := fun _ s' => SP X pins D0 .next s') rfl hs (closureFor_eq hcl) c.kind c.names
    (thn (hi pins s σ H _ I h) fun v s1 h1 => thn h1 fun itv s2 h2 => ?_)) (fun _ s' hq => wpAny_pure (wpAny_pure hq)) fun _ _ e => e)
  refine comp_block (RR := fun acc C => compPost (model X.prog X.w) X.A X.xe (some (assign (.Name x px) X.env)) (fun _ s' => SP X pins D0 .next s') acc C) c hc hg ht he h2 ?_
  intro D C s' H' m I' hn hC hz hp hL hcells q
  show wpAny _ _ (assign (.Name x px) X.env (.ref D)) _ _ _
  refine wpAny_assign_Name (store_ok2 (v := .ref D) I' hN hx0 (.inl hx) rfl (fun s'' I'' hsb => ?_) (.inr hx))
  obtain ⟨a, sb, ha⟩ := hsb
  have haC : a ≠ C := by
    rcases ha with e | e
    · rw [e]; exact hL.symm
    · exact hcells x a e
  refine ⟨m, hn.sameBut sb haC.symm, fun h' hs' => ⟨_, H', I''.turned (t' := s''.toks) (fun b o hb e => hs'.extBut b o hb e) hC hL (.inr hz) hcells hp, q⟩⟩
end
end L2
namespace L2
open PySem PySem.Spec PyProof.Rows
mutual
inductive Dat (K : PySem.W.Frag) (H : Hp) (P : Addr → Prop) : V → PyData → Prop
  | non : Dat K H P .non .none
  | bl (b : Bool) : Dat K H P (.bl b) (.bool b)
  | int (i : Int) : Dat K H P (.int i) (.int i)
  | str (x : Str) : Dat K H P (.str x) (.str x)
  | lst {a : Addr} {vs : List V} {ds : List PyData} : SqL K H a vs → P a → DatAll K H P vs ds → Dat K H P (.ref a) (.list ds)
  | tup {a : Addr} {vs : List V} {ds : List PyData} : SqT K H a vs → P a → DatAll K H P vs ds → Dat K H P (.ref a) (.tuple ds)
inductive DatAll (K : PySem.W.Frag) (H : Hp) (P : Addr → Prop) : List V → List PyData → Prop
  | nil : DatAll K H P [] []
  | cons {v : V} {d : PyData} {vs : List V} {ds : List PyData} : Dat K H P v d → DatAll K H P vs ds → DatAll K H P (v :: vs) (d :: ds)
end
def Keep (P : Addr → Prop) (H H' : Hp) : Prop := ∀ b o, P b → H b = some o → H' b = some o
theorem Keep.sqL {P : Addr → Prop} {H H' : Hp} {K : PySem.W.Frag} {a : Addr} {xs : List V} (k : Keep P H H') (p : P a) (h : SqL K H a xs) : SqL K H' a xs := by
  rcases h with (h | ⟨o, h⟩) | h
  · exact .inl (.inl (k _ _ p h))
  · exact .inl (.inr ⟨o, k _ _ p h⟩)
  · exact .inr h
theorem Keep.sqT {P : Addr → Prop} {H H' : Hp} {K : PySem.W.Frag} {a : Addr} {xs : List V} (k : Keep P H H') (p : P a) (h : SqT K H a xs) : SqT K H' a xs := by
  rcases h with (h | ⟨o, h⟩) | h
  · exact .inl (.inl (k _ _ p h))
  · exact .inl (.inr ⟨o, k _ _ p h⟩)
  · exact .inr h
mutual
theorem Dat.keep {K : PySem.W.Frag} {H H' : Hp} {P : Addr → Prop} (k : Keep P H H') : ∀ {v : V} {d : PyData}, Dat K H P v d → Dat K H' P v d
  | _, _, .non => .non
  | _, _, .bl b => .bl b
  | _, _, .int i => .int i
  | _, _, .str x => .str x
  | _, _, .lst h p r => .lst (k.sqL p h) p (r.keep k)
  | _, _, .tup h p r => .tup (k.sqT p h) p (r.keep k)
theorem DatAll.keep {K : PySem.W.Frag} {H H' : Hp} {P : Addr → Prop} (k : Keep P H H') : ∀ {vs : List V} {ds : List PyData}, DatAll K H P vs ds → DatAll K H' P vs ds
  | _, _, .nil => .nil
  | _, _, .cons h r => .cons (h.keep k) (r.keep k)
end
mutual
theorem Dat.imp {K : PySem.W.Frag} {H : Hp} {P P' : Addr → Prop} (k : ∀ a, P a → P' a) : ∀ {v : V} {d : PyData}, Dat K H P v d → Dat K H P' v d
  | _, _, .non => .non
  | _, _, .bl b => .bl b
  | _, _, .int i => .int i
  | _, _, .str x => .str x
  | _, _, .lst h p r => .lst h (k _ p) (r.imp k)
  | _, _, .tup h p r => .tup h (k _ p) (r.imp k)
theorem DatAll.imp {K : PySem.W.Frag} {H : Hp} {P P' : Addr → Prop} (k : ∀ a, P a → P' a) : ∀ {vs : List V} {ds : List PyData}, DatAll K H P vs ds → DatAll K H P' vs ds
  | _, _, .nil => .nil
  | _, _, .cons h r => .cons (h.imp k) (r.imp k)
end
section
variable {X : Cx} {pins : List (Addr × Obj)} {σ : St} {H : Hp} {s : Shared}
mutual
theorem Inv.reads {P : Addr → Prop} (I : Inv X pins σ H s) : ∀ {v : V} {d : PyData} {u : Value}, Dat X.K H P v d → RelV v u → ∃ as, Reads s.heap u d as
  | _, _, u, .non, r => by cases (show u = Value.none from r); exact ⟨_, .none⟩
  | _, _, u, .bl b, r => by cases (show u = Value.bool b from r); exact ⟨_, .bool b⟩
  | _, _, u, .int i, r => by obtain ⟨t, rfl⟩ := (show ∃ t, u = Value.int i t from r); exact ⟨_, .int i t⟩
  | _, _, u, .str x, r => by obtain ⟨t, rfl⟩ := (show ∃ t, u = Value.str x t from r); exact ⟨_, .str x t⟩
  | .ref a, _, u, .lst h p rs, r => by
    cases (show u = Value.ref a from r)
    obtain ⟨its, rv, ⟨o, n, e, c, _, d⟩, _⟩ := I.list h
    obtain ⟨as, q⟩ := Inv.readsAll I rs rv
    exact ⟨_, .list e c d (by simpa using q)⟩
  | .ref a, _, u, .tup h p rs, r => by
    cases (show u = Value.ref a from r)
    obtain ⟨its, rv, ⟨o, e, c, n, d⟩, _⟩ := I.tuple h
    obtain ⟨as, q⟩ := Inv.readsAll I rs rv
    exact ⟨_, .tuple e c d (by simpa using q)⟩
theorem Inv.readsAll {P : Addr → Prop} (I : Inv X pins σ H s) : ∀ {vs : List V} {ds : List PyData} {us : List Value}, DatAll X.K H P vs ds → Vals vs us → ∃ as, ReadsAll s.heap us ds as
  | _, _, _, .nil, r => by cases r; exact ⟨_, .nil⟩
  | _, _, _, .cons h rs, r => by
    cases r with
    | cons r1 r2 =>
      obtain ⟨as, q⟩ := Inv.reads I h r1
      obtain ⟨bs, q'⟩ := Inv.readsAll I rs r2
      exact ⟨_, .cons q q'⟩
end
def rEqD (K : PySem.W.Frag) : R2 := fun x y H Q => ∃ P dx dy, Dat K H P x dx ∧ Dat K H P y dy ∧ dx.canLay0 = true ∧ dy.canLay0 = true ∧ dx.depth ≤ 60 ∧ Q (.bl (PyData.eqv dx dy)) H
def rNeD (K : PySem.W.Frag) : R2 := fun x y H Q => ∃ P dx dy, Dat K H P x dx ∧ Dat K H P y dy ∧ dx.canLay0 = true ∧ dy.canLay0 = true ∧ dx.depth ≤ 60 ∧ Q (.bl (!PyData.eqv dx dy)) H
theorem op_eqD (hu : X.A.units + 64 < cLine) : OpR X (compareOp .Eq) (rEqD X.K) := by
  intro pins s σ H x y v u Q I rx ry h
  obtain ⟨P, dx, dy, hx, hy, lx, ly, dd, q⟩ := h
  obtain ⟨as, qa⟩ := I.reads hx rx
  obtain ⟨bs, qb⟩ := I.reads hy ry
  exact SeqAt.compareEq_reads qa qb lx ly (by omega) ⟨.bl _, H, I, rfl, q⟩
theorem op_neD (hu : X.A.units + 64 < cLine) : OpR X (compareOp .NotEq) (rNeD X.K) := by
  intro pins s σ H x y v u Q I rx ry h
  obtain ⟨P, dx, dy, hx, hy, lx, ly, dd, q⟩ := h
  obtain ⟨as, qa⟩ := I.reads hx rx
  obtain ⟨bs, qb⟩ := I.reads hy ry
  exact SeqAt.compareNe_reads qa qb lx ly (by omega) ⟨.bl _, H, I, rfl, q⟩
def rRange : List V → Hp → VK → Prop := fun xs H Q => (∃ j, xs = [.int j] ∧ ∀ p, H p = none → Q (.ref p) (upd H p (.rng 0 j))) ∨ ∃ i j, xs = [.int i, .int j] ∧ ∀ p, H p = none → Q (.ref p) (upd H p (.rng i j))
theorem call_range : CallR X (.type "range") rRange := by
  intro pins s σ H xs us Q I r h
  rcases h with ⟨j, rfl, q⟩ | ⟨i, j, rfl, q⟩
  · obtain ⟨u, rfl, t, rfl⟩ := vals1 r
    refine call_range_1 ⟨.ref s.heap.objs.size, _, I.laid (o := .rng 0 j) (fun b o e => Heap.get?_push_of_some _ e) (Nat.le_refl _) ⟨_, _, _, Heap.get?_push_size _ rfl⟩, rfl, q _ (I.hok.fresh (Nat.le_refl _))⟩
  · obtain ⟨u, u', rfl, ⟨t, rfl⟩, ⟨t', rfl⟩⟩ := vals2 r
    refine call_range_2 ⟨.ref s.heap.objs.size, _, I.laid (o := .rng i j) (fun b o e => Heap.get?_push_of_some _ e) (Nat.le_refl _) ⟨_, _, _, Heap.get?_push_size _ rfl⟩, rfl, q _ (I.hok.fresh (Nat.le_refl _))⟩
def ivl (lo hi : Int) : List Int := (List.range (hi - lo).toNat).map fun (i : Nat) => lo + (i : Int)
theorem ivl_length (lo hi : Int) : (ivl lo hi).length = (hi - lo).toNat := by simp [ivl]
theorem items_ints {lo : Int} {n : Nat} {acc : Array Value} (h : ItemsOf (fun i v => ∃ t, v = .int (lo + i * 1) t) acc n) : Vals (((List.range n).map fun (i : Nat) => lo + (i : Int)).map V.int) acc.toList := by
  obtain ⟨h1, h2⟩ := h
  have key : ∀ (l : List Value) (k : Nat), (∀ (j : Nat) (v : Value), l[j]? = some v → ∃ t, v = Value.int (lo + ((k + j : Nat) : Int) * 1) t) → Vals ((List.range' k l.length).map fun (i : Nat) => V.int (lo + (i : Int))) l := by
    intro l
    induction l with
    | nil => intro k _; exact .nil
    | cons v r ih =>
      intro k hk
      rw [List.length_cons, List.range'_succ, List.map_cons]
      refine .cons ?_ (ih (k + 1) fun j v hj => ?_)
      · obtain ⟨t, e⟩ := hk 0 v rfl
        refine ⟨t, ?_⟩
        rw [e]; simp
      · obtain ⟨t, e⟩ := hk (j + 1) v (by simpa using hj)
        refine ⟨t, ?_⟩
        rw [e]
        congr 2
        simp
        omega
  have := key acc.toList 0 fun j v hj => by
    have := h2 j v (by simpa using hj)
    simpa using this
  rw [List.map_map]
  rw [List.range_eq_range']
  have e : acc.toList.length = n := by simpa using h1
  rw [e] at this
  exact this
theorem rng_size {i j : Int} : Builtin.Range.rangeSize i j 1 = (((j - i).toNat : Nat) : Int) := by
  rw [rangeSize_one]; split <;> omega
def rListRng : List V → Hp → VK → Prop := fun xs H Q => ∃ p i j, xs = [.ref p] ∧ H p = some (.rng i j) ∧ -1000000 ≤ i ∧ i ≤ 1000000 ∧ -1000000 ≤ j ∧ j ≤ 1000000 ∧ ∀ l, H l = none → Q (.ref l) (upd H l (.lst ((ivl i j).map V.int)))
theorem size_le {i j : Int} (h1 : -1000000 ≤ i) (h2 : i ≤ 1000000) (h3 : -1000000 ≤ j) (h4 : j ≤ 1000000) : (j - i).toNat ≤ 2 ^ 24 := by
  have : (j - i).toNat ≤ 2000000 := by omega
  exact Nat.le_trans this (by decide)
theorem call_list_rng (hc : X.calm = true) : CallR X (.type "list") rListRng := by
  intro pins s σ H xs us Q I r h
  obtain ⟨p, i, j, rfl, hp, h1, h2, h3, h4, q⟩ := h
  obtain ⟨u, rfl, rx⟩ := vals1 r
  cases rx
  obtain ⟨t, t', t'', e⟩ := (show ObjOk X.prog X.w H s.heap p (.rng i j) from I.hok p _ hp)
  refine call_list_range (I.ok.hd hc) e (small_one (by omega) (by omega) (by omega) (by omega)) rng_size (size_le h1 h2 h3 h4) fun h' tk acc' c' k e' it => ?_
  have v := items_ints it
  refine ⟨.ref s.heap.objs.size, _, I.laid (o := .lst ((ivl i j).map V.int)) k (Nat.le_refl _) ⟨?_, acc'.toList, c', v, by simpa using e'⟩, rfl, q _ (I.hok.fresh (Nat.le_refl _))⟩
  rw [List.length_map, ivl_length]
  exact Nat.le_trans (size_le h1 h2 h3 h4) (by decide)
end
end L2
namespace L2
open PySem PySem.Spec PyProof.Rows
section
variable {X : Cx}
def tyOfV (K : PySem.W.Frag) (x : V) (H : Hp) (T : String) : Prop := TyOf K H x (.type T)
def rIsi (K : PySem.W.Frag) : List V → Hp → VK → Prop := fun xs H Q => ∃ x T C b, xs = [x, .ty C] ∧ tyOfV K x H T ∧ PySem.W.kitOne K (.type T) (.type C) = some b ∧ Q (.bl b) H
theorem call_isi : CallR X (.builtin "isinstance") (rIsi X.K) := by
  intro pins s σ H xs us Q I r h
  obtain ⟨x, T, C, b, rfl, ty, e, q⟩ := h
  obtain ⟨u, w', rfl, rx, ry⟩ := vals2 r
  cases (show w' = Value.type C from ry)
  exact isinst_ok I rx ty e fun tk => ⟨.bl b, H, I.tok _, rfl, q⟩
theorem kit_self (K : PySem.W.Frag) (T : String) : PySem.W.kitOne K (.type T) (.type T) = some true := by
  unfold PySem.W.kitOne
  rw [if_pos (beq_self_eq_true _)]
def rAll (K : PySem.W.Frag) : List V → Hp → VK → Prop := fun xs H Q => ∃ (p : Addr) (bs : List Bool), xs = [.ref p] ∧ SqL K H p (bs.map V.bl) ∧ Q (.bl (bs.all id)) H
theorem vals_bools : ∀ {bs : List Bool} {us : List Value}, Vals (bs.map V.bl) us → us = bs.map Value.bool
  | [], us, r => by cases r; rfl
  | b :: r, us, h => by
    cases h with
    | cons h1 h2 =>
      rw [List.map_cons, ← vals_bools h2]
      rw [show _ = Value.bool b from h1]
theorem call_all (hc : X.calm = true) : CallR X (.builtin "all") (rAll X.K) := by
  intro pins s σ H xs us Q I r h
  obtain ⟨p, bs, rfl, hl, q⟩ := h
  obtain ⟨u, rfl, rx⟩ := vals1 r
  cases rx
  obtain ⟨its, rv, pl, hz⟩ := I.list hl
  have e := vals_bools rv
  subst e
  refine call_all_walk (wpAny_pyIter_list pl.isList ?_)
  have lt : p < s.heap.objs.size := by obtain ⟨o, n, e, _⟩ := pl; exact Heap.lt_size e
  refine ⟨s.heap.objs.size, _, _, _, _, _, fun i => bs.getD i true, rfl, Walks.list (A := X.A.in1) (show X.A.in1.handled = none from I.ok.hd hc) s.heap.objs.size p (Nat.ne_of_lt lt) (bs.map Value.bool).toArray, ?_, ?_, ?_⟩
  · refine ⟨⟨_, Heap.get?_push_size _ rfl, rfl, rfl⟩, pl.isList.at fun o e => Heap.get?_push_of_some _ e⟩
  · intro i v s' Q' E' hP hQ'
    have hP : (bs.map Value.bool).toArray[i]? = some v := hP
    have : (bs.map Value.bool)[i]? = some v := by simpa using hP
    rw [List.getElem?_map] at this
    cases hb : bs[i]? with
    | none => rw [hb] at this; cases this
    | some b =>
      rw [hb] at this
      cases this
      have hg : bs.getD i true = b := by rw [List.getD_eq_getElem?_getD, hb]; rfl
      have hQ' : Q' (bs.getD i true) s' := hQ'
      rw [hg] at hQ'
      exact wpAny_truthy_bool hQ'
  · intro h' tk hk
    have e : (List.range (bs.map Value.bool).toArray.size).all (fun i => bs.getD i true) = bs.all id := by
      have : ∀ (l : List Bool), (List.range l.length).all (fun i => l.getD i true) = l.all id := by
        intro l
        induction l with
        | nil => rfl
        | cons b r ih =>
          rw [List.length_cons, List.range_succ_eq_map, List.all_cons, List.all_cons, List.all_map]
          rw [← ih]
          rfl
      simpa using this bs
    rw [e]
    refine ⟨.bl (bs.all id), H, ?_, rfl, q⟩
    refine (I.kept (t' := s.toks) (h' := h') fun b o e => hk b o ?_ (Heap.get?_push_of_some _ e)).tok tk
    intro z
    have z : b = s.heap.objs.size := by simpa using z
    exact absurd (Heap.lt_size e) (by rw [z]; exact Nat.lt_irrefl _)
def tRevL (K : PySem.W.Frag) (te : TE) : TE := fun σ H Q => te σ H fun x H1 => ∃ a xs, x = .ref a ∧ SqL K H1 a xs ∧ ∀ p, H1 p = none → Q (.ref p) (upd H1 p (.lst xs.reverse))
theorem pe_revL {e : Expr} {te : TE} {j : Nat} {pu p1 p2 pos : Pos} (he : PE X e te) : PE X (.Subscript e (.Slice none none (some (.UnaryOp .USub (.Constant (.int 1) j p1) pu)) p2) pos) (tRevL X.K te) := by
  intro pins s σ H Q I h
  refine Subscript_ (thn (he pins s σ H _ I h) fun v s1 ⟨x, H1, I1, r1, a, xs, ex, hx, q⟩ => ?_)
  subst ex
  cases r1
  refine wpAny_Slice (by
    rw [evalPart_none]
    refine wpAny_pure ?_
    refine wpAny_pure ?_
    rw [evalPart_some]
    refine UnaryOp_ (wpAny_Constant_int (neg_int ?_))
    obtain ⟨its, rv, pl, hz⟩ := I1.list hx
    have hlen := rv.length
    have I2 : Inv X pins σ H1 { s1 with toks := s1.toks + 1 + 1 } := I1.tok _
    have I4 : Inv X pins σ H1 { s1 with heap := s1.heap.push { cls := .type "slice", data := .fields #[.none, .none, .int (-1) (s1.toks + 1)] }, toks := s1.toks + 1 + 1 } := I2.kept fun b ob q => Heap.get?_push_of_some _ q
    have hl4 := pl.isList.at (h' := s1.heap.push { cls := .type "slice", data := .fields #[.none, .none, .int (-1) (s1.toks + 1)] }) fun o e => Heap.get?_push_of_some _ e
    show wpAny (model X.prog X.w) X.A (subscriptTail e (.Slice none none (some (.UnaryOp .USub (.Constant (.int 1) j p1) pu)) p2) (.ref a) (.ref s1.heap.objs.size)) (EP X pins σ Q) X.xe { s1 with heap := s1.heap.push { cls := .type "slice", data := .fields #[.none, .none, .int (-1) (s1.toks + 1)] }, toks := s1.toks + 1 + 1 }
    refine tail_any (ops := [.ref a, .ref s1.heap.objs.size]) hl4.typeIs slot_list_getitem.lookup ?_ (by with_unfolding_all rfl)
    refine wpAny_getItem_list_slice hl4 (Heap.IsSliceOf.new ..) .none .none (.int (-1) _) (by decide) ?_ (by rw [List.size_toArray] <;> omega)
    rw [PySem.W.krv_pick]
    refine ⟨.ref _, _, I4.laid (t' := _) (o := .lst xs.reverse) (fun b ob q => Heap.get?_push_of_some _ q) (Nat.le_refl _) ?_, rfl, q _ (I4.hok.fresh (Nat.le_refl _))⟩
    have e5 : its.toArray.toList = its := by simp
    refine ⟨by rw [List.length_reverse]; exact hz, its.reverse, 0, rv.reverse, ?_⟩
    rw [e5]
    exact Heap.get?_push_size _ rfl)
end
end L2
namespace L2
open PySem PySem.Spec PyProof.Rows
structure FnAt (P : Program) (w : World) (K : PySem.W.Frag) (mg : Str → Option Value) (base : Heap) (x : Str) (k : Nat) (ps : List Str) (sp : Sp) : Prop where
  ex : ∃ (f : Addr) (fd : FuncData), FnOk P w K mg base CX0 k f fd ps sp ∧ mg x = some (.ref f) ∧ PySem.W.keepIn K (.ref f) = true ∧ Binds K fd ps []
section
variable {X : Cx} {x : Str} {k : Nat} {ps : List Str} {sp : Sp} {e : Expr} {es : List Expr} {t : TA} {p pos : Pos}
theorem pe_callF (F : FnAt X.prog X.w X.K X.mg X.base x k ps sp) (hr : Room k X.A) (hg : Gl X x) (ha : PA X (e :: es) t) (hdb : (x == ("__debug__" : Str)) = false := by decide +kernel) (he : starEach (e :: es) X.env = (false, eval e X.env) :: starEach es X.env := by rfl) (hpl : (backTo pos (starEach es X.env)).any (·.1) = false := by rfl) :
    PE X (.Call (.Name x p) (e :: es) [] pos) (tCall sp [] E0 t) := by
  obtain ⟨f, fd, F, hm, hk, hb⟩ := F.ex
  exact pe_call F hr hg hm hk hb .nil pass0 ha hdb he hpl
def CDivL (i j : Int) : Prop := 0 < j ∧ j < 2 ^ 200
theorem log2_lt {j : Int} (h : 0 < j) (h2 : j < 2 ^ 200) : j.natAbs.log2 < 9000 := by
  have h3 : j.natAbs < 2 ^ 200 := by
    have e : ((j.natAbs : Nat) : Int) = j := Int.natAbs_of_nonneg (Int.le_of_lt h)
    have : ((j.natAbs : Nat) : Int) < ((2 ^ 200 : Nat) : Int) := by rw [e]; simpa using h2
    exact Int.ofNat_lt.mp this
  have h0 : j.natAbs ≠ 0 := by omega
  have := (Nat.log2_lt h0).mpr h3
  omega
theorem op_fdivL : OpR X (binaryOp .FloorDiv) (rI CDivL fun i j => .int (i / j)) := opI fun i j _ _ _ _ _ hc q => by
  refine floordiv_int (by have := hc.1; omega) ?_ (.inl (PyProof.noPylong_of_log2 (log2_lt hc.1 hc.2)))
  rw [Int.fdiv_eq_ediv_of_nonneg _ (Int.le_of_lt hc.1)]
  exact q
end
def capB (XN N : List Str) (ix : List (Option Nat)) (names : List (Str × NameKind)) : Bool :=
  (List.range ix.length).all fun j => match ix[j]? with
    | some (some i) => match N[j]? with
      | some x => XN[i]? == some x && names.lookup x == some .free
      | none => false
    | _ => true
theorem cap_ok {XN N : List Str} {ix : List (Option Nat)} {names : List (Str × NameKind)} (h : capB XN N ix names = true) :
    ∀ (j i : Nat), ix[j]? = some (some i) → ∃ x : Str, N[j]? = some x ∧ XN[i]? = some x ∧ names.lookup x = some .free ∧ (x, NameKind.free) ∈ names := by
  intro j i e
  have hj : j < ix.length := (List.getElem?_eq_some_iff.mp e).1
  have q := List.all_eq_true.mp h j (List.mem_range.mpr hj)
  rw [e] at q
  dsimp only at q
  cases hn : N[j]? with
  | none => rw [hn] at q; cases q
  | some x =>
    rw [hn] at q
    dsimp only at q
    obtain ⟨q1, q2⟩ := Bool.and_eq_true_iff.mp q
    have q1 : XN[i]? = some x := by simpa using q1
    have q2 : names.lookup x = some NameKind.free := by
      cases hl : names.lookup x with
      | none => rw [hl] at q2; cases q2
      | some k => rw [hl] at q2; cases k <;> first | rfl | cases q2
    exact ⟨x, rfl, q1, q2, mem_of_lookup q2⟩
theorem Same.new {p : Addr} {H : Hp} {o : HO} (h : H p = none) : Same H (upd H p o) := fun c o e => by rw [upd_ne (ne_of_none e h)]; exact e
end L2
namespace L2
open PySem PySem.Spec PyProof.Rows
def compB (XS : List (Str × NameKind)) (XN : List Str) (names : List (Str × NameKind)) (N : List Str) (ix : List (Option Nat)) : Bool :=
  names.all (fun y => match y.2 with
    | .cell => false
    | .local => (match names.lookup y.1 with | some .local => true | _ => false)
    | .free => (match XS.lookup y.1 with | some .cell => true | some .free => true | _ => false)
    | _ => true) && decide (ix.length = N.length) && capB XN N ix names
theorem comp_ok {X : Cx} {scope : Scope} {N : List Str} {ix : List (Option Nat)} (hk : scope.kind = .function) (h : compB X.env.scope.names X.N scope.names N ix = true) : CompOk X scope N ix := by
  unfold compB at h
  obtain ⟨h, h3⟩ := Bool.and_eq_true_iff.mp h
  obtain ⟨h1, h2⟩ := Bool.and_eq_true_iff.mp h
  have all : ∀ y ∈ scope.names, _ := fun y hy => List.all_eq_true.mp h1 y hy
  refine ⟨hk, fun y hy e => ?_, of_decide_eq_true h2, fun y hy e => ?_, fun y hy e => ?_, cap_ok h3⟩
  · have q := all y hy
    rw [e] at q
    cases q
  · have q := all y hy
    rw [e] at q
    dsimp only at q
    cases hl : scope.names.lookup y.1 with
    | none => rw [hl] at q; cases q
    | some k => rw [hl] at q; cases k <;> first | rfl | cases q
  · have q := all y hy
    rw [e] at q
    dsimp only at q
    show X.env.scope.names.lookup y.1 = _ ∨ X.env.scope.names.lookup y.1 = _
    cases hl : X.env.scope.names.lookup y.1 with
    | none => rw [hl] at q; cases q
    | some k => rw [hl] at q; cases k <;> first | exact .inl rfl | exact .inr rfl | cases q
section
variable {X : Cx} {K : PySem.W.Frag}
theorem call_isiK (h : X.K = K) : CallR X (.builtin "isinstance") (rIsi K) := by subst h; exact call_isi
theorem ix_listK (h : X.K = K) : IxR X (rIxL K) := by subst h; exact ix_list
theorem call_lenK (h : X.K = K) : CallR X (.builtin "len") (fun xs H Q => ∃ p ys, xs = [.ref p] ∧ (SqL K H p ys ∨ SqT K H p ys) ∧ Q (.int ys.length) H) := by subst h; exact call_len_seq
theorem call_allK (h : X.K = K) (hc : X.calm = true) : CallR X (.builtin "all") (rAll K) := by subst h; exact call_all hc
theorem op_inK (h : X.K = K) : OpR X (compareOp .In) (rIn K false) := by subst h; exact op_in_seq
theorem op_notInK (h : X.K = K) : OpR X (compareOp .NotIn) (rIn K true) := by subst h; exact op_notIn_seq
theorem pi_listK {tg l : Expr} {tl : TE} (h : X.K = K) (hl : PE X l tl) : PI X tg l (iList K tl) := by subst h; exact pi_list hl
theorem pi_tupK {tg l : Expr} {tl : TE} (h : X.K = K) (hl : PE X l tl) : PI X tg l (iTup K tl) := by subst h; exact pi_tup hl
theorem pg_tupK {es : List Expr} {k : Nat} {t : TGs} {n : Nat} {pos : Pos} (hk : X.K = K) (hc : X.calm = true) (h : PGs X es t)
    (hn : (assignEach es X.env).length = n := by rfl) (hst : (assignEach es X.env).findIdx? (·.1) = none := by rfl) : PG X (.Tuple es k pos) (gTup K n t) := by subst hk; exact pg_tup hc h hn hst
end
end L2
namespace Sw
open PySem L2
inductive Exs (H : Hp) : List V → List (Int × Int) → Prop
  | nil : Exs H [] []
  | cons {t : Addr} {a b : Int} {vs : List V} {r : List (Int × Int)} : H t = some (.tup [.int a, .int b]) → Exs H vs r → Exs H (.ref t :: vs) ((a, b) :: r)
theorem Exs.length {H : Hp} : ∀ {vs : List V} {r : List (Int × Int)}, Exs H vs r → vs.length = r.length
  | _, _, .nil => rfl
  | _, _, .cons _ x => by rw [List.length_cons, List.length_cons, x.length]
theorem Exs.append {H : Hp} : ∀ {vs ws : List V} {r q : List (Int × Int)}, Exs H vs r → Exs H ws q → Exs H (vs ++ ws) (r ++ q)
  | _, _, _, _, .nil, y => y
  | _, _, _, _, .cons h x, y => .cons h (x.append y)
theorem ints_dat {K : PySem.W.Frag} {H : Hp} {P : Addr → Prop} : ∀ (ns : List Int), DatAll K H P (ns.map V.int) (ns.map PyData.int)
  | [] => .nil
  | n :: r => .cons (.int n) (ints_dat r)
theorem lay_ints : ∀ (ns : List Int), PyData.canLayAll0 (ns.map PyData.int) = true
  | [] => rfl
  | n :: r => by rw [List.map_cons]; unfold PyData.canLayAll0; rw [lay_ints r]; rfl
theorem depth_ints : ∀ (ns : List Int), PyData.depthAll (ns.map PyData.int) = 0
  | [] => by simp [PyData.depthAll]
  | n :: r => by rw [List.map_cons]; unfold PyData.depthAll; rw [depth_ints r]; simp [PyData.depth]
theorem eqv_ints : ∀ (ns ms : List Int), PyData.eqvAll (ns.map PyData.int) (ms.map PyData.int) = decide (ns = ms)
  | [], [] => by simp [PyData.eqvAll]
  | [], m :: r => by simp [PyData.eqvAll]
  | n :: r, [] => by simp [PyData.eqvAll]
  | n :: r, m :: q => by
    rw [List.map_cons, List.map_cons]; unfold PyData.eqvAll; rw [eqv_ints r q]
    simp [PyData.eqv]
    by_cases h1 : n = m <;> by_cases h2 : r = q <;> simp [h1, h2]
def swp (x : Int) (e : Int × Int) : Int := if x = e.1 then e.2 else if x = e.2 then e.1 else x
def go (row : List (Int × Int)) (x : Int) : Int := row.foldl swp x
def Good (n : Int) (row : List (Int × Int)) : Prop := ∀ e ∈ row, 1 ≤ e.1 ∧ e.1 < e.2 ∧ e.2 ≤ n
theorem Good.append {n : Int} {r q : List (Int × Int)} (a : Good n r) (b : Good n q) : Good n (r ++ q) := fun e h => (List.mem_append.mp h).elim (a e) (b e)
theorem mem_ivl {lo hi x : Int} : x ∈ ivl lo hi ↔ lo ≤ x ∧ x < hi := by
  unfold ivl
  rw [List.mem_map]
  constructor
  · rintro ⟨i, h, rfl⟩
    have := List.mem_range.mp h
    omega
  · intro h
    exact ⟨(x - lo).toNat, List.mem_range.mpr (by omega), by omega⟩
theorem get_ivl {lo hi : Int} {i : Nat} (h : i < (hi - lo).toNat) : (ivl lo hi)[i]? = some (lo + i) := by
  unfold ivl
  rw [List.getElem?_map, List.getElem?_range h]
  rfl
end Sw
namespace L2
open PySem PySem.Spec PyProof.Rows
section
variable {X : Cx} {pins : List (Addr × Obj)} {σ : St} {H : Hp} {s : Shared} {h' : Heap}
theorem Inv.turnedL {t' : Nat} {fp : List Addr} (I : Inv X pins σ H s) (k : ∀ b o, b ∉ fp → s.heap.get? b = some o → h'.get? b = some o) (hf : ∀ b ∈ fp, FpOk X pins H b) : Inv X pins σ H { s with heap := h', toks := t' } := by
  have nit : ∀ b u, H b = some u → b ∉ fp := fun b u e z => by rw [(hf b z).1] at e; cases e
  refine I.step (g' := s.gens) (d' := s.drawn) (ch := fp) (fun b hb => ?_) (fun b o _ _ hc e _ => k b o hc e) (fun b o _ _ hc e _ => ⟨o.slots, k b o hc e⟩) (fun _ _ _ _ n => n)
    (fun b o hc e => ⟨o, k b o hc e⟩) (fun _ _ e => e) (fun _ _ _ e => e) (fun b ps e => ⟨#[], by rw [e]; simp⟩) (fun m hm => ?_) (fun b u e => ?_) I.bare
  · obtain ⟨f0, f1, f2, f3, f4, f5⟩ := hf b hb
    exact ⟨f3, f1, f4, f5⟩
  · obtain ⟨o, es, ep, ho, r⟩ := hm
    exact ⟨o, es, ep, k _ o (fun z => (hf _ z).2.1 rfl) ho, r⟩
  · refine (I.hok b u e).stay (fun c v hc q => k c v ?_ q) (fun _ q => q) fun _ _ q => q
    rcases hc with z | z
    · rw [z]; exact nit b u e
    · exact nit c _ z
theorem Inv.track {T : Addr} {o : HO} (I : Inv X pins σ H s) (hf : FpOk X pins H T) (new : ObjOk X.prog X.w (upd H T o) s.heap T o) : Inv X pins σ (upd H T o) s := by
  obtain ⟨f0, f1, f2, f3, f4, f5⟩ := hf
  have := I.step (h' := s.heap) (H' := upd H T o) (g' := s.gens) (d' := s.drawn) (t' := s.toks) (ch := [T]) (fun b hb => by
    have e : b = T := by simpa using hb
    subst e
    exact ⟨f3, f1, f4, f5⟩) (fun b o _ _ _ e _ => e) (fun b o _ _ _ e _ => ⟨o.slots, e⟩) (fun b o hc _ n => by rw [upd_ne (fun z => hc (by simp [z]))]; exact n)
    (fun b o _ e => ⟨o, e⟩) (fun b xs e => by rw [upd_ne (ne_of_none e f0)]; exact e) (fun b o u e => by rw [upd_ne (ne_of_none e f0)]; exact e) (fun b ps e => ⟨#[], by rw [upd_ne (ne_of_none e f0), e]; simp⟩) (fun m hm => hm) (fun b u e => ?_) I.bare
  · exact this
  · by_cases hb : b = T
    · subst hb
      rw [upd_same] at e
      cases e
      exact new
    · rw [upd_ne hb] at e
      refine (I.hok b u e).stay (fun _ _ _ q => q) (fun c q => ?_) fun c xs q => ?_
      · rw [upd_ne (ne_of_none q f0)]; exact q
      · rw [upd_ne (ne_of_none q f0)]; exact q
end
end L2
namespace L2
open PySem PySem.Spec PyProof.Rows
theorem comp_by {ix : List (Option Nat)} {g : TG} {tc : TT} {te : TE} {σ : St} {Q : VK} {J : It} {H : Hp} {n : Nat} (Pv : Nat → List V → St → Hp → Prop) (hn : n ≤ 1000000) (h0 : Pv 0 [] (startC ix σ) H)
    (hgo : ∀ i ys σ H, i < n → Pv i ys σ H → J.go i H) (hst : ∀ ys σ H, Pv n ys σ H → J.stop n H) (hlen : ∀ i ys σ H, Pv i ys σ H → ys.length ≤ i)
    (hs : ∀ i ys σ H x H2 (R : St → List V → Hp → Prop), i < n → Pv i ys σ H → J.yld i H x H2 → (∀ σ2 ys2 H5, Pv (i + 1) ys2 σ2 H5 → R σ2 ys2 H5) →
      g x σ H2 fun σ2 H3 => tc σ2 H3 fun b H4 => if b = true then te σ2 H4 fun v H5 => R σ2 (ys ++ [v]) H5 else R σ2 ys H4)
    (hd : ∀ ys σ' H' p, Pv n ys σ' H' → H' p = none → Q (.ref p) (upd H' p (.lst ys))) : rComp ix g tc te σ Q J H := by
  have big : (1000000 : Nat) < sizeLine := by decide
  refine ⟨fun i m ys σ' H' => m = n - i ∧ i ≤ n ∧ Pv i ys σ' H', ⟨n, by simp, Nat.zero_le _, h0⟩, ?_⟩
  rintro i m ys σ' H' ⟨rfl, hi, p⟩
  have hl := hlen i ys σ' H' p
  by_cases hlt : i < n
  · refine .inr ⟨hgo i ys σ' H' hlt p, by omega, fun x H2 y => ?_⟩
    exact hs i ys σ' H' x H2 (fun σ2 ys2 H5 => ∃ m', m' < n - i ∧ (m' = n - (i + 1) ∧ i + 1 ≤ n ∧ Pv (i + 1) ys2 σ2 H5)) hlt p y fun σ2 ys2 H5 q => ⟨n - (i + 1), by omega, rfl, hlt, q⟩
  · have e : i = n := by omega
    subst e
    exact .inl ⟨hst ys σ' H' p, by omega, fun q hq => hd ys σ' H' q p hq⟩
theorem compL {K : PySem.W.Frag} {ix : List (Option Nat)} {te : TE} {σ : St} {Q : VK} {H : Hp} {a : Addr} {xs : List V} {k : Nat} (Pv : Nat → List V → St → Hp → Prop) (hn : xs.length ≤ 1000000) (h0 : Pv 0 [] (startC ix σ) H)
    (hl : ∀ i ys σ H, i ≤ xs.length → Pv i ys σ H → SqL K H a xs) (hlen : ∀ i ys σ H, Pv i ys σ H → ys.length ≤ i)
    (hs : ∀ i ys σ H x (R : St → List V → Hp → Prop), xs[i]? = some x → Pv i ys σ H → (∀ σ2 ys2 H5, Pv (i + 1) ys2 σ2 H5 → R σ2 ys2 H5) → te (σ.set k (some x)) H fun v H5 => R (σ.set k (some x)) (ys ++ [v]) H5)
    (hd : ∀ ys σ' H' p, Pv xs.length ys σ' H' → H' p = none → Q (.ref p) (upd H' p (.lst ys))) : rComp ix (gName k) tTrue te σ Q (Itl K a) H := by
  refine comp_by Pv hn h0 (fun i ys σ H hi p => ⟨xs, xs[i], hl i ys σ H (Nat.le_of_lt hi) p, by simp [hi]⟩) (fun ys σ H p => ⟨xs, hl _ ys σ H (Nat.le_refl _) p, Nat.le_refl _⟩) hlen (fun i ys σ H x H2 R hi p y r => ?_) hd
  obtain ⟨rfl, y⟩ := y
  unfold gName tTrue
  simp only [if_true]
  exact hs i ys σ _ x R (y xs (hl i ys σ _ (Nat.le_of_lt hi) p)) p r
theorem compR {ix : List (Option Nat)} {te : TE} {σ : St} {Q : VK} {H : Hp} {lo : Int} {n : Nat} {k : Nat} (Pv : Nat → List V → St → Hp → Prop) (hn : n ≤ 1000000) (h0 : Pv 0 [] (startC ix σ) H) (hlen : ∀ i ys σ H, Pv i ys σ H → ys.length ≤ i)
    (hs : ∀ i ys σ H (R : St → List V → Hp → Prop), i < n → Pv i ys σ H → (∀ σ2 ys2 H5, Pv (i + 1) ys2 σ2 H5 → R σ2 ys2 H5) → te (σ.set k (some (.int (lo + i)))) H fun v H5 => R (σ.set k (some (.int (lo + i)))) (ys ++ [v]) H5)
    (hd : ∀ ys σ' H' p, Pv n ys σ' H' → H' p = none → Q (.ref p) (upd H' p (.lst ys))) : rComp ix (gName k) tTrue te σ Q (Itr lo n) H := by
  refine comp_by Pv hn h0 (fun i ys σ H hi p => hi) (fun ys σ H p => Nat.le_refl _) hlen (fun i ys σ H x H2 R hi p y r => ?_) hd
  obtain ⟨rfl, rfl⟩ := y
  unfold gName tTrue
  simp only [if_true]
  exact hs i ys σ _ R hi p r
theorem compLif {K : PySem.W.Frag} {ix : List (Option Nat)} {tc : TT} {te : TE} {σ : St} {Q : VK} {H : Hp} {a : Addr} {xs : List V} {k : Nat} (Pv : Nat → List V → St → Hp → Prop) (hn : xs.length ≤ 1000000) (h0 : Pv 0 [] (startC ix σ) H)
    (hl : ∀ i ys σ H, i ≤ xs.length → Pv i ys σ H → SqL K H a xs) (hlen : ∀ i ys σ H, Pv i ys σ H → ys.length ≤ i)
    (hs : ∀ i ys σ H x (R : St → List V → Hp → Prop), xs[i]? = some x → Pv i ys σ H → (∀ σ2 ys2 H5, Pv (i + 1) ys2 σ2 H5 → R σ2 ys2 H5) →
      tc (σ.set k (some x)) H fun b H4 => if b = true then te (σ.set k (some x)) H4 fun v H5 => R (σ.set k (some x)) (ys ++ [v]) H5 else R (σ.set k (some x)) ys H4)
    (hd : ∀ ys σ' H' p, Pv xs.length ys σ' H' → H' p = none → Q (.ref p) (upd H' p (.lst ys))) : rComp ix (gName k) tc te σ Q (Itl K a) H := by
  refine comp_by Pv hn h0 (fun i ys σ H hi p => ⟨xs, xs[i], hl i ys σ H (Nat.le_of_lt hi) p, by simp [hi]⟩) (fun ys σ H p => ⟨xs, hl _ ys σ H (Nat.le_refl _) p, Nat.le_refl _⟩) hlen (fun i ys σ H x H2 R hi p y r => ?_) hd
  obtain ⟨rfl, y⟩ := y
  unfold gName
  exact hs i ys σ _ x R (y xs (hl i ys σ _ (Nat.le_of_lt hi) p)) p r
section
variable {X : Cx} {K : PySem.W.Frag} {o e : Expr} {es : List Expr} {to : TE} {t : TA} {name : Str} {apos cpos : Pos} {T id : String} {r : V → List V → Hp → VK → Prop}
theorem pe_bmK (h : X.K = K) (pa : PlainAttrs T) (slot : Slot T name id) (hty : typeOf (.builtin id) = pure (.type "method_descriptor")) (hm : MtR X id r) (ho : PE X o to) (ha : PA X (e :: es) t)
    (hbase : attributeBase o name X.env (eval o X.env) = eval o X.env := by rfl)
    (hfew : ((backTo cpos (starEach (e :: es) X.env)).all (fun x => !x.1) && (backToKw cpos (keywordEach [] X.env)).all (fun x => x.1.isSome)
      && decide ((e :: es).length + ([] : List Keyword).length + (if ([] : List Keyword).isEmpty then 0 else 1) < 30)) = true := by rfl)
    (hline : (apos.endLine == cpos.line) = true := by rfl) (hs : starEach (e :: es) X.env = (false, eval e X.env) :: starEach es X.env := by rfl) (hplain : (backTo cpos (starEach es X.env)).any (·.1) = false := by rfl) :
    PE X (.Call (.Attribute o name apos) (e :: es) [] cpos) (tBM K T r to t) := by
  subst h; exact pe_bm pa slot hty hm ho ha hbase hfew hline hs hplain
theorem sl_listK (h : X.K = K) : SlR X (rSlL K) := by subst h; exact sl_list
end
end L2
namespace Sw
open PySem L2
theorem ivl_nodup (a b : Int) : (ivl a b).Nodup := by
  unfold ivl
  refine List.Pairwise.map _ ?_ (List.nodup_range (n := (b - a).toNat))
  intro x y h z
  apply h
  omega
def Ord (n : Int) (xs : List Int) : Prop := xs.Perm (ivl 1 (n + 1))
theorem Ord.length {n : Int} {xs : List Int} (o : Ord n xs) : xs.length = n.toNat := by
  rw [List.Perm.length_eq o, ivl_length]; congr 1; omega
theorem Ord.mem {n : Int} {xs : List Int} (o : Ord n xs) {x : Int} : x ∈ xs ↔ 1 ≤ x ∧ x ≤ n := by
  rw [List.Perm.mem_iff o, mem_ivl]; omega
theorem Ord.nodup {n : Int} {xs : List Int} (o : Ord n xs) : xs.Nodup := (List.Perm.nodup_iff o).mpr (ivl_nodup _ _)
def nxt (xs : List Int) (x : Int) : Int := xs.getD ((xs.idxOf x + 1) % xs.length) 0
theorem ord_plain (n : Int) : Ord n (ivl 1 (n + 1)) := List.Perm.refl _
end Sw
namespace L2
open PySem PySem.Spec PyProof.Rows
section
variable {X : Cx} {K : PySem.W.Frag}
theorem op_isB : OpR X (compareOp .Is) (fun x y H Q => ∃ a b, x = .bl a ∧ y = .bl b ∧ Q (.bl (a == b)) H) := by
  intro pins s σ H x y v u Q I rx ry h
  obtain ⟨a, b, rfl, rfl, q⟩ := h
  cases rx; cases ry
  exact is_bool ⟨.bl (a == b), H, I, rfl, q⟩
def tChain3 (r r' r'' : R2) (ta tb tc td : TE) : TE := fun σ H Q => ta σ H fun x H1 => tb σ H1 fun y H2 => r x y H2 fun z H3 => ∃ k, z = .bl k ∧
  (if k = true then tc σ H3 fun w' H4 => r' y w' H4 fun z' H5 => ∃ k', z' = .bl k' ∧ (if k' = true then td σ H5 fun w2 H6 => r'' w' w2 H6 Q else Q (.bl false) H5) else Q (.bl false) H3)
end
end L2
namespace L2
open PySem PySem.Spec PyProof.Rows
section
variable {X : Cx} {K : PySem.W.Frag}
theorem ints_are : ∀ {ns : List Int} {us : List Value}, Vals (ns.map V.int) us → IntsAre us ns
  | [], us, r => by cases r; exact .nil
  | n :: ns, us, r => by
    cases r with
    | cons r1 r2 =>
      obtain ⟨t, rfl⟩ := r1
      exact .cons n t (ints_are r2)
theorem vals_are : ∀ {us : List Value} {ns : List Int}, IntsAre us ns → Vals (ns.map V.int) us
  | _, _, .nil => .nil
  | _, _, .cons n t r => .cons ⟨t, rfl⟩ (vals_are r)
def rSort (K : PySem.W.Frag) : List V → Hp → VK → Prop := fun xs H Q => ∃ (p : Addr) (ns : List Int), xs = [.ref p] ∧ SqL K H p (ns.map V.int) ∧ ns.length < 64 ∧ ∀ (l : Addr) (ns' : List Int), H l = none → ns'.Perm ns → ns'.Pairwise (· ≤ ·) → Q (.ref l) (upd H l (.lst (ns'.map V.int)))
theorem call_sorted (hK : X.K = K) : CallR X (.builtin "sorted") (rSort K) := by
  subst hK
  intro pins s σ H xs us Q I r h
  obtain ⟨p, ns, rfl, hl, hz, q⟩ := h
  obtain ⟨u, rfl, rx⟩ := vals1 r
  cases rx
  obtain ⟨its, rv, pl, _⟩ := I.list hl
  have len := rv.length
  rw [List.length_map] at len
  refine sorted_ints pl.isList (ints_are rv) (by omega) fun out ns' ia pm pw => ?_
  obtain ⟨e, he⟩ := sortedAll_at s.heap its out
  have lp := pm.length_eq
  have big : (64 : Nat) ≤ sizeLine := by decide
  refine ⟨.ref (s.heap.objs.size + 1), _, I.laid (o := .lst (ns'.map V.int)) (fun b u e => sortedAll_old e) (Nat.le_succ _) ⟨by rw [List.length_map]; omega, out.toList, e, vals_are ia, by simpa using he⟩, rfl, q _ ns' (I.hok.fresh (Nat.le_succ _)) pm pw⟩
end
def Ite0 (K : PySem.W.Frag) (a : Addr) (xs : List V) : It :=
  ⟨fun i H => i < xs.length ∧ SqL K H a xs, fun i H x H' => ∃ t v, H t = none ∧ x = .ref t ∧ xs[i]? = some v ∧ H' = upd H t (.tup [.int (i : Int), v]), fun i H => i = xs.length ∧ SqL K H a xs⟩
theorem turn_enum0 {P : Program} {w : World} {K : PySem.W.Frag} {elts : List Expr} {k : Nat} {pos : Pos} (a e it : Addr) (xs : List V) (hei : e ≠ it) (hae : a ≠ e) (hai : a ≠ it) :
    Turn P w K (.Tuple elts k pos) (Ite0 K a xs) [e, it] e (fun i h => (∃ old, IsEnum h e it (i : Int) old) ∧ h.IsListIter it a i) where
  mem := by simp
  obj := fun i h st b hb => by
    obtain ⟨⟨old, he⟩, ⟨o, e2, c, d⟩⟩ := st
    rcases List.mem_cons.mp hb with z | z
    · subst z
      exact ⟨_, he, fun v z => by cases z⟩
    · have z : b = it := by simpa using z
      subst z
      exact ⟨o, e2, fun v z => by rw [d] at z; cases z⟩
  keep := fun i h h' st kk => ⟨by obtain ⟨⟨old, he⟩, _⟩ := st; exact ⟨old, kk e (by simp) _ he⟩, st.2.at fun o q => kk it (by simp) o q⟩
  item := by
    intro X hP hw hK hc i pins s σ H E I hf st hg
    subst hP hw hK
    obtain ⟨hi, hq⟩ := hg
    obtain ⟨its, rv, ht, hz⟩ := I.list hq
    have hl := rv.length
    obtain ⟨⟨old, he⟩, hit⟩ := st
    have W := WalksT.enumerate (prog := X.prog) (w := X.w) (A := X.A) (I.ok.hd hc) e it a hei hae hai its.toArray
    refine W.item i s _ _ (by simp; omega) ⟨⟨old, he⟩, hit, ht.isList⟩ fun T vals h' tk hPt hsz hT hMid hk => ?_
    obtain ⟨t, x, hx, rfl⟩ := hPt
    obtain ⟨v, hv, rvx⟩ : ∃ v, xs[i]? = some v ∧ RelV v x := by
      rw [List.getElem?_eq_getElem hi]
      obtain ⟨u, hu, ru⟩ := rv.get (List.getElem?_eq_getElem hi)
      have : its[i]? = some x := by simpa using hx
      rw [this] at hu
      cases hu
      exact ⟨_, rfl, ru⟩
    refine ⟨.ref T, rfl, W.go elts k pos i T _ _ _ hMid fun h'' hSt hk'' => ?_⟩
    have hTe := hMid.2.2.2.1
    have hTi := hMid.2.2.2.2
    have I1 : Inv X pins σ H { s with heap := h'', toks := tk } := I.turnedL (fp := [e, it]) (fun b o hb q => hk'' b o hb (hk b o hb q)) hf
    have fT : FpOk X pins H T := I.fpOk hsz (I.hok.fresh hsz)
    have hT' : IsTup h'' T #[.int (i : Int) t, x] := by
      obtain ⟨o, e1, e2, e3⟩ := hT
      exact ⟨o, hk'' T o (by simp; exact ⟨hTe, hTi⟩) e1, e2, e3⟩
    obtain ⟨⟨old', he'⟩, hit2, _⟩ := hSt
    refine ⟨.ref T, upd H T (.tup [.int (i : Int), v]), I1.track fT ⟨(by show 2 ≤ sizeLine; decide), [.int (i : Int) t, x], .cons ⟨t, rfl⟩ (.cons rvx .nil), hT'⟩, rfl, ⟨T, v, fT.1, rfl, hv, rfl⟩, ⟨⟨old', he'⟩, hit2⟩, fun b hb => ?_⟩
    have hbT : b ≠ T := by
      rcases List.mem_cons.mp hb with z | z
      · rw [z]; exact hTe.symm
      · have z : b = it := by simpa using z
        rw [z]; exact hTi.symm
    rw [upd_ne hbT]
    exact (hf b hb).1
  done := by
    intro X hP hw hK hc i pins s σ H E I hf st hg
    subst hP hw hK
    obtain ⟨hi, hq⟩ := hg
    obtain ⟨its, rv, ht, hz⟩ := I.list hq
    have hl := rv.length
    obtain ⟨⟨old, he⟩, hit⟩ := st
    have W := WalksT.enumerate (prog := X.prog) (w := X.w) (A := X.A) (I.ok.hd hc) e it a hei hae hai its.toArray
    have en : i = its.toArray.size := by simp; omega
    refine W.done s _ _ (by rw [← en]; exact ⟨⟨old, he⟩, hit, ht.isList⟩) fun h' tk hk => ⟨rfl, I.turnedL (fp := [e, it]) (fun b o hb q => hk b o hb q) hf⟩
  self := fun A i s Q E st hQ => by
    obtain ⟨⟨old, he⟩, _⟩ := st
    exact wpAny_pyIter_enum he hQ
def iEnum0 (K : PySem.W.Frag) (ta : TA) : TI := fun σ H R => ta σ H fun vs H1 => ∃ (a : Addr) (xs : List V), vs = [.ref a] ∧ SqL K H1 a xs ∧ R (Ite0 K a xs) H1
theorem pi_enum0 {X : Cx} {K : PySem.W.Frag} {e : Expr} {ta : TA} {p pos : Pos} {kk : Nat} {elts : List Expr} {tp : Pos} (hK : X.K = K) (hg : Gl X "enumerate") (hm : X.mg "enumerate" = none) (ha : PA X [e] ta)
    (hs : starEach [e] X.env = [(false, eval e X.env)] := by rfl) :
    PI X (.Tuple elts kk tp) (.Call (.Name "enumerate" p) [e] [] pos) (iEnum0 K ta) := by
  subst hK
  intro pins s σ H R I h
  refine Call_ (ld_blt I hg hm (by decide +kernel : bootBuiltins "enumerate" = some (.type "enumerate")) (PyProof.Rows.callWith_type1 (thn (ha pos pins s σ H _ I h) fun us s2 ⟨vs, H2, I2, r1, a, xs, e1, hq, hR⟩ => ?_) hs rfl) (by decide +kernel) (by decide +kernel))
  subst e1
  obtain ⟨u, rfl, ru⟩ := vals1 r1
  cases ru
  obtain ⟨its, rv, pl, hz⟩ := I2.list hq
  refine call_enumerate_list pl.isList fun h' e0 it0 sz k0 => ?_
  have lta : @LT.lt Nat _ a s2.heap.objs.size := by obtain ⟨o, n, e, _⟩ := pl; exact Heap.lt_size e
  refine wpAny_pyIter_enum e0 ?_
  refine ⟨s2.heap.objs.size + 1, [s2.heap.objs.size + 1, s2.heap.objs.size], _, _, H2, rfl, I2.kept (t' := s2.toks) k0, turn_enum0 a (s2.heap.objs.size + 1) s2.heap.objs.size xs (Nat.succ_ne_self _) (Nat.ne_of_lt (Nat.lt_succ_of_lt lta)) (Nat.ne_of_lt lta), ⟨⟨.none, e0⟩, it0⟩, fun b hb => ?_, hR⟩
  rcases List.mem_cons.mp hb with z | z
  · rw [z]; exact I2.fpOk (Nat.le_succ _) (I2.hok.fresh (Nat.le_succ _))
  · have z : b = s2.heap.objs.size := by simpa using z
    rw [z]; exact I2.fpOk (Nat.le_refl _) (I2.hok.fresh (Nat.le_refl _))
end L2
namespace L2
open PySem PySem.Spec PyProof.Rows
def kitB (T C : String) : Option Bool := if (Value.type T == Value.type C) = true then some true else if PySem.W.kitMeta C = true then (fastBuiltinMro T).map (·.contains (Value.type C)) else none
theorem kit_type (K : PySem.W.Frag) {T C : String} {b : Bool} (h : kitB T C = some b) : PySem.W.kitOne K (.type T) (.type C) = some b := h
theorem kit_int_bool (K : PySem.W.Frag) : PySem.W.kitOne K (.type "int") (.type "bool") = some false := kit_type K (by decide +kernel)
end L2
namespace Sw
open PySem L2
def ld (xs : List Int) (x : Int) : Int := xs.getD (x - 1).toNat 0
def itn (f : Int → Int) : Nat → Int → Int
  | 0, x => x
  | k + 1, x => f (itn f k x)
def per (xs : List Int) (x : Int) : Nat := (List.range xs.length).findIdx (fun k => itn (ld xs) (k + 1) x == x) + 1
def orb (xs : List Int) (x : Int) : List Int := (List.range (per xs x)).map fun k => itn (ld xs) k x
def least (xs : List Int) (x : Int) : Bool := (orb xs x).all fun y => decide (x ≤ y)
end Sw
namespace Sw
open PySem L2
inductive Rise : Int → List (Int × Int) → Prop
  | nil {m : Int} : Rise m []
  | snoc {m a b : Int} {r : List (Int × Int)} : Rise (b - 1) r → 1 ≤ a → a < b → b ≤ m → Rise m (r ++ [(a, b)])
end Sw
namespace Sw
open PySem L2
theorem inV_int (x : Int) (ms : List Int) : inV (.int x) (ms.map V.int) = decide (x ∈ ms) := by
  unfold inV
  rw [List.any_map, Bool.eq_iff_iff, List.any_eq_true]
  simp only [decide_eq_true_eq]
  constructor
  · rintro ⟨y, hy, e⟩
    have e : eqV (.int y) (.int x) = true := e
    unfold eqV at e
    have : y = x := by simpa using e
    rw [← this]; exact hy
  · intro h
    refine ⟨x, h, ?_⟩
    show eqV (.int x) (.int x) = true
    unfold eqV
    simp
theorem flat_ints (ms : List Int) : (ms.map V.int).all flatV = true := by
  rw [List.all_map, List.all_eq_true]
  intro x _
  rfl
def bump : Nat → List (List Int) → List (List Int)
  | _, [] => []
  | k, r :: t => (r ++ [100 + (k : Int)]) :: bump (k + 1) t
def half (l : List (List Int)) (i : Nat) : List (List Int) := bump 0 (l.take i) ++ l.drop i
theorem lay_ll : ∀ (r : List (List Int)), PyData.canLayAll0 (r.map fun p => PyData.list (p.map PyData.int)) = true
  | [] => rfl
  | p :: r => by
    rw [List.map_cons]; unfold PyData.canLayAll0; rw [lay_ll r]
    unfold PyData.canLay0; rw [lay_ints p]; rfl
theorem depth_ll : ∀ (r : List (List Int)), PyData.depthAll (r.map fun p => PyData.list (p.map PyData.int)) ≤ 1
  | [] => by simp [PyData.depthAll]
  | p :: r => by
    have := depth_ll r
    rw [List.map_cons]; unfold PyData.depthAll; unfold PyData.depth; rw [depth_ints p]
    omega
theorem eqv_ll : ∀ (r q : List (List Int)), PyData.eqvAll (r.map fun p => PyData.list (p.map PyData.int)) (q.map fun p => PyData.list (p.map PyData.int)) = decide (r = q)
  | [], [] => by simp [PyData.eqvAll]
  | [], m :: r => by simp [PyData.eqvAll]
  | n :: r, [] => by simp [PyData.eqvAll]
  | n :: r, m :: q => by
    rw [List.map_cons, List.map_cons]; unfold PyData.eqvAll; rw [eqv_ll r q]
    unfold PyData.eqv
    rw [eqv_ints n m]
    by_cases h1 : n = m <;> by_cases h2 : r = q <;> simp [h1, h2]
theorem eqL {K : PySem.W.Frag} {H : Hp} {t u : Addr} {ns ms : List Int} {Q : VK} (h1 : H t = some (.lst (ns.map V.int))) (h2 : H u = some (.lst (ms.map V.int))) (q : Q (.bl (!decide (ns = ms))) H) : rNeD K (.ref t) (.ref u) H Q := by
  refine ⟨fun _ => True, .list (ns.map PyData.int), .list (ms.map PyData.int), .lst (SqL.of h1) True.intro (ints_dat ns), .lst (SqL.of h2) True.intro (ints_dat ms), ?_, ?_, ?_, ?_⟩
  · unfold PyData.canLay0; exact lay_ints ns
  · unfold PyData.canLay0; exact lay_ints ms
  · unfold PyData.depth; rw [depth_ints]; decide
  · unfold PyData.eqv; rw [eqv_ints]; exact q
end Sw
namespace Sw
open PySem L2
def Cyc (n : Int) (xs r : List Int) : Prop := r ≠ [] ∧ ∀ (i : Nat) (x : Int), r[i]? = some x → 1 ≤ x ∧ x ≤ n ∧ r[(i + 1) % r.length]? = some (ld xs x)
structure Rnds (n : Int) (xs : List Int) (rs : List (List Int)) : Prop where
  cyc : ∀ r ∈ rs, Cyc n xs r
  nd : rs.flatten.Nodup
  rest : ∀ x, 1 ≤ x → x ≤ n → x ∉ rs.flatten → ld xs x = x
structure Part (n : Int) (xs : List Int) (rf rl : List (List Int)) : Prop where
  cf : ∀ r ∈ rf, Cyc n xs r
  cl : ∀ r ∈ rl, Cyc n xs r
  nd : (rf.flatten ++ rl.flatten).Nodup
  rest : ∀ x, 1 ≤ x → x ≤ n → x ∉ rf.flatten → x ∉ rl.flatten → ld xs x = x
end Sw
namespace L2
open PySem PySem.Spec PyProof.Rows
mutual
inductive DT (H : Hp) (P : Addr → Prop) : V → PyData → Prop
  | non : DT H P .non .none
  | bl (b : Bool) : DT H P (.bl b) (.bool b)
  | int (i : Int) : DT H P (.int i) (.int i)
  | str (x : Str) : DT H P (.str x) (.str x)
  | lst {a : Addr} {vs : List V} {ds : List PyData} : H a = some (.lst vs) → P a → DTs H P vs ds → DT H P (.ref a) (.list ds)
  | tup {a : Addr} {vs : List V} {ds : List PyData} : H a = some (.tup vs) → P a → DTs H P vs ds → DT H P (.ref a) (.tuple ds)
inductive DTs (H : Hp) (P : Addr → Prop) : List V → List PyData → Prop
  | nil : DTs H P [] []
  | cons {v : V} {d : PyData} {vs : List V} {ds : List PyData} : DT H P v d → DTs H P vs ds → DTs H P (v :: vs) (d :: ds)
end
mutual
theorem DT.keep {H H' : Hp} {P : Addr → Prop} (k : Keep P H H') : ∀ {v : V} {d : PyData}, DT H P v d → DT H' P v d
  | _, _, .non => .non
  | _, _, .bl b => .bl b
  | _, _, .int i => .int i
  | _, _, .str x => .str x
  | _, _, .lst h p r => .lst (k _ _ p h) p (r.keep k)
  | _, _, .tup h p r => .tup (k _ _ p h) p (r.keep k)
theorem DTs.keep {H H' : Hp} {P : Addr → Prop} (k : Keep P H H') : ∀ {vs : List V} {ds : List PyData}, DTs H P vs ds → DTs H' P vs ds
  | _, _, .nil => .nil
  | _, _, .cons h r => .cons (h.keep k) (r.keep k)
end
mutual
theorem DT.dat {K : PySem.W.Frag} {H : Hp} {P : Addr → Prop} : ∀ {v : V} {d : PyData}, DT H P v d → Dat K H P v d
  | _, _, .non => .non
  | _, _, .bl b => .bl b
  | _, _, .int i => .int i
  | _, _, .str x => .str x
  | _, _, .lst h p r => .lst (SqL.of h) p r.dat
  | _, _, .tup h p r => .tup (SqT.of h) p r.dat
theorem DTs.dat {K : PySem.W.Frag} {H : Hp} {P : Addr → Prop} : ∀ {vs : List V} {ds : List PyData}, DTs H P vs ds → DatAll K H P vs ds
  | _, _, .nil => .nil
  | _, _, .cons h r => .cons h.dat r.dat
end
theorem DTs.length {H : Hp} {P : Addr → Prop} : ∀ {vs : List V} {ds : List PyData}, DTs H P vs ds → vs.length = ds.length
  | _, _, .nil => rfl
  | _, _, .cons h r => by rw [List.length_cons, List.length_cons, r.length]
theorem DTs.append {H : Hp} {P : Addr → Prop} : ∀ {vs ws : List V} {ds es : List PyData}, DTs H P vs ds → DTs H P ws es → DTs H P (vs ++ ws) (ds ++ es)
  | _, _, _, _, .nil, y => y
  | _, _, _, _, .cons h x, y => .cons h (x.append y)
theorem DTs.snoc {H : Hp} {P : Addr → Prop} {vs : List V} {ds : List PyData} {v : V} {d : PyData} (x : DTs H P vs ds) (h : DT H P v d) : DTs H P (vs ++ [v]) (ds ++ [d]) := x.append (.cons h .nil)
theorem DTs.take {H : Hp} {P : Addr → Prop} : ∀ {vs : List V} {ds : List PyData} (k : Nat), DTs H P vs ds → DTs H P (vs.take k) (ds.take k)
  | _, _, 0, _ => .nil
  | _, _, k + 1, .nil => .nil
  | _, _, k + 1, .cons h x => .cons h (x.take k)
theorem DTs.drop {H : Hp} {P : Addr → Prop} : ∀ {vs : List V} {ds : List PyData} (k : Nat), DTs H P vs ds → DTs H P (vs.drop k) (ds.drop k)
  | _, _, 0, x => x
  | _, _, k + 1, .nil => .nil
  | _, _, k + 1, .cons h x => x.drop k
theorem DTs.get {H : Hp} {P : Addr → Prop} : ∀ {vs : List V} {ds : List PyData} {i : Nat} {x : V}, DTs H P vs ds → vs[i]? = some x → ∃ d, ds[i]? = some d ∧ DT H P x d
  | _, _, _, _, .nil, e => by simp at e
  | _, _, 0, _, .cons h x, e => by simp at e; subst e; exact ⟨_, rfl, h⟩
  | _, _, i + 1, _, .cons h x, e => by
    obtain ⟨d, e1, e2⟩ := x.get (i := i) (by simpa using e)
    exact ⟨d, by simpa using e1, e2⟩
theorem DTs.ints {H : Hp} {P : Addr → Prop} : ∀ (ns : List Int), DTs H P (ns.map V.int) (ns.map PyData.int)
  | [] => .nil
  | n :: r => .cons (.int n) (DTs.ints r)
def tyD : PyData → String
  | .none => "NoneType"
  | .bool _ => "bool"
  | .int _ => "int"
  | .str _ => "str"
  | .list _ => "list"
  | .tuple _ => "tuple"
  | .dict _ => "dict"
theorem DT.ty {K : PySem.W.Frag} {H : Hp} {P : Addr → Prop} {v : V} {d : PyData} (h : DT H P v d) : TyOf K H v (.type (tyD d)) := by
  cases h with
  | non => exact .non
  | bl b => exact .bl b
  | int i => exact .int i
  | str x => exact .str x
  | lst h p r => exact .lst h
  | tup h p r => exact .tup h
def isL : PyData → Bool
  | .list _ => true
  | _ => false
theorem kit_list (K : PySem.W.Frag) {H : Hp} {P : Addr → Prop} {v : V} {d : PyData} (h : DT H P v d) : PySem.W.kitOne K (.type (tyD d)) (.type "list") = some (isL d) := by
  cases h with
  | non => exact kit_type K (show kitB "NoneType" "list" = some false by decide +kernel)
  | bl b => exact kit_type K (show kitB "bool" "list" = some false by decide +kernel)
  | int i => exact kit_type K (show kitB "int" "list" = some false by decide +kernel)
  | str x => exact kit_type K (show kitB "str" "list" = some false by decide +kernel)
  | lst h p r => exact kit_type K (show kitB "list" "list" = some true by decide +kernel)
  | tup h p r => exact kit_type K (show kitB "tuple" "list" = some false by decide +kernel)
def isI : PyData → Bool
  | .int _ => true
  | .bool _ => true
  | _ => false
theorem kit_int (K : PySem.W.Frag) {H : Hp} {P : Addr → Prop} {v : V} {d : PyData} (h : DT H P v d) : PySem.W.kitOne K (.type (tyD d)) (.type "int") = some (isI d) := by
  cases h with
  | non => exact kit_type K (show kitB "NoneType" "int" = some false by decide +kernel)
  | bl b => exact kit_type K (show kitB "bool" "int" = some true by decide +kernel)
  | int i => exact kit_type K (show kitB "int" "int" = some true by decide +kernel)
  | str x => exact kit_type K (show kitB "str" "int" = some false by decide +kernel)
  | lst h p r => exact kit_type K (show kitB "list" "int" = some false by decide +kernel)
  | tup h p r => exact kit_type K (show kitB "tuple" "int" = some false by decide +kernel)
def isB : PyData → Bool
  | .bool _ => true
  | _ => false
theorem kit_bool (K : PySem.W.Frag) {H : Hp} {P : Addr → Prop} {v : V} {d : PyData} (h : DT H P v d) : PySem.W.kitOne K (.type (tyD d)) (.type "bool") = some (isB d) := by
  cases h with
  | non => exact kit_type K (show kitB "NoneType" "bool" = some false by decide +kernel)
  | bl b => exact kit_type K (show kitB "bool" "bool" = some true by decide +kernel)
  | int i => exact kit_type K (show kitB "int" "bool" = some false by decide +kernel)
  | str x => exact kit_type K (show kitB "str" "bool" = some false by decide +kernel)
  | lst h p r => exact kit_type K (show kitB "list" "bool" = some false by decide +kernel)
  | tup h p r => exact kit_type K (show kitB "tuple" "bool" = some false by decide +kernel)
structure Fit (B : Nat) (d : PyData) : Prop where
  sh : d.showable = true
  nd : d.hasDict = false
  dp : d.depth ≤ 20
  ls : PyData.leavesShort 40 d = true
  wt : d.weight ≤ B
structure Fits (B k : Nat) (ds : List PyData) : Prop where
  sh : PyData.showableAll ds = true
  nd : PyData.hasDictAll ds = false
  dp : PyData.depthAll ds ≤ k
  ls : PyData.leavesShortAll 40 ds = true
  wt : PyData.weightAll ds ≤ B * ds.length
end L2
namespace L2
open PySem PySem.Spec PyProof.Rows
def Lone (h : Heap) (e : Addr) : Prop := ∃ o vs, h.get? e = some o ∧ o.data = .fields vs ∧ vs[2]? = some .none
end L2
namespace L2
open PySem PySem.Spec PyProof.Rows
structure Fly (P : Program) (w : World) (fr : List Env) (H : Hp) (h : Heap) (e : Addr) (cls a0 : Value) (B : Heap) (H' : Hp) (h' : Heap) : Prop where
  un : Un (frs fr) [] H H' h h'
  hok : HOk P w H' h'
  fl : Heap.FlyingW B fr e cls a0 h'
  old : ∀ b o o', h.get? b = some o → b ∉ frs fr → h'.get? b = some o' → B.get? b = some o'
  trk : ∀ b u o', H' b = some u → h'.get? b = some o' → B.get? b = some o'
  frf : ∀ b ∈ frs fr, H' b = none
  lo : Lone h' e
def CX1 (P : Program) (w : World) : CXT := fun fr H s E ev s' => ∃ (e : Addr) (cls a0 : Value) (B : Heap) (H' : Hp), ev = .ref e ∧ s'.os = s.os ∧ AllBare s'.gens ∧ Fly P w fr H s.heap e cls a0 B H' s'.heap ∧ E cls none H'
end L2
namespace L2
open PySem PySem.Spec PyProof.Rows PySem.W PySem.Builtin PySem.Builtin.ObjectAttr PySem.Builtin.Getset_descriptor
structure ExcI (K : Frag) (C : Addr) : Prop where
  ga : findIn K (.ref C) "__getattribute__" = some (some (.builtin "BaseException.__getattribute__"))
  gt : findIn K (.ref C) "__getattr__" = some none
  fd : findIn K (.ref C) "__class__" = some (some (.builtin "object.__class__"))
  sp : specialIn K (.builtin "object.__class__") "__get__" = some (some (.builtin "getset_descriptor.__get__"))
  tk : takesIn K (.builtin "object.__class__") = some true
  mo : mroIn K C (.type "object") = some true
  mb : mroIn K C (.type "BaseException") = some true
  cl : (clsIn K C).isSome = true
end L2
namespace L2
open PySem PySem.Spec PyProof.Rows PySem.W
structure ExcM (K : Frag) (C D : Addr) (b : Bool) : Prop where
  ty : typeIn K (.ref D) = some (.type "type")
  cd : (clsIn K D).isSome = true
  mb : mroIn K D (.type "BaseException") = some true
  mc : mroIn K C (.ref D) = some b
abbrev TH := Ends → St → Value → Addr → Hp → Prop
end L2
namespace L2
open PySem PySem.Spec PyProof.Rows
structure RoomH (k : Nat) (A : Around) : Prop where
  gd : A.guards = some []
  dp : A.depth + 3 * k + 5 < recursionLimit
  un : A.units + 16 * k + 200 < cLine
structure FnOkH (P : Program) (w : World) (K : PySem.W.Frag) (mg : Str → Option Value) (base : Heap) (k : Nat) (f : Addr) (fd : FuncData) (ps : List Str) (sp : Sp) : Prop where
  len : ∀ vs H Q E, sp vs H Q E → vs.length = ps.length
  run : ∀ (A : Around) (outer : List Env) (s : Shared) (H : Hp) (args : Args) (us : List Value) (vs : List V) (Q : VK) (E : XK), RoomH k A → Env0 P w K mg base A outer s H → BindsTo s fd args (ps.zip us) → Vals vs us → sp vs H Q E →
    codeAny (model P w) A (.call (.ref f) args) (CR CX0 outer P w H s Q E) s
structure FnAtH (P : Program) (w : World) (K : PySem.W.Frag) (mg : Str → Option Value) (base : Heap) (x : Str) (k : Nat) (ps : List Str) (sp : Sp) : Prop where
  ex : ∃ (f : Addr) (fd : FuncData), FnOkH P w K mg base k f fd ps sp ∧ mg x = some (.ref f) ∧ PySem.W.keepIn K (.ref f) = true ∧ Binds K fd ps []
structure FnAtX (P : Program) (w : World) (K : PySem.W.Frag) (mg : Str → Option Value) (base : Heap) (x : Str) (k : Nat) (ps : List Str) (sp : Sp) : Prop where
  ex : ∃ (f : Addr) (fd : FuncData), FnOk P w K mg base (CX1 P w) k f fd ps sp ∧ mg x = some (.ref f) ∧ PySem.W.keepIn K (.ref f) = true ∧ Binds K fd ps []
end L2
namespace L2
open PySem PySem.Spec PyProof.Rows PySem.SeqAt
section
variable {X : Cx} {K : PySem.W.Frag}
def CPowB (i j : Int) : Prop := 0 ≤ j ∧ j ≤ 1000 ∧ i.natAbs < 2 ^ 400
theorem op_powB : OpR X (binaryOp .Pow) (rI CPowB fun i j => .int (i ^ j.toNat)) := opI fun i j _ _ _ _ _ hc q => by
  refine pow_int hc.1 ?_ q
  have h1 := hc.1
  have h2 := hc.2.1
  have h3 := hc.2.2
  have hb : Builtin.Int.intBits i ≤ 400 := by
    unfold Builtin.Int.intBits
    split
    · omega
    · rename_i hz
      have := (Nat.log2_lt (n := i.natAbs) (k := 400) (by simpa using hz)).mpr h3
      omega
  have : (Builtin.Int.intBits i : Int) * j ≤ 400 * 1000 := Int.mul_le_mul (by omega) h2 h1 (by omega)
  exact Int.le_trans this (by decide)
end
theorem st_con {c k p es env} : starEach (.Constant c k p :: es) env = (false, eval (.Constant c k p) env) :: starEach es env := rfl
theorem st_name {x p es env} : starEach (.Name x p :: es) env = (false, eval (.Name x p) env) :: starEach es env := rfl
theorem st_bin {a o b p es env} : starEach (.BinOp a o b p :: es) env = (false, eval (.BinOp a o b p) env) :: starEach es env := rfl
theorem st_call {f a k p es env} : starEach (.Call f a k p :: es) env = (false, eval (.Call f a k p) env) :: starEach es env := rfl
theorem st_sub {a b p es env} : starEach (.Subscript a b p :: es) env = (false, eval (.Subscript a b p) env) :: starEach es env := rfl
theorem st_list {a p es env} : starEach (.List a p :: es) env = (false, eval (.List a p) env) :: starEach es env := rfl
def conV : Expr → Option V
  | .Constant (.int i) _ _ => some (.int i)
  | .Constant (.str s) _ _ => some (.str s)
  | _ => none
def consV : List Expr → Option (List V)
  | [] => some []
  | e :: es => match conV e, consV es with
    | some v, some vs => some (v :: vs)
    | _, _ => none
def tConsts (vs : List V) : TA := fun _ H Q => Q vs H
theorem pa_consts {X : Cx} : ∀ (es : List Expr) (vs : List V), consV es = some vs → PA X es (tConsts vs)
  | [], vs, h => by cases h; exact pa_nil
  | e :: es, vs, h => by
    unfold consV at h
    cases h1 : conV e with
    | none => rw [h1] at h; cases h
    | some v =>
      cases h2 : consV es with
      | none => rw [h1, h2] at h; cases h
      | some ws =>
        rw [h1, h2] at h
        cases h
        have ih := pa_consts (X := X) es ws h2
        unfold conV at h1
        split at h1
        · cases h1
          exact pa_cons pe_int ih st_con
        · cases h1
          exact pa_cons pe_str ih st_con
        · cases h1
end L2
namespace Sw
open PySem L2
def top (i : Nat) : Stmt := PySem.Challenge.pw_swapstars_k32_sharings_known.main.body.getD i (.Pass ⟨0, 0, 0, 0⟩)
structure Purse (H : Hp) (p : Addr) (c : Nat) : Prop where
  ex : ∃ (a b d : Int), H p = some (.lst [.int a, .int b, .int d]) ∧ 0 ≤ a ∧ 0 ≤ b ∧ b < 2147483647 ∧ 0 ≤ d ∧ d ≤ c ∧ c ≤ 100000
section
variable {P : Program} {w : World} {K : PySem.W.Frag} {mg : Str → Option Value} {base : Heap}
structure TPurse (mg : Str → Option Value) : Prop where
  b_len : mg "len" = none
  b_abs : mg "abs" = none
  b_int : mg "int" = none
end
end Sw
namespace L2
open PySem
theorem call_list_ofK {X : Cx} {K : PySem.W.Frag} (h : X.K = K) : CallR X (.type "list") (fun xs H Q => ∃ p ys, xs = [.ref p] ∧ (SqL K H p ys ∨ SqT K H p ys) ∧ ∀ l, H l = none → Q (.ref l) (upd H l (.lst ys))) := by subst h; exact call_list_of
theorem call_tuple_ofK {X : Cx} {K : PySem.W.Frag} (h : X.K = K) : CallR X (.type "tuple") (fun xs H Q => ∃ p ys, xs = [.ref p] ∧ ((SqL K H p ys ∧ ∀ l, H l = none → Q (.ref l) (upd H l (.tup ys))) ∨ (SqT K H p ys ∧ Q (.ref p) H))) := by subst h; exact call_tuple_of
end L2
namespace Sw
open PySem L2
structure T1 (mg : Str → Option Value) (K : PySem.W.Frag) : Prop extends TPurse mg where
  b_all : mg "all" = none
  b_isinstance : mg "isinstance" = none
  b_bool : mg "bool" = none
  b_tuple : mg "tuple" = none
  b_list : mg "list" = none
  b_range : mg "range" = none
  k_ib : PySem.W.kitOne K (.type "int") (.type "bool") = some false
theorem eraseIdx_map {ls : List Int} : ∀ {k : Nat}, (ls.map V.int).eraseIdx k = (ls.eraseIdx k).map V.int := by
  induction ls with
  | nil => intro k; rfl
  | cons a t ih =>
    intro k
    cases k with
    | zero => rfl
    | succ k =>
      rw [List.map_cons, List.eraseIdx_cons_succ, List.eraseIdx_cons_succ, List.map_cons, ih]
theorem mem_int {ns : List Int} {i : Nat} {x : V} (h : (ns.map V.int)[i]? = some x) : ∃ z, x = .int z ∧ ns[i]? = some z := by
  rw [List.getElem?_map] at h
  cases e : ns[i]? with
  | none => rw [e] at h; cases h
  | some z => rw [e] at h; exact ⟨z, (Option.some.inj h).symm, rfl⟩
theorem at_int {ns : List Int} {i : Int} {z : Int} (h0 : 0 ≤ i) (h : ns[i.toNat]? = some z) : atI (ns.map V.int) i = some (V.int z) := by
  have e : ((i.toNat : Nat) : Int) = i := Int.toNat_of_nonneg h0
  rw [← e]
  exact atI_nat (by rw [List.getElem?_map, h]; rfl)
theorem get_lt {ns : List Int} {k : Nat} (h : k < ns.length) : ∃ z, ns[k]? = some z := ⟨_, List.getElem?_eq_getElem h⟩
theorem ixN_lt {n : Nat} {i : Int} (h0 : 0 ≤ i) (h : i < n) : ixN n i = some i.toNat := by
  unfold ixN
  rw [if_pos h0, if_pos h]
theorem map_get {ns : List Int} {k : Nat} {z : Int} (h : ns[k]? = some z) : (ns.map V.int)[k]? = some (V.int z) := by rw [List.getElem?_map, h]; rfl
inductive Lsts (H : Hp) : List V → List (List Int) → Prop
  | nil : Lsts H [] []
  | cons {a : Addr} {ns : List Int} {vs : List V} {r : List (List Int)} : H a = some (.lst (ns.map V.int)) → Lsts H vs r → Lsts H (.ref a :: vs) (ns :: r)
theorem Lsts.length {H : Hp} : ∀ {vs : List V} {r : List (List Int)}, Lsts H vs r → vs.length = r.length
  | _, _, .nil => rfl
  | _, _, .cons _ x => by rw [List.length_cons, List.length_cons, x.length]
theorem Lsts.keep {H H' : Hp} (k : Same H H') : ∀ {vs : List V} {r : List (List Int)}, Lsts H vs r → Lsts H' vs r
  | _, _, .nil => .nil
  | _, _, .cons h x => .cons (k _ _ h) (x.keep k)
theorem Lsts.append {H : Hp} : ∀ {vs ws : List V} {r q : List (List Int)}, Lsts H vs r → Lsts H ws q → Lsts H (vs ++ ws) (r ++ q)
  | _, _, _, _, .nil, y => y
  | _, _, _, _, .cons h x, y => .cons h (x.append y)
theorem Lsts.snoc {H : Hp} {vs : List V} {r : List (List Int)} {a : Addr} {ns : List Int} (x : Lsts H vs r) (h : H a = some (.lst (ns.map V.int))) : Lsts H (vs ++ [.ref a]) (r ++ [ns]) := x.append (.cons h .nil)
theorem Lsts.get {H : Hp} : ∀ {vs : List V} {r : List (List Int)} {i : Nat} {x : V}, Lsts H vs r → vs[i]? = some x → ∃ a ns, x = .ref a ∧ H a = some (.lst (ns.map V.int)) ∧ r[i]? = some ns
  | _, _, _, _, .nil, e => by simp at e
  | _, _, 0, _, .cons h x, e => by simp at e; subst e; exact ⟨_, _, rfl, h, rfl⟩
  | _, _, i + 1, _, .cons h x, e => by
    obtain ⟨t, a, e1, e2, e3⟩ := x.get (i := i) (by simpa using e)
    exact ⟨t, a, e1, e2, by simpa using e3⟩
theorem Lsts.mem {H : Hp} {vs : List V} {r : List (List Int)} (x : Lsts H vs r) {a : Addr} (h : V.ref a ∈ vs) : ∃ ns, H a = some (.lst ns) := by
  obtain ⟨i, hi, e⟩ := List.mem_iff_getElem.mp h
  obtain ⟨b, ns, e1, e2, _⟩ := x.get (i := i) (by rw [List.getElem?_eq_getElem hi, e])
  cases e1
  exact ⟨_, e2⟩
theorem Lsts.off {H : Hp} {a : Addr} {o : HO} : ∀ {vs : List V} {r : List (List Int)}, Lsts H vs r → V.ref a ∉ vs → Lsts (upd H a o) vs r
  | _, _, .nil, _ => .nil
  | _, _, .cons (a := b) h x, n => by
    refine .cons ?_ (x.off fun z => n (List.mem_cons_of_mem _ z))
    rw [upd_ne (by intro z; subst z; exact n List.mem_cons_self)]
    exact h
def Fresh (H : Hp) (vs : List V) : Prop := vs.Nodup ∧ ∀ v ∈ vs, ∃ a, v = .ref a ∧ H a = none
theorem Fresh.nil {H : Hp} : Fresh H [] := ⟨List.nodup_nil, fun v h => by cases h⟩
theorem Fresh.snoc {H H' : Hp} {vs : List V} {r : List (List Int)} {a : Addr} (f : Fresh H vs) (x : Lsts H' vs r) (h' : H' a = none) (h : H a = none) : Fresh H (vs ++ [.ref a]) := by
  refine ⟨List.nodup_append.mpr ⟨f.1, by simp, ?_⟩, fun v hv => ?_⟩
  · intro y hy z hz e
    rw [List.mem_singleton.mp hz] at e
    subst e
    obtain ⟨ns, e⟩ := x.mem hy
    rw [h'] at e
    cases e
  · rcases List.mem_append.mp hv with z | z
    · exact f.2 v z
    · exact ⟨a, List.mem_singleton.mp z, h⟩
theorem iteP {A B : Prop} {b : Bool} (h : b = true) (x : A) : if b = true then A else B := by rw [if_pos h]; exact x
theorem iteE {A B : Prop} {b : Bool} (h : b = false) (x : B) : if b = true then A else B := by rw [h, if_neg Bool.false_ne_true]; exact x
theorem Lsts.dat {K : PySem.W.Frag} {H : Hp} : ∀ {vs : List V} {r : List (List Int)}, Lsts H vs r → DatAll K H (fun _ => True) vs (r.map fun p => .list (p.map PyData.int))
  | _, _, .nil => .nil
  | _, _, .cons h x => .cons (.lst (SqL.of h) True.intro (ints_dat _)) x.dat
theorem eqLL {K : PySem.W.Frag} {H : Hp} {l m : Addr} {vs ws : List V} {r q : List (List Int)} {Q : VK} (h1 : H l = some (.lst vs)) (x1 : Lsts H vs r) (h2 : H m = some (.lst ws)) (x2 : Lsts H ws q) (hq : Q (.bl (!decide (r = q))) H) : rNeD K (.ref l) (.ref m) H Q := by
  refine ⟨fun _ => True, .list (r.map fun p => PyData.list (p.map PyData.int)), .list (q.map fun p => PyData.list (p.map PyData.int)), .lst (SqL.of h1) True.intro x1.dat, .lst (SqL.of h2) True.intro x2.dat, ?_, ?_, ?_, ?_⟩
  · unfold PyData.canLay0; exact lay_ll r
  · unfold PyData.canLay0; exact lay_ll q
  · unfold PyData.depth; have := depth_ll r; omega
  · have e : PyData.eqv (.list (r.map fun p => PyData.list (p.map PyData.int))) (.list (q.map fun p => PyData.list (p.map PyData.int))) = decide (r = q) := by unfold PyData.eqv; exact eqv_ll r q
    rw [e]; exact hq
theorem Lsts.set {H : Hp} : ∀ {vs : List V} {r : List (List Int)} {i : Nat} {a : Addr} {ns : List Int}, Lsts H vs r → vs.Nodup → vs[i]? = some (.ref a) → Lsts (upd H a (.lst (ns.map V.int))) vs (r.set i ns)
  | _, _, _, _, _, .nil, _, h => by simp at h
  | _, _, 0, a, ns, .cons (a := b) (vs := vs) h x, nd, e => by
    have e : b = a := by simpa using e
    subst e
    rw [List.nodup_cons] at nd
    rw [List.set_cons_zero]
    refine .cons upd_same (x.off nd.1)
  | _, _, i + 1, a, ns, .cons (a := b) (vs := vs) h x, nd, e => by
    rw [List.nodup_cons] at nd
    rw [List.set_cons_succ]
    have e : vs[i]? = some (.ref a) := by simpa using e
    refine .cons ?_ (x.set nd.2 e)
    rw [upd_ne (by intro z; subst z; exact nd.1 (List.mem_of_getElem? e))]
    exact h
theorem Lsts.eraseIdx {H : Hp} : ∀ {vs : List V} {r : List (List Int)} (k : Nat), Lsts H vs r → Lsts H (vs.eraseIdx k) (r.eraseIdx k)
  | _, _, _, .nil => .nil
  | _, _, 0, .cons h x => x
  | _, _, k + 1, .cons h x => .cons h (x.eraseIdx k)
def spLaw (K : PySem.W.Frag) : Sp := fun vs H Q _ => ∃ (a : Addr) (ns : List Int), vs = [.ref a] ∧ SqL K H a (ns.map V.int) ∧ ns.length ≤ 63 ∧ ∀ H', Q (.bl true) H'
theorem Same.put {l : Addr} {H H' : Hp} {o : HO} (s : Same H H') (h : H l = none) : Same H (upd H' l o) := fun b o' e => by
  rw [upd_ne (ne_of_none e h)]
  exact s b o' e
end Sw
namespace Sw
open PySem L2
def isw : PyData → Bool
  | .int _ => true
  | _ => false
def btw (lo hi : Int) : PyData → Bool
  | .int i => decide (lo ≤ i ∧ i ≤ hi)
  | _ => false
def spIwD : Sp := fun vs H Q _ => ∃ (v : V) (P : Addr → Prop) (d : PyData), vs = [v] ∧ DT H P v d ∧ Q (.bl (isw d)) H
def spBtD : Sp := fun vs H Q _ => ∃ (v : V) (P : Addr → Prop) (d : PyData) (lo hi : Int), vs = [v, .int lo, .int hi] ∧ DT H P v d ∧ Q (.bl (btw lo hi d)) H
theorem DT.same {H H' : Hp} {P : Addr → Prop} {v : V} {d : PyData} (h : DT H P v d) (s : Same H H') : DT H' P v d := h.keep fun b o _ e => s b o e
theorem DTs.same {H H' : Hp} {P : Addr → Prop} {v : List V} {d : List PyData} (h : DTs H P v d) (s : Same H H') : DTs H' P v d := h.keep fun b o _ e => s b o e
theorem all_take {α : Type} {q : α → Bool} {l : List α} {i : Nat} {x : α} (h : l[i]? = some x) : (l.take (i + 1)).map q = (l.take i).map q ++ [q x] := by
  rw [List.take_succ, h, List.map_append]; rfl
structure TD (P : Program) (w : World) (K : PySem.W.Frag) (mg : Str → Option Value) (base : Heap) : Prop extends T1 mg K where
  f_is_whole : FnAt P w K mg base "is_whole" 1 ["thing"] spIwD
structure TD2 (P : Program) (w : World) (K : PySem.W.Frag) (mg : Str → Option Value) (base : Heap) : Prop extends T1 mg K where
  f_is_between : FnAt P w K mg base "is_between" 2 ["thing", "low", "high"] spBtD
end Sw
namespace Sw
open PySem L2
def relab (f : Int → Int) (e : Int × Int) : Int → Int := fun x => if f x = f e.2 then f e.1 else f x
def labs (row : List (Int × Int)) : Int → Int := row.foldl relab id
def addC (f : Int → Int) (acc : List (Int × List Int)) (x : Int) : List (Int × List Int) :=
  if f x ∈ acc.map (·.1) then acc.map (fun p => if p.1 = f x then (p.1, p.2 ++ [x]) else p) else acc ++ [(f x, [x])]
def grp (f : Int → Int) (L : List Int) : List (Int × List Int) := L.foldl (addC f) []
def partsM (n : Int) (row : List (Int × Int)) : List (List Int) := (grp (labs row) (ivl 1 (n + 1))).map (·.2)
section
variable {f : Int → Int} {acc : List (Int × List Int)} {x k : Int} {ms : List Int} {j : Nat}
structure Grp (f : Int → Int) (L : List Int) (acc : List (Int × List Int)) : Prop where
  nd : (acc.map (·.1)).Nodup
  mem : ∀ p ∈ acc, p.2 = L.filter (fun y => decide (f y = p.1)) ∧ p.2 ≠ []
  all : ∀ y ∈ L, f y ∈ acc.map (·.1)
theorem Grp.nil : Grp f [] [] := ⟨List.nodup_nil, fun p hp => (by cases hp), fun y hy => (by cases hy)⟩
end
end Sw
namespace Sw
open PySem L2
section
variable {n : Int} {xs : List Int} {a b : Int}
def np (n : Int) (row : List (Int × Int)) : Nat := (partsM n row).length
end
end Sw
namespace Sw
open PySem L2
def Seat (tk : List Int) (c p : Int) : Prop := c ≤ p ∧ p ∉ tk ∧ ∀ q, c ≤ q → q < p → q ∈ tk
def Plc (cs ps : List Int) : Prop := ps.length = cs.length ∧ ∀ (i : Nat) (c p : Int), cs[i]? = some c → ps[i]? = some p → Seat (ps.take i) c p
theorem Plc.nil : Plc [] [] := ⟨rfl, fun i c p h => by simp at h⟩
end Sw
namespace Sw
open PySem L2
structure Nice (k : Nat) (d : PyData) : Prop where
  lay : d.canLay0 = true
  dp : d.depth ≤ k
theorem Nice.mono {k m : Nat} {d : PyData} (h : Nice k d) (l : k ≤ m) : Nice m d := ⟨h.lay, Nat.le_trans h.dp l⟩
theorem nice_int {k : Nat} (i : Int) : Nice k (.int i) := ⟨rfl, by unfold PyData.depth; omega⟩
theorem nice_bool {k : Nat} (b : Bool) : Nice k (.bool b) := ⟨rfl, by unfold PyData.depth; omega⟩
theorem nice_none {k : Nat} : Nice k .none := ⟨rfl, by unfold PyData.depth; omega⟩
theorem nice_str {k : Nat} {x : Str} (h : PyData.strOk x = true) : Nice k (.str x) := ⟨h, by unfold PyData.depth; omega⟩
theorem nice_all {k : Nat} : ∀ {ds : List PyData}, (∀ d ∈ ds, Nice k d) → PyData.canLayAll0 ds = true ∧ PyData.depthAll ds ≤ k
  | [], _ => ⟨rfl, by unfold PyData.depthAll; omega⟩
  | d :: ds, h => by
    obtain ⟨h1, h2⟩ := nice_all fun e he => h e (List.mem_cons_of_mem _ he)
    have h0 := h d List.mem_cons_self
    refine ⟨?_, ?_⟩
    · unfold PyData.canLayAll0; rw [h1, h0.lay]; rfl
    · unfold PyData.depthAll
      have := h0.dp
      omega
theorem nice_list {k : Nat} {ds : List PyData} (h : ∀ d ∈ ds, Nice k d) : Nice (k + 1) (.list ds) := by
  obtain ⟨h1, h2⟩ := nice_all h
  exact ⟨by unfold PyData.canLay0; exact h1, by unfold PyData.depth; omega⟩
theorem nice_tuple {k : Nat} {ds : List PyData} (h : ∀ d ∈ ds, Nice k d) : Nice (k + 1) (.tuple ds) := by
  obtain ⟨h1, h2⟩ := nice_all h
  exact ⟨by unfold PyData.canLay0; exact h1, by unfold PyData.depth; omega⟩
theorem nice_ints {k : Nat} (ns : List Int) : ∀ d ∈ ns.map PyData.int, Nice k d := fun d hd => by
  obtain ⟨x, _, rfl⟩ := List.mem_map.mp hd
  exact nice_int x
end Sw
namespace Sw
open PySem L2
def up (es : List Int) (p : Int) : Int := if 0 < p then es.getD (p - 1).toNat 0 else p
def ups (es : List Int) : Nat → Int → Int
  | 0, p => p
  | k + 1, p => up es (ups es k p)
section
variable {es come : List Int} {p x y : Int}
structure Grown (es come : List Int) : Prop where
  z : come[0]? = some 0
  st : ∀ (j : Nat) (x : Int), 1 ≤ j → come[j]? = some x → 1 ≤ x ∧ ∃ (m : Nat) (y : Int), m < j ∧ come[m]? = some y ∧ es.getD (x - 1).toNat 0 = y
end
structure TreeM (n : Int) (es : List Int) : Prop where
  len : es.length = n.toNat
  ein : ∀ e ∈ es, 0 ≤ e ∧ e ≤ n
  home : ∀ p, 1 ≤ p → p ≤ n → ups es es.length p = 0
end Sw
namespace Sw
open PySem L2
structure OneR (n : Int) (xs : List Int) : Prop where
  ord : Ord n xs
  pos : 1 ≤ n
  all : ∀ x, 1 ≤ x → x ≤ n → x ∈ orb xs 1
def lab (f : Int → Int) (e : Int × Int) : Int × Int := (min (f e.1) (f e.2), max (f e.1) (f e.2))
def Inj (n : Int) (f : Int → Int) : Prop := ∀ x y, 1 ≤ x → x ≤ n → 1 ≤ y → y ≤ n → f x = f y → x = y
def el (es : List Int) (i : Nat) : Int := es.getD i 0
def tiesM (es : List Int) : List (Int × Int) := (List.range es.length).map fun i => (min (el es i + 1) ((i : Int) + 2), max (el es i + 1) ((i : Int) + 2))
structure Tied (es : List Int) (f : Int → Int) (row : List (Int × Int)) : Prop where
  tree : TreeM es.length es
  one : f 1 = 1
  inj : Inj ((es.length : Int) + 1) f
  rng : ∀ x, 1 ≤ x → x ≤ (es.length : Int) + 1 → 1 ≤ f x ∧ f x ≤ (es.length : Int) + 1
  row : row = (tiesM es).map (lab f)
inductive Grow (row : List (Int × Int)) : List (Int × Int) → Prop
  | base : Grow row [(1, 0)]
  | step {L : List (Int × Int)} {x y j : Int} {i : Nat} {e : Int × Int} : Grow row L → (y, j) ∈ L → row[i]? = some e → (e = (x, y) ∨ e = (y, x)) → x ∉ L.map (·.1) → Grow row (L ++ [(x, (i : Int) + 1)])
end Sw
namespace Sw
open PySem L2
def plc (L : List (Int × Int)) (x : Int) : Int := ((L.find? fun p => decide (p.1 = x)).getD (0, 0)).2
end Sw
namespace Sw
open PySem L2
def cn (A M : List Int) : Nat := (M.map fun x => A.count x).sum
structure PK (A L : List Int) : Prop where
  all : cn A L + 1 = L.length
  some_ : ∀ j, 1 ≤ j → j < L.length → j ≤ cn A (L.take j)
def Nx (L : List Int) (x y : Int) : Prop := ∃ i, L[i]? = some x ∧ (L[i + 1]? = some y ∨ (i + 1 = L.length ∧ L[0]? = some y))
structure Cut (n : Int) (A : List Int) (Ls : List (List Int)) (suf : List (Int × Int)) : Prop where
  uniq : ∀ L1 ∈ Ls, ∀ L2 ∈ Ls, ∀ x, x ∈ L1 → x ∈ L2 → L1 = L2
  cov : ∀ x, 1 ≤ x → x ≤ n → ∃ L ∈ Ls, x ∈ L
  inn : ∀ L ∈ Ls, ∀ x ∈ L, 1 ≤ x ∧ x ≤ n
  rise : ∀ L ∈ Ls, L.Pairwise (· < ·)
  pk : ∀ L ∈ Ls, PK A L
  nx : ∀ L ∈ Ls, ∀ x y, Nx L x y → go suf y = x % n + 1
end Sw
namespace Sw
open PySem L2
theorem sIx_in {n m : Nat} {a : Int} (h0 : 0 ≤ a) : HT.sIx n m (some a) = min a.toNat n := by
  show (if a < 0 then (a + (n : Int)).toNat else min a.toNat n) = _
  rw [if_neg (by omega)]
theorem cutT9 {xs : List V} {a : Int} (h0 : 0 ≤ a) (h : a ≤ xs.length) : cutV xs none (some a) = xs.take a.toNat := by
  have e : HT.sIx xs.length 0 none = 0 := rfl
  unfold cutV
  rw [e, sIx_in h0, List.drop_zero, Nat.sub_zero, Nat.min_eq_left (by omega)]
theorem cutD9 {xs : List V} {a : Int} (h0 : 0 ≤ a) (h : a ≤ xs.length) : cutV xs (some a) none = xs.drop a.toNat := by
  have e2 : HT.sIx xs.length xs.length none = xs.length := rfl
  unfold cutV
  rw [sIx_in h0, e2, Nat.min_eq_left (by omega), List.take_of_length_le (by rw [List.length_drop]; exact Nat.le_refl _)]
end Sw
namespace Sw
open PySem L2
def NonX (Ls : List (List Int)) : Prop := ∀ L ∈ Ls, ∀ M ∈ Ls, ∀ a b c d, a ∈ L → c ∈ L → b ∈ M → d ∈ M → a < b → b < c → c < d → L = M
end Sw
namespace Sw
open PySem L2
def Fine (n : Int) (rs : List (List Int)) : Prop := (∀ r ∈ rs, r ≠ [] ∧ ∀ x ∈ r, 1 ≤ x ∧ x ≤ n) ∧ rs.flatten.Nodup
instance {n : Int} {rs : List (List Int)} : Decidable (Fine n rs) := by unfold Fine; infer_instance
def nx : List (List Int) → Int → Int
  | [], x => x
  | r :: rs, x => if x ∈ r then nxt r x else nx rs x
section
variable {n : Int} {rs : List (List Int)} {r : List Int} {i j : Nat} {z : Int}
theorem take_snoc {α : Type} {l : List α} {i : Nat} {x : α} (h : l[i]? = some x) : l.take (i + 1) = l.take i ++ [x] := by rw [List.take_succ, h]; rfl
end
end Sw
namespace L2
open PySem PySem.Spec PyProof.Rows PySem.SeqAt
inductive TxtEs (pr : Params) : List DictEntry → List (Str × Str) → Prop
  | nil : TxtEs pr [] []
  | cons {x y : Str} {t u : Tok} {es : List DictEntry} {ps : List (Str × Str)} : TxtEs pr es ps → TxtEs pr ({ hash := PyData.keyHash pr x, key := .str x t, val := .str y u } :: es) ((x, y) :: ps)
structure KTxt (K : PySem.W.Frag) (pr : Params) (a : Addr) (ps : List (Str × Str)) : Prop where
  sys : (a == sysModules) = false
  nd : (ps.map (·.1)).Nodup
  ex : ∃ (es : List DictEntry) (ep : Nat), K.lookup a = some { cls := .type "dict", data := .dict es.toArray ep } ∧ TxtEs pr es ps
end L2
namespace L2
open PySem PySem.Spec PyProof.Rows
section
variable {prog : Program} {w : World} {A : Around} {R : Result → Shared → Prop} {s : Shared}
theorem compStart1 {elt t1 i1 t2 i2 : Expr} {scope : Scope} {pos : Pos} {it acc : Value} {env : Env}
    (h1 : codeAny (model prog w) A (.compLoop (.ListComp elt [⟨t1, i1, [], 0⟩, ⟨t2, i2, [], 0⟩] scope pos) 1 it acc env) R s)
    (h2 : wpAny (model prog w) A (pyIter it) (fun it' s' => codeAny (model prog w) A (.compLoop (.ListComp elt [⟨t1, i1, [], 0⟩, ⟨t2, i2, [], 0⟩] scope pos) 1 it' acc env) R s') (fun _ _ => False) s) :
    codeAny (model prog w) A (.compStart (.ListComp elt [⟨t1, i1, [], 0⟩, ⟨t2, i2, [], 0⟩] scope pos) 1 it acc env) R s := by
  refine codeAny_of_tree ?_
  show wpAny _ A ((compStart (.ListComp elt [⟨t1, i1, [], 0⟩, ⟨t2, i2, [], 0⟩] scope pos) 1 it acc env).onRaise (fun x => do noteFrame x env; standAt theWindowsPlace)) _ _ s
  refine wpAny_onRaise ?_
  show wpAny _ A (ask >>= fun st => if st.params.followText "comprehension-iter-twice" = true then again (.compLoop (.ListComp elt [⟨t1, i1, [], 0⟩, ⟨t2, i2, [], 0⟩] scope pos) 1 it acc env) else do
    rule "comprehension.iter-twice"
    standAt i2.pos
    let it' ← pyIter it
    again (.compLoop (.ListComp elt [⟨t1, i1, [], 0⟩, ⟨t2, i2, [], 0⟩] scope pos) 1 it' acc env)) _ _ s
  refine wpAny_bind (wpAny_askSetting ?_)
  split
  · exact wpAny_pure ⟨rfl, h1⟩
  · refine wpAny_bind (wpAny_rule (wpAny_bind (wpAny_standAt (wpAny_bind (wpAny_mono h2 (fun it' s' h' => ?_) fun _ _ z => z.elim)))))
    exact wpAny_pure ⟨rfl, h'⟩
theorem compLoop1_any {elt t1 i1 t2 i2 : Expr} {scope : Scope} {pos : Pos} {it acc : Value} {env : Env} (I : Nat → Shared → Prop)
    (turn : ∀ n s, I n s → wpAny (model prog w) A (pyNext it) (fun r s₁ => match r with
      | none => R (.ok .next) s₁
      | some v => wpAny (model prog w) A (letOwnedTupleGo t2 it v) (fun _ s₁ => wpAny (model prog w) A (assign t2 env v) (fun _ s₂ =>
          wpAny (model prog w) A (eval elt env) (fun x s₄ =>
            wpAny (model prog w) A (call (.builtin "list.append") [acc, x]) (fun _ s₅ => ∃ m, m < n ∧ I m s₅) (fun _ _ => False) s₄) (fun _ _ => False) s₂) (fun _ _ => False) s₁) (fun _ _ => False) s₁) (fun _ _ => False) s)
    (n : Nat) (h : I n s) :
    codeAny (model prog w) A (.compLoop (.ListComp elt [⟨t1, i1, [], 0⟩, ⟨t2, i2, [], 0⟩] scope pos) 1 it acc env) R s := by
  refine codeAny_loop rfl I (fun n s hI => ?_) n h
  show wpAny _ A ((compTurn (.ListComp elt [⟨t1, i1, [], 0⟩, ⟨t2, i2, [], 0⟩] scope pos) 1 it acc env).onRaise (fun x => do noteFrame x env; theTreesLotGoes x)) _ _ s
  refine wpAny_noted ?_
  show wpAny _ A (do
    standAt i2.pos
    let r ← pyNext it
    match r with
    | none => pure (Fin.done Flow.next)
    | some v => do
      letOwnedTupleGo t2 it v
      assign t2 env v
      let ok ← forIn ([] : List Expr) true fun c r => if r = true then do let ok ← isTrue c env (eval c env); pure (ForInStep.yield ok) else pure (ForInStep.yield r)
      if ok = true then do
        let _ ← (do
          let x ← eval elt env
          let _ ← call (.builtin "list.append") [acc, x]
          pure ())
        again (.compLoop (.ListComp elt [⟨t1, i1, [], 0⟩, ⟨t2, i2, [], 0⟩] scope pos) 1 it acc env)
      else again (.compLoop (.ListComp elt [⟨t1, i1, [], 0⟩, ⟨t2, i2, [], 0⟩] scope pos) 1 it acc env)) _ _ s
  refine wpAny_bind (wpAny_standAt (wpAny_bind (wpAny_mono (turn n s hI) (fun r s₁ h₁ => ?_) fun _ _ h' => h'.elim)))
  cases r with
  | none => exact wpAny_pure h₁
  | some v =>
    refine wpAny_bind (wpAny_mono h₁ (fun _ s₁ h₁ => ?_) fun _ _ h' => h'.elim)
    refine wpAny_bind (wpAny_mono h₁ (fun _ s₂ h₂ => wpAny_bind (wpAny_tests_nil ?_)) fun _ _ h' => h'.elim)
    rw [if_pos rfl]
    refine wpAny_bind (wpAny_bind (wpAny_mono h₂ (fun x s₄ h₄ => wpAny_bind (wpAny_mono h₄ (fun _ s₅ h₅ => ?_) fun _ _ h' => h'.elim)) fun _ _ h' => h'.elim))
    exact wpAny_pure (wpAny_pure ⟨rfl, h₅⟩)
theorem compLoop0_any {elt t1 i1 t2 i2 : Expr} {scope : Scope} {pos : Pos} {it acc : Value} {env : Env} (hs : ∀ x, foldedSetIterable i2 env x = pure x) (I : Nat → Shared → Prop)
    (turn : ∀ n s, I n s → wpAny (model prog w) A (pyNext it) (fun r s₁ => match r with
      | none => R (.ok .next) s₁
      | some v => wpAny (model prog w) A (letOwnedTupleGo t1 it v) (fun _ s₁ => wpAny (model prog w) A (assign t1 env v) (fun _ s₂ =>
          wpAny (model prog w) A (eval i2 env) (fun x s₃ => wpAny (model prog w) A (pyIter x) (fun it2 s₄ =>
            codeAny (model prog w) A (.compStart (.ListComp elt [⟨t1, i1, [], 0⟩, ⟨t2, i2, [], 0⟩] scope pos) 1 it2 acc env) (fun r s₅ => r = .ok .next ∧ ∃ m, m < n ∧ I m s₅) s₄) (fun _ _ => False) s₃) (fun _ _ => False) s₂) (fun _ _ => False) s₁) (fun _ _ => False) s₁) (fun _ _ => False) s)
    (n : Nat) (h : I n s) :
    codeAny (model prog w) A (.compLoop (.ListComp elt [⟨t1, i1, [], 0⟩, ⟨t2, i2, [], 0⟩] scope pos) 0 it acc env) R s := by
  refine codeAny_loop rfl I (fun n s hI => ?_) n h
  show wpAny _ A ((compTurn (.ListComp elt [⟨t1, i1, [], 0⟩, ⟨t2, i2, [], 0⟩] scope pos) 0 it acc env).onRaise (fun x => do noteFrame x env; theTreesLotGoes x)) _ _ s
  refine wpAny_noted ?_
  show wpAny _ A (do
    standAt i1.pos
    let r ← pyNext it
    match r with
    | none => pure (Fin.done Flow.next)
    | some v => do
      letOwnedTupleGo t1 it v
      assign t1 env v
      let ok ← forIn ([] : List Expr) true fun c r => if r = true then do let ok ← isTrue c env (eval c env); pure (ForInStep.yield ok) else pure (ForInStep.yield r)
      if ok = true then do
        let x ← eval i2 env
        standAt i2.pos
        let x ← foldedSetIterable i2 env x
        let it2 ← holding [x] (pyIter x)
        let _ ← runOwn (.compStart (.ListComp elt [⟨t1, i1, [], 0⟩, ⟨t2, i2, [], 0⟩] scope pos) 1 it2 acc env) env
        again (.compLoop (.ListComp elt [⟨t1, i1, [], 0⟩, ⟨t2, i2, [], 0⟩] scope pos) 0 it acc env)
      else again (.compLoop (.ListComp elt [⟨t1, i1, [], 0⟩, ⟨t2, i2, [], 0⟩] scope pos) 0 it acc env)) _ _ s
  refine wpAny_bind (wpAny_standAt (wpAny_bind (wpAny_mono (turn n s hI) (fun r s₁ h₁ => ?_) fun _ _ h' => h'.elim)))
  cases r with
  | none => exact wpAny_pure h₁
  | some v =>
    refine wpAny_bind (wpAny_mono h₁ (fun _ s₁ h₁ => ?_) fun _ _ h' => h'.elim)
    refine wpAny_bind (wpAny_mono h₁ (fun _ s₂ h₂ => wpAny_bind (wpAny_tests_nil ?_)) fun _ _ h' => h'.elim)
    rw [if_pos rfl]
    refine wpAny_bind (wpAny_mono h₂ (fun x s₃ h₃ => wpAny_bind (wpAny_standAt (wpAny_bind (wpAny_of_eq (hs x) (wpAny_bind (wpAny_holding (wpAny_mono h₃ (fun it2 s₄ h₄ => ?_) fun _ _ h' => h'.elim))))))) fun _ _ h' => h'.elim)
    refine wpAny_bind (wpAny_runOwn (codeAny_mono h₄ fun r s₅ h₅ => ?_))
    obtain ⟨rfl, h₅⟩ := h₅
    exact wpAny_pure ⟨rfl, h₅⟩
end
end L2
namespace L2
open PySem PySem.Spec PyProof.Rows
def rComp2 (ix : List (Option Nat)) (g : TG) (wi2 : TI) (g2 : TG) (te : TE) (σ : St) (Q : VK) (J : It) (H1 : Hp) : Prop :=
  ∃ W : WC, (∃ m, W 0 m [] (startC ix σ) H1) ∧ ∀ i m ys σ' H', W i m ys σ' H' →
    (J.stop i H' ∧ ys.length ≤ sizeLine ∧ ∀ p, H' p = none → Q (.ref p) (upd H' p (.lst ys))) ∨
    (J.go i H' ∧ ∀ x H2, J.yld i H' x H2 → g x σ' H2 fun σ2 H3 => wi2 σ2 H3 fun J2 H4 =>
      ∃ W2 : WC, (∃ m2, W2 0 m2 ys σ2 H4) ∧ ∀ j m2 ys' σ3 H5, W2 j m2 ys' σ3 H5 →
        (J2.stop j H5 ∧ ∃ m', m' < m ∧ W (i + 1) m' ys' σ3 H5) ∨
        (J2.go j H5 ∧ ys'.length < sizeLine ∧ ∀ y H6, J2.yld j H5 y H6 → g2 y σ3 H6 fun σ4 H7 => te σ4 H7 fun v H8 => ∃ m3, m3 < m2 ∧ W2 (j + 1) m3 (ys' ++ [v]) σ4 H8))
def tComp2 (ix : List (Option Nat)) (wi : TI) (g : TG) (wi2 : TI) (g2 : TG) (te : TE) : TE := fun σ H Q => wi σ H (rComp2 ix g wi2 g2 te σ Q)
section
variable {X : Cx} {scope : Scope} {N : List Str} {ix : List (Option Nat)} {elt tg iter tg2 iter2 : Expr} {g g2 : TG} {wi2 : TI} {te : TE} {pos : Pos}
theorem comp_block2 {pins : List (Addr × Obj)} {σ : St} {s2 : Shared} {Q : VK} {itv : Value} {RR : Value → Addr → Result → Shared → Prop} {E : Value → Shared → Prop} (c : CompOk X scope N ix) (hc : X.calm = true)
    (hg : ∀ C fp s H, PG (cxC X N scope C fp s H) tg g) (hi2 : ∀ C fp s H, PI (cxC X N scope C fp s H) tg2 iter2 wi2) (hg2 : ∀ C fp s H, PG (cxC X N scope C fp s H) tg2 g2) (he : ∀ C fp s H, PE (cxC X N scope C fp s H) elt te)
    (hs2 : ∀ C fp s H x, foldedSetIterable iter2 (cxC X N scope C fp s H).env x = pure x)
    (h2 : PIE X pins σ tg (rComp2 ix g wi2 g2 te σ Q) itv s2)
    (hR : ∀ (D C : Addr) (s' : Shared) (H' : Hp) (m : Str → Option Value), Inv X pins σ H' s' → s'.heap.Ns C m → H' C = none → X.s₀.heap.objs.size ≤ C → (∀ p ∈ X.pn ++ pins, p.1 ≠ C) → C ≠ X.env.locals → (∀ x c, X.env.cells.lookup x = some c → c ≠ C) → Q (.ref D) H' → RR (.ref D) C (.ok .next) s') :
    wpAny (model X.prog X.w) X.A (newList []) (fun acc s₃ => wpAny (model X.prog X.w) X.A (newFunctionEnv scope X.env.globals (closL X.env.cells scope.names []) [] X.env.qual none .none (some X.env)) (fun cenv s₄ =>
      codeAny (model X.prog X.w) X.A (.compStart (.ListComp elt [⟨tg, iter, [], 0⟩, ⟨tg2, iter2, [], 0⟩] scope pos) 0 itv acc { cenv with scope := relabel scope X.env }) (RR acc cenv.locals) s₄) E s₃) E s2 := by
  obtain ⟨it, fp, tn, J, H2, rfl, I2, T, st2, f2, W, ⟨m0, w0⟩, turn⟩ := h2
  refine wpAny_newObj_type (wpAny_newFunctionEnv c.nocell (by intro y hy; simp at hy) (fun h₁ hns₁ hsb₁ => ?_) c.kind)
  dsimp only at hns₁ hsb₁ ⊢
  generalize hH2 : s2.heap.push { cls := .type "list", dict := none, data := .seq ([] : List Value).toArray } = G2 at hns₁ hsb₁ ⊢
  have hCs : G2.objs.size = s2.heap.objs.size + 1 := by rw [← hH2, Heap.size_push]
  generalize hCe : G2.objs.size = C at hns₁ hsb₁ hCs ⊢
  generalize hDe : s2.heap.objs.size = D at hCs ⊢
  have ltC : ∀ b, @LT.lt Nat _ b D → b ≠ C := fun b hb => Nat.ne_of_lt (by rw [hCs]; exact Nat.lt_succ_of_lt hb)
  have ltS : ∀ b o, s2.heap.get? b = some o → @LT.lt Nat _ b D := fun b o e => by rw [← hDe]; exact Heap.lt_size e
  have hDC : D ≠ C := Nat.ne_of_lt (by rw [hCs]; exact Nat.lt_succ_self _)
  have old : ∀ b o, s2.heap.get? b = some o → h₁.get? b = some o := fun b o e => hsb₁.extBut b o (ltC b (ltS b o e)) (Heap.get?_push_of_some _ (hH2 ▸ Heap.get?_push_of_some _ e))
  have hoD : h₁.get? D = some { cls := .type "list", dict := none, data := .seq ([] : List Value).toArray } := by
    refine hsb₁.extBut _ _ hDC (Heap.get?_push_of_some _ ?_)
    rw [← hH2, ← hDe]
    exact Heap.get?_push_size _ rfl
  have I4 : Inv (cxC X N scope C fp s2 H2) (pins ++ [(D, { cls := .type "list", data := .seq ([] : List Value).toArray })]) (startC ix σ) H2 { s2 with heap := h₁, toks := s2.toks + ([] : List (Str × Value)).length } :=
    c.enter I2 f2 (T.obj _ _ st2) (by rw [hCs, hDe]) hDe.symm old hns₁ hoD fun v z => by cases z
  have st4 : tn 0 h₁ := T.keep _ _ _ st2 fun b _ o e => old b o e
  have pinD : ∀ p ∈ X.pn ++ pins, p.1 ≠ D := fun p hp => Nat.ne_of_lt (ltS _ _ (I2.pin p hp).1)
  have pinC : ∀ p ∈ X.pn ++ pins, p.1 ≠ C := fun p hp => ltC _ (ltS _ _ (I2.pin p hp).1)
  have celD : ∀ x d, X.env.cells.lookup x = some d → @LT.lt Nat _ d D := fun x d e => by
    obtain ⟨v, o, ho, _⟩ := I2.cell x d e
    exact ltS d o ho
  have fpD : ∀ b ∈ fp, @LT.lt Nat _ b D := fun b hb => by
    obtain ⟨o, e, _⟩ := T.obj _ _ st2 b hb
    exact ltS b o e
  have sub : ∀ x d, (closL X.env.cells scope.names []).lookup x = some d → X.env.cells.lookup x = some d := fun x d e => by
    rcases closL_sub e with z | z
    · simp at z
    · exact z
  have stat : ∀ {H' : Hp} {oD : Obj}, (∀ b ∈ fp, H' b = none) → ∀ b ∈ fp, FpOk (cxC X N scope C fp s2 H2) (pins ++ [(D, oD)]) H' b := fun {H' oD} hn b hb => by
    obtain ⟨f0, f1, f2, f3, f4, f5⟩ := f2 b hb
    refine ⟨hn b hb, ltC b (fpD b hb), fun z => ?_, .inl hb, fun x d e => f4 x d (sub x d e), fun p hp => ?_⟩
    · rcases List.mem_cons.mp (I2.stkSub b z) with e | e
      · exact f1 e
      · exact f2 e
    · have hp : p ∈ X.pn ++ (pins ++ [(D, oD)]) := hp
      rw [← List.append_assoc] at hp
      rcases List.mem_append.mp hp with z | z
      · exact f5 p z
      · have e : p = (D, oD) := by simpa using z
        subst e
        exact Nat.ne_of_gt (fpD b hb)
  have loop : ∀ s3 : Shared, s3 = { s2 with heap := h₁, toks := s2.toks + ([] : List (Str × Value)).length } →
      codeAny (model X.prog X.w) X.A (.compLoop (.ListComp elt [⟨tg, iter, [], 0⟩, ⟨tg2, iter2, [], 0⟩] scope pos) 0 (.ref it) (.ref D) (cxC X N scope C fp s2 H2).env) (RR (.ref D) C) s3 := by
    rintro s3 rfl
    refine compLoop0_any (hs2 C fp s2 H2) (fun n s' => ∃ i σ' H' ys its k, Inv (cxC X N scope C fp s2 H2) (pins ++ [(D, { cls := .type "list", data := .seq (List.toArray its) k })]) σ' H' s' ∧ tn i s'.heap ∧ (∀ b ∈ fp, H' b = none) ∧ Vals ys its ∧ W i n ys σ' H') ?_ m0
      ⟨0, _, H2, [], [], _, I4, st4, fun b hb => (f2 b hb).1, .nil, w0⟩
    rintro n s3 ⟨i, σ3, H3, ys, its, k, I3, st3, fr3, rv, w3⟩
    rcases turn i n ys σ3 H3 w3 with ⟨stop, hz, qn⟩ | ⟨go, step⟩
    · refine thn (T.done (cxC X N scope C fp s2 H2) rfl rfl rfl hc i _ s3 σ3 H3 _ I3 (stat fr3) st3 stop) fun r s4 ⟨hr, I4⟩ => ?_
      subst hr
      have hDn : H3 D = none := (I3.pin (D, _) (List.mem_append_right _ (List.mem_append_right _ List.mem_cons_self))).2.1
      obtain ⟨m4, hn4, _⟩ := id I4.loc
      refine hR D C s4 _ m4 (c.leave I2 f2 (by rw [hCs, hDe]) hDe.symm I4 rv hz) hn4 ?_ ?_ pinC ?_ (fun x d e => ltC d (celD x d e)) (qn D hDn)
      · rw [upd_ne hDC.symm]; exact I4.free
      · refine Nat.le_trans I2.sz ?_
        rw [hDe, hCs]; exact Nat.le_succ _
      · refine Nat.ne_of_gt (Nat.lt_of_lt_of_le I2.lt ?_)
        rw [hDe, hCs]; exact Nat.le_succ _
    · refine thn (T.item (cxC X N scope C fp s2 H2) rfl rfl rfl hc i _ s3 σ3 H3 _ I3 (stat fr3) st3 go) fun r s4 ⟨u, hr, h4⟩ => ?_
      subst hr
      refine thn h4 fun _ s5 ⟨x, H5, I5, r5, y5, st5, fr5⟩ => ?_
      have I5' := I5.pinned (stat fr5) (T.obj _ _ st5)
      refine thn (hg C fp s2 H2 _ s5 σ3 H5 x u _ I5' r5 (step x H5 y5)) fun _ s6 ⟨σ6, H6, I6, q6⟩ => ?_
      refine thn (hi2 C fp s2 H2 _ s6 σ6 H6 _ I6 q6) fun v s7 h7 => thn h7 fun itv2 s8 h8 => ?_
      obtain ⟨it2, fp2, tn2, J2, H8, rfl, I8, T2, st8, f8, W2, ⟨m20, w20⟩, turn2⟩ := h8
      have keep : ∀ {s' : Shared} {σ' : St} {H' : Hp} {oD : Obj}, Inv (cxC X N scope C fp s2 H2) ((pins ++ [(D, oD)]) ++ pinsAt fp s5.heap) σ' H' s' → tn (i + 1) s'.heap ∧ ∀ b ∈ fp, H' b = none := fun {s' σ' H' oD} I' => by
        refine ⟨T.keep _ _ _ st5 fun b hb o e => (I'.pin (b, o) (List.mem_append_right _ (List.mem_append_right _ (mem_pinsAt hb e)))).1, fun b hb => ?_⟩
        obtain ⟨o, e, d⟩ := T.obj _ _ st5 b hb
        exact (I'.pin (b, o) (List.mem_append_right _ (List.mem_append_right _ (mem_pinsAt hb e)))).2.1
      -- the inner iterator's objects
      have n2D : ∀ b ∈ fp2, b ≠ D := fun b hb z => by
        obtain ⟨f0, f1, f2', f3, f4, f5⟩ := f8 b hb
        exact f5 (D, _) (List.mem_append_right _ (List.mem_append_left _ (List.mem_append_right _ List.mem_cons_self))) z.symm
      have stat2 : ∀ {H' : Hp} {oD : Obj}, (∀ b ∈ fp2, H' b = none) → ∀ b ∈ fp2, FpOk (cxC X N scope C fp s2 H2) ((pins ++ [(D, oD)]) ++ pinsAt fp s5.heap) H' b := fun {H' oD} hn b hb => by
        obtain ⟨f0, f1, f2', f3, f4, f5⟩ := f8 b hb
        refine ⟨hn b hb, f1, f2', f3, f4, fun p hp => ?_⟩
        have hp : p ∈ X.pn ++ ((pins ++ [(D, oD)]) ++ pinsAt fp s5.heap) := hp
        rcases List.mem_append.mp hp with z | z
        · exact f5 p (List.mem_append_left _ z)
        · rcases List.mem_append.mp z with z | z
          · rcases List.mem_append.mp z with z | z
            · exact f5 p (List.mem_append_right _ (List.mem_append_left _ (List.mem_append_left _ z)))
            · have e : p = (D, oD) := by simpa using z
              subst e
              exact (n2D b hb).symm
          · exact f5 p (List.mem_append_right _ (List.mem_append_right _ z))
      have loop2 : ∀ s9 : Shared, s9 = s8 → codeAny (model X.prog X.w) X.A (.compLoop (.ListComp elt [⟨tg, iter, [], 0⟩, ⟨tg2, iter2, [], 0⟩] scope pos) 1 (.ref it2) (.ref D) (cxC X N scope C fp s2 H2).env)
          (fun r s₅ => r = .ok .next ∧ ∃ m, m < n ∧ ∃ i σ' H' ys its k, Inv (cxC X N scope C fp s2 H2) (pins ++ [(D, { cls := .type "list", data := .seq (List.toArray its) k })]) σ' H' s₅ ∧ tn i s₅.heap ∧ (∀ b ∈ fp, H' b = none) ∧ Vals ys its ∧ W i m ys σ' H') s9 := by
        rintro s9 rfl
        refine compLoop1_any (fun n' s' => ∃ j σ' H' ys' its' k', Inv (cxC X N scope C fp s2 H2) ((pins ++ [(D, { cls := .type "list", data := .seq (List.toArray its') k' })]) ++ pinsAt fp s5.heap) σ' H' s' ∧ tn2 j s'.heap ∧ (∀ b ∈ fp2, H' b = none) ∧ Vals ys' its' ∧ W2 j n' ys' σ' H') ?_ m20
          ⟨0, σ6, H8, ys, its, k, I8, st8, fun b hb => (f8 b hb).1, rv, w20⟩
        rintro n' s' ⟨j, σj, Hj, ysj, itsj, kj, Ij, stj, frj, rvj, wj⟩
        rcases turn2 j n' ysj σj Hj wj with ⟨stop2, m', hm', w'⟩ | ⟨go2, hz2, step2⟩
        · refine thn (T2.done (cxC X N scope C fp s2 H2) rfl rfl rfl hc j _ s' σj Hj _ Ij (stat2 frj) stj stop2) fun r s10 ⟨hr, I10⟩ => ?_
          subst hr
          obtain ⟨k1, k2⟩ := keep I10
          exact ⟨rfl, m', hm', i + 1, σj, Hj, ysj, itsj, kj, I10.unpinned, k1, k2, rvj, w'⟩
        · refine thn (T2.item (cxC X N scope C fp s2 H2) rfl rfl rfl hc j _ s' σj Hj _ Ij (stat2 frj) stj go2) fun r s10 ⟨u2, hr, h10⟩ => ?_
          subst hr
          refine thn h10 fun _ s11 ⟨y, H11, I11, r11, y11, st11, fr11⟩ => ?_
          have I11' := I11.pinned (stat2 fr11) (T2.obj _ _ st11)
          refine thn (hg2 C fp s2 H2 _ s11 σj H11 y u2 _ I11' r11 (step2 y H11 y11)) fun _ s12 ⟨σ12, H12, I12, q12⟩ => ?_
          refine thn (he C fp s2 H2 _ s12 σ12 H12 _ I12 q12) fun z s13 ⟨v13, H13, I13, r13, m3, hm3, w13⟩ => ?_
          have pD := I13.pin (D, _) (List.mem_append_right _ (List.mem_append_left _ (List.mem_append_left _ (List.mem_append_right _ List.mem_cons_self))))
          have I13v : Inv (cxC X N scope C fp s2 H2) pins σ12 H13 s13 := I13.unpinned.unpinned.unpinned
          have len := rvj.length
          have k12 : ∀ b ∈ fp2, H13 b = none := fun b hb => by
            obtain ⟨o, e, d⟩ := T2.obj _ _ st11 b hb
            exact (I13.pin (b, o) (List.mem_append_right _ (List.mem_append_right _ (mem_pinsAt hb e)))).2.1
          have k11 : tn2 (j + 1) s13.heap := T2.keep _ _ _ st11 fun b hb o e => (I13.pin (b, o) (List.mem_append_right _ (List.mem_append_right _ (mem_pinsAt hb e)))).1
          refine wpAny_list_append_plain (items := itsj.toArray) (hsz := by simp; omega) ⟨kj, pD.1⟩ fun h9 hl9 hs9 => ?_
          obtain ⟨k9, e9⟩ := hl9
          have I9 : Inv (cxC X N scope C fp s2 H2) pins σ12 H13 { s13 with heap := h9 } := by
            refine I13v.turned (t' := s13.toks) (it := D) (fun b o hb e => hs9.extBut b o hb e) pD.2.1 hDC (.inr ?_) (fun x d e => Nat.ne_of_lt (celD x d (sub x d e))) fun p hp => ?_
            · show s2.heap.objs.size ≤ D
              rw [hDe]; exact Nat.le_refl _
            · exact pinD p hp
          have e9' : h9.get? D = some { cls := .type "list", data := .seq (itsj ++ [z]).toArray k9 } := by
            rw [e9]; simp
          refine ⟨m3, hm3, j + 1, σ12, H13, ysj ++ [v13], itsj ++ [z], k9, I9.pins_of fun p hp => ?_, T2.keep _ _ _ k11 fun b hb o e => hs9.extBut b o (n2D b hb) e, k12, rvj.append (.cons r13 .nil), w13⟩
          rcases List.mem_append.mp hp with q | q
          · rcases List.mem_append.mp q with q | q
            · exact I9.pin p (List.mem_append_right _ q)
            · have e : p = (D, { cls := .type "list", data := .seq (itsj ++ [z]).toArray k9 }) := by simpa using q
              subst e
              exact ⟨e9', pD.2.1, pD.2.2.1, pD.2.2.2.1, fun v z => by cases z⟩
          · obtain ⟨hb, _⟩ := of_pinsAt q
            obtain ⟨a1, a2, a3, a4, a5⟩ := I13.pin p (List.mem_append_right _ (List.mem_append_left _ (List.mem_append_right _ q)))
            exact ⟨hs9.extBut p.1 p.2 (Nat.ne_of_lt (fpD p.1 hb)) a1, a2, a3, a4, a5⟩
      exact compStart1 (loop2 _ rfl) (T2.self _ 0 _ _ _ st8 (loop2 _ rfl))
  exact codeAny_compStart_list (loop _ rfl) (T.self _ 0 _ _ _ st4 (loop _ rfl))
variable {wi : TI}
theorem pe_comp2 (c : CompOk X scope N ix) (hc : X.calm = true) (hi : PI X tg iter wi) (hg : ∀ C fp s H, PG (cxC X N scope C fp s H) tg g) (hi2 : ∀ C fp s H, PI (cxC X N scope C fp s H) tg2 iter2 wi2) (hg2 : ∀ C fp s H, PG (cxC X N scope C fp s H) tg2 g2) (he : ∀ C fp s H, PE (cxC X N scope C fp s H) elt te)
    (hs : ∀ x, foldedSetIterable iter X.env x = pure x := by intro _; rfl) (hs2 : ∀ C fp s H x, foldedSetIterable iter2 (cxC X N scope C fp s H).env x = pure x := by intro _ _ _ _ _; rfl) : PE X (.ListComp elt [⟨tg, iter, [], 0⟩, ⟨tg2, iter2, [], 0⟩] scope pos) (tComp2 ix wi g wi2 g2 te) := by
  intro pins s σ H Q I h
  rw [eval_ListComp]
  have hcl : ∀ y ∈ scope.names, y.2 = NameKind.free → ∃ d, X.env.cells.lookup y.1 = some d := fun y hy e => I.ok.has _ (c.fr y hy e)
  refine wpAny_comprehension_free (use := none) rfl hs (closureFor_eq hcl) c.kind c.names (thn (hi pins s σ H _ I h) fun v s1 h1 => thn h1 fun itv s2 h2 => ?_)
  refine comp_block2 (RR := fun acc C => compPost (model X.prog X.w) X.A X.xe none (EP X pins σ Q) acc C) c hc hg hi2 hg2 he hs2 h2 ?_
  intro D C s' H' m I' hn hC hz hp hL hcells q
  exact ⟨m, hn, fun h' hs' => ⟨.ref D, H', I'.turned (t' := s'.toks) (fun b o hb e => hs'.extBut b o hb e) hC hL (.inr hz) hcells hp, rfl, q⟩⟩
end
end L2
namespace L2
open PySem PySem.Spec PyProof.Rows
theorem inner2L {K : PySem.W.Frag} {a : Addr} {xs : List V} {k : Nat} {te : TE} {ys : List V} {σ : St} {H : Hp} {R : List V → St → Hp → Prop} (Pw : Nat → List V → St → Hp → Prop) (h0 : Pw 0 ys σ H)
    (hl : ∀ j ys σ H, j ≤ xs.length → Pw j ys σ H → SqL K H a xs) (hz : ∀ j ys σ H, Pw j ys σ H → ys.length < 1000000)
    (hs : ∀ j ys σ H x (S : List V → St → Hp → Prop), xs[j]? = some x → Pw j ys σ H → (∀ ys' σ' H', Pw (j + 1) ys' σ' H' → S ys' σ' H') → te (σ.set k (some x)) H fun v H5 => S (ys ++ [v]) (σ.set k (some x)) H5)
    (hd : ∀ ys σ H, Pw xs.length ys σ H → R ys σ H) :
    ∃ W2 : WC, (∃ m2, W2 0 m2 ys σ H) ∧ ∀ j m2 ys' σ3 H5, W2 j m2 ys' σ3 H5 →
      ((Itl K a).stop j H5 ∧ R ys' σ3 H5) ∨
      ((Itl K a).go j H5 ∧ ys'.length < sizeLine ∧ ∀ y H6, (Itl K a).yld j H5 y H6 → gName k y σ3 H6 fun σ4 H7 => te σ4 H7 fun v H8 => ∃ m3, m3 < m2 ∧ W2 (j + 1) m3 (ys' ++ [v]) σ4 H8) := by
  have big : (1000000 : Nat) < sizeLine := by decide
  refine ⟨fun j m ys σ H => m = xs.length - j ∧ j ≤ xs.length ∧ Pw j ys σ H, ⟨xs.length, by simp, Nat.zero_le _, h0⟩, ?_⟩
  rintro j m ys' σ3 H5 ⟨rfl, hj, p⟩
  have hy := hz j ys' σ3 H5 p
  by_cases hlt : j < xs.length
  · refine .inr ⟨⟨xs, xs[j], hl j ys' σ3 H5 hj p, by simp [hlt]⟩, by omega, fun y H6 yy => ?_⟩
    obtain ⟨rfl, yy⟩ := yy
    unfold gName
    exact hs j ys' σ3 _ y (fun ys2 σ2 H2 => ∃ m3, m3 < xs.length - j ∧ (m3 = xs.length - (j + 1) ∧ j + 1 ≤ xs.length ∧ Pw (j + 1) ys2 σ2 H2)) (yy xs (hl j ys' σ3 _ hj p)) p fun ys2 σ2 H2 q => ⟨xs.length - (j + 1), by omega, rfl, hlt, q⟩
  · have e : j = xs.length := by omega
    subst e
    exact .inl ⟨⟨xs, hl _ ys' σ3 H5 (Nat.le_refl _) p, Nat.le_refl _⟩, hd ys' σ3 H5 p⟩
theorem comp2L {K : PySem.W.Frag} {ix : List (Option Nat)} {wi2 : TI} {g2 : TG} {te : TE} {σ : St} {Q : VK} {H : Hp} {a : Addr} {xs : List V} {k : Nat} (Pv : Nat → List V → St → Hp → Prop) (h0 : Pv 0 [] (startC ix σ) H)
    (hl : ∀ i ys σ H, i ≤ xs.length → Pv i ys σ H → SqL K H a xs) (hz : ∀ i ys σ H, Pv i ys σ H → ys.length < 1000000)
    (hs : ∀ i ys σ H x (R : List V → St → Hp → Prop), xs[i]? = some x → Pv i ys σ H → (∀ ys' σ' H', Pv (i + 1) ys' σ' H' → R ys' σ' H') → wi2 (σ.set k (some x)) H fun J2 H4 =>
      ∃ W2 : WC, (∃ m2, W2 0 m2 ys (σ.set k (some x)) H4) ∧ ∀ j m2 ys' σ3 H5, W2 j m2 ys' σ3 H5 →
        (J2.stop j H5 ∧ R ys' σ3 H5) ∨
        (J2.go j H5 ∧ ys'.length < sizeLine ∧ ∀ y H6, J2.yld j H5 y H6 → g2 y σ3 H6 fun σ4 H7 => te σ4 H7 fun v H8 => ∃ m3, m3 < m2 ∧ W2 (j + 1) m3 (ys' ++ [v]) σ4 H8))
    (hd : ∀ ys σ' H' p, Pv xs.length ys σ' H' → H' p = none → Q (.ref p) (upd H' p (.lst ys))) : rComp2 ix (gName k) wi2 g2 te σ Q (Itl K a) H := by
  have big : (1000000 : Nat) < sizeLine := by decide
  refine ⟨fun i m ys σ H => m = xs.length - i ∧ i ≤ xs.length ∧ Pv i ys σ H, ⟨xs.length, by simp, Nat.zero_le _, h0⟩, ?_⟩
  rintro i m ys σ' H' ⟨rfl, hi, p⟩
  have hy := hz i ys σ' H' p
  by_cases hlt : i < xs.length
  · refine .inr ⟨⟨xs, xs[i], hl i ys σ' H' hi p, by simp [hlt]⟩, fun x H2 yy => ?_⟩
    obtain ⟨rfl, yy⟩ := yy
    unfold gName
    exact hs i ys σ' _ x (fun ys2 σ2 H2 => ∃ m3, m3 < xs.length - i ∧ (m3 = xs.length - (i + 1) ∧ i + 1 ≤ xs.length ∧ Pv (i + 1) ys2 σ2 H2)) (yy xs (hl i ys σ' _ hi p)) p fun ys2 σ2 H2 q => ⟨xs.length - (i + 1), by omega, rfl, hlt, q⟩
  · have e : i = xs.length := by omega
    subst e
    exact .inl ⟨⟨xs, hl _ ys σ' H' (Nat.le_refl _) p, Nat.le_refl _⟩, by omega, fun q hq => hd ys σ' H' q p hq⟩
end L2
namespace L2
open PySem PySem.Spec PyProof.Rows
section
variable {X : Cx} {K : PySem.W.Frag}
def rAny (K : PySem.W.Frag) : List V → Hp → VK → Prop := fun xs H Q => ∃ (p : Addr) (bs : List Bool), xs = [.ref p] ∧ SqL K H p (bs.map V.bl) ∧ Q (.bl (bs.any id)) H
theorem call_any (hK : X.K = K) (hc : X.calm = true) : CallR X (.builtin "any") (rAny K) := by
  subst hK
  intro pins s σ H xs us Q I r h
  obtain ⟨p, bs, rfl, hl, q⟩ := h
  obtain ⟨u, rfl, rx⟩ := vals1 r
  cases rx
  obtain ⟨its, rv, pl, hz⟩ := I.list hl
  have e := vals_bools rv
  subst e
  refine call_any_walk (wpAny_pyIter_list pl.isList ?_)
  have lt : p < s.heap.objs.size := by obtain ⟨o, n, e, _⟩ := pl; exact Heap.lt_size e
  refine ⟨s.heap.objs.size, _, _, _, _, _, fun i => bs.getD i false, rfl, Walks.list (A := X.A.in1) (show X.A.in1.handled = none from I.ok.hd hc) s.heap.objs.size p (Nat.ne_of_lt lt) (bs.map Value.bool).toArray, ?_, ?_, ?_⟩
  · exact ⟨⟨_, Heap.get?_push_size _ rfl, rfl, rfl⟩, pl.isList.at fun o e => Heap.get?_push_of_some _ e⟩
  · intro i v s' Q' E' hP hQ'
    have hP : (bs.map Value.bool)[i]? = some v := by simpa using hP
    rw [List.getElem?_map] at hP
    cases hb : bs[i]? with
    | none => rw [hb] at hP; cases hP
    | some b =>
      rw [hb] at hP
      cases hP
      have hQ' : Q' (bs.getD i false) s' := hQ'
      rw [show bs.getD i false = b by rw [List.getD_eq_getElem?_getD, hb]; rfl] at hQ'
      exact wpAny_truthy_bool hQ'
  · intro h' tk hk
    have e : (List.range (bs.map Value.bool).toArray.size).any (fun i => bs.getD i false) = bs.any id := by
      have key : ∀ (l : List Bool), (List.range l.length).any (fun i => l.getD i false) = l.any id := by
        intro l
        induction l with
        | nil => rfl
        | cons b r ih =>
          rw [List.length_cons, List.range_succ_eq_map, List.any_cons, List.any_cons, List.any_map, ← ih]
          rfl
      simpa using key bs
    rw [e]
    refine ⟨.bl (bs.any id), H, ?_, rfl, q⟩
    refine (I.kept (t' := s.toks) (h' := h') fun b o e => hk b o (fun z => ?_) (Heap.get?_push_of_some _ e)).tok tk
    have z : b = s.heap.objs.size := by simpa using z
    exact absurd (Heap.lt_size e) (by rw [z]; exact Nat.lt_irrefl _)
end
end L2
namespace L2
open PySem PySem.Spec PyProof.Rows PySem.SeqAt
inductive NumEs (pr : Params) : List DictEntry → List (Str × Int) → Prop
  | nil : NumEs pr [] []
  | cons {x : Str} {y : Int} {t u : Tok} {es : List DictEntry} {ps : List (Str × Int)} : NumEs pr es ps → NumEs pr ({ hash := PyData.keyHash pr x, key := .str x t, val := .int y u } :: es) ((x, y) :: ps)
structure KNum (K : PySem.W.Frag) (pr : Params) (a : Addr) (ps : List (Str × Int)) : Prop where
  sys : (a == sysModules) = false
  nd : (ps.map (·.1)).Nodup
  ex : ∃ (es : List DictEntry) (ep : Nat), K.lookup a = some { cls := .type "dict", data := .dict es.toArray ep } ∧ NumEs pr es ps
end L2
namespace L2
open PySem PySem.Spec PyProof.Rows PySem.SeqAt
open PySem.AutoSeq1 (wpAny_loadPart')
open PySem.MeetsSeq PySem.MeetsSeq2 PySem.MeetsSeq3
def HdAt (h : Heap) (v : Value) (a : Int) : Prop := ∃ (l : Addr) (xs : Array Value) (n : Nat) (t : Tok), v = .ref l ∧ h.get? l = some { cls := .type "list", data := .seq xs n } ∧ xs[0]? = some (.int a t)
structure Rising (h : Heap) (vs : List Value) (hs : List Int) : Prop where
  len : hs.length = vs.length
  up : ∀ (i : Nat) (a c : Int), hs[i]? = some a → hs[i + 1]? = some c → a < c
  head : ∀ (i : Nat) (v : Value) (a : Int), vs[i]? = some v → hs[i]? = some a → HdAt h v a
section
variable {prog : Program} {w : World} {A : Around} {E : Value → Shared → Prop} {s : Shared}
theorem firsts_none {Q : List (Option Value) → Shared → Prop} : ∀ {vs : List Value}, (∀ v ∈ vs, s.TypeIs v "list") → Q (vs.map fun _ => none) s → wpAny (model prog w) A (vs.mapM firstOfTuple') Q E s
  | [], _, q => by rw [List.mapM_nil]; exact wpAny_pure q
  | v :: vs, h, q => by
    rw [List.mapM_cons]
    refine wpAny_bind (wpAny_bind (wpAny_typeOf (h v List.mem_cons_self) ?_))
    rw [if_pos (by decide)]
    exact wpAny_pure (wpAny_bind (thn (firsts_none (Q := fun r z => Q (none :: r) z) (fun u hu => h u (List.mem_cons_of_mem _ hu)) q) fun r s' z' => wpAny_pure z'))
theorem types_list {Q : List Value → Shared → Prop} : ∀ {vs : List Value}, (∀ v ∈ vs, s.TypeIs v "list") → Q (vs.map fun _ => Value.type "list") s → wpAny (model prog w) A (vs.mapM typeOf) Q E s
  | [], _, q => by rw [List.mapM_nil]; exact wpAny_pure q
  | v :: vs, h, q => by
    rw [List.mapM_cons]
    refine wpAny_bind (wpAny_typeOf (h v List.mem_cons_self) ?_)
    exact wpAny_bind (thn (types_list (Q := fun r z => Q (.type "list" :: r) z) (fun u hu => h u (List.mem_cons_of_mem _ hu)) q) fun r s' z' => wpAny_pure z')
theorem kind_lists {vs : List Value} {Q : SortKind → Shared → Prop} (h0 : vs ≠ []) (h : ∀ v ∈ vs, s.TypeIs v "list") (q : Q oneType' s) : wpAny (model prog w) A (keyKind' vs.toArray) Q E s := by
  obtain ⟨v, r, rfl⟩ : ∃ v r, vs = v :: r := by
    cases vs with
    | nil => exact absurd rfl h0
    | cons v r => exact ⟨v, r, rfl⟩
  rw [keyKind'_eq, List.mapM_toArray]
  simp only [map_eq_pure_bind, bind_assoc, pure_bind]
  refine wpAny_bind (firsts_none h ?_)
  rw [if_neg (by simp), if_neg (by simp), oneTypeOnly'_eq, List.mapM_toArray]
  simp only [map_eq_pure_bind, bind_assoc, pure_bind]
  refine wpAny_bind (types_list h ?_)
  have e : ((List.map (fun _ => Value.type "list") (v :: r)).toArray.all fun x => x == Value.type "list") = true := by
    rw [List.all_toArray, List.all_map, List.all_eq_true]
    exact fun _ _ => rfl
  simp only [List.map_cons, List.getElem?_toArray, List.getElem?_cons_zero] at e ⊢
  rw [if_pos e]
  exact wpAny_pure q
theorem zip_snd {vs : List Value} : (vs.toArray.zip vs.toArray).map (·.2) = vs.toArray := by
  apply Array.toList_inj.mp
  rw [Array.toList_map, Array.toList_zip]
  simp [List.map_snd_zip]
end
end L2
namespace L2
open PySem PySem.W PyProof.Rows
def KSat {α : Type} (N : Nat) (rk : Nat → Int) : KasT α → (α → Prop) → Prop
  | .ret a, P => P a
  | .ask i j k, P => (i < N ∧ j < N) ∧ KSat N rk (k (decide (rk i < rk j))) P
section
variable {N : Nat} {rk : Nat → Int}
theorem KSat.mono {α : Type} : ∀ {t : KasT α} {P Q : α → Prop}, KSat N rk t P → (∀ a, P a → Q a) → KSat N rk t Q
  | .ret _, _, _, h, k => k _ h
  | .ask i j f, P, Q, h, k => ⟨h.1, KSat.mono (t := f (decide (rk i < rk j))) h.2 k⟩
theorem KSat.bind {α β : Type} : ∀ {t : KasT α} {f : α → KasT β} {P : β → Prop}, KSat N rk t (fun a => KSat N rk (f a) P) → KSat N rk (t.bind f) P
  | .ret _, _, _, h => h
  | .ask i j k, f, P, h => ⟨h.1, KSat.bind (t := k (decide (rk i < rk j))) h.2⟩
theorem KSat.wp {α : Type} {cmp : Nat → Nat → (Bool → Shared → Prop) → Shared → Prop} {s : Shared} (hc : ∀ i j C, i < N → j < N → C (decide (rk i < rk j)) s → cmp i j C s) : ∀ {t : KasT α} {P : α → Prop} {Q : α → Shared → Prop}, KSat N rk t P → (∀ a, P a → Q a s) → t.kasWp cmp Q s
  | .ret _, _, _, h, k => k _ h
  | .ask i j f, P, Q, h, k => hc i j _ h.1.1 h.1.2 (KSat.wp hc (t := f (decide (rk i < rk j))) h.2 k)
def KP (rk : Nat → Int) (p : Array Nat) (i : Nat) : Int := rk (p.getD i 0)
def Srt (rk : Nat → Int) (k : Nat) (p : Array Nat) : Prop := ∀ i j, i ≤ j → j < k → KP rk p i ≤ KP rk p j
def Fal (rk : Nat → Int) (k : Nat) (p : Array Nat) : Prop := ∀ i j, i ≤ j → j < k → KP rk p j ≤ KP rk p i
theorem KP_congr {p q : Array Nat} {i j : Nat} (h : p[i]? = q[j]?) : KP rk p i = KP rk q j := by
  unfold KP
  rw [Array.getD_eq_getD_getElem?, Array.getD_eq_getD_getElem?, h]
theorem KP_rev {p : Array Nat} {i j : Nat} (hj : j ≤ p.size) (k : Nat) : KP rk (kas_rev p i j) k = if i ≤ k ∧ k < j then KP rk p (i + j - 1 - k) else KP rk p k := by
  have e := getElem?_mirror_all (xs := p) (i := i) hj k
  unfold kas_rev
  by_cases h : i ≤ k ∧ k < j
  · rw [if_pos h] at e ⊢; exact KP_congr e
  · rw [if_neg h] at e ⊢; exact KP_congr e
theorem KP_bub {p : Array Nat} {src d : Nat} (hs : src < p.size) (hd : d ≤ src) (k : Nat) : KP rk (bubble p src d) k = if k = src - d then KP rk p src else if src - d < k ∧ k ≤ src then KP rk p (k - 1) else KP rk p k := by
  have e := getElem?_bubble hs d hd k
  by_cases h1 : k = src - d
  · rw [if_pos h1] at e ⊢; exact KP_congr e
  · rw [if_neg h1] at e ⊢
    by_cases h2 : src - d < k ∧ k ≤ src
    · rw [if_pos h2] at e ⊢; exact KP_congr e
    · rw [if_neg h2] at e ⊢; exact KP_congr e
theorem rev_same {p : Array Nat} {i j : Nat} (hj : j ≤ p.size) (h : ∀ k, i ≤ k → k < j → KP rk p k = KP rk p (j - 1)) (k : Nat) : KP rk (kas_rev p i j) k = KP rk p k := by
  rw [KP_rev hj]
  split
  · rename_i z
    rw [h (i + j - 1 - k) (by omega) (by omega), h k (by omega) (by omega)]
  · rfl
theorem rev_size (p : Array Nat) (i j : Nat) : (kas_rev p i j).size = p.size := mirror_size _ _ _ _
theorem rev_perm (p : Array Nat) (i j : Nat) : (kas_rev p i j).Perm p := mirror_perm _ _ _ _
def Bdd (N : Nat) (p : Array Nat) : Prop := ∀ i, p.getD i 0 < N
theorem Bdd.of {p q : Array Nat} (hN : 0 < N) (pm : p.Perm q) (hq : ∀ x ∈ q.toList, x < N) : Bdd N p := fun i => by
  rw [Array.getD_eq_getD_getElem?]
  cases h : p[i]? with
  | none => exact hN
  | some x =>
    have : x ∈ p := Array.mem_of_getElem? h
    exact hq x (Array.mem_toList_iff.mpr (pm.mem_iff.mp this))
theorem asc_sat (p : Array Nat) (hp : Bdd N p) : ∀ (f n : Nat), 1 ≤ n → Srt rk n p → KSat N rk (kas_asc p f n) fun m => n ≤ m ∧ m ≤ n + f ∧ Srt rk m p ∧ (m = n + f ∨ KP rk p m < KP rk p (m - 1))
  | 0, n, h1, hs => ⟨Nat.le_refl _, Nat.le_refl _, hs, .inl rfl⟩
  | f + 1, n, h1, hs => by
    refine ⟨⟨hp _, hp _⟩, ?_⟩
    show KSat N rk (if decide (rk (p.getD n 0) < rk (p.getD (n - 1) 0)) = true then .ret n else kas_asc p f (n + 1)) _
    by_cases c : rk (p.getD n 0) < rk (p.getD (n - 1) 0)
    · rw [if_pos (decide_eq_true c)]
      exact ⟨Nat.le_refl _, by omega, hs, .inr c⟩
    · rw [if_neg (by simpa using c)]
      have c : KP rk p (n - 1) ≤ KP rk p n := Int.not_lt.mp c
      refine KSat.mono (asc_sat p hp f (n + 1) (by omega) fun i j hij hj => ?_) fun m ⟨a, b, d, e⟩ => ⟨by omega, by omega, d, e.elim (fun e => .inl (by omega)) .inr⟩
      by_cases z : j < n
      · exact hs i j hij z
      · have : j = n := by omega
        subst this
        by_cases z : i = j
        · subst z; exact Int.le_refl _
        · exact Int.le_trans (hs i (j - 1) (by omega) (by omega)) c
structure DescOk (rk : Nat → Int) (p₀ p : Array Nat) (n q : Nat) : Prop where
  perm : p.Perm p₀
  size : p.size = p₀.size
  fal : Fal rk n p
  same : ∀ i, n - (q + 1) ≤ i → i < n → KP rk p i = KP rk p (n - 1)
  q1 : q + 1 ≤ n
theorem desc_sat {p₀ : Array Nat} (hN : 0 < N) (h0 : ∀ x ∈ p₀.toList, x < N) : ∀ (f : Nat) (p : Array Nat) (n q : Nat), n + f ≤ p₀.size → DescOk rk p₀ p n q → KSat N rk (kas_desc f p n q) fun r => n ≤ r.2.1 ∧ r.2.1 ≤ n + f ∧ DescOk rk p₀ r.1 r.2.1 r.2.2
  | 0, p, n, q, _, d => ⟨Nat.le_refl _, Nat.le_refl _, d⟩
  | f + 1, p, n, q, hz, d => by
    have hsz := d.size
    have hq := d.q1
    have fal1 : ∀ {p' : Array Nat}, (∀ k, KP rk p' k = KP rk p k) → KP rk p n ≤ KP rk p (n - 1) → Fal rk (n + 1) p' := fun {p'} e le i j hij hj => by
      rw [e, e]
      by_cases z : j < n
      · exact d.fal i j hij z
      · have : j = n := by omega
        subst this
        by_cases z : i = j
        · subst z; exact Int.le_refl _
        · exact Int.le_trans le (d.fal i (j - 1) (by omega) (by omega))
    have hp := Bdd.of hN d.perm h0
    refine ⟨⟨hp _, hp _⟩, ?_⟩
    show KSat N rk (if decide (rk (p.getD n 0) < rk (p.getD (n - 1) 0)) = true then (if q > 0 then kas_desc f (kas_rev p (n - (q + 1)) n) (n + 1) 0 else kas_desc f p (n + 1) 0)
      else .ask (p.getD (n - 1) 0) (p.getD n 0) fun d => if d = true then .ret (p, n, q) else kas_desc f p (n + 1) (q + 1)) _
    by_cases c : rk (p.getD n 0) < rk (p.getD (n - 1) 0)
    · rw [if_pos (decide_eq_true c)]
      have le : KP rk p n ≤ KP rk p (n - 1) := Int.le_of_lt c
      have one : ∀ p', DescOk rk p₀ p' (n + 1) 0 → KSat N rk (kas_desc f p' (n + 1) 0) fun r => n ≤ r.2.1 ∧ r.2.1 ≤ n + (f + 1) ∧ DescOk rk p₀ r.1 r.2.1 r.2.2 := fun p' d' => KSat.mono (desc_sat hN h0 f p' (n + 1) 0 (by omega) d') fun r ⟨a, b, e⟩ => ⟨by omega, by omega, e⟩
      have lone : ∀ {p' : Array Nat} (i : Nat), n + 1 - (0 + 1) ≤ i → i < n + 1 → KP rk p' i = KP rk p' (n + 1 - 1) := fun {p'} i h1 h2 => by rw [show i = n + 1 - 1 by omega]
      by_cases z : q > 0
      · rw [if_pos z]
        have e := rev_same (rk := rk) (p := p) (i := n - (q + 1)) (j := n) (by omega) d.same
        exact one _ ⟨(rev_perm p _ _).trans d.perm, by rw [rev_size]; exact hsz, fal1 e le, lone, by omega⟩
      · rw [if_neg z]
        exact one _ ⟨d.perm, hsz, fal1 (fun _ => rfl) le, lone, by omega⟩
    · rw [if_neg (by simpa using c)]
      have c1 : KP rk p (n - 1) ≤ KP rk p n := Int.not_lt.mp c
      refine ⟨⟨hp _, hp _⟩, ?_⟩
      show KSat N rk (if decide (rk (p.getD (n - 1) 0) < rk (p.getD n 0)) = true then .ret (p, n, q) else kas_desc f p (n + 1) (q + 1)) _
      by_cases c2 : rk (p.getD (n - 1) 0) < rk (p.getD n 0)
      · rw [if_pos (decide_eq_true c2)]
        exact ⟨Nat.le_refl _, by show n ≤ n + (f + 1); omega, d⟩
      · rw [if_neg (by simpa using c2)]
        have c2 : KP rk p n ≤ KP rk p (n - 1) := Int.not_lt.mp c2
        refine KSat.mono (desc_sat hN h0 f p (n + 1) (q + 1) (by omega) ⟨d.perm, hsz, fal1 (fun _ => rfl) c2, fun i h1 h2 => ?_, by omega⟩) fun r ⟨a, b, e⟩ => ⟨by omega, by omega, e⟩
        rw [show n + 1 - 1 = n by omega]
        by_cases z : i = n
        · rw [z]
        · rw [d.same i (by omega) (by omega)]
          omega
def RunOk (rk : Nat → Int) (p₀ : Array Nat) (nrem : Nat) (r : Nat × Array Nat) : Prop := r.2.Perm p₀ ∧ r.2.size = p₀.size ∧ 1 ≤ r.1 ∧ r.1 ≤ nrem ∧ Srt rk r.1 r.2
theorem tail_sat {p₀ p : Array Nat} {n nrem : Nat} (hN : 0 < N) (h0 : ∀ x ∈ p₀.toList, x < N) (h1 : 1 ≤ n) (hn : n ≤ nrem) (hz : nrem ≤ p₀.size) (pm : p.Perm p₀) (sz : p.size = p₀.size) (fl : Fal rk n p) : KSat N rk (kas_tail3 n nrem p) (RunOk rk p₀ nrem) := by
  unfold kas_tail3
  refine KSat.bind (KSat.mono (asc_sat (kas_rev p 0 n) (Bdd.of hN ((rev_perm p 0 n).trans pm) h0) (nrem - n) n h1 fun i j hij hj => ?_) fun m ⟨a, b, c, _⟩ => ⟨(rev_perm p 0 n).trans pm, by rw [rev_size]; exact sz, by omega, by omega, c⟩)
  rw [KP_rev (by omega), KP_rev (by omega), if_pos ⟨by omega, by omega⟩, if_pos ⟨by omega, by omega⟩]
  exact fl _ _ (by omega) (by omega)
theorem descPart_sat {p₀ p : Array Nat} {n nrem : Nat} (hN : 0 < N) (h0 : ∀ x ∈ p₀.toList, x < N) (hn : n + 1 ≤ nrem) (hz : nrem ≤ p₀.size) (d : DescOk rk p₀ p (n + 1) 0) : KSat N rk (kas_descPart n nrem p) (RunOk rk p₀ nrem) := by
  unfold kas_descPart
  refine KSat.bind (KSat.mono (desc_sat hN h0 (nrem - (n + 1)) p (n + 1) 0 (by omega) d) ?_)
  rintro ⟨p', n', q'⟩ ⟨a, b, d'⟩
  dsimp only at a b d'
  have sz := d'.size
  show KSat N rk (if q' > 0 then kas_tail3 n' nrem (kas_rev p' (n' - (q' + 1)) n') else kas_tail3 n' nrem p') _
  by_cases z : q' > 0
  · rw [if_pos z]
    have e := rev_same (rk := rk) (p := p') (i := n' - (q' + 1)) (j := n') (by omega) d'.same
    exact tail_sat hN h0 (by omega) (by omega) hz ((rev_perm p' _ _).trans d'.perm) (by rw [rev_size]; exact sz) fun i j hij hj => by rw [e, e]; exact d'.fal i j hij hj
  · rw [if_neg z]
    exact tail_sat hN h0 (by omega) (by omega) hz d'.perm sz d'.fal
theorem count_sat {p : Array Nat} {nrem : Nat} (hN : 0 < N) (h0 : ∀ x ∈ p.toList, x < N) (h1 : 1 ≤ nrem) (hz : nrem ≤ p.size) : KSat N rk (kas_count nrem p) (RunOk rk p nrem) := by
  unfold kas_count
  refine KSat.bind (KSat.mono (asc_sat p (Bdd.of hN (Array.Perm.refl _) h0) (nrem - 1) 1 (Nat.le_refl _) fun i j hij hj => by rw [show i = j by omega]; exact Int.le_refl _) ?_)
  rintro n ⟨a, b, hs, e⟩
  by_cases z : n = nrem
  · rw [if_pos (by simpa using z)]
    exact ⟨Array.Perm.refl _, rfl, a, by omega, hs⟩
  · rw [if_neg (by simpa using z)]
    have lt : KP rk p n < KP rk p (n - 1) := by
      rcases e with e | e
      · omega
      · exact e
    by_cases z1 : n > 1
    · rw [if_pos z1]
      have hp := Bdd.of hN (Array.Perm.refl p) h0
      refine ⟨⟨hp _, hp _⟩, ?_⟩
      show KSat N rk (if decide (rk (p.getD 0 0) < rk (p.getD (n - 1) 0)) = true then .ret (n, p) else kas_descPart n nrem (kas_rev p 0 n)) _
      by_cases c : rk (p.getD 0 0) < rk (p.getD (n - 1) 0)
      · rw [if_pos (decide_eq_true c)]
        exact ⟨Array.Perm.refl _, rfl, a, by omega, hs⟩
      · rw [if_neg (by simpa using c)]
        have c : KP rk p (n - 1) ≤ KP rk p 0 := Int.not_lt.mp c
        have same : ∀ k, 0 ≤ k → k < n → KP rk p k = KP rk p (n - 1) := fun k _ hk => by
          have x1 := hs 0 k (by omega) hk
          have x2 := hs k (n - 1) (by omega) (by omega)
          omega
        have ee := rev_same (rk := rk) (p := p) (i := 0) (j := n) (by omega) same
        refine descPart_sat hN h0 (by omega) hz ⟨rev_perm p 0 n, rev_size p 0 n, fun i j hij hj => ?_, fun i x1 x2 => by rw [show i = n + 1 - 1 by omega], by omega⟩
        rw [ee, ee]
        by_cases w : j < n
        · rw [same j (by omega) w, same i (by omega) (by omega)]; exact Int.le_refl _
        · have : j = n := by omega
          subst this
          by_cases w : i = j
          · subst w; exact Int.le_refl _
          · rw [same i (by omega) (by omega)]; exact Int.le_of_lt lt
    · rw [if_neg z1]
      have n1 : n = 1 := by omega
      subst n1
      refine descPart_sat hN h0 (by omega) hz ⟨Array.Perm.refl _, rfl, fun i j hij hj => ?_, fun i x1 x2 => by rw [show i = 1 + 1 - 1 by omega], by omega⟩
      by_cases w : i = j
      · subst w; exact Int.le_refl _
      · rw [show i = 0 by omega, show j = 1 by omega]; exact Int.le_of_lt lt
theorem place_sat {p : Array Nat} {k : Nat} (hp : Bdd N p) (hs : Srt rk k p) : ∀ (f l r : Nat), l ≤ r → r ≤ k → r - l ≤ f → (∀ i, i < l → KP rk p i ≤ KP rk p k) → (∀ i, r ≤ i → i < k → KP rk p k < KP rk p i) → KSat N rk (kas_place p k f l r) fun l' => l' ≤ k ∧ (∀ i, i < l' → KP rk p i ≤ KP rk p k) ∧ ∀ i, l' ≤ i → i < k → KP rk p k < KP rk p i
  | 0, l, r, h1, h2, h3, ha, hb => ⟨by omega, ha, fun i a b => hb i (by omega) b⟩
  | f + 1, l, r, h1, h2, h3, ha, hb => by
    unfold kas_place
    by_cases z : l ≥ r
    · rw [if_pos z]
      exact ⟨by omega, ha, fun i a b => hb i (by omega) b⟩
    · rw [if_neg z]
      refine ⟨⟨hp _, hp _⟩, ?_⟩
      show KSat N rk (if decide (rk (p.getD k 0) < rk (p.getD ((l + r) / 2) 0)) = true then kas_place p k f l ((l + r) / 2) else kas_place p k f ((l + r) / 2 + 1) r) _
      by_cases c : rk (p.getD k 0) < rk (p.getD ((l + r) / 2) 0)
      · rw [if_pos (decide_eq_true c)]
        exact place_sat hp hs f l ((l + r) / 2) (by omega) (by omega) (by omega) ha fun i x y => Int.lt_of_lt_of_le c (hs _ i x y)
      · rw [if_neg (by simpa using c)]
        have c : KP rk p ((l + r) / 2) ≤ KP rk p k := Int.not_lt.mp c
        exact place_sat hp hs f ((l + r) / 2 + 1) r (by omega) h2 (by omega) (fun i x => Int.le_trans (hs i _ (by omega) (by omega)) c) hb
theorem bin_sat {p₀ : Array Nat} (hN : 0 < N) (h0 : ∀ x ∈ p₀.toList, x < N) : ∀ (f : Nat) (p : Array Nat) (k : Nat), p.Perm p₀ → p.size = p₀.size → k + f ≤ p.size → Srt rk k p → KSat N rk (kas_bin f p k) fun p' => p'.Perm p₀ ∧ p'.size = p₀.size ∧ Srt rk (k + f) p'
  | 0, p, k, pm, sz, _, hs => ⟨pm, sz, hs⟩
  | f + 1, p, k, pm, sz, hk, hs => by
    unfold kas_bin
    refine KSat.bind (KSat.mono (place_sat (Bdd.of hN pm h0) hs k 0 k (by omega) (Nat.le_refl _) (by omega) (fun i h => by omega) fun i a b => by omega) fun l ⟨l1, lo, hi⟩ => ?_)
    refine KSat.mono (bin_sat hN h0 f (bubble p k (k - l)) (k + 1) ((bubble_perm p k _).trans pm) (by rw [bubble_size]; exact sz) (by rw [bubble_size]; omega) fun i j hij hj => ?_) fun p' ⟨a, b, c⟩ => ⟨a, b, by rw [show k + (f + 1) = k + 1 + f by omega]; exact c⟩
    rw [KP_bub (by omega) (by omega), KP_bub (by omega) (by omega), show k - (k - l) = l by omega]
    by_cases i1 : i = l
    · rw [if_pos i1]
      by_cases j1 : j = l
      · rw [if_pos j1]; exact Int.le_refl _
      · rw [if_neg j1, if_pos ⟨by omega, by omega⟩]
        exact Int.le_of_lt (hi (j - 1) (by omega) (by omega))
    · rw [if_neg i1]
      by_cases i2 : l < i ∧ i ≤ k
      · rw [if_pos i2, if_neg (by omega), if_pos ⟨by omega, by omega⟩]
        exact hs (i - 1) (j - 1) (by omega) (by omega)
      · rw [if_neg i2]
        have il : i < l := by omega
        by_cases j1 : j = l
        · rw [if_pos j1]; exact lo i il
        · rw [if_neg j1]
          by_cases j2 : l < j ∧ j ≤ k
          · rw [if_pos j2]
            exact hs i (j - 1) (by omega) (by omega)
          · rw [if_neg j2]
            exact hs i j hij (by omega)
theorem sort_sat {n : Nat} (h : 1 ≤ n) : KSat n rk (kas_sort n) fun p => p.Perm (List.toArray (List.range n)) ∧ p.size = n ∧ Srt rk n p := by
  have sz : (List.toArray (List.range n)).size = n := by simp
  unfold kas_sort
  have h0 : ∀ x ∈ (List.toArray (List.range n)).toList, x < n := fun x hx => List.mem_range.mp hx
  refine KSat.bind (KSat.mono (count_sat (by omega) h0 h (by omega)) ?_)
  rintro ⟨m, p⟩ ⟨pm, ps, m1, m2, hs⟩
  dsimp only at pm ps m1 m2 hs
  show KSat n rk (if m < n then kas_bin (n - max m 1) p (max m 1) else .ret p) _
  by_cases z : m < n
  · rw [if_pos z, Nat.max_eq_left m1]
    refine KSat.mono (bin_sat (by omega) h0 (n - m) p m pm (by omega) (by omega) hs) fun p' ⟨a, b, c⟩ => ⟨a, by omega, ?_⟩
    rwa [show m + (n - m) = n by omega] at c
  · rw [if_neg z]
    have : m = n := by omega
    subst this
    exact ⟨pm, by omega, hs⟩
end
end L2
namespace L2
open PySem PySem.Spec PyProof.Rows PySem.SeqAt
open PySem.AutoSeq1 (wpAny_loadPart')
open PySem.MeetsSeq PySem.MeetsSeq2 PySem.MeetsSeq3
def lexB : List Int → List Int → Bool
  | [], [] => false
  | [], _ :: _ => true
  | _ :: _, [] => false
  | a :: r, c :: q => if a = c then lexB r q else decide (a < c)
def IntsAt (xs : Array Value) (ns : List Int) : Prop := xs.size = ns.length ∧ ∀ (i : Nat) (a : Int), ns[i]? = some a → ∃ t, xs[i]? = some (.int a t)
theorem IntsAt.out {xs : Array Value} {ns : List Int} (h : IntsAt xs ns) {i : Nat} (hi : ns.length ≤ i) : xs[i]? = none := Array.getElem?_eq_none (by rw [h.1]; exact hi)
theorem lt_loopG (l b : Addr) (xs ys : Array Value) (n m : Nat) {ns ms : List Int} (hx : IntsAt xs ns) (hy : IntsAt ys ms) : ∀ (f i : Nat), ns.length ≤ i + f → i ≤ ns.length →
    Meets (Builtin.«list.__eq__.loop» ⟨[.ref l, .ref b, rawInt (i : Int), rawInt 0], []⟩)
      (fun _ R s => s.heap.get? l = some { cls := .type "list", data := .seq xs n } ∧ s.heap.get? b = some { cls := .type "list", data := .seq ys m } ∧ R (.ok (.ret (.bool (lexB (ns.drop i) (ms.drop i))))) s) := by
  have ends : ∀ (i : Nat), (ns.length ≤ i ∨ ms.length ≤ i) → i ≤ ns.length → lexB (ns.drop i) (ms.drop i) = decide (xs.size < ys.size) ∨ False := fun i h1 h2 => by
    left
    rw [hx.1, hy.1]
    by_cases z : ns.length ≤ i
    · rw [List.drop_eq_nil_of_le z]
      cases hm : ms.drop i with
      | nil =>
        have := List.drop_eq_nil_iff.mp hm
        show false = _
        rw [decide_eq_false (by omega)]
      | cons c q =>
        have : i < ms.length := by
          have := congrArg List.length hm
          rw [List.length_drop, List.length_cons] at this
          omega
        show true = _
        rw [decide_eq_true (by omega)]
    · have z2 : ms.length ≤ i := by omega
      rw [List.drop_eq_nil_of_le z2, decide_eq_false (by omega)]
      cases hm : ns.drop i with
      | nil => have := List.drop_eq_nil_iff.mp hm; omega
      | cons c q => rfl
  have stop : ∀ (i : Nat), (ns.length ≤ i ∨ ms.length ≤ i) → i ≤ ns.length → Meets (Builtin.«list.__eq__.loop» ⟨[.ref l, .ref b, rawInt (i : Int), rawInt 0], []⟩)
      (fun _ R s => s.heap.get? l = some { cls := .type "list", data := .seq xs n } ∧ s.heap.get? b = some { cls := .type "list", data := .seq ys m } ∧ R (.ok (.ret (.bool (lexB (ns.drop i) (ms.drop i))))) s) := by
    intro i h1 h2 prog w A R s h
    obtain ⟨hp, g, d, tk, os⟩ := s
    obtain ⟨hl, hb, h⟩ := h
    rw [(ends i h1 h2).resolve_right id] at h
    wp_walk using wpAny_loadPart' hl, wpAny_loadPart' hb
    rcases h1 with z | z
    · have e1 : xs[Int.toNat (i : Int)]? = none := hx.out (by rw [Int.toNat_natCast]; omega)
      rw [e1]
      dsimp only
      wp_walk using wpAny_loadPart' hl, wpAny_loadPart' hb
      exact h
    · have e2 : ys[Int.toNat (i : Int)]? = none := hy.out (by rw [Int.toNat_natCast]; omega)
      rw [e2]
      cases xs[Int.toNat (i : Int)]? with
      | none =>
        dsimp only
        wp_walk using wpAny_loadPart' hl, wpAny_loadPart' hb
        exact h
      | some v =>
        dsimp only
        wp_walk using wpAny_loadPart' hl, wpAny_loadPart' hb
        exact h
  intro f
  induction f with
  | zero => intro i h1 h2; exact stop i (.inl (by omega)) h2
  | succ f ih =>
    intro i h1 h2
    by_cases z : ns.length ≤ i ∨ ms.length ≤ i
    · exact stop i z h2
    · intro prog w A R s h
      obtain ⟨hp, g, d, tk, os⟩ := s
      obtain ⟨hl, hb, h⟩ := h
      have i1 : i < ns.length := by omega
      have i2 : i < ms.length := by omega
      obtain ⟨t, ht⟩ := hx.2 i ns[i] (List.getElem?_eq_getElem i1)
      obtain ⟨u, hu⟩ := hy.2 i ms[i] (List.getElem?_eq_getElem i2)
      rw [List.drop_eq_getElem_cons i1, List.drop_eq_getElem_cons i2] at h
      generalize ns[i] = a at ht h
      generalize ms[i] = c at hu h
      wp_walk using wpAny_loadPart' hl, wpAny_loadPart' hb
      have e1 : xs[Int.toNat (i : Int)]? = some (.int a t) := ht
      have e2 : ys[Int.toNat (i : Int)]? = some (.int c u) := hu
      rw [e1, e2]
      dsimp only
      have q := EqAt.int_int (A := A.in1) (s := ⟨hp, g, d, tk, os⟩) a t c u
      by_cases ac : a = c
      · rw [show (a == c) = true from by simpa using ac] at q
        refine wpAny_bind (q prog w _ _ ?_)
        wp_walk
        refine ⟨plainId_quiet plain_eq_loop _, codeAny_builtin entry_eq_loop ?_⟩
        rw [Around.under_plainId plain_eq_loop _]
        refine ih (i + 1) (by omega) (by omega) prog w A R _ ⟨hl, hb, ?_⟩
        have h : R (.ok (.ret (.bool (if a = c then lexB (ns.drop (i + 1)) (ms.drop (i + 1)) else decide (a < c))))) _ := h
        rw [if_pos ac] at h
        exact h
      · rw [show (a == c) = false from by simpa using ac] at q
        refine wpAny_bind (q prog w _ _ ?_)
        have lt := HT.rcLt_int A.in1 ⟨hp, g, d, tk, os⟩ a t c u prog w
        wp_walk using wpAny_loadPart' hl, wpAny_loadPart' hb
        rw [e1, e2]
        wp_walk using lt
        have h : R (.ok (.ret (.bool (if a = c then lexB (ns.drop (i + 1)) (ms.drop (i + 1)) else decide (a < c))))) _ := h
        rw [if_neg ac] at h
        exact h
theorem lt_listsG (l b : Addr) (xs ys : Array Value) (n m : Nat) {ns ms : List Int} (hx : IntsAt xs ns) (hy : IntsAt ys ms) :
    Meets (Builtin.«list.__lt__» ⟨[.ref l, .ref b], []⟩)
      (fun _ R s => s.heap.get? l = some { cls := .type "list", data := .seq xs n } ∧ s.heap.get? b = some { cls := .type "list", data := .seq ys m } ∧ R (.ok (.ret (.bool (lexB ns ms)))) s) := by
  intro prog w A R s h
  obtain ⟨hp, g, d, tk, os⟩ := s
  obtain ⟨hl, hb, h⟩ := h
  have sub : isSubtype (.type "list") (.type "list") = pure true := by rw [isSubtype_type]; kernel_rfl
  wp_walk using wpAny_loadPart' hl, wpAny_loadPart' hb
  refine ⟨plainId_quiet plain_eq_loop _, codeAny_builtin entry_eq_loop ?_⟩
  rw [Around.under_plainId plain_eq_loop _]
  exact lt_loopG l b xs ys n m hx hy ns.length 0 (by omega) (by omega) prog w A R _ ⟨hl, hb, h⟩
section
variable {prog : Program} {w : World} {A : Around} {E : Value → Shared → Prop} {s : Shared}
def LisAt (h : Heap) (v : Value) (ns : List Int) : Prop := ∃ (l : Addr) (xs : Array Value) (n : Nat), v = .ref l ∧ h.get? l = some { cls := .type "list", data := .seq xs n } ∧ IntsAt xs ns
theorem oneLt_lists {x y : Value} {ns ms : List Int} {Q : Bool → Shared → Prop} (hx : LisAt s.heap x ns) (hy : LisAt s.heap y ms) (hu : A.units < cLine) (q : Q (lexB ns ms) s) : wpAny (model prog w) A (oneLt' true x y) Q E s := by
  obtain ⟨l, xs, n, rfl, e1, f1⟩ := hx
  obtain ⟨b, ys, m, rfl, e2, f2⟩ := hy
  rw [oneLt'_eq, if_pos rfl]
  refine wpAny_bind (wpAny_cRoomFor hu ?_)
  refine wpAny_bind (wpAny_callSpecialIfBound?_slot ⟨_, e1, rfl⟩ F.slot_list_lt (call_meets F.slot_list_lt ⟨_, e1, rfl⟩ F.entry_list_lt (F.args_list_lt_2 _ _) (lt_listsG l b xs ys n m f1 f2) ⟨e1, e2, ?_⟩))
  exact wpAny_truthy_bool q
end
end L2
namespace L2
open PySem PySem.Spec PyProof.Rows PySem.SeqAt
structure Hds (H : Hp) (vs : List V) (hs : List Int) : Prop where
  len : hs.length = vs.length
  up : ∀ (i : Nat) (a c : Int), hs[i]? = some a → hs[i + 1]? = some c → a < c
  head : ∀ (i : Nat) (v : V) (a : Int), vs[i]? = some v → hs[i]? = some a → ∃ (b : Addr) (ns : List Int), v = .ref b ∧ H b = some (.lst (ns.map V.int)) ∧ ns[0]? = some a
end L2
namespace L2
open PySem PySem.Spec PyProof.Rows PySem.SeqAt PySem.W
theorem lexB_irr : ∀ a : List Int, lexB a a = false
  | [] => rfl
  | x :: a => by show (if x = x then lexB a a else _) = false; rw [if_pos rfl]; exact lexB_irr a
theorem lexB_trans : ∀ {a b c : List Int}, lexB a b = true → lexB b c = true → lexB a c = true
  | [], _ :: _, _ :: _, _, _ => rfl
  | [], [], _, h, _ => by cases h
  | [], _ :: _, [], _, h => by cases h
  | _ :: _, [], _, h, _ => by cases h
  | _ :: _, _ :: _, [], _, h => by cases h
  | x :: a, y :: b, z :: c, h1, h2 => by
    have h1 : (if x = y then lexB a b else decide (x < y)) = true := h1
    have h2 : (if y = z then lexB b c else decide (y < z)) = true := h2
    show (if x = z then lexB a c else decide (x < z)) = true
    by_cases e1 : x = y
    · rw [if_pos e1] at h1
      by_cases e2 : y = z
      · rw [if_pos e2] at h2
        rw [if_pos (e1.trans e2)]
        exact lexB_trans h1 h2
      · rw [if_neg e2] at h2
        rw [if_neg (by rw [e1]; exact e2), e1]
        exact h2
    · rw [if_neg e1] at h1
      have l1 : x < y := of_decide_eq_true h1
      by_cases e2 : y = z
      · rw [if_neg (by rw [← e2]; exact e1), ← e2]
        exact h1
      · rw [if_neg e2] at h2
        have l2 : y < z := of_decide_eq_true h2
        rw [if_neg (by omega)]
        exact decide_eq_true (by omega)
theorem lexB_tot : ∀ {a b : List Int}, lexB a b = false → lexB b a = false → a = b
  | [], [], _, _ => rfl
  | [], _ :: _, h, _ => by cases h
  | _ :: _, [], _, h => by cases h
  | x :: a, y :: b, h1, h2 => by
    have h1 : (if x = y then lexB a b else decide (x < y)) = false := h1
    have h2 : (if y = x then lexB b a else decide (y < x)) = false := h2
    by_cases e : x = y
    · rw [if_pos e] at h1
      rw [if_pos e.symm] at h2
      rw [e, lexB_tot h1 h2]
    · rw [if_neg e] at h1
      rw [if_neg (fun z => e z.symm)] at h2
      have := of_decide_eq_false h1
      have := of_decide_eq_false h2
      omega
theorem countP_less {α : Type} {p q : α → Bool} : ∀ {l : List α} {x : α}, (∀ y ∈ l, p y = true → q y = true) → x ∈ l → p x = false → q x = true → l.countP p < l.countP q
  | y :: l, x, h, hx, h1, h2 => by
    rw [List.countP_cons, List.countP_cons]
    have le : l.countP p ≤ l.countP q := List.countP_mono_left fun z hz => h z (List.mem_cons_of_mem _ hz)
    rcases List.mem_cons.mp hx with e | hx
    · subst e
      rw [h1, h2, if_neg Bool.false_ne_true, if_pos rfl]
      omega
    · have := countP_less (fun z hz => h z (List.mem_cons_of_mem _ hz)) hx h1 h2
      by_cases c : p y = true
      · rw [if_pos c, if_pos (h y List.mem_cons_self c)]; omega
      · rw [if_neg c]; omega
def rkL (Ls : List (List Int)) (i : Nat) : Int := (Ls.countP fun M => lexB M (Ls.getD i []) : Nat)
theorem rkL_lt {Ls : List (List Int)} {i j : Nat} (hi : i < Ls.length) (hj : j < Ls.length) : decide (rkL Ls i < rkL Ls j) = lexB (Ls.getD i []) (Ls.getD j []) := by
  have mi : Ls.getD i [] ∈ Ls := by rw [List.getD_eq_getElem?_getD, List.getElem?_eq_getElem hi]; exact List.getElem_mem hi
  have mj : Ls.getD j [] ∈ Ls := by rw [List.getD_eq_getElem?_getD, List.getElem?_eq_getElem hj]; exact List.getElem_mem hj
  unfold rkL
  generalize Ls.getD i [] = a at mi ⊢
  generalize Ls.getD j [] = b at mj ⊢
  cases h : lexB a b with
  | true =>
    have := countP_less (l := Ls) (p := fun M => lexB M a) (q := fun M => lexB M b) (fun y _ hy => lexB_trans hy h) mi (lexB_irr a) h
    exact decide_eq_true (by omega)
  | false =>
    cases h2 : lexB b a with
    | true =>
      have := countP_less (l := Ls) (p := fun M => lexB M b) (q := fun M => lexB M a) (fun y _ hy => lexB_trans hy h2) mj (lexB_irr b) h2
      exact decide_eq_false (by omega)
    | false =>
      rw [lexB_tot h h2]
      exact decide_eq_false (by omega)
section
variable {prog : Program} {w : World} {A : Around} {E : Value → Shared → Prop} {s : Shared}
theorem LisAt.keep {h h' : Heap} {v : Value} {ns : List Int} (x : LisAt h v ns) (k : ∀ b o, h.get? b = some o → h'.get? b = some o) : LisAt h' v ns := by
  obtain ⟨l, xs, n, e1, e2, e3⟩ := x
  exact ⟨l, xs, n, e1, k _ _ e2, e3⟩
def AllLis (h : Heap) (vs : List Value) (Ls : List (List Int)) : Prop := Ls.length = vs.length ∧ ∀ (i : Nat) (v : Value) (L : List Int), vs[i]? = some v → Ls[i]? = some L → LisAt h v L
def OrdP (Ls : List (List Int)) (p : List Nat) : Prop := p.Perm (List.range Ls.length) ∧ ∀ i j, i ≤ j → j < Ls.length → lexB (Ls.getD (p.getD j 0) []) (Ls.getD (p.getD i 0) []) = false
theorem sort_lists {a : Addr} {vs : List Value} {Ls : List (List Int)} {n : Nat} {P : Fin → Shared → Prop} (ho : s.heap.get? a = some (seqObj "list" vs.toArray n)) (h64 : vs.length < 64) (hu : A.units < cLine)
    (hr : ∀ h', (∀ b o, b ≠ a → s.heap.get? b = some o → h'.get? b = some o) → AllLis h' vs Ls) (q : ∀ p : List Nat, OrdP Ls p → P (.done (.ret .none)) { s with heap := sortedHeap s.heap a vs (p.map fun i => vs.getD i Value.none).toArray }) :
    wpAny (model prog w) A (Builtin.«list.sort» ⟨[.ref a], []⟩) P E s := by
  rw [list_sort_plain]
  have la : a < s.heap.objs.size := Heap.lt_size ho
  obtain ⟨k, hk⟩ : ∃ k, (s.heap.update a (Obj.mapSeq fun _ => #[])).get? a = some (seqObj "list" #[] k) := ⟨_, get?_update_seq ho (fun _ => #[])⟩
  refine wpAny_bind (listItems_at ho rfl (wpAny_bind (listUpdate_at ho rfl (wpAny_bind (seqEpoch_at hk rfl (wpAny_bind (wpAny_newTuple (wpAny_bind (wpAny_newList (wpAny_holding ?_))))))))))
  have h6 : (((s.heap.update a (Obj.mapSeq fun _ => #[])).push (seqObj "tuple" vs.toArray 0)).push (seqObj "list" #[] 0)).get? a = some (seqObj "list" #[] k) := Heap.get?_push_of_some _ (Heap.get?_push_of_some _ hk)
  have R := hr (((s.heap.update a (Obj.mapSeq fun _ => #[])).push (seqObj "tuple" vs.toArray 0)).push (seqObj "list" #[] 0)) fun b o hb e => Heap.get?_push_of_some _ (Heap.get?_push_of_some _ ((Heap.get?_update_other _ _ (Ne.symm hb)).trans e))
  show wpAny (model prog w) A _ P E { s with heap := ((s.heap.update a (Obj.mapSeq fun _ => #[])).push (seqObj "tuple" vs.toArray 0)).push (seqObj "list" #[] 0) }
  generalize eS : ({ s with heap := ((s.heap.update a (Obj.mapSeq fun _ => #[])).push (seqObj "tuple" vs.toArray 0)).push (seqObj "list" #[] 0) } : Shared) = S
  have h6' : S.heap.get? a = some (seqObj "list" #[] k) := by rw [← eS]; exact h6
  have R' : AllLis S.heap vs Ls := by rw [← eS]; exact R
  have q' : ∀ p : List Nat, OrdP Ls p → P (.done (.ret .none)) { S with heap := S.heap.update a (Obj.mapSeq fun _ => (p.map fun i => vs.getD i Value.none).toArray) } := by rw [← eS]; exact q
  dsimp only
  have vz : vs.toArray.size = vs.length := List.size_toArray
  have big : (10000000 : Nat) ≤ sizeLine := by decide
  have fin : ∀ (st : SortSt) (p : List Nat), OrdP Ls p → (arrOf st).map (·.2) = (p.map fun i => vs.getD i Value.none).toArray → failedOf st = none → wpAny (model prog w) A (do
      let touched := (← seqEpoch a) != k
      Builtin.List.listUpdate (.ref a) fun _ => (arrOf st).map (·.2)
      if let some e := failedOf st then rule "list.sort.comparison-raised"; throw e
      if touched then rule "list.sort.modified"; raiseError "ValueError" "list modified during sort"
      ret .none) P E S := fun st p hp e1 e2 => by
    rw [e1, e2]
    have pl : p.length = vs.length := by rw [hp.1.length_eq, List.length_range, R'.1]
    refine wpAny_bind (seqEpoch_at h6' rfl ?_)
    refine wpAny_bind (listUpdate_at h6' rfl ?_ (hsz2 := by rw [List.size_toArray, List.length_map]; omega))
    simp only [bne_self_eq_false, Bool.false_eq_true, if_false]
    exact wpAny_pure (q' p hp)
  by_cases h2 : vs.toArray.size < 2
  · rw [if_pos h2, if_pos h2]
    refine wpAny_bind (wpAny_pure ?_)
    rw [StateT.run_pure]
    refine wpAny_bind (wpAny_pure ?_)
    refine fin (SortSt.mk' general' (vs.toArray.zip vs.toArray) #[] 7 none) (List.range vs.length) ⟨by rw [R'.1], fun i j hij hj => ?_⟩ ?_ rfl
    · have : i = j := by rw [R'.1] at hj; omega
      rw [this]
      exact lexB_irr _
    · have zs : (arrOf (SortSt.mk' general' (vs.toArray.zip vs.toArray) #[] 7 none)).map (·.2) = vs.toArray := zip_snd
      rw [zs]
      congr 1
      refine List.ext_getElem? fun i => ?_
      rw [List.getElem?_map]
      by_cases z : i < vs.length
      · rw [List.getElem?_range z]
        show vs[i]? = some (vs.getD i Value.none)
        rw [List.getD_eq_getElem?_getD, List.getElem?_eq_getElem z]
        rfl
      · rw [List.getElem?_eq_none (by omega), List.getElem?_eq_none (by rw [List.length_range]; omega)]
        rfl
  · rw [if_neg h2, if_neg h2]
    have n2 : 2 ≤ vs.length := by omega
    have ty : ∀ v ∈ vs, S.TypeIs v "list" := fun v hv => by
      obtain ⟨i, hi, e⟩ := List.mem_iff_getElem.mp hv
      obtain ⟨l, xs, m, rfl, e1, _⟩ := R'.2 i v (Ls[i]'(by rw [R'.1]; exact hi)) (by rw [List.getElem?_eq_getElem hi, e]) (List.getElem?_eq_getElem (by rw [R'.1]; exact hi))
      exact ⟨_, e1, rfl⟩
    refine wpAny_bind (kind_lists (by intro z; subst z; simp at h2) ty ?_)
    have est : SortSt.mk' oneType' (vs.toArray.zip vs.toArray) #[] 7 none = kas_st oneType' (pairsOf vs) (List.toArray (List.range vs.length)) := by
      have e := kas_range (pairsOf vs)
      rw [pairsOf_size] at e
      show SortSt.mk' oneType' (pairsOf vs) #[] 7 none = SortSt.mk' oneType' ((List.toArray (List.range vs.length)).map (kas_item (pairsOf vs))) #[] 7 none
      rw [e]
    have at_ : ∀ i, i < vs.length → LisAt S.heap (kas_item (pairsOf vs) i).1 (Ls.getD i []) := fun i hi => by
      rw [kas_item_eq]
      have i2 : i < Ls.length := by rw [R'.1]; exact hi
      refine R'.2 i _ _ ?_ ?_
      · show vs[i]? = some (vs.getD i Value.none)
        rw [List.getD_eq_getElem?_getD, List.getElem?_eq_getElem hi]; rfl
      · rw [List.getD_eq_getElem?_getD, List.getElem?_eq_getElem i2]; rfl
    have ask : (kas_sort vs.length).kasWp (kas_cmp prog w A oneType' (pairsOf vs)) (fun p s' => s' = S ∧ p.Perm (List.toArray (List.range vs.length)) ∧ p.size = vs.length ∧ Srt (rkL Ls) vs.length p) S :=
      KSat.wp (fun i j C hi hj h => by
        unfold kas_cmp
        rw [keyLt'_oneType]
        refine oneLt_lists (at_ i hi) (at_ j hj) hu ?_
        rw [← rkL_lt (by rw [R'.1]; exact hi) (by rw [R'.1]; exact hj)]
        exact h) (sort_sat (rk := rkL Ls) (n := vs.length) (by omega)) fun p hp => ⟨rfl, hp⟩
    have run := kas_runs (E := E) (Q := fun _ st' s' => s' = S ∧ ∃ p : Array Nat, arrOf st' = p.map (kas_item (pairsOf vs)) ∧ failedOf st' = none ∧ p.Perm (List.toArray (List.range vs.length)) ∧ p.size = vs.length ∧ Srt (rkL Ls) vs.length p)
      n2 h64 (fun p' st' s' a1 a2 a3 a4 => ⟨a4.1, p', a2, a3, a4.2⟩) ask
    rw [← est] at run
    refine wpAny_bind (wpAny_mono run ?_ fun _ _ e => e)
    rintro ⟨⟨⟩, st⟩ s' ⟨rfl, p, har, hf, pm, ps, hs⟩
    refine fin st p.toList ⟨?_, fun i j hij hj => ?_⟩ ?_ hf
    · rw [R'.1]
      exact Array.perm_iff_toList_perm.mp pm
    · have bd := Bdd.of (N := vs.length) (by omega) pm fun x hx => List.mem_range.mp hx
      have hj' : j < vs.length := by rw [← R'.1]; exact hj
      have le := hs i j hij hj'
      have e1 : ∀ i, p.toList.getD i 0 = p.getD i 0 := fun i => by rw [List.getD_eq_getElem?_getD, Array.getElem?_toList, Array.getD_eq_getD_getElem?]
      rw [e1, e1, ← rkL_lt (by rw [R'.1]; exact bd j) (by rw [R'.1]; exact bd i)]
      unfold KP at le
      exact decide_eq_false (by omega)
    · apply Array.toList_inj.mp
      rw [har, Array.map_map, Array.toList_map]
      exact List.map_congr_left fun i _ => by show (kas_item (pairsOf vs) i).2 = _; rw [kas_item_eq]
end
end L2
namespace Sw
open PySem L2
def Cov (n : Int) (Ls : List (List Int)) : Prop := (∀ L ∈ Ls, L ≠ []) ∧ Ls.flatten.Perm (ivl 1 (n + 1))
theorem ivl_nodup3 (n : Int) : (ivl 1 (n + 1)).Nodup := (ord_plain n).nodup
theorem ivl_mem3 {n x : Int} : x ∈ ivl 1 (n + 1) ↔ 1 ≤ x ∧ x ≤ n := (ord_plain n).mem
theorem pick_perm {α : Type} (d : α) {Ls : List α} {π : List Nat} (h : π.Perm (List.range Ls.length)) : (π.map fun i => Ls.getD i d).Perm Ls := by
  have := h.map fun i => Ls.getD i d
  refine this.trans (List.Perm.of_eq ?_)
  apply List.ext_getElem?
  intro i
  rw [List.getElem?_map]
  by_cases hi : i < Ls.length
  · rw [List.getElem?_range hi, Option.map_some, List.getD_eq_getElem?_getD, List.getElem?_eq_getElem hi]; rfl
  · rw [List.getElem?_eq_none (by rw [List.length_range]; omega), List.getElem?_eq_none (by omega)]; rfl
end Sw
namespace L2
open PySem PySem.Spec PyProof.Rows
def Up (l : List Nat) : Prop := l.Pairwise (· < ·)
theorem Up.at {l : List Nat} (h : Up l) {i j x y : Nat} (hx : l[i]? = some x) (hy : l[j]? = some y) (hij : i < j) : x < y := by
  obtain ⟨hi, e1⟩ := List.getElem?_eq_some_iff.mp hx
  obtain ⟨hj, e2⟩ := List.getElem?_eq_some_iff.mp hy
  rw [← e1, ← e2]
  exact List.pairwise_iff_getElem.mp h i j hi hj hij
theorem below_go {l : List Nat} (h : Up l) (j : Nat) : ∀ (f lo hi : Nat), hi - lo ≤ f → lo ≤ hi → hi ≤ l.length → (∀ k x, k < lo → l[k]? = some x → x < j) → (∀ k x, hi ≤ k → l[k]? = some x → j ≤ x) →
    (∀ k x, k < SetTable.below.go l.toArray j f lo hi → l[k]? = some x → x < j) ∧ (∀ k x, SetTable.below.go l.toArray j f lo hi ≤ k → l[k]? = some x → j ≤ x) ∧ SetTable.below.go l.toArray j f lo hi ≤ l.length
  | 0, lo, hi, hf, hle, hl, h1, h2 => by
    have : lo = hi := by omega
    subst this
    exact ⟨h1, h2, hl⟩
  | f + 1, lo, hi, hf, hle, hl, h1, h2 => by
    unfold SetTable.below.go
    by_cases c : lo < hi
    · rw [if_pos c]
      have hm : (lo + hi) / 2 < l.length := by omega
      have hg : l[(lo + hi) / 2]? = some l[(lo + hi) / 2] := List.getElem?_eq_getElem hm
      have hd : l.toArray.getD ((lo + hi) / 2) j = l[(lo + hi) / 2] := by
        simp [Array.getD, hm]
      dsimp only
      rw [hd]
      by_cases d : l[(lo + hi) / 2] < j
      · rw [if_pos d]
        refine below_go h j f _ hi (by omega) (by omega) hl (fun k x hk hx => ?_) h2
        by_cases e : k = (lo + hi) / 2
        · subst e; rw [hg] at hx; cases hx; exact d
        · exact Nat.lt_trans (h.at hx hg (by omega)) d
      · rw [if_neg d]
        refine below_go h j f lo _ (by omega) (by omega) (by omega) h1 (fun k x hk hx => ?_)
        by_cases e : k = (lo + hi) / 2
        · subst e; rw [hg] at hx; cases hx; omega
        · have := h.at hg hx (by omega); omega
    · rw [if_neg c]
      have : lo = hi := by omega
      subst this
      exact ⟨h1, h2, hl⟩
theorem below_spec {l : List Nat} (h : Up l) (j : Nat) : (∀ k x, k < SetTable.below l.toArray j → l[k]? = some x → x < j) ∧ (∀ k x, SetTable.below l.toArray j ≤ k → l[k]? = some x → j ≤ x) ∧ SetTable.below l.toArray j ≤ l.length := by
  unfold SetTable.below
  rw [List.size_toArray]
  exact below_go h j l.length 0 l.length (by omega) (by omega) (by omega) (fun k x hk => by omega) (fun k x hk hx => by have := (List.getElem?_eq_some_iff.mp hx).1; omega)
theorem below_is {l : List Nat} (h : Up l) {j i : Nat} (hi : i ≤ l.length) (h1 : ∀ k x, k < i → l[k]? = some x → x < j) (h2 : ∀ k x, i ≤ k → l[k]? = some x → j ≤ x) : SetTable.below l.toArray j = i := by
  obtain ⟨b1, b2, b3⟩ := below_spec h j
  rcases Nat.lt_trichotomy (SetTable.below l.toArray j) i with c | c | c
  · have hb : SetTable.below l.toArray j < l.length := by omega
    have e := List.getElem?_eq_getElem hb
    have := h1 _ _ c e
    have := b2 _ _ (Nat.le_refl _) e
    omega
  · exact c
  · have hb : i < l.length := by omega
    have e := List.getElem?_eq_getElem hb
    have := b1 _ _ c e
    have := h2 _ _ (Nat.le_refl _) e
    omega
theorem below_not {l : List Nat} (h : Up l) {j : Nat} (n : (l[SetTable.below l.toArray j]? == some j) = false) : j ∉ l := fun hm => by
  obtain ⟨k, hk, e⟩ := List.getElem_of_mem hm
  have ek : l[k]? = some j := by rw [List.getElem?_eq_getElem hk, e]
  obtain ⟨b1, b2, b3⟩ := below_spec h j
  have : SetTable.below l.toArray j = k := by
    rcases Nat.lt_trichotomy (SetTable.below l.toArray j) k with c | c | c
    · have hb : SetTable.below l.toArray j < l.length := by omega
      have e' := List.getElem?_eq_getElem hb
      have g1 := b2 _ _ (Nat.le_refl _) e'
      have g2 := h.at e' ek c
      omega
    · exact c
    · have := b1 _ _ c ek; omega
  rw [this, ek] at n
  simp at n
theorem insert_list {α : Type} (xs : Array α) (p : Nat) (x : α) : (SetTable.insertAt xs p x).toList = xs.toList.take p ++ x :: xs.toList.drop p := by
  unfold SetTable.insertAt
  simp [List.append_assoc]
  exact List.take_of_length_le (by simp)
theorem Up.insert {l : List Nat} (h : Up l) {j : Nat} (hj : j ∉ l) : Up (SetTable.insertAt l.toArray (SetTable.below l.toArray j) j).toList := by
  rw [insert_list]
  obtain ⟨b1, b2, b3⟩ := below_spec h j
  have hs : Up (l.take (SetTable.below l.toArray j) ++ l.drop (SetTable.below l.toArray j)) := by rw [List.take_append_drop]; exact h
  obtain ⟨p1, p2, p3⟩ := List.pairwise_append.mp hs
  have q1 : ∀ a ∈ l.take (SetTable.below l.toArray j), a < j := fun a ha => by
    obtain ⟨k, hk, e⟩ := List.getElem_of_mem ha
    rw [List.length_take] at hk
    rw [List.getElem_take] at e
    exact b1 k a (by omega) (by rw [List.getElem?_eq_getElem (by omega), e])
  have q2 : ∀ a ∈ l.drop (SetTable.below l.toArray j), j < a := fun a ha => by
    obtain ⟨k, hk, e⟩ := List.getElem_of_mem ha
    rw [List.length_drop] at hk
    rw [List.getElem_drop] at e
    have g := b2 (SetTable.below l.toArray j + k) a (by omega) (by rw [List.getElem?_eq_getElem (by omega), e])
    have : a ≠ j := fun e => hj (by rw [← e]; exact List.mem_of_mem_drop ha)
    omega
  refine List.pairwise_append.mpr ⟨p1, List.pairwise_cons.mpr ⟨q2, p2⟩, fun a ha b hb => ?_⟩
  rcases List.mem_cons.mp hb with rfl | hb
  · exact q1 a ha
  · exact Nat.lt_trans (q1 a ha) (q2 b hb)
def TUp (t : SetTable) : Prop := Up t.place.toList
theorem slot_not {t : SetTable} (h : TUp t) {j : Nat} (n : ∀ i, t.slot j ≠ .live i) : j ∉ t.place.toList := by
  refine below_not h ?_
  unfold SetTable.slot at n
  dsimp only at n
  cases e : (t.place[SetTable.below t.place j]? == some j) with
  | false => simpa using e
  | true => rw [e] at n; simp at n
theorem probe_go {t : SetTable} {f : Nat → Int} {h : Int} : ∀ (n : Nat) (p : SetTable.Probe), (∀ d, p.dummy = some d → t.slot d = .dummy) → ∀ j dm, SetTable.probe.go t f h n p = some (.empty j dm) → t.slot j = .empty ∧ ∀ d, dm = some d → t.slot d = .dummy
  | 0, p, hp, j, dm, e => by unfold SetTable.probe.go at e; cases e
  | n + 1, p, hp, j, dm, e => by
    have adv : ∀ q : SetTable.Probe, (t.advance q).dummy = q.dummy := fun q => by
      unfold SetTable.advance; split <;> rfl
    unfold SetTable.probe.go at e
    cases hs : t.slot p.j with
    | empty => rw [hs] at e; dsimp only at e; cases e; exact ⟨hs, hp⟩
    | dummy =>
      rw [hs] at e; dsimp only at e
      refine probe_go n _ (fun d hd => ?_) j dm e
      rw [adv] at hd; cases hd; exact hs
    | live i =>
      rw [hs] at e; dsimp only at e
      split at e
      · cases e
      · refine probe_go n _ (fun d hd => ?_) j dm e
        rw [adv] at hd; exact hp d hd
theorem TUp.put {t : SetTable} (h : TUp t) {j : Nat} (n : ∀ i, t.slot j ≠ .live i) : TUp (t.put j).1 := by
  have := Up.insert h (slot_not h n)
  exact this
theorem freeSlot_not {t : SetTable} {h : Int} {j : Nat} {b : Bool} (e : t.freeSlot h = some (j, b)) : ∀ i, t.slot j ≠ .live i := by
  unfold SetTable.freeSlot at e
  cases hp : t.probe (fun _ => h + 1) h (t.probeStart h) with
  | none => rw [hp] at e; cases e
  | some m =>
    rw [hp] at e
    cases m with
    | candidate a b c => cases e
    | empty k dm =>
      dsimp only at e
      unfold SetTable.probe at hp
      obtain ⟨h1, h2⟩ := probe_go _ _ (fun d hd => by cases hd) k dm hp
      cases dm with
      | none =>
        simp only [Option.getD_none, Option.some.injEq, Prod.mk.injEq] at e
        rw [← e.1, h1]; intro i z; cases z
      | some d =>
        simp only [Option.getD_some, Option.some.injEq, Prod.mk.injEq] at e
        rw [← e.1, h2 d rfl]; intro i z; cases z
theorem range_up (n : Nat) : Up (List.range n) := List.pairwise_lt_range
theorem standIn_up (t : SetTable) (n : Nat) : TUp (t.standIn n) := by
  show Up (Array.range n).toList
  rw [Array.toList_range]; exact range_up n
theorem orStandIn_up {t : SetTable} (h : TUp t) (n : Nat) : TUp (t.orStandIn n) := by
  unfold SetTable.orStandIn; split
  · exact h
  · exact standIn_up t n
theorem orStandIn_led (t : SetTable) (n : Nat) : (t.orStandIn n).led = t.led := by
  unfold SetTable.orStandIn; split <;> rfl
theorem layNew_up {t : SetTable} (h : TUp t) (es : Array (Int × Value)) (k : Int) (x : Value) : TUp (layNew t es k x).2.1 ∧ (layNew t es k x).2.1.led = t.led := by
  unfold layNew
  split
  · rename_i j b e
    exact ⟨orStandIn_up (h.put (freeSlot_not e)) _, orStandIn_led _ _⟩
  · exact ⟨standIn_up t _, rfl⟩
theorem live_up (n : Nat) (f : Nat → Option Nat) : Up (((List.range n).filterMap fun j => (f j).map (j, ·)).map (·.1)) := by
  have : (((List.range n).filterMap fun j => (f j).map (j, ·)).map (·.1)) = (List.range n).filter fun j => (f j).isSome := by
    induction List.range n with
    | nil => rfl
    | cons a l ih =>
      rw [List.filterMap_cons, List.filter_cons]
      cases e : f a with
      | none => simpa using ih
      | some b => simpa using ih
  rw [this]
  exact (range_up n).filter _
theorem laid_up {mask finger moves : Nat} {led plain : Bool} {hs : Array Int} {t : SetTable} {o : Array Nat} (e : SetTable.laid mask finger moves led plain hs = some (t, o)) : TUp t ∧ t.led = led ∧ t.plain = plain := by
  unfold SetTable.laid at e
  cases ho : SetTable.layClean mask hs with
  | none => rw [ho] at e; cases e
  | some ow =>
    rw [ho] at e
    simp only [Option.pure_def, Option.bind_eq_bind, Option.bind_some, Option.some.injEq, Prod.mk.injEq] at e
    rw [← e.1]
    exact ⟨live_up (mask + 1) fun j => ow.getD j none, rfl, rfl⟩
theorem relayAll_up (t : SetTable) (es : Array (Int × Value)) (n : Nat) : TUp (relayAll t es n).2.1 ∧ (relayAll t es n).2.1.led = t.led := by
  unfold relayAll
  split
  · rename_i t' o e
    unfold SetTable.relaid at e
    obtain ⟨h1, h2, _⟩ := laid_up e
    dsimp only
    split
    · exact ⟨h1, h2⟩
    · exact ⟨standIn_up t _, rfl⟩
  · exact ⟨standIn_up t _, rfl⟩
theorem cons_erase {α : Type} : ∀ {l : List α} {i : Nat} (h : i < l.length), (l[i] :: l.eraseIdx i).Perm l
  | a :: l, 0, h => List.Perm.refl _
  | a :: l, i + 1, h => by
    have := cons_erase (l := l) (i := i) (by simpa using h)
    simp only [List.getElem_cons_succ, List.eraseIdx_cons_succ]
    exact (List.Perm.swap _ _ _).trans (this.cons a)
theorem pick_go {α : Type} (next : Nat → Nat) : ∀ (f k : Nat) (left : List α) (out : Array α), left.length = f → (pickOrder.go next f k left out).toList.Perm (out.toList ++ left)
  | 0, k, left, out, h => by
    have : left = [] := List.length_eq_zero_iff.mp h
    subst this
    rw [List.append_nil]
    exact List.Perm.refl _
  | f + 1, k, left, out, h => by
    unfold pickOrder.go
    have hl : next k % left.length < left.length := Nat.mod_lt _ (by omega)
    rw [List.getElem?_eq_getElem hl]
    dsimp only
    refine (pick_go next f (k + 1) _ _ (by rw [List.length_eraseIdx, if_pos hl]; omega)).trans ?_
    rw [Array.toList_push, List.append_assoc]
    exact List.Perm.append_left _ (cons_erase hl)
theorem pick_perm {α : Type} (next : Nat → Nat) (xs : Array α) : (pickOrder next xs).toList.Perm xs.toList := by
  have := pick_go next xs.size 0 xs.toList #[] (by simp)
  simpa [pickOrder] using this
section
variable {M : Model} {A : Around} {E : Value → Shared → Prop}
theorem wp_choose {src : Source} {n : Nat} {Q : Nat → Shared → Prop} {s : Shared} (hn : n ≠ 0) (h : ∀ i d, i < n → Q i { s with drawn := d }) : wpAny M A (choose src n) Q E s := fun Γ p hΓ =>
  ⟨hn, h _ _ (Nat.mod_lt _ (Nat.pos_of_ne_zero hn))⟩
theorem wp_draw {α : Type} : ∀ (n : Nat) (xs : List α) {Q : List α → Shared → Prop} {s : Shared}, xs.length = n → (∀ ys d, ys.Perm xs → Q ys { s with drawn := d }) → wpAny M A (drawOrder n xs) Q E s
  | 0, xs, Q, s, hl, h => by
    have : xs = [] := List.length_eq_zero_iff.mp hl
    subst this
    unfold drawOrder
    exact wpAny_pure (h [] s.drawn (List.Perm.refl _))
  | n + 1, [], Q, s, hl, h => by simp at hl
  | n + 1, x :: xs, Q, s, hl, h => by
    unfold drawOrder
    refine wpAny_bind (wp_choose (by simp) fun i d hi => ?_)
    rw [List.getElem?_eq_getElem hi]
    dsimp only
    refine wpAny_bind (wp_draw n _ (by rw [List.length_eraseIdx, if_pos hi]; omega) fun ys d' hp => ?_)
    exact wpAny_pure (h _ d' ((hp.cons _).trans (cons_erase hi)))
end
end L2
namespace L2
open PySem PySem.Spec PyProof.Rows
theorem si_owner : Manifest.owners.lookup (String.ofList ['r', 'o', 't', 'a', 'r', 'e', 't', 'i', '_', 't', 'e', 's'].reverse) = some Manifest.sig_set_iterator := by kernel_rfl
theorem si_slot : Slot "set_iterator" "__next__" "set_iterator.__next__" := .of (owner := "set_iterator") (n := "__next__") (by rw [typeLookup_type, builtinLookup_eq_fast]; kernel_rfl) (by decide +kernel) (by decide +kernel) (by decide +kernel) (by first | exact .inl (by decide +kernel) | exact .inr (by decide +kernel)) (by rw [isSubtype_type]; kernel_rfl)
theorem si_entry : entryFor table "set_iterator.__next__" = some Builtin.«set_iterator.__next__» := entryFor_of_tree (by kernel_rfl)
theorem si_args (a : Value) : argsOk "set_iterator.__next__" ⟨[a], []⟩ := by
  unfold argsOk; rw [signature?_of (id := "set_iterator.__next__") (n := ['_', '_', 't', 'x', 'e', 'n', '_', '_']) (o := ['r', 'o', 't', 'a', 'r', 'e', 't', 'i', '_', 't', 'e', 's']) (by kernel_rfl) si_owner]; kernel_rfl
theorem si_iter_slot : Slot "set_iterator" "__iter__" "set_iterator.__iter__" := .of (owner := "set_iterator") (n := "__iter__") (by rw [typeLookup_type, builtinLookup_eq_fast]; kernel_rfl) (by decide +kernel) (by decide +kernel) (by decide +kernel) (by first | exact .inl (by decide +kernel) | exact .inr (by decide +kernel)) (by rw [isSubtype_type]; kernel_rfl)
theorem si_iter_entry : entryFor table "set_iterator.__iter__" = some Builtin.«dict_keyiterator.__iter__» :=
  entryFor_alias (id' := "dict_keyiterator.__iter__") (by kernel_rfl) rfl (by decide +kernel) (by kernel_rfl)
theorem si_iter_args (a : Value) : argsOk "set_iterator.__iter__" ⟨[a], []⟩ := by
  unfold argsOk; rw [signature?_of (id := "set_iterator.__iter__") (n := ['_', '_', 'r', 'e', 't', 'i', '_', '_']) (o := ['r', 'o', 't', 'a', 'r', 'e', 't', 'i', '_', 't', 'e', 's']) (by kernel_rfl) si_owner]; kernel_rfl
theorem set_iter_entry : entryFor table "set.__iter__" = some Builtin.«frozenset.__iter__» :=
  entryFor_alias (id' := "frozenset.__iter__") (by kernel_rfl) rfl (by decide +kernel) (by kernel_rfl)
def setO (es : Array (Int × Value)) (ep : Nat) (t : SetTable) : Obj := { cls := .type "set", dict := none, data := .set es ep t }
def sitO (f : Value) (i : Nat) (a : Addr) (n ep : Nat) : Obj := { cls := .type "set_iterator", data := .fields #[f, rawInt i, .ref a, rawInt n, rawInt ep] }
structure TabOk (w : World) (t : SetTable) (n : Nat) : Prop where
  fits : t.fits n = true
  up : TUp t
  led : t.led = !(w.params.followText "set-order")
theorem TabOk.len {w : World} {t : SetTable} {n : Nat} (h : TabOk w t n) : t.place.size = n := by
  have := h.fits
  unfold SetTable.fits at this
  rw [Bool.and_eq_true] at this
  simpa using this.1
section
variable {prog : Program} {w : World} {A : Around} {E : Value → Shared → Prop} {s : Shared}
theorem wp_setSt {a : Addr} {es : Array (Int × Value)} {ep : Nat} {t : SetTable} {Q : (Array (Int × Value) × Nat × SetTable) → Shared → Prop} (ho : s.heap.get? a = some (setO es ep t)) (T : TabOk w t es.size) (h : Q (es, ep, t) s) : wpAny (model prog w) A (setState a) Q E s :=
  wpAny_setState_of ho rfl T.fits h
theorem wp_byText {Q : Bool → Shared → Prop} (h : Q (w.params.followText "set-order") s) : wpAny (model prog w) A setsByText Q E s := by
  unfold setsByText
  exact wpAny_bind (wpAny_askSetting (wpAny_pure h))
theorem next_text {a : Addr} {es : Array (Int × Value)} {ep : Nat} {t : SetTable} {i : Nat} {Q : Option (Value × Nat) → Shared → Prop} (ho : s.heap.get? a = some (setO es ep t)) (T : TabOk w t es.size) (b : w.params.followText "set-order" = true)
    (h : Q (((pickOrder (w.params.setOrder a ep) es)[i]?).map fun e => (e.2, 0)) s) : wpAny (model prog w) A (setNext a 0 i ep) Q E s := by
  unfold setNext
  refine wpAny_bind (wp_setSt ho T (wpAny_bind (wp_byText ?_)))
  rw [if_pos b, if_neg (by simp)]
  unfold setWalk
  refine wpAny_bind (wpAny_bind (wp_setSt ho T (wpAny_bind (wp_byText ?_))))
  rw [if_pos b]
  exact wpAny_bind (wpAny_askSetting (wpAny_pure (wpAny_pure h)))
def fromSlot (es : Array (Int × Value)) (t : SetTable) (sl : Nat) : Option (Value × Nat) := (es[SetTable.below t.place sl]?).bind fun e => (t.place[SetTable.below t.place sl]?).map fun j => (e.2, j + 1)
theorem next_plain {a : Addr} {es : Array (Int × Value)} {ep : Nat} {t : SetTable} {i sl : Nat} {Q : Option (Value × Nat) → Shared → Prop} (ho : s.heap.get? a = some (setO es ep t)) (T : TabOk w t es.size) (b : w.params.followText "set-order" = false) (d : (!t.plain && decide (es.size > 1)) = false)
    (h : Q (fromSlot es t sl) s) : wpAny (model prog w) A (setNext a sl i ep) Q E s := by
  unfold setNext
  refine wpAny_bind (wp_setSt ho T (wpAny_bind (wp_byText ?_)))
  rw [if_neg (by rw [b]; simp)]
  refine wpAny_ite_split (fun z => absurd (d.symm.trans z) (by simp)) fun _ => ?_
  refine wpAny_bind (wpAny_ite_split (fun z => ?_) fun _ => wpAny_pure ?_)
  · have z : (!t.led && !es.isEmpty) = true := z
    rw [T.led, b] at z
    simp at z
  · refine wpAny_pure ?_
    unfold fromSlot at h
    cases e1 : es[SetTable.below t.place sl]? with
    | none => rw [e1] at h; exact h
    | some e =>
      cases e2 : t.place[SetTable.below t.place sl]? with
      | none => rw [e1, e2] at h; exact h
      | some j => rw [e1, e2] at h; exact h
theorem next_drawn {a : Addr} {es : Array (Int × Value)} {ep : Nat} {t : SetTable} {i : Nat} {e : Int × Value} {Q : Value → Shared → Prop} (ho : s.heap.get? a = some (setO es ep t)) (T : TabOk w t es.size) (he : es[i]? = some e) (h : Q e.2 s) : wpAny (model prog w) A (setNextDrawn a i ep) Q E s := by
  unfold setNextDrawn
  refine wpAny_bind (wp_setSt ho T ?_)
  dsimp only
  rw [if_neg (by simp), he]
  exact wpAny_bind (wpAny_pure (wpAny_pure h))
theorem si_item {I a : Addr} {es : Array (Int × Value)} {ep : Nat} {t : SetTable} {sl nx i : Nat} {x : Value} {Q : Option Value → Shared → Prop} (hI : s.heap.get? I = some (sitO (rawInt sl) i a es.size ep)) (ho : s.heap.get? a = some (setO es ep t)) (T : TabOk w t es.size)
    (hn : ∀ (A : Around) (Q : Option (Value × Nat) → Shared → Prop) (E : Value → Shared → Prop), Q (some (x, nx)) s → wpAny (model prog w) A (setNext a sl i ep) Q E s)
    (h : ∀ h', (∀ b o, b ≠ I → s.heap.get? b = some o → h'.get? b = some o) → h'.get? I = some (sitO (rawInt nx) (i + 1) a es.size ep) → Q (some x) { s with heap := h' }) : wpAny (model prog w) A (pyNext (.ref I)) Q E s := by
  have hT : s.TypeIs (.ref I) "set_iterator" := ⟨_, hI, rfl⟩
  unfold pyNext
  refine wpAny_bind (wpAny_attempt (wpAny_callSpecial?_slot (name := Str.ofString "__next__") hT si_slot (wpAny_call_entry si_slot hT si_entry ?_ (si_args _))))
  unfold Builtin.«set_iterator.__next__»
  refine wpAny_bind (wpAny_pure ?_)
  refine wpAny_bind (wpAny_fieldsOf hI rfl ?_)
  show wpAny _ _ (setEntries a >>= _) _ _ s
  refine wpAny_bind (wpAny_setEntries_of ho rfl T.fits ?_)
  rw [if_neg (by simp)]
  show wpAny _ _ (setNext a sl i ep >>= _) _ _ s
  refine wpAny_bind (hn _ _ _ ?_)
  show wpAny _ _ (setField (.ref I) 0 (rawInt nx) >>= _) _ _ s
  refine wpAny_bind (wpAny_setField hI rfl (by simp) ?_)
  have g1 := Heap.get?_update_self (Obj.mapFields (·.setIfInBounds 0 (rawInt nx))) hI rfl
  refine wpAny_bind (wpAny_setField g1 rfl (by simp [sitO, Obj.mapFields]) ?_)
  have g2 := Heap.get?_update_self (Obj.mapFields (·.setIfInBounds 1 (rawInt ((i : Int) + 1)))) g1 rfl
  refine wpAny_pure ⟨_, rfl, wpAny_pure (h _ (fun b o hb e => ?_) ?_)⟩
  · rw [Heap.get?_update_other _ _ (Ne.symm hb), Heap.get?_update_other _ _ (Ne.symm hb)]; exact e
  · rw [g2]; rfl
theorem si_itemD {I a c : Addr} {es : Array (Int × Value)} {ep : Nat} {t : SetTable} {i p : Nat} {tp : Array Value} {m : Nat} {e : Int × Value} {Q : Option Value → Shared → Prop} (hI : s.heap.get? I = some (sitO (.ref c) i a es.size ep)) (ho : s.heap.get? a = some (setO es ep t)) (T : TabOk w t es.size)
    (hc : s.heap.get? c = some { cls := .type "tuple", data := .seq tp m }) (hp : tp[i]? = some (rawInt p)) (he : es[p]? = some e)
    (h : ∀ h', (∀ b o, b ≠ I → s.heap.get? b = some o → h'.get? b = some o) → h'.get? I = some (sitO (.ref c) (i + 1) a es.size ep) → Q (some e.2) { s with heap := h' }) : wpAny (model prog w) A (pyNext (.ref I)) Q E s := by
  have hT : s.TypeIs (.ref I) "set_iterator" := ⟨_, hI, rfl⟩
  unfold pyNext
  refine wpAny_bind (wpAny_attempt (wpAny_callSpecial?_slot (name := Str.ofString "__next__") hT si_slot (wpAny_call_entry si_slot hT si_entry ?_ (si_args _))))
  unfold Builtin.«set_iterator.__next__»
  refine wpAny_bind (wpAny_pure ?_)
  refine wpAny_bind (wpAny_fieldsOf hI rfl ?_)
  show wpAny _ _ (setEntries a >>= _) _ _ s
  refine wpAny_bind (wpAny_setEntries_of ho rfl T.fits ?_)
  rw [if_neg (by simp)]
  show wpAny _ _ (seqItems? (.ref c) >>= _) _ _ s
  refine wpAny_bind (wpAny_seqItems hc rfl ?_)
  dsimp only
  rw [show ((i : Int)).toNat = i from rfl, hp]
  show wpAny _ _ (setNextDrawn a p ep >>= _) _ _ s
  refine wpAny_bind (next_drawn ho T he ?_)
  refine wpAny_bind (wpAny_setField hI rfl (by simp) ?_)
  have g2 := Heap.get?_update_self (Obj.mapFields (·.setIfInBounds 1 (rawInt ((i : Int) + 1)))) hI rfl
  refine wpAny_pure ⟨_, rfl, wpAny_pure (h _ (fun b o hb e => ?_) ?_)⟩
  · rw [Heap.get?_update_other _ _ (Ne.symm hb)]; exact e
  · rw [g2]; rfl
end
end L2
namespace L2
open PySem PySem.Spec PyProof.Rows
section
variable {prog : Program} {w : World} {A : Around} {E : Value → Shared → Prop} {s : Shared}
theorem stop_here {Q : Fin → Shared → Prop} (hh : A.handled = none) (h : ∀ e h', (∀ b o, s.heap.get? b = some o → h'.get? b = some o) → Shared.TypeIs { s with heap := h' } e "StopIteration" → E e { s with heap := h' }) : wpAny (model prog w) A (newExc (.type "StopIteration") [] >>= fun e => raiseNew e) Q E s := by
  refine wpAny_bind ?_
  simp only [newExc, newTuple]
  refine wpAny_bind (wpAny_newObj_type ?_ (by size_fits))
  refine wpAny_bind (m := firstArgMember _ _) (wpAny_of_eq (a := Value.none) (by simp only [firstArgMember]; rfl) ?_)
  refine wpAny_newObj_type ?_ (by size_fits)
  simp only [raiseNew]
  refine wpAny_bind (wpAny_handled ?_)
  rw [hh]
  refine wpAny_bind (wpAny_pure (wpAny_throw ?_))
  refine h _ _ (fun b o e => Heap.get?_push_of_some _ (Heap.get?_push_of_some _ e)) ?_
  exact ⟨_, Heap.get?_push_size _ rfl, rfl⟩
theorem si_end {I a : Addr} {es : Array (Int × Value)} {ep : Nat} {t : SetTable} {sl i : Nat} {Q : Option Value → Shared → Prop} (hh : A.handled = none) (hI : s.heap.get? I = some (sitO (rawInt sl) i a es.size ep)) (ho : s.heap.get? a = some (setO es ep t)) (T : TabOk w t es.size)
    (hn : ∀ (A : Around) (Q : Option (Value × Nat) → Shared → Prop) (E : Value → Shared → Prop), Q none s → wpAny (model prog w) A (setNext a sl i ep) Q E s)
    (h : ∀ h', (∀ b o, b ≠ I → s.heap.get? b = some o → h'.get? b = some o) → Q none { s with heap := h' }) : wpAny (model prog w) A (pyNext (.ref I)) Q E s := by
  have hT : s.TypeIs (.ref I) "set_iterator" := ⟨_, hI, rfl⟩
  unfold pyNext
  refine wpAny_bind (wpAny_attempt (wpAny_callSpecial?_slot (name := Str.ofString "__next__") hT si_slot (wpAny_call_entry si_slot hT si_entry ?_ (si_args _))))
  unfold Builtin.«set_iterator.__next__»
  refine wpAny_bind (wpAny_pure ?_)
  refine wpAny_bind (wpAny_fieldsOf hI rfl ?_)
  show wpAny _ _ (setEntries a >>= _) _ _ s
  refine wpAny_bind (wpAny_setEntries_of ho rfl T.fits ?_)
  rw [if_neg (by simp)]
  show wpAny _ _ (setNext a sl i ep >>= _) _ _ s
  refine wpAny_bind (hn _ _ _ ?_)
  show wpAny _ _ (setField (.ref I) 2 .none >>= _) _ _ s
  refine wpAny_bind (wpAny_setField hI rfl (by simp) ?_)
  refine stop_here (A := A.in1) hh fun e h' k ty => ?_
  refine wpAny_bind (wpAny_isInstance (T := "StopIteration") (b := true) ty isSubtype_stop ?_)
  refine wpAny_pure (h h' fun b o hb e => k b o ?_)
  show (s.heap.update I _).get? b = some o
  rw [Heap.get?_update_other _ _ (Ne.symm hb)]; exact e
theorem si_endD {I a c : Addr} {es : Array (Int × Value)} {ep : Nat} {t : SetTable} {i : Nat} {tp : Array Value} {m : Nat} {Q : Option Value → Shared → Prop} (hh : A.handled = none) (hI : s.heap.get? I = some (sitO (.ref c) i a es.size ep)) (ho : s.heap.get? a = some (setO es ep t)) (T : TabOk w t es.size)
    (hc : s.heap.get? c = some { cls := .type "tuple", data := .seq tp m }) (hp : tp[i]? = none)
    (h : ∀ h', (∀ b o, b ≠ I → s.heap.get? b = some o → h'.get? b = some o) → Q none { s with heap := h' }) : wpAny (model prog w) A (pyNext (.ref I)) Q E s := by
  have hT : s.TypeIs (.ref I) "set_iterator" := ⟨_, hI, rfl⟩
  unfold pyNext
  refine wpAny_bind (wpAny_attempt (wpAny_callSpecial?_slot (name := Str.ofString "__next__") hT si_slot (wpAny_call_entry si_slot hT si_entry ?_ (si_args _))))
  unfold Builtin.«set_iterator.__next__»
  refine wpAny_bind (wpAny_pure ?_)
  refine wpAny_bind (wpAny_fieldsOf hI rfl ?_)
  show wpAny _ _ (setEntries a >>= _) _ _ s
  refine wpAny_bind (wpAny_setEntries_of ho rfl T.fits ?_)
  rw [if_neg (by simp)]
  show wpAny _ _ (seqItems? (.ref c) >>= _) _ _ s
  refine wpAny_bind (wpAny_seqItems hc rfl ?_)
  dsimp only
  rw [show ((i : Int)).toNat = i from rfl, hp]
  show wpAny _ _ (setField (.ref I) 0 (rawInt 0) >>= _) _ _ s
  refine wpAny_bind (wpAny_setField hI rfl (by simp) ?_)
  have g1 := Heap.get?_update_self (Obj.mapFields (·.setIfInBounds 0 (rawInt 0))) hI rfl
  refine wpAny_bind (wpAny_setField g1 rfl (by simp [sitO, Obj.mapFields]) ?_)
  refine stop_here (A := A.in1) hh fun e h' k ty => ?_
  refine wpAny_bind (wpAny_isInstance (T := "StopIteration") (b := true) ty isSubtype_stop ?_)
  refine wpAny_pure (h h' fun b o hb e => k b o ?_)
  show ((s.heap.update I _).update I _).get? b = some o
  rw [Heap.get?_update_other _ _ (Ne.symm hb), Heap.get?_update_other _ _ (Ne.symm hb)]; exact e
theorem si_self {I a : Addr} {f : Value} {i n ep : Nat} {Q : Value → Shared → Prop} (hI : s.heap.get? I = some (sitO f i a n ep)) (h : Q (.ref I) s) : wpAny (model prog w) A (pyIter (.ref I)) Q E s := by
  have hT : s.TypeIs (.ref I) "set_iterator" := ⟨_, hI, rfl⟩
  refine wpAny_pyIter_slot hT si_iter_slot (wpAny_call_entry si_iter_slot hT si_iter_entry ?_ (si_iter_args _))
  show wpAny _ _ (ret (.ref I)) _ _ s
  exact wpAny_pure ⟨_, rfl, "set_iterator", _, hT, si_slot.lookup, h⟩
def plc (l : List Nat) : Nat → Nat
  | 0 => 0
  | i + 1 => l.getD i 0 + 1
theorem plc_below {l : List Nat} (u : Up l) {i : Nat} (hi : i ≤ l.length) : SetTable.below l.toArray (plc l i) = i := by
  refine below_is u hi (fun k x hk hx => ?_) fun k x hk hx => ?_
  · cases i with
    | zero => omega
    | succ j =>
      have hj : l[j]? = some l[j] := List.getElem?_eq_getElem (by omega)
      show x < l.getD j 0 + 1
      rw [List.getD_eq_getElem?_getD, hj, Option.getD_some]
      by_cases e : k = j
      · subst e; rw [hj] at hx; cases hx; omega
      · have := u.at hx hj (by omega); omega
  · cases i with
    | zero => exact Nat.zero_le _
    | succ j =>
      have hj : l[j]? = some l[j] := List.getElem?_eq_getElem (by have := (List.getElem?_eq_some_iff.mp hx).1; omega)
      show l.getD j 0 + 1 ≤ x
      rw [List.getD_eq_getElem?_getD, hj, Option.getD_some]
      exact u.at hj hx (by omega)
theorem wp_setDrawn {a : Addr} {es : Array (Int × Value)} {ep : Nat} {t : SetTable} {Q : Bool → Shared → Prop} (ho : s.heap.get? a = some (setO es ep t)) (T : TabOk w t es.size) (h : Q (!(w.params.followText "set-order") && (!t.plain && decide (es.size > 1))) s) : wpAny (model prog w) A (setDrawn a) Q E s := by
  unfold setDrawn
  refine wpAny_bind (wp_setSt ho T ?_)
  exact wpAny_bind (wp_byText (wpAny_pure h))
theorem set_walks {a : Addr} {es : Array (Int × Value)} {ep : Nat} {t : SetTable} {Q : Value → Shared → Prop} (hh : A.handled = none) (ho : s.heap.get? a = some (setO es ep t)) (T : TabOk w t es.size) (hz : es.size ≤ 1000)
    (h : ∀ (I c : Addr) (h' : Heap) d (vs : List Value) (St : Nat → Heap → Prop), vs.Perm (es.toList.map (·.2)) → (∀ b o, s.heap.get? b = some o → h'.get? b = some o) → s.heap.objs.size ≤ I → (c = a ∨ s.heap.objs.size ≤ c) → Walks prog w A I [I, a, c] [I] es.size (fun i v => vs[i]? = some v) St → St 0 h' → Q (.ref I) { s with heap := h', drawn := d }) : wpAny (model prog w) A (pyIter (.ref a)) Q E s := by
  have hT : s.TypeIs (.ref a) "set" := ⟨_, ho, rfl⟩
  have la := Heap.lt_size ho
  refine wpAny_pyIter_slot hT PySem.F.slot_set_iter (wpAny_call_entry PySem.F.slot_set_iter hT set_iter_entry ?_ (PySem.F.args_set_iter_1 _))
  unfold Builtin.«frozenset.__iter__»
  refine wpAny_bind (m := Builtin.Frozenset.slot0 _ _) (wpAny_pure ?_)
  unfold Builtin.Frozenset.sizeOf
  refine wpAny_bind (wpAny_bind (wpAny_setEntries_of ho rfl T.fits (wpAny_pure ?_)))
  refine wpAny_bind (wp_setDrawn ho T ?_)
  cases bt : w.params.followText "set-order" with
  | true =>
    rw [if_neg (by simp)]
    refine wpAny_bind (wpAny_pure ?_)
    refine wpAny_bind (wpAny_setEpoch_of ho rfl T.fits ?_)
    refine wpAny_bind (wpAny_newObj_type ?_ (by size_fits))
    have pm := pick_perm (w.params.setOrder a ep) es
    have hI : (s.heap.push (sitO (rawInt 0) 0 a es.size ep)).get? s.heap.objs.size = some (sitO (rawInt 0) 0 a es.size ep) := Heap.get?_push_size _ rfl
    refine wpAny_pure ⟨_, rfl, "set_iterator", _, ⟨_, hI, rfl⟩, si_slot.lookup, ?_⟩
    refine h s.heap.objs.size a _ s.drawn ((pickOrder (w.params.setOrder a ep) es).toList.map (·.2)) (fun i hp => hp.get? s.heap.objs.size = some (sitO (rawInt 0) i a es.size ep) ∧ hp.get? a = some (setO es ep t)) (pm.map _) (fun b o e => Heap.get?_push_of_some _ e) (Nat.le_refl _) (.inl rfl) ?_ ⟨hI, Heap.get?_push_of_some _ ho⟩
    refine ⟨fun b hb => by simp at hb; simp [hb], fun i h1 h2 st k => ⟨k _ (by simp) _ st.1, k _ (by simp) _ st.2⟩, fun i s1 Q1 E1 hi st q => ?_, fun s1 Q1 E1 st q => ?_, fun i s1 Q1 E1 st q => si_self st.1 q⟩
    · have hs : (pickOrder (w.params.setOrder a ep) es).size = es.size := by simpa using pm.length_eq
      have hx : (pickOrder (w.params.setOrder a ep) es)[i]? = some ((pickOrder (w.params.setOrder a ep) es)[i]'(by omega)) := Array.getElem?_eq_getElem (by omega)
      refine si_item st.1 st.2 T (fun A' Q' E' q' => next_text st.2 T bt (by rw [hx]; exact q')) fun h' k hI' => q _ h' s1.toks ?_ ⟨hI', k _ _ (Nat.ne_of_lt la) st.2⟩ fun b o hb e => k b o (by simpa using hb) e
      rw [List.getElem?_map, Array.getElem?_toList, hx]; rfl
    · have hs : (pickOrder (w.params.setOrder a ep) es).size = es.size := by simpa using pm.length_eq
      exact si_end hh st.1 st.2 T (fun A' Q' E' q' => next_text st.2 T bt (by rw [Array.getElem?_eq_none (by omega)]; exact q')) fun h' k => q h' s1.toks fun b o hb e => k b o (by simpa using hb) e
  | false =>
    cases dr : (!t.plain && decide (es.size > 1)) with
    | false =>
      rw [if_neg (by simp)]
      refine wpAny_bind (wpAny_pure ?_)
      refine wpAny_bind (wpAny_setEpoch_of ho rfl T.fits ?_)
      refine wpAny_bind (wpAny_newObj_type ?_ (by size_fits))
      have hI : (s.heap.push (sitO (rawInt 0) 0 a es.size ep)).get? s.heap.objs.size = some (sitO (rawInt 0) 0 a es.size ep) := Heap.get?_push_size _ rfl
      refine wpAny_pure ⟨_, rfl, "set_iterator", _, ⟨_, hI, rfl⟩, si_slot.lookup, ?_⟩
      have pl : t.place.toList.length = es.size := by rw [Array.length_toList]; exact T.len
      refine h s.heap.objs.size a _ s.drawn (es.toList.map (·.2)) (fun i hp => hp.get? s.heap.objs.size = some (sitO (rawInt (plc t.place.toList i)) i a es.size ep) ∧ hp.get? a = some (setO es ep t)) (.refl _) (fun b o e => Heap.get?_push_of_some _ e) (Nat.le_refl _) (.inl rfl) ?_ ⟨hI, Heap.get?_push_of_some _ ho⟩
      refine ⟨fun b hb => by simp at hb; simp [hb], fun i h1 h2 st k => ⟨k _ (by simp) _ st.1, k _ (by simp) _ st.2⟩, fun i s1 Q1 E1 hi st q => ?_, fun s1 Q1 E1 st q => ?_, fun i s1 Q1 E1 st q => si_self st.1 q⟩
      · have bl : SetTable.below t.place (plc t.place.toList i) = i := plc_below T.up (by omega)
        have hx : es[i]? = some es[i] := Array.getElem?_eq_getElem hi
        have hp : t.place[i]? = some (t.place[i]'(by rw [T.len]; exact hi)) := Array.getElem?_eq_getElem (by rw [T.len]; exact hi)
        have hn : plc t.place.toList (i + 1) = (t.place[i]'(by rw [T.len]; exact hi)) + 1 := by
          show t.place.toList.getD i 0 + 1 = _
          rw [List.getD_eq_getElem?_getD, Array.getElem?_toList, hp]; rfl
        refine si_item (nx := plc t.place.toList (i + 1)) (x := es[i].2) st.1 st.2 T (fun A' Q' E' q' => next_plain st.2 T bt dr (by unfold fromSlot; rw [bl, hx, hp]; rw [hn] at q'; exact q')) fun h' k hI' => q _ h' s1.toks ?_ ⟨hI', k _ _ (Nat.ne_of_lt la) st.2⟩ fun b o hb e => k b o (by simpa using hb) e
        rw [List.getElem?_map, Array.getElem?_toList, hx]; rfl
      · have bl : SetTable.below t.place (plc t.place.toList es.size) = es.size := plc_below T.up (by omega)
        exact si_end hh st.1 st.2 T (fun A' Q' E' q' => next_plain st.2 T bt dr (by unfold fromSlot; rw [bl, Array.getElem?_eq_none (Nat.le_refl _)]; exact q')) fun h' k => q h' s1.toks fun b o hb e => k b o (by simpa using hb) e
    | true =>
      rw [if_pos (by simp)]
      refine wpAny_bind (wp_draw es.size (List.range es.size) (by simp) fun ys d hp => ?_)
      have yl : ys.length = es.size := by simpa using hp.length_eq
      have ylt : ∀ y ∈ ys, y < es.size := fun y hy => List.mem_range.mp (hp.mem_iff.mp hy)
      refine wpAny_bind (wpAny_newObj_type ?_ (by show (ys.map fun (i : Nat) => rawInt i).toArray.size ≤ sizeLine; simp only [List.size_toArray, List.length_map]; rw [yl]; exact Nat.le_trans hz (by decide)))
      have ht : (s.heap.push { cls := .type "tuple", data := .seq (ys.map fun (i : Nat) => rawInt i).toArray }).get? s.heap.objs.size = some { cls := .type "tuple", data := .seq (ys.map fun (i : Nat) => rawInt i).toArray } := Heap.get?_push_size _ rfl
      have ho1 := Heap.get?_push_of_some ({ cls := .type "tuple", data := .seq (ys.map fun (i : Nat) => rawInt i).toArray } : Obj) ho
      refine wpAny_bind (wpAny_setEpoch_of ho1 rfl T.fits ?_)
      refine wpAny_bind (wpAny_newObj_type ?_ (by size_fits))
      have I1 : (s.heap.push { cls := .type "tuple", data := .seq (ys.map fun (i : Nat) => rawInt i).toArray }).objs.size = s.heap.objs.size + 1 := by rw [size_push']
      have hI := Heap.get?_push_size (s.heap.push { cls := .type "tuple", data := .seq (ys.map fun (i : Nat) => rawInt i).toArray }) (o := sitO (.ref s.heap.objs.size) 0 a es.size ep) rfl
      refine wpAny_pure ⟨_, rfl, "set_iterator", _, ⟨_, hI, rfl⟩, si_slot.lookup, ?_⟩
      have yv : ∀ i, (ys.map fun y => (es.toList.getD y default).2)[i]? = (ys[i]?).map fun y => (es.toList.getD y default).2 := fun i => List.getElem?_map
      have pv : (ys.map fun y => (es.toList.getD y default).2).Perm (es.toList.map (·.2)) := by
        have h1 := hp.map fun y => (es.toList.getD y default).2
        refine h1.trans (List.Perm.of_eq ?_)
        apply List.ext_getElem?
        intro i
        rw [List.getElem?_map, List.getElem?_map]
        by_cases c : i < es.size
        · rw [List.getElem?_range c, Array.getElem?_toList, Array.getElem?_eq_getElem c]
          simp [List.getD_eq_getElem?_getD, c]
        · rw [List.getElem?_eq_none (by simp; omega), Array.getElem?_toList, Array.getElem?_eq_none (by omega)]; rfl
      refine h (s.heap.push { cls := .type "tuple", data := .seq (ys.map fun (i : Nat) => rawInt i).toArray }).objs.size s.heap.objs.size _ d (ys.map fun y => (es.toList.getD y default).2) (fun i hp => hp.get? (s.heap.push { cls := .type "tuple", data := .seq (ys.map fun (i : Nat) => rawInt i).toArray }).objs.size = some (sitO (.ref s.heap.objs.size) i a es.size ep) ∧ hp.get? a = some (setO es ep t) ∧ hp.get? s.heap.objs.size = some { cls := .type "tuple", data := .seq (ys.map fun (i : Nat) => rawInt i).toArray }) pv (fun b o e => Heap.get?_push_of_some _ (Heap.get?_push_of_some _ e)) (by omega) (.inr (Nat.le_refl _)) ?_ ⟨hI, Heap.get?_push_of_some _ ho1, Heap.get?_push_of_some _ ht⟩
      refine ⟨fun b hb => by simp at hb; simp [hb], fun i h1 h2 st k => ⟨k _ (by simp) _ st.1, k _ (by simp) _ st.2.1, k _ (by simp) _ st.2.2⟩, fun i s1 Q1 E1 hi st q => ?_, fun s1 Q1 E1 st q => ?_, fun i s1 Q1 E1 st q => si_self st.1 q⟩
      · have iy : i < ys.length := by omega
        have hy : ys[i]? = some ys[i] := List.getElem?_eq_getElem iy
        have ey := ylt _ (List.getElem_mem iy)
        refine si_itemD (p := ys[i]) (e := es[ys[i]]) st.1 st.2.1 T st.2.2 (by rw [List.getElem?_toArray, List.getElem?_map, hy]; rfl) (Array.getElem?_eq_getElem ey) fun h' k hI' => q _ h' s1.toks ?_ ⟨hI', k _ _ (Nat.ne_of_lt (by rw [I1]; exact Nat.lt_succ_of_lt la)) st.2.1, k _ _ (Nat.ne_of_lt (by rw [I1]; exact Nat.lt_succ_self _)) st.2.2⟩ fun b o hb e => k b o (by simpa using hb) e
        rw [yv, hy]
        simp [List.getD_eq_getElem?_getD, ey]
      · exact si_endD hh st.1 st.2.1 T st.2.2 (by rw [List.getElem?_toArray]; exact List.getElem?_eq_none (by simp; omega)) fun h' k => q h' s1.toks fun b o hb e => k b o (by simpa using hb) e
end
end L2
namespace L2
open PySem PySem.Spec PyProof.Rows
section
variable {prog : Program} {w : World} {A : Around} {E : Value → Shared → Prop} {s : Shared}
theorem hint_set {r : Addr} {Q : Bool → Shared → Prop} (hT : s.TypeIs (.ref r) "set") (h : Q false s) : wpAny (model prog w) A (Builtin.List.listLengthHint (.ref r)) Q E s := by
  unfold Builtin.List.listLengthHint
  refine wpAny_bind (wpAny_specialOf hT PySem.F.slot_set_len.lookup ?_)
  generalize hid : ("set.__len__" : String) = idn
  wp_delta
  rw [show splitId idn = some ("set", "__len__") from by subst hid; decide +kernel]
  subst hid
  refine wpAny_bind (wpAny_isInstance (T := "set") (b := true) hT (by rw [isSubtype_type]; kernel_rfl) ?_)
  refine wpAny_ite_split (fun z => absurd z (by decide)) (fun _ => ?_)
  refine wpAny_ite_split (fun _ => ?_) (fun z => absurd (by decide +kernel) z)
  exact wpAny_bind (wpAny_typeOf hT (wpAny_pure h))
theorem wants_set {R : Result → Shared → Prop} {a S : Addr} {es : Array (Int × Value)} {ep : Nat} {t : SetTable} {c₀ : Nat} {res : Value} (hh : A.handled = none) (ho : s.heap.get? a = some (setO es ep t)) (T : TabOk w t es.size) (hz : es.size ≤ 1000) (hS : s.heap.get? S = some { cls := .type "list", data := .seq #[] c₀ })
    (q : ∀ (vs : List Value) h' tk d c, vs.Perm (es.toList.map (·.2)) → (∀ b o, b ≠ S → s.heap.get? b = some o → h'.get? b = some o) → h'.get? S = some { cls := .type "list", dict := none, data := .seq vs.toArray c, slots := #[] } → R (.ok (.ret res)) { s with heap := h', toks := tk, drawn := d }) :
    wpAny (model prog w) A.in1 (Builtin.List.listExtendWith (.ref S) (.ref a) res) (fun fin s' => match fin with | .done f => R (.ok f) s' | .again c' => c'.quiet = true ∧ codeAny (model prog w) A c' R s') (fun e s' => R (.error e) s') s := by
  have ne : S ≠ a := fun e => by rw [e, ho] at hS; have z := congrArg (fun o : Option Obj => o.map (·.cls)) hS; exact absurd z (by simp [setO])
  have hT : s.TypeIs (.ref a) "set" := ⟨_, ho, rfl⟩
  have lS := Heap.lt_size hS
  unfold Builtin.List.listExtendWith
  refine wpAny_bind (wpAny_typeOf (T := "set") hT ?_)
  have h1 : Builtin.List.listSameRef (.ref S) (.ref a) = false := by simp [Builtin.List.listSameRef, ne]
  simp only [h1, show (Value.type "set" == Value.type "list") = false by decide, show (Value.type "set" == Value.type "tuple") = false by decide, Bool.or_false, Bool.false_eq_true, if_false]
  refine wpAny_bind (set_walks (A := A.in1) hh ho T hz fun I c h0 d vs St pv kp lI hc W st => ?_)
  have nI : S ≠ I := Nat.ne_of_lt (Nat.lt_of_lt_of_le lS lI)
  have nc : S ≠ c := by
    rcases hc with rfl | hc
    · exact ne
    · exact Nat.ne_of_lt (Nat.lt_of_lt_of_le lS hc)
  have nf : S ∉ [I, a, c] := by simp only [List.mem_cons, List.not_mem_nil, or_false, not_or]; exact ⟨nI, ne, nc⟩
  have vl : vs.length = es.size := by rw [pv.length_eq, List.length_map, Array.length_toList]
  have key : ∀ (h : Heap) (c₁ tk : Nat), St 0 h → (∀ b o, b ≠ S → s.heap.get? b = some o → h.get? b = some o) → h.get? S = some { cls := .type "list", data := .seq #[] c₁ } → codeAny (model prog w) A (.builtin "list.extend.loop" ⟨[.ref S, .ref I, res], []⟩) R { s with heap := h, toks := tk, drawn := d } := by
    intro h c₁ tk hst hk hS₁
    refine codeAny_extend_loopS W.toS (Nat.le_trans hz (by decide)) S nf res es.size 0 _ #[] c₁ rfl (Nat.zero_le _) hst hS₁ (ItemsOf.nil _) fun s' acc' c' hm hS' hacc => ?_
    rw [Moved.eq_with hm]
    have ev : acc' = vs.toArray := by
      have el : acc'.toList = vs := by
        apply List.ext_getElem?
        intro i
        rw [Array.getElem?_toList]
        by_cases z : i < acc'.size
        · rw [Array.getElem?_eq_getElem z]
          exact (hacc.2 i _ (Array.getElem?_eq_getElem z)).symm
        · have := hacc.1
          rw [Array.getElem?_eq_none (by omega), List.getElem?_eq_none (by omega)]
      rw [← el]
    subst ev
    refine q vs s'.heap s'.toks d c' pv (fun b o hb e => hm.heap b o (fun hmem => ?_) (hk b o hb e)) hS'
    rcases List.mem_cons.mp hmem with e' | hmem
    · exact hb e'
    · have lb := Heap.lt_size e
      rw [List.mem_singleton.mp hmem] at lb
      exact Nat.lt_irrefl _ (Nat.lt_of_lt_of_le lb lI)
  have hS₁ := kp _ _ hS
  refine wpAny_bind (wpAny_holding (hint_set ⟨_, kp _ _ ho, rfl⟩ ?_))
  refine wpAny_ite_split (fun _ => ?_) (fun _ => wpAny_pure ⟨plainId_quiet PySem.F.plain_extend_loop _, key _ c₀ _ st (fun b o _ e => kp b o e) hS₁⟩)
  refine wpAny_bind (wpAny_rule (wpAny_bind ?_))
  show wpAny _ _ (updateSeq S (·.push .none) >>= fun _ => updateSeq S (·.pop)) _ _ _
  refine wpAny_bind (wpAny_updateSeq hS₁ rfl ?_)
  have u1 := Heap.get?_update_self (Obj.mapSeq (·.push Value.none)) hS₁ rfl
  refine wpAny_updateSeq (hz := by seq_fits) u1 rfl ?_
  have u2 := Heap.get?_update_self (Obj.mapSeq (·.pop)) u1 rfl
  refine wpAny_pure ⟨plainId_quiet PySem.F.plain_extend_loop _, key _ _ _ (W.frame 0 _ _ st fun b hb o e => ?_) (fun b o hb e => ?_) u2⟩
  · have z : S ≠ b := fun z => nf (z ▸ hb)
    exact (Heap.get?_update_other _ _ z).trans ((Heap.get?_update_other _ _ z).trans e)
  · exact (Heap.get?_update_other _ _ (Ne.symm hb)).trans ((Heap.get?_update_other _ _ (Ne.symm hb)).trans (kp b o e))
theorem collect_set {a : Addr} {es : Array (Int × Value)} {ep : Nat} {t : SetTable} {Q : List Value → Shared → Prop} (hh : A.handled = none) (ho : s.heap.get? a = some (setO es ep t)) (T : TabOk w t es.size) (hz : es.size ≤ 1000)
    (q : ∀ (vs : List Value) h' tk d, vs.Perm (es.toList.map (·.2)) → (∀ b o, s.heap.get? b = some o → h'.get? b = some o) → s.heap.objs.size ≤ h'.objs.size → Q vs { s with heap := h', toks := tk, drawn := d }) : wpAny (model prog w) A (collect (.ref a)) Q E s := by
  have hS : (s.heap.push (seqObj "list" #[] 0)).get? s.heap.objs.size = some (seqObj "list" #[] 0) := Heap.get?_push_size _ rfl
  unfold collect
  refine wpAny_bind (wpAny_runValue (codeAny_builtin entry_proto_collect' ?_))
  refine wpAny_bind (wpAny_newList (wpAny_pure ⟨Code.quiet_builtin _ (by decide +kernel), codeAny_builtin entry_list_iadd' ?_⟩))
  rw [Around.under_plainId (show plainId "list.__iadd__" = true by decide +kernel) _]
  refine wants_set (R := fun r s' => match r with
    | .ok (.ret v) => wpAny (model prog w) A (match v with
      | .ref a => (do
        let o ← load a
        match o.data with
        | .seq xs _ => pure xs.toList
        | _ => unsupported "internal:collect")
      | _ => unsupported "internal:collect") Q E s'
    | .ok _ => False
    | .error e => E e s') (s := { s with heap := s.heap.push (seqObj "list" #[] 0) }) (S := s.heap.objs.size) hh (Heap.get?_push_of_some _ ho) T hz hS fun vs h' tk d c pv k hl => ?_
  refine wpAny_bind (wpAny_load hl ?_)
  show wpAny _ _ (pure vs.toArray.toList) _ _ _
  rw [List.toList_toArray]
  exact wpAny_pure (q vs h' tk d pv (fun b o e => k b o (Nat.ne_of_lt (Heap.lt_size e)) (Heap.get?_push_of_some _ e)) (Nat.le_of_lt (Heap.lt_size hl)))
end
end L2
namespace L2
open PySem PySem.Spec PyProof.Rows
def Adds (prog : Program) (w : World) (u : Nat) (h₀ : Heap) (S : Addr) (n : Nat) (P : Nat → Value → Prop) (Rel : Nat → Array (Int × Value) → SetTable → Prop) : Prop :=
  ∀ (A : Around) (E : Value → Shared → Prop) (s : Shared) (Q : Bool → Shared → Prop) (i : Nat) (v : Value) (es : Array (Int × Value)) (ep : Nat) (t : SetTable), A.handled = none → A.units ≤ u → i < n → P i v → Rel i es t → s.heap.get? S = some (setO es ep t) → (∀ b o, h₀.get? b = some o → s.heap.get? b = some o) →
    (∀ es' ep' t' h' tk b, Rel (i + 1) es' t' → h'.get? S = some (setO es' ep' t') → (∀ b o, b ≠ S → s.heap.get? b = some o → h'.get? b = some o) → s.toks ≤ tk → Q b { s with heap := h', toks := tk }) → wpAny (model prog w) A (setAdd S v) Q E s
section
variable {prog : Program} {w : World} {A : Around} {E : Value → Shared → Prop} {s : Shared}
theorem set_loop {R : Result → Shared → Prop} {I S : Addr} {fp wr : List Addr} {G : Array GenState → Array GenState → Prop} {n u : Nat} {P : Nat → Value → Prop} {St : Nat → Shared → Prop} {Rel : Nat → Array (Int × Value) → SetTable → Prop} {h₀ : Heap} (hh : A.handled = none) (hu : A.units + 1 ≤ u) (W : WalksS prog w A.in1 I fp wr G n P St) (hf : S ∉ fp) (hb : ∀ b o, h₀.get? b = some o → b ∉ S :: wr) (ad : Adds prog w u h₀ S n P Rel) :
    ∀ (k i : Nat) (s : Shared) (es : Array (Int × Value)) (ep : Nat) (t : SetTable), n - i = k → i ≤ n → St i s → Rel i es t → s.heap.get? S = some (setO es ep t) → (∀ b o, h₀.get? b = some o → s.heap.get? b = some o) →
      (∀ s' es' ep' t', Moved (S :: wr) G s s' → Rel n es' t' → s'.heap.get? S = some (setO es' ep' t') → R (.ok (.ret .none)) s') →
      codeAny (model prog w) A (.builtin "set.update.loop" ⟨[.ref S, .ref I], []⟩) R s := by
  have hw : S ∉ wr := fun h => hf (W.sub _ h)
  have sub : ∀ b ∈ wr, b ∈ S :: wr := fun b hb => List.mem_cons_of_mem _ hb
  intro k
  induction k with
  | zero =>
    intro i s es ep t hk hi st rel hS old hR
    have e : i = n := by omega
    subst e
    refine codeAny_builtin F.entry_set_update_loop ?_
    rw [Around.under_plainId F.plain_set_update_loop _]
    show wpAny _ A.in1 (pyNext (.ref I) >>= _) _ _ s
    refine wpAny_bind (W.done s _ _ st fun s' hm => ?_)
    exact wpAny_pure (hR s' es ep t (hm.mono sub) rel (hm.heap S _ hw hS))
  | succ k ih =>
    intro i s es ep t hk hi st rel hS old hR
    have hlt : i < n := by omega
    refine codeAny_builtin F.entry_set_update_loop ?_
    rw [Around.under_plainId F.plain_set_update_loop _]
    show wpAny _ A.in1 (pyNext (.ref I) >>= _) _ _ s
    refine wpAny_bind (W.item i s _ _ hlt st fun v s' hP st' hm => ?_)
    show wpAny _ A.in1 (holding [v] (setAdd S v) >>= _) _ _ s'
    refine wpAny_bind (wpAny_holding (ad A.in1 _ s' _ i v es ep t hh ?_ hlt hP rel (hm.heap S _ hw hS) (fun b o e => hm.heap b o (fun z => hb b o e (sub b z)) (old b o e)) fun es' ep' t' h' tk b rel' hS' kp htk => ?_))
    · exact Nat.le_trans (Nat.le_refl _) hu
    · refine wpAny_pure ⟨plainId_quiet F.plain_set_update_loop _, ih (i + 1) _ es' ep' t' (by omega) hlt (W.frame _ s' _ _ st' htk fun b hb o e => kp b o (fun z => hf (z ▸ hb)) e) rel' hS' (fun b o e => kp b o (fun z => hb b o e (by rw [z]; exact List.mem_cons_self)) (hm.heap b o (fun z => hb b o e (sub b z)) (old b o e))) fun s'' es'' ep'' t'' hm'' r'' g'' => ?_⟩
      exact hR s'' es'' ep'' t'' (Moved.trans W.gtrans ((hm.mono sub).then_heap htk fun b o hb e => kp b o (fun z => hb (by rw [z]; exact List.mem_cons_self)) e) hm'') r'' g''
theorem set_made {a : Value} {Q : Value → Shared → Prop} (h : Q (.ref s.heap.objs.size) { s with heap := s.heap.push (setO #[] 0 (.fresh 0 0 (!(w.params.followText "set-order")))) }) :
    codeAny (model prog w) A (.call (.builtin "set.__new__") ⟨[.type "set", a], []⟩) (wants Q E) s := by
  refine codeAny_of_tree ?_
  show wpAny _ A.in1 (do checkBuiltinCall "set.__new__" ⟨[.type "set", a], []⟩; again (.builtin "set.__new__" ⟨[.type "set", a], []⟩)) _ _ s
  refine wpAny_bind (wpAny_of_eq (F.newCall_set_1 a) (wpAny_pure ⟨plainId_quiet F.plain_set_new _, codeAny_builtin F.entry_set_new ?_⟩))
  rw [Around.under_plainId F.plain_set_new _]
  unfold Builtin.«set.__new__» Builtin.Frozenset.newClass
  have hsub := sub_set_self
  obtain ⟨hp, g, d, tk, os⟩ := s
  dsimp only
  wp_walk
  refine wpAny_askSetting (wpAny_pure ?_)
  dsimp only
  simp only [newObj]
  exact wpAny_bind (wpAny_alloc (wpAny_pure (wpAny_pure h)))
set_option maxHeartbeats 8000000 in
theorem set_call {l : Addr} {items : Array Value} {u : Nat} {Rel : Nat → Array (Int × Value) → SetTable → Prop} {Q : Value → Shared → Prop} (hh : A.handled = none) (hl : s.heap.IsList l items) (hu : A.units + 8 ≤ u)
    (h0 : Rel 0 #[] (.fresh 0 0 (!(w.params.followText "set-order")))) (ad : Adds prog w u s.heap s.heap.objs.size items.size (fun i v => items[i]? = some v) Rel)
    (h : ∀ es ep t h' tk, Rel items.size es t → h'.get? s.heap.objs.size = some (setO es ep t) → (∀ b o, s.heap.get? b = some o → h'.get? b = some o) → Q (.ref s.heap.objs.size) { s with heap := h', toks := tk }) :
    wpAny (model prog w) A (call (.type "set") [.ref l]) Q E s := by
  have cs := F.called_set
  obtain ⟨c, tl, m1⟩ := cs.mro; have m2 := cs.made; have m3 := cs.sub; have m4 := cs.notType; have m5 := cs.canCreate; have m6 := F.typeCall_set_1 (.ref l)
  refine wpAny_call (codeAny_of_tree (show wpAny _ _ (callAny (.type "set") _) _ _ _ from ?_))
  refine wpAny_pure ⟨Code.quiet_builtin _ (by decide +kernel), codeAny_builtin F.entry_type_call ?_⟩
  have wt := Around.under_plain (A := A) (weight_type_call_type "set" [.ref l] []) rfl; rw [wt]; clear wt
  repeat any_goals (first | assumption | wp_step)
  refine codeAny_mono (set_made (a := .ref l) (E := E) (Q := fun obj s₁ => obj = .ref s.heap.objs.size ∧ s₁ = { s with heap := s.heap.push (setO #[] 0 (.fresh 0 0 (!(w.params.followText "set-order")))) }) ⟨rfl, rfl⟩) fun r s₁ hr => ?_
  generalize hled : (!(w.params.followText "set-order")) = led at hr h0
  cases r with
  | error e => exact hr
  | ok fl =>
    cases fl with
    | ret obj =>
      obtain ⟨rfl, rfl⟩ := hr
      have hS : (s.heap.push (setO #[] 0 (.fresh 0 0 led))).get? s.heap.objs.size = some (setO #[] 0 (.fresh 0 0 led)) := Heap.get?_push_size _ rfl
      have hT : Shared.TypeIs { s with heap := s.heap.push (setO #[] 0 (.fresh 0 0 led)) } (.ref s.heap.objs.size) "set" := ⟨_, hS, rfl⟩
      have i1 := cs.init.lookup; have i2 := cs.init.bind (.ref s.heap.objs.size)
      repeat any_goals (first | assumption | wp_step)
      refine codeAny_mono (codeAny_call_builtin (R := wants (fun r s₂ => r = .none ∧ ∃ es ep t h' tk, s₂ = { s with heap := h', toks := tk } ∧ Rel items.size es t ∧ h'.get? s.heap.objs.size = some (setO es ep t) ∧ ∀ b o, s.heap.get? b = some o → h'.get? b = some o) E) cs.init.plain F.entry_set_init (check_set_init_1 hT ?_)) fun r₂ s₂ hr₂ => ?_
      · obtain ⟨⟨oc, odict, od, oslots⟩, hol, hcl, nl, hdl⟩ := hl
        simp only at hcl hdl; subst hcl hdl
        have hol' : (s.heap.push (setO #[] 0 (.fresh 0 0 led))).get? l = some { cls := .type "list", dict := odict, data := .seq items nl, slots := oslots } := Heap.get?_push_of_some _ hol
        have q1 := F.sub_list_set; have q2 := F.sub_list_frozenset; have q3 : (Value.type "list" == Value.type "dict") = false := by decide
        have hl1 : (s.heap.push (setO #[] 0 (.fresh 0 0 led))).IsList l items := ⟨_, hol', rfl, nl, rfl⟩
        unfold setO at hS hT hol' hl1 ⊢
        unfold Builtin.«set.__init__» noKeywords Builtin.Frozenset.updateFrom
        generalize gi : pyIter = it
        wp_walk
        subst gi
        refine wpAny_pyIter_list hl1 (wpAny_bind (wpAny_runValue ?_))
        have lS : l < s.heap.objs.size := Heap.lt_size hol
        have hh3 : A.in1.in1.in1.handled = none := by simp [hh]
        have nI : l ≠ (s.heap.push { cls := .type "set", dict := none, data := .set #[] 0 (.fresh 0 0 led) }).objs.size := by
          rw [Heap.size_push]; exact Nat.ne_of_lt (Nat.lt_succ_of_lt lS)
        have hSf : s.heap.objs.size ∉ [(s.heap.push { cls := .type "set", dict := none, data := .set #[] 0 (.fresh 0 0 led) }).objs.size, l] := by
          rw [Heap.size_push]; simp only [List.mem_cons, List.mem_singleton, List.not_mem_nil, or_false, not_or]
          exact ⟨Nat.ne_of_lt (Nat.lt_succ_self _), Nat.ne_of_gt lS⟩
        have far : ∀ (b : Addr) (o : Obj), s.heap.get? b = some o → b ∉ [s.heap.objs.size, (s.heap.push { cls := .type "set", dict := none, data := .set #[] 0 (.fresh 0 0 led) }).objs.size] := fun b o e => by
          have lb := Heap.lt_size e
          rw [Heap.size_push]; simp only [List.mem_cons, List.mem_singleton, List.not_mem_nil, or_false, not_or]
          exact ⟨Nat.ne_of_lt lb, Nat.ne_of_lt (Nat.lt_succ_of_lt lb)⟩
        refine set_loop (h₀ := s.heap) (u := u) ?hha ?huu (Walks.list hh3 _ l nI items).toS hSf far ad (items.size - 0) 0 _ #[] 0 (.fresh 0 0 led) (by omega) (Nat.zero_le _) ⟨⟨_, Heap.get?_push_size _ rfl, rfl, rfl⟩, (hl1.push _)⟩ h0 (Heap.get?_push_of_some _ hS) (fun b o e => Heap.get?_push_of_some _ (Heap.get?_push_of_some _ e)) ?hR
        case hha => exact hh
        case huu => exact Nat.le_trans (by first | exact Nat.le_refl _ | (show _ ≤ A.units + 8; simp [Around.in1]; done) | (show _ ≤ A.units + 8; simp [Around.in1]; omega)) hu
        case hR =>
          intro s' es ep t hm rel hg
          obtain ⟨h', g', d', tk', os'⟩ := s'
          obtain rfl : g' = s.gens := hm.gens; obtain rfl : d' = s.drawn := hm.drawn; obtain rfl : os' = s.os := hm.os
          refine (wpAny_pure ?_ : wpAny _ _ _ _ _ _)
          show wpAny _ _ (ret Value.none) _ _ _
          exact wpAny_pure ⟨rfl, es, ep, t, h', tk', rfl, rel, hg, fun b o e => hm.heap b o (far b o e) (Heap.get?_push_of_some _ (Heap.get?_push_of_some _ e))⟩
      · cases r₂ with
        | error e => exact hr₂
        | ok fl₂ =>
          cases fl₂ with
          | ret r =>
            obtain ⟨rfl, es, ep, t, h', tk, rfl, rel, hg, kp⟩ := hr₂
            repeat any_goals (first | assumption | wp_step)
            exact h _ _ _ _ _ rel hg kp
          | _ => exact hr₂.elim
    | _ => exact hr.elim
end
end L2
namespace L2
open PySem PySem.Spec PyProof.Rows
def keyI (e : Int × Value) : Int := match e.2 with | .int n _ => n | _ => 0
structure RelI (prog : Program) (w : World) (ns : List Int) (i : Nat) (es : Array (Int × Value)) (t : SetTable) : Prop where
  tab : TabOk w t es.size
  few : es.size ≤ i
  els : ElemsOf (intKind prog w) es.toList
  one : (es.toList.map keyI).Nodup
  mem : ∀ k, k ∈ es.toList.map keyI ↔ k ∈ ns.take i
section
variable {prog : Program} {w : World} {A : Around} {E : Value → Shared → Prop} {s : Shared}
theorem keyI_is {l : List (Int × Value)} (h : ElemsOf (intKind prog w) l) {e : Int × Value} (he : e ∈ l) : ∃ tk, e.2 = .int (keyI e) tk := by
  obtain ⟨⟨k, hk, _⟩, _⟩ := h e he
  obtain ⟨tk, z⟩ := Value.isInt_shape hk
  exact ⟨tk, by unfold keyI; rw [z]⟩
theorem isI_iff {v : Value} {k n : Int} {tk : Tok} (e : v = .int n tk) : (intKind prog w).is k v = decide (k = n) := by
  subst e
  exact KeyKind.is_eq_decide (intKind_is prog w n tk) k
theorem put_set {h : Heap} {a : Addr} {es es' : Array (Int × Value)} {ep : Nat} {t t' : SetTable} (ho : h.get? a = some (setO es ep t)) : (h.update a (Obj.putSet es' t')).get? a = some (setO es' (ep + 1) t') := by
  have := Heap.get?_update_self (Obj.putSet es' t') ho (by rw [putSet_of es' t' (o := setO es ep t) rfl]; rfl)
  rw [putSet_of es' t' (o := setO es ep t) rfl] at this
  exact this
theorem add_tail {g : Bool → Sem Unit} (hg : ∀ (b : Bool) (s₁ : Shared) (Q' : Unit → Shared → Prop), Q' () s₁ → wpAny (model prog w) A (g b) Q' E s₁) {a : Addr} {es er : Array (Int × Value)} {ep : Nat} {t tb : SetTable} {wd : Bool} {R : Option Bool → Shared → Prop} (ho : s.heap.get? a = some (setO es ep t)) (T2 : TabOk w tb er.size) (hb : er.size < scanBound)
    (h : ∀ es2 ep2 t3 h', es2.toList.Perm er.toList → TabOk w t3 es2.size → h'.get? a = some (setO es2 ep2 t3) → (∀ b o, b ≠ a → s.heap.get? b = some o → h'.get? b = some o) → R (some true) { s with heap := h' }) :
    wpAny (model prog w) A (do
        storeSet a er tb
        if (!wd && tb.tooFull) = true then do
            g (relayAll tb er (SetTable.grown er.size)).2.2
            storeSet a (relayAll tb er (SetTable.grown er.size)).1 (relayAll tb er (SetTable.grown er.size)).2.1
            pure (some true)
          else pure (some true)) R E s := by
  refine wpAny_bind (wpAny_storeSet_of ho rfl ?_ (fits_of_scanBound hb))
  have g1 := put_set (es' := er) (t' := tb) ho
  have k1 : ∀ b o, b ≠ a → s.heap.get? b = some o → (s.heap.update a (Obj.putSet er tb)).get? b = some o := fun b o hb e => (Heap.get?_update_other _ _ (Ne.symm hb)).trans e
  split
  · have hp := relayAll_perm tb er (SetTable.grown er.size)
    have hf := relayAll_fits tb er (SetTable.grown er.size)
    have hu := relayAll_up tb er (SetTable.grown er.size)
    generalize relayAll tb er (SetTable.grown er.size) = Rl at hp hf hu ⊢
    obtain ⟨es2, t3, gv⟩ := Rl
    dsimp only at hp hf hu ⊢
    have sz : es2.size = er.size := by rw [← Array.length_toList, hp.length_eq, Array.length_toList]
    refine wpAny_bind (hg _ _ _ ?_)
    refine wpAny_bind (wpAny_storeSet_of g1 rfl ?_ (fits_of_scanBound (by omega)))
    refine wpAny_pure (h es2 _ t3 _ hp ⟨hf, hu.1, hu.2.trans T2.led⟩ (put_set g1) fun b o hb e => ?_)
    exact (Heap.get?_update_other _ _ (Ne.symm hb)).trans (k1 b o hb e)
  · exact wpAny_pure (h er _ tb _ (.refl _) T2 g1 k1)
theorem adds_int {ns : List Int} {u n : Nat} {h₀ : Heap} {S : Addr} {items : Array Value} (hi : IntsAre items.toList ns) (hn : n = items.size) (hb : items.size < 1000) : Adds prog w u h₀ S n (fun i v => items[i]? = some v) (RelI prog w ns) := by
  intro A E s Q i v es ep t hh hu hlt hP rel ho old q
  obtain ⟨tk, rfl⟩ := IntsAre.int_at hi i v (by rw [Array.getElem?_toList]; exact hP)
  have nl : ns.length = items.size := by have := hi.length; rw [Array.length_toList] at this; omega
  have hni : ns[i]? = some (ns.getD i 0) := by rw [List.getD_eq_getElem?_getD, List.getElem?_eq_getElem (by omega)]; rfl
  generalize ns.getD i 0 = k at hni ⊢
  have tk1 : ns.take (i + 1) = ns.take i ++ [k] := by rw [List.take_add_one, hni]; rfl
  have esb : es.size + 1 < scanBound := by have := rel.few; unfold scanBound; omega
  have T := rel.tab
  have isk : ∀ e ∈ es.toList, (intKind prog w).is k e.2 = decide (k = keyI e) := fun e he => by
    obtain ⟨tk', z⟩ := keyI_is rel.els he
    exact isI_iff z
  unfold setAdd
  refine wpAny_holding (wpAny_bind ((intKind prog w).pyHash (k := k) (intKind_is _ _ _ _) ?_))
  unfold setAddHashed setAddHashedIn
  refine wpAny_holding (wpAny_bind (wp_setSt (s := { s with toks := s.toks + 1 }) ho T ?_))
  dsimp only
  rw [byScan_of (knd := intKind prog w) (x := .int k tk) rfl (by omega) rel.els]
  simp only [↓reduceIte]
  unfold setAddByScan
  refine wpAny_bind (wpAny_bind (wpAny_rule ?_))
  refine wpAny_bind (wpAny_setScan_of (knd := intKind prog w) (k := k) (intKind_is _ _ _ _) (o := setO es ep t) ho rfl T.fits rel.els ?_)
  cases hr : List.findIdx? (fun e => (intKind prog w).is k e.2) es.toList with
  | some j =>
    dsimp only
    obtain ⟨hj, hpj, _⟩ := List.findIdx?_eq_some_iff_getElem.mp hr
    have hk : k ∈ es.toList.map keyI := by
      rw [isk _ (List.getElem_mem hj)] at hpj
      rw [of_decide_eq_true hpj]
      exact List.mem_map_of_mem (List.getElem_mem hj)
    refine wpAny_pure (wpAny_pure (q es ep t s.heap _ false ⟨T, by have := rel.few; omega, rel.els, rel.one, fun k' => ?_⟩ ho (fun b o _ e => e) (Nat.le_succ _)))
    rw [tk1, List.mem_append, List.mem_singleton, rel.mem k']
    exact ⟨.inl, fun z => z.elim id fun z => by rw [z]; exact (rel.mem k).mp hk⟩
  | none =>
    dsimp only
    have hk : k ∉ es.toList.map keyI := fun z => by
      obtain ⟨e, he, z⟩ := List.mem_map.mp z
      have := List.findIdx?_eq_none_iff.mp hr e he
      rw [isk e he, z] at this
      simp at this
    have hp := layNew_perm t es ((intKind prog w).hash k) (.int k tk)
    have hf := layNew_fits t es ((intKind prog w).hash k) (.int k tk)
    have hup := layNew_up T.up es ((intKind prog w).hash k) (.int k tk)
    generalize layNew t es ((intKind prog w).hash k) (.int k tk) = L at hp hf hup ⊢
    obtain ⟨er, t1, wd, gv⟩ := L
    dsimp only at hp hf hup ⊢
    rw [Array.toList_push] at hp
    have sz : er.size = es.size + 1 := by rw [← Array.length_toList, hp.length_eq, List.length_append, Array.length_toList]; rfl
    have el1 : ElemsOf (intKind prog w) er.toList := (rel.els.push (intKind_is prog w k tk) rfl).perm hp
    have fin : ∀ (tb : SetTable), tb.fits er.size = true → TUp tb → tb.led = t.led → ∀ (g : Bool → Sem Unit), (∀ (b : Bool) (s₁ : Shared) (Q' : Unit → Shared → Prop), Q' () s₁ → wpAny (model prog w) A (g b) Q' E s₁) →
        wpAny (model prog w) A (do
          storeSet S er tb
          if (!wd && tb.tooFull) = true then do
              g (relayAll tb er (SetTable.grown er.size)).2.2
              storeSet S (relayAll tb er (SetTable.grown er.size)).1 (relayAll tb er (SetTable.grown er.size)).2.1
              pure (some true)
            else pure (some true)) (fun r s' => wpAny (model prog w) A (match r with
              | some added => pure added
              | none => setAddHashedIn S (.int k tk) ((intKind prog w).hash k) 99999) Q E s') E { s with toks := s.toks + 1 } := fun tb f2 u2 l2 g hg => by
      refine add_tail (s := { s with toks := s.toks + 1 }) hg ho ⟨f2, u2, l2.trans T.led⟩ (by omega) fun es2 ep2 t3 h' hp2 T3 hg2 kp => ?_
      have pm : (es2.toList.map keyI).Perm (es.toList.map keyI ++ [k]) := by
        have := (hp2.trans hp).map keyI
        rw [List.map_append] at this
        exact this
      refine wpAny_pure (q es2 ep2 t3 h' _ true ⟨T3, ?_, el1.perm hp2, ?_, fun k' => ?_⟩ hg2 kp (Nat.le_succ _))
      · have := pm.length_eq; have := rel.few; simp at *; omega
      · refine pm.nodup_iff.mpr (List.nodup_append.mpr ⟨rel.one, List.nodup_cons.mpr ⟨by simp, List.nodup_nil⟩, fun a ha b hb e => hk ?_⟩)
        rw [List.mem_singleton.mp hb] at e; rw [← e]; exact ha
      · rw [pm.mem_iff, tk1, List.mem_append, List.mem_append, rel.mem k']
    refine wpAny_bind ?_
    have gvw : ∀ (b : Bool) (s₁ : Shared) (Q' : Unit → Shared → Prop), Q' () s₁ → wpAny (model prog w) A (match b with | true => rule "set.scan.the-table-gave-way" | false => pure ()) Q' E s₁ := fun b s₁ Q' hq => by cases b <;> first | exact wpAny_pure hq | exact wpAny_rule hq
    refine gvw gv _ _ ?_
    split
    · refine wpAny_bind ?_
      rw [hashByValue_scannable 8 (x := .int k tk) rfl]
      refine wpAny_pure ?_
      exact fin t1 hf hup.1 hup.2 _ gvw
    · refine wpAny_bind (wpAny_pure ?_)
      exact fin t1 hf hup.1 hup.2 _ gvw
end
end L2
namespace L2
open PySem PySem.Spec PyProof.Rows
def SetV (w : World) (a : Addr) (vs : List V) : HO := .ext fun h => ∃ es ep t, h.get? a = some (setO es ep t) ∧ TabOk w t es.size ∧ Vals vs (es.toList.map (·.2))
theorem Inv.drawn {X : Cx} {pins : List (Addr × Obj)} {σ : St} {H : Hp} {s : Shared} (d : Drawn) (I : Inv X pins σ H s) : Inv X pins σ H { s with drawn := d } := ⟨I.ok, I.os, I.bare, I.base, I.loc, I.cell, I.free, I.freeC, I.pin, I.hok, I.len⟩
theorem setV_ok {P : Program} {w : World} {H : Hp} {h : Heap} {a : Addr} {vs : List V} {es : Array (Int × Value)} {ep : Nat} {t : SetTable} (e : h.get? a = some (setO es ep t)) (T : TabOk w t es.size) (r : Vals vs (es.toList.map (·.2))) : ObjOk P w H h a (SetV w a vs) :=
  ⟨⟨es, ep, t, e, T, r⟩, ⟨_, e⟩, fun h1 h2 ⟨es, ep, t, e, T, r⟩ k => ⟨es, ep, t, k _ e, T, r⟩⟩
theorem Vals.perm : ∀ {us us' : List Value} {vs : List V}, us'.Perm us → Vals vs us → ∃ vs' : List V, vs'.Perm vs ∧ Vals vs' us' := fun {us us' vs} p => by
  induction p generalizing vs with
  | nil => intro r; exact ⟨vs, .refl _, r⟩
  | cons x _ ih =>
    intro r
    cases r with
    | cons r1 r2 =>
      obtain ⟨vs', p', r'⟩ := ih r2
      exact ⟨_, p'.cons _, .cons r1 r'⟩
  | swap x y l =>
    intro r
    cases r with
    | cons r1 r2 =>
      cases r2 with
      | cons r3 r4 => exact ⟨_, List.Perm.swap _ _ _, .cons r3 (.cons r1 r4)⟩
  | trans _ _ ih1 ih2 =>
    intro r
    obtain ⟨v1, p1, r1⟩ := ih2 r
    obtain ⟨v2, p2, r2⟩ := ih1 r1
    exact ⟨v2, p2.trans p1, r2⟩
theorem Vals.ints {us us' : List Value} {ns : List Int} (p : us'.Perm us) (r : Vals (ns.map V.int) us) : ∃ ns' : List Int, ns'.Perm ns ∧ Vals (ns'.map V.int) us' := by
  obtain ⟨vs', p', r'⟩ := Vals.perm p r
  obtain ⟨ns', e, p2⟩ : ∃ ns' : List Int, vs' = ns'.map V.int ∧ ns'.Perm ns := by
    refine ⟨vs'.map fun v => match v with | .int n => n | _ => 0, ?_, ?_⟩
    · rw [List.map_map]
      refine (List.map_id _).symm.trans (List.map_congr_left fun v hv => ?_)
      obtain ⟨n, _, e⟩ := List.mem_map.mp (p'.mem_iff.mp hv)
      rw [← e]; rfl
    · have := p'.map fun v => match v with | .int n => n | _ => 0
      rw [List.map_map] at this
      refine this.trans (List.Perm.of_eq ?_)
      exact (List.map_congr_left fun n _ => rfl).trans (List.map_id _)
  exact ⟨ns', p2, e ▸ r'⟩
section
variable {X : Cx} {K : PySem.W.Frag}
def rSetN (K : PySem.W.Frag) (w : World) : List V → Hp → VK → Prop := fun xs H Q => ∃ (p : Addr) (ns : List Int), xs = [.ref p] ∧ SqL K H p (ns.map V.int) ∧ ns.length < 1000 ∧ ∀ (q : Addr) (ms : List Int), H q = none → ms.Nodup → (∀ k, k ∈ ms ↔ k ∈ ns) → Q (.ref q) (upd H q (SetV w q (ms.map V.int)))
theorem call_setN (hK : X.K = K) (hc : X.calm = true) : CallR X (.type "set") (rSetN K X.w) := by
  subst hK
  intro pins s σ H xs us Q I r h
  obtain ⟨p, ns, rfl, hl, hz, q⟩ := h
  obtain ⟨u, rfl, rx⟩ := vals1 r
  cases rx
  obtain ⟨its, rv, pl, _⟩ := I.list hl
  have len := rv.length
  rw [List.length_map] at len
  have ia := ints_are rv
  refine set_call (items := its.toArray) (u := X.A.units + 8) (Rel := RelI X.prog X.w ns) (I.ok.hd hc) pl.isList (Nat.le_refl _) ⟨⟨rfl, List.Pairwise.nil, rfl⟩, Nat.zero_le _, fun e he => by simp at he, List.nodup_nil, fun k => by simp⟩ (adds_int (by simpa using ia) rfl (by simp; omega)) fun es ep t h' tk rel hg kp => ?_
  have big : ns.take its.toArray.size = ns := List.take_of_length_le (by simp; omega)
  have rs : Vals ((es.toList.map keyI).map V.int) (es.toList.map (·.2)) := by
    have el := rel.els
    generalize es.toList = l at el
    induction l with
    | nil => exact .nil
    | cons e l ih =>
      obtain ⟨tk', z⟩ := keyI_is el (e := e) List.mem_cons_self
      exact .cons ⟨tk', z⟩ (ih el.tail)
  exact ⟨.ref s.heap.objs.size, _, I.laid (o := SetV X.w s.heap.objs.size ((es.toList.map keyI).map V.int)) (t' := tk) kp (Nat.le_refl _) (setV_ok hg rel.tab rs), rfl, q _ _ (I.hok.fresh (Nat.le_refl _)) rel.one (fun k => by rw [rel.mem k, big])⟩
def rSortS (w : World) : List V → Hp → VK → Prop := fun xs H Q => ∃ (p : Addr) (ns : List Int), xs = [.ref p] ∧ H p = some (SetV w p (ns.map V.int)) ∧ ns.length < 64 ∧ ∀ (l : Addr) (ns' : List Int), H l = none → ns'.Perm ns → ns'.Pairwise (· ≤ ·) → Q (.ref l) (upd H l (.lst (ns'.map V.int)))
theorem call_sortedS (hc : X.calm = true) : CallR X (.builtin "sorted") (rSortS X.w) := by
  intro pins s σ H xs us Q I r h
  obtain ⟨p, ns, rfl, hp, hz, q⟩ := h
  obtain ⟨u, rfl, rx⟩ := vals1 r
  cases rx
  obtain ⟨⟨es, ep, t, hg, T, rv⟩, _, _⟩ := (show ObjOk X.prog X.w H s.heap p (SetV X.w p (ns.map V.int)) from I.hok p _ hp)
  have len := rv.length
  rw [List.length_map, List.length_map] at len
  have len2 : es.toList.length = es.size := Array.length_toList
  have big : (64 : Nat) ≤ sizeLine := by decide
  refine Calls.call_function_entry kind_sorted plain_sorted entry_sorted (args_sorted1 _) ?_
  unfold Builtin.«sorted»
  refine wpAny_bind (m := checkCount "sorted" 1 1 _) (wpAny_pure ?_)
  refine wpAny_bind (collect_set (A := X.A.in1) (I.ok.hd hc) hg T (by omega) fun vs h1 tk d pv k1 le => ?_)
  obtain ⟨ms, pm, rm⟩ := Vals.ints pv rv
  have vl := rm.length
  rw [List.length_map] at vl
  have ml := pm.length_eq
  have I1 : Inv X pins σ H { s with heap := h1, toks := tk, drawn := d } := Inv.drawn d (I.kept (t' := tk) k1)
  refine wpAny_bind (wpAny_newList ?_)
  have hoL : (h1.push (seqObj "list" vs.toArray 0)).get? h1.objs.size = some (seqObj "list" vs.toArray 0) := Heap.get?_push_size _ rfl
  refine wpAny_bind (wpAny_holding (wpAny_call_entry slot_list_sort ⟨_, hoL, rfl⟩ entry_list_sort (list_sort_tree (s := { s with heap := h1.push (seqObj "list" vs.toArray 0), toks := tk, drawn := d }) hoL (ints_are rm) (by omega) fun out ns' ia pm' pw => ⟨_, rfl, ?_⟩) (args_list_sort _)))
  obtain ⟨e, he⟩ := sortedHeap_at (out := out) hoL
  have lp := pm'.length_eq
  refine wpAny_pure ⟨_, rfl, ?_⟩
  refine ⟨.ref h1.objs.size, _, I1.laid (t' := tk) (a := h1.objs.size) (o := .lst (ns'.map V.int)) (fun b u e => ?_) (Nat.le_refl _) ⟨by rw [List.length_map]; omega, out.toList, e, vals_are ia, by simpa using he⟩, rfl, q _ ns' (I1.hok.fresh (Nat.le_refl _)) (pm'.trans pm) pw⟩
  have lt : @LT.lt Nat _ b h1.objs.size := Heap.lt_size e
  rw [sortedHeap_old (Nat.ne_of_lt lt) (by rw [Heap.size_push]; exact Nat.lt_succ_of_lt lt)]
  exact Heap.get?_push_of_some _ e
end
end L2
namespace L2
open PySem PySem.Spec PyProof.Rows
section
variable {prog : Program} {w : World} {A : Around} {E : Value → Shared → Prop} {s : Shared} {W : Addr → List Int → Prop}
abbrev TupK (prog : Program) (w : World) (h : Heap) (ks : List Int) (a : Addr) : Prop := IsTupleKey (intKind prog w) h ks a
def hshT (ns : List Int) : Int := reduceHash (Builtin.Tuple.tupleHashOf (ns.map hashInt))
def hAt (ks : List (List Int)) (i : Nat) : Int := ((ks[i]?).map hshT).getD 0
def addP (ks : List (List Int)) (t : SetTable) (x : List Int) : Option (List (List Int) × SetTable) :=
  if t.gaveWay then none else
  match t.probe (hAt ks) (hshT x) (t.probeStart (hshT x)) with
  | some (.candidate _ i _) => if ks[i]? = some x then some (ks, t) else none
  | some (.empty j none) =>
    let kn := ks.take (t.put j).2 ++ x :: ks.drop (t.put j).2
    if (t.put j).1.fits (ks.length + 1) then
      if (t.put j).1.tooFull then
        if SetTable.sizeAbove (SetTable.grown (ks.length + 1)) ≤ 100000 then
          match (t.put j).1.relaid (kn.map hshT).toArray (SetTable.grown (ks.length + 1)) with
          | some (t2, o) => if (o.toList.filterMap (kn[·]?)).length = ks.length + 1 ∧ t2.fits (ks.length + 1) = true then some (o.toList.filterMap (kn[·]?), t2) else none
          | none => none
        else none
      else some (kn, (t.put j).1)
    else none
  | _ => none
def EsT (prog : Program) (w : World) (W : Addr → List Int → Prop) (h : Heap) (es : Array (Int × Value)) (ks : List (List Int)) : Prop := Paired (fun (e : Int × Value) (k : List Int) => e.1 = hshT k ∧ ∃ a, e.2 = .ref a ∧ TupK prog w h k a ∧ W a k) es.toList ks
end
end L2
namespace L2
open PySem PySem.Spec PyProof.Rows
section
variable {prog : Program} {w : World} {A : Around} {E : Value → Shared → Prop} {s : Shared} {W : Addr → List Int → Prop}
def simT (led : Bool) (xs : List (List Int)) : Option (List (List Int) × SetTable) := xs.foldlM (fun st x => addP st.1 st.2 x) ([], SetTable.fresh 0 0 led)
structure RelT (prog : Program) (w : World) (W : Addr → List Int → Prop) (h₀ : Heap) (led : Bool) (xs : List (List Int)) (i : Nat) (es : Array (Int × Value)) (t : SetTable) : Prop where
  ex : ∃ ks, EsT prog w W h₀ es ks ∧ t.fits ks.length = true ∧ ks.length ≤ i ∧ simT led (xs.take i) = some (ks, t)
end
end L2
namespace L2
open PySem
def runB (l : List Int) (b : Bool) : List Int := if b then l ++ [1] else l.dropLast ++ [l.getLastD 0 + 1]
def runsB (c : Nat) : Nat → List Int
  | 0 => [1]
  | k + 1 => runB (runsB c k) (c / 2 ^ k % 2 == 1)
def insD (x : Int) : List Int → List Int
  | [] => [x]
  | y :: l => if x ≥ y then x :: y :: l else y :: insD x l
def fallD : List Int → List Int
  | [] => []
  | x :: l => insD x (fallD l)
def cutsB (n : Nat) : List (List Int) := (List.range (2 ^ (n - 1))).map fun c => fallD (runsB c (n - 1))
end L2
namespace L2
open PySem PySem.Spec PyProof.Rows PySem.SeqAt PySem.W
theorem Vals.pick {vs : List V} {us : List Value} (r : Vals vs us) : ∀ {p : List Nat}, (∀ i ∈ p, i < vs.length) → Vals (p.map fun i => vs.getD i .non) (p.map fun i => us.getD i Value.none)
  | [], _ => .nil
  | i :: p, h => by
    have hi := h i List.mem_cons_self
    obtain ⟨u, hu, ru⟩ := r.get (i := i) (x := vs[i]) (List.getElem?_eq_getElem hi)
    refine .cons ?_ (Vals.pick r fun j hj => h j (List.mem_cons_of_mem _ hj))
    dsimp only
    rw [List.getD_eq_getElem?_getD, List.getD_eq_getElem?_getD, hu, List.getElem?_eq_getElem hi]
    exact ru
def LssAt (H : Hp) (vs : List V) (Ls : List (List Int)) : Prop := Ls.length = vs.length ∧ ∀ (i : Nat) (v : V) (L : List Int), vs[i]? = some v → Ls[i]? = some L → ∃ b : Addr, v = .ref b ∧ H b = some (.lst (L.map V.int))
section
variable {X : Cx} {K : PySem.W.Frag} {pins : List (Addr × Obj)} {σ : St} {H : Hp} {s : Shared}
theorem LssAt.at {vs : List V} {us : List Value} {Ls : List (List Int)} (I : Inv X pins σ H s) (r : Vals vs us) (h : LssAt H vs Ls) : AllLis s.heap us Ls := by
  have len := r.length
  refine ⟨by rw [h.1, len], fun i u L hu hL => ?_⟩
  have iv : i < vs.length := by
    have := (List.getElem?_eq_some_iff.mp hu).1
    omega
  obtain ⟨b, e1, e2⟩ := h.2 i vs[i] L (List.getElem?_eq_getElem iv) hL
  obtain ⟨u', hu', ru⟩ := r.get (i := i) (x := vs[i]) (List.getElem?_eq_getElem iv)
  rw [hu] at hu'
  cases hu'
  rw [e1] at ru
  cases ru
  obtain ⟨z, its, n, rv, hl, e⟩ := I.lstM e2
  have il := rv.length
  rw [List.length_map] at il
  refine ⟨b, its.toArray, n, rfl, e, by rw [List.size_toArray]; omega, fun j a ha => ?_⟩
  obtain ⟨w', hw, rw'⟩ := rv.get (i := j) (x := .int a) (by rw [List.getElem?_map, ha]; rfl)
  obtain ⟨t, rfl⟩ := rw'
  exact ⟨t, by rw [List.getElem?_toArray]; exact hw⟩
theorem AllLis.keep {h h' : Heap} {vs : List Value} {Ls : List (List Int)} (x : AllLis h vs Ls) (k : ∀ b o, h.get? b = some o → h'.get? b = some o) : AllLis h' vs Ls := ⟨x.1, fun i v L e1 e2 => (x.2 i v L e1 e2).keep k⟩
theorem sorted_fromL {β : Type} {A : Around} {E : Value → Shared → Prop} {prog : Program} {w : World} {S : Shared} {us : List Value} {Ls : List (List Int)} {Q : β → Shared → Prop} {k : Value → Sem β} (hu : A.in1.units < cLine) (h64 : us.length < 64) (hr : AllLis S.heap us Ls)
    (q : ∀ (p : List Nat), OrdP Ls p → ∀ h' n, (∀ b o, S.heap.get? b = some o → h'.get? b = some o) → h'.get? S.heap.objs.size = some { cls := .type "list", data := .seq (p.map fun i => us.getD i Value.none).toArray n } → wpAny (model prog w) A (k (.ref S.heap.objs.size)) Q E { S with heap := h' }) :
    wpAny (model prog w) A (newList us >>= fun l => holding [l] (call (.builtin "list.sort") [l]) >>= fun _ => k l) Q E S := by
  have hL : (S.heap.push (seqObj "list" us.toArray 0)).get? S.heap.objs.size = some (seqObj "list" us.toArray 0) := Heap.get?_push_size _ rfl
  refine wpAny_bind (wpAny_newList ?_)
  refine wpAny_bind (wpAny_holding (wpAny_call_entry slot_list_sort ⟨_, hL, rfl⟩ entry_list_sort (sort_lists (s := { S with heap := S.heap.push (seqObj "list" us.toArray 0) }) (Ls := Ls) hL h64 hu (fun h' k => ?_) fun p hp => ⟨_, rfl, ?_⟩) (args_list_sort _)))
  · exact hr.keep fun b o e => k b o (Nat.ne_of_lt (Heap.lt_size e)) (Heap.get?_push_of_some _ e)
  · obtain ⟨e, he⟩ := sortedHeap_at (vs := us) (out := (p.map fun i => us.getD i Value.none).toArray) (n := 0) hL
    refine q p hp _ e (fun b o hb => ?_) he
    have hlt := Heap.lt_size hb
    rw [sortedHeap_old (Nat.ne_of_lt hlt) (by rw [size_push']; exact Nat.lt_succ_of_lt hlt)]
    exact Heap.get?_push_of_some _ hb
def rSortLL (K : PySem.W.Frag) : List V → Hp → VK → Prop := fun xs H Q => ∃ (p : Addr) (vs : List V) (Ls : List (List Int)), xs = [.ref p] ∧ SqL K H p vs ∧ vs.length < 64 ∧ LssAt H vs Ls ∧ ∀ (l : Addr) (π : List Nat), H l = none → OrdP Ls π → Q (.ref l) (upd H l (.lst (π.map fun i => vs.getD i .non)))
theorem call_sortedLL (hK : X.K = K) (hu : X.A.units + 64 < cLine) : CallR X (.builtin "sorted") (rSortLL K) := by
  subst hK
  intro pins s σ H xs us Q I r h
  obtain ⟨p, vs, Ls, rfl, hp, hz, hd, q⟩ := h
  obtain ⟨u, rfl, ru⟩ := vals1 r
  cases ru
  obtain ⟨its, rv, pl, _⟩ := I.list hp
  have len := rv.length
  have all := hd.at I rv
  have big : (10000000 : Nat) ≤ sizeLine := by decide
  refine Calls.call_function_entry kind_sorted plain_sorted entry_sorted (args_sorted1 _) ?_
  unfold Builtin.«sorted»
  refine wpAny_bind (m := checkCount "sorted" 1 1 _) (wpAny_pure ?_)
  have kp : ∀ b o, s.heap.get? b = some o → ((s.heap.push (seqObj "list" #[] 0)).update s.heap.objs.size (Obj.mapSeq (· ++ its.toArray))).get? b = some o := fun b o e => (Heap.get?_update_other _ _ (Ne.symm (Nat.ne_of_lt (Heap.lt_size e)))).trans (Heap.get?_push_of_some _ e)
  refine wpAny_bind (collect_list pl.isList ?_ (by omega))
  refine sorted_fromL (S := { s with heap := (s.heap.push (seqObj "list" #[] 0)).update s.heap.objs.size (Obj.mapSeq (· ++ its.toArray)) }) (Ls := Ls) ?_ (by omega) (all.keep kp) fun π hπ h' n k1 k2 => ?_
  · have : X.A.in1.in1.units ≤ X.A.units + 2 := by show _ ≤ _; first | exact Nat.le_refl _ | exact Nat.le_succ _ | omega
    omega
  · refine wpAny_pure ⟨_, rfl, ?_⟩
    have πl : π.length = vs.length := by rw [hπ.1.length_eq, List.length_range, hd.1]
    have le : s.heap.objs.size ≤ ((s.heap.push (seqObj "list" #[] 0)).update s.heap.objs.size (Obj.mapSeq (· ++ its.toArray))).objs.size := by rw [Heap.size_update, size_push']; exact Nat.le_succ _
    have pv : Vals (π.map fun i => vs.getD i .non) (π.map fun i => its.getD i Value.none) := rv.pick fun i hi => by have := List.mem_range.mp (hπ.1.mem_iff.mp hi); rw [hd.1] at this; exact this
    exact ⟨.ref _, _, I.laid (o := .lst (π.map fun i => vs.getD i .non)) (fun b o e => k1 _ _ (kp b o e)) le ⟨by rw [List.length_map]; omega, _, n, pv, k2⟩, rfl, q _ π (I.hok.fresh le) hπ⟩
end
end L2
namespace L2
open PySem PySem.Spec PyProof.Rows PySem.SeqAt PySem.W
section
variable {X : Cx} {K : PySem.W.Frag} {pins : List (Addr × Obj)} {σ : St} {H : Hp} {s : Shared}
theorem call_setNK {w : World} (hK : X.K = K) (hw : X.w = w) (hc : X.calm = true) : CallR X (.type "set") (rSetN K w) := by subst hw; exact call_setN hK hc
theorem call_sortedSK {w : World} (hw : X.w = w) (hc : X.calm = true) : CallR X (.builtin "sorted") (rSortS w) := by subst hw; exact call_sortedS hc
end
end L2
namespace L2
open PySem
def kL : Nat → List (List Int)
  | 1 => [[1]]
  | 2 => [[1, 1], [2]]
  | 3 => [[1, 1, 1], [2, 1], [3]]
  | 4 => [[1, 1, 1, 1], [2, 1, 1], [2, 2], [3, 1], [4]]
  | 5 => [[1, 1, 1, 1, 1], [2, 1, 1, 1], [2, 2, 1], [3, 1, 1], [3, 2], [4, 1], [5]]
  | 6 => [[1, 1, 1, 1, 1, 1], [2, 1, 1, 1, 1], [2, 2, 1, 1], [2, 2, 2], [3, 1, 1, 1], [3, 2, 1], [3, 3], [4, 1, 1], [4, 2], [5, 1], [6]]
  | 7 => [[1, 1, 1, 1, 1, 1, 1], [2, 1, 1, 1, 1, 1], [2, 2, 1, 1, 1], [2, 2, 2, 1], [3, 1, 1, 1, 1], [3, 2, 1, 1], [3, 2, 2], [3, 3, 1], [4, 1, 1, 1], [4, 2, 1], [4, 3], [5, 1, 1], [5, 2], [6, 1], [7]]
  | 8 => [[1, 1, 1, 1, 1, 1, 1, 1], [2, 1, 1, 1, 1, 1, 1], [2, 2, 1, 1, 1, 1], [2, 2, 2, 1, 1], [2, 2, 2, 2], [3, 1, 1, 1, 1, 1], [3, 2, 1, 1, 1], [3, 2, 2, 1], [3, 3, 1, 1], [3, 3, 2], [4, 1, 1, 1, 1], [4, 2, 1, 1], [4, 2, 2], [4, 3, 1], [4, 4], [5, 1, 1, 1], [5, 2, 1], [5, 3], [6, 1, 1], [6, 2], [7, 1], [8]]
  | 9 => [[1, 1, 1, 1, 1, 1, 1, 1, 1], [2, 1, 1, 1, 1, 1, 1, 1], [2, 2, 1, 1, 1, 1, 1], [2, 2, 2, 1, 1, 1], [2, 2, 2, 2, 1], [3, 1, 1, 1, 1, 1, 1], [3, 2, 1, 1, 1, 1], [3, 2, 2, 1, 1], [3, 2, 2, 2], [3, 3, 1, 1, 1], [3, 3, 2, 1], [3, 3, 3], [4, 1, 1, 1, 1, 1], [4, 2, 1, 1, 1], [4, 2, 2, 1], [4, 3, 1, 1], [4, 3, 2], [4, 4, 1], [5, 1, 1, 1, 1], [5, 2, 1, 1], [5, 2, 2], [5, 3, 1], [5, 4], [6, 1, 1, 1], [6, 2, 1], [6, 3], [7, 1, 1], [7, 2], [8, 1], [9]]
  | 10 => [[1, 1, 1, 1, 1, 1, 1, 1, 1, 1], [2, 1, 1, 1, 1, 1, 1, 1, 1], [2, 2, 1, 1, 1, 1, 1, 1], [2, 2, 2, 1, 1, 1, 1], [2, 2, 2, 2, 1, 1], [2, 2, 2, 2, 2], [3, 1, 1, 1, 1, 1, 1, 1], [3, 2, 1, 1, 1, 1, 1], [3, 2, 2, 1, 1, 1], [3, 2, 2, 2, 1], [3, 3, 1, 1, 1, 1], [3, 3, 2, 1, 1], [3, 3, 2, 2], [3, 3, 3, 1], [4, 1, 1, 1, 1, 1, 1], [4, 2, 1, 1, 1, 1], [4, 2, 2, 1, 1], [4, 2, 2, 2], [4, 3, 1, 1, 1], [4, 3, 2, 1], [4, 3, 3], [4, 4, 1, 1], [4, 4, 2], [5, 1, 1, 1, 1, 1], [5, 2, 1, 1, 1], [5, 2, 2, 1], [5, 3, 1, 1], [5, 3, 2], [5, 4, 1], [5, 5], [6, 1, 1, 1, 1], [6, 2, 1, 1], [6, 2, 2], [6, 3, 1], [6, 4], [7, 1, 1, 1], [7, 2, 1], [7, 3], [8, 1, 1], [8, 2], [9, 1], [10]]
  | _ => []
structure KinOk (n : Nat) (ks : List (List Int)) (t : SetTable) : Prop where
  sim : simT true (cutsB n) = some (ks, t)
  up : TUp t
  perm : ks.Perm (kL n)
  sort : (kL n).Pairwise fun a b => lexB b a = false
  full : ∀ k ∈ kL n, k ≠ []
  some : kL n ≠ []
  few : (kL n).length < 64
end L2
namespace Sw
open PySem L2
inductive Mvs (H : Hp) : List V → List (Int × Str) → Prop
  | nil : Mvs H [] []
  | cons {t : Addr} {k : Int} {x : Str} {vs : List V} {r : List (Int × Str)} : H t = some (.tup [.int k, .str x]) → Mvs H vs r → Mvs H (.ref t :: vs) ((k, x) :: r)
theorem Mvs.length {H : Hp} : ∀ {vs : List V} {r : List (Int × Str)}, Mvs H vs r → vs.length = r.length
  | _, _, .nil => rfl
  | _, _, .cons _ x => by rw [List.length_cons, List.length_cons, x.length]
theorem Mvs.append {H : Hp} : ∀ {vs ws : List V} {r q : List (Int × Str)}, Mvs H vs r → Mvs H ws q → Mvs H (vs ++ ws) (r ++ q)
  | _, _, _, _, .nil, y => y
  | _, _, _, _, .cons h x, y => .cons h (x.append y)
end Sw
namespace Sw
open PySem L2
def signs (x : Str) : List Nat := x.cps.toList
end Sw
namespace Sw
open PySem L2
theorem rise_uniq {a b : List Int} (ha : a.Pairwise (· < ·)) (hb : b.Pairwise (· < ·)) (h : ∀ x, x ∈ a ↔ x ∈ b) : a = b := by
  have pa : a.Nodup := ha.imp fun h => Int.ne_of_lt h
  have pb : b.Nodup := hb.imp fun h => Int.ne_of_lt h
  have p : a.Perm b := (List.perm_ext_iff_of_nodup pa pb).mpr h
  exact List.Perm.eq_of_pairwise (le := (· < ·)) (fun x y _ _ h1 h2 => by omega) ha hb p
theorem ivl_riseS (a b : Int) : (ivl a b).Pairwise (· < ·) := by
  unfold ivl
  refine List.pairwise_map.mpr (List.Pairwise.imp (fun h => ?_) List.pairwise_lt_range)
  omega
structure Shg (n : Int) (Ls : List (List Int)) (hs : List Int) : Prop where
  ne : ∀ L ∈ Ls, L ≠ []
  rise : ∀ L ∈ Ls, L.Pairwise (· < ·)
  hl : hs.length = Ls.length
  hup : hs.Pairwise (· < ·)
  head : ∀ (i : Nat) (L : List Int) (a : Int), Ls[i]? = some L → hs[i]? = some a → L[0]? = some a
  cov : Ls.flatten.Perm (ivl 1 (n + 1))
end Sw
namespace Sw
open PySem L2
def Half (n : Int) (Ls : List (List Int)) (xs : List Int) : Prop := ∀ L ∈ Ls, ∀ x ∈ L, (∃ p ∈ L, p < x ∧ (∀ y ∈ L, ¬ (p < y ∧ y < x)) ∧ ld xs x = p + 1) ∨ ((∀ y ∈ L, x ≤ y) ∧ ∃ M ∈ L, (∀ y ∈ L, y ≤ M) ∧ ld xs x = M % n + 1)
end Sw
namespace Sw
open PySem L2
structure HalfD (n : Int) (Ls : List (List Int)) (xs : List Int) : Prop where
  o : Ord n xs
  nd : Ls.flatten.Perm (ivl 1 (n + 1))
  nx : NonX Ls
  hf : Half n Ls xs
end Sw
namespace Sw
open PySem L2
theorem flat_ix : ∀ {Ls : List (List Int)}, Ls.flatten.Nodup → ∀ {i j : Nat} {L M : List Int} {x : Int}, Ls[i]? = some L → Ls[j]? = some M → x ∈ L → x ∈ M → i = j
  | [], _, i, j, L, M, x, h1, _, _, _ => by simp at h1
  | A :: Ls, nd, i, j, L, M, x, h1, h2, hx, hy => by
    rw [List.flatten_cons] at nd
    obtain ⟨n1, n2, n3⟩ := List.nodup_append.mp nd
    cases i with
    | zero =>
      cases j with
      | zero => rfl
      | succ j =>
        cases h1
        have hm : x ∈ Ls.flatten := List.mem_flatten.mpr ⟨M, List.mem_of_getElem? (by simpa using h2), hy⟩
        exact absurd rfl (n3 x hx x hm)
    | succ i =>
      cases j with
      | zero =>
        cases h2
        have hm : x ∈ Ls.flatten := List.mem_flatten.mpr ⟨L, List.mem_of_getElem? (by simpa using h1), hx⟩
        exact absurd rfl (n3 x hy x hm)
      | succ j => rw [flat_ix n2 (i := i) (j := j) (by simpa using h1) (by simpa using h2) hx hy]
theorem Lsts.lssB {H : Hp} {vs : List V} {Ls : List (List Int)} (x : Lsts H vs Ls) : LssAt H vs Ls := by
  refine ⟨x.length.symm, fun i v L hv hL => ?_⟩
  obtain ⟨a, ns, rfl, ha, hn⟩ := x.get hv
  rw [hL] at hn
  cases hn
  exact ⟨a, rfl, ha⟩
theorem Lsts.pickB {H : Hp} {vs : List V} {Ls : List (List Int)} (x : Lsts H vs Ls) : ∀ (π : List Nat), (∀ i ∈ π, i < Ls.length) → Lsts H (π.map fun i => vs.getD i .non) (π.map fun i => Ls.getD i [])
  | [], _ => .nil
  | i :: π, h => by
    have hi := h i (List.mem_cons_self ..)
    have wl := x.length
    obtain ⟨v, hv⟩ : ∃ v, vs[i]? = some v := ⟨_, List.getElem?_eq_getElem (by omega)⟩
    obtain ⟨a, ns, rfl, ha, hn⟩ := x.get hv
    rw [List.map_cons, List.map_cons, List.getD_eq_getElem?_getD, List.getD_eq_getElem?_getD, hv, hn]
    exact .cons ha (x.pickB π fun j hj => h j (List.mem_cons_of_mem _ hj))
theorem pick_ordB {Gs Ss : List (List Int)} {π : List Nat} (op : OrdP Gs π) (pm : Gs.Perm Ss) (hs : Ss.Pairwise fun a b => lexB b a = false) : (π.map fun i => Gs.getD i []) = Ss := by
  have p1 := pick_perm ([] : List Int) op.1
  have pl := op.1.length_eq
  rw [List.length_range] at pl
  refine List.Perm.eq_of_pairwise (le := fun a b => lexB b a = false) (fun x y _ _ h1 h2 => lexB_tot h2 h1) ?_ hs (p1.trans pm)
  rw [List.pairwise_map, List.pairwise_iff_getElem]
  intro i j hi hj ij
  have := op.2 i j (by omega) (by omega)
  rw [List.getD_eq_getElem?_getD (l := π), List.getD_eq_getElem?_getD (l := π), List.getElem?_eq_getElem hi, List.getElem?_eq_getElem hj] at this
  exact this
theorem sortLB {K : PySem.W.Frag} {H : Hp} {p : Addr} {vs : List V} {Ls : List (List Int)} {Q : VK} (h : H p = some (.lst vs)) (x : Lsts H vs Ls) (ll : Ls.length < 64)
    (k : ∀ l us Ms H', H l = none → H' l = some (.lst us) → Lsts H' us Ms → Ms.Perm Ls → Same H H' → (∀ Ss : List (List Int), Ls.Perm Ss → (Ss.Pairwise fun a b => lexB b a = false) → Ms = Ss) → Ms.Pairwise (fun a b => lexB b a = false) → (∀ v ∈ us, v ∈ vs) → (vs.Nodup → us.Nodup) → Q (.ref l) H') : rSortLL K [.ref p] H Q := by
  refine ⟨p, vs, Ls, rfl, SqL.of h, by rw [x.length]; exact ll, x.lssB, fun l π fl op => ?_⟩
  have wl := x.length
  have pv : (π.map fun i => vs.getD i V.non).Perm vs := pick_perm V.non (by rw [wl]; exact op.1)
  refine k l _ (π.map fun i => Ls.getD i []) _ fl upd_same ((x.pickB π fun i hi => ?_).keep (Same.new fl)) (pick_perm [] op.1) (Same.new fl) (fun Ss pm hs => pick_ordB op pm hs) ?_ (fun v hv => pv.mem_iff.mp hv) (fun nd => pv.nodup_iff.mpr nd)
  · exact List.mem_range.mp (op.1.mem_iff.mp hi)
  · have pl := op.1.length_eq
    rw [List.length_range] at pl
    rw [List.pairwise_map, List.pairwise_iff_getElem]
    intro i j hi hj ij
    have := op.2 i j (by omega) (by omega)
    rw [List.getD_eq_getElem?_getD (l := π), List.getD_eq_getElem?_getD (l := π), List.getElem?_eq_getElem hi, List.getElem?_eq_getElem hj] at this
    exact this
end Sw
namespace Sw
open PySem L2
section
variable {n : Int} {Ls Ms : List (List Int)}
structure JoinD (n : Int) (Ls Ms : List (List Int)) (A B C : List Int) : Prop where
  cL : Cov n Ls
  rL : ∀ L ∈ Ls, L.Pairwise (· < ·)
  xL : NonX Ls
  cM : Cov n Ms
  rM : ∀ L ∈ Ms, L.Pairwise (· < ·)
  hA : A ∈ Ls
  hB : B ∈ Ls
  AB : A ≠ B
  hC : C ∈ Ms
  mC : ∀ x, x ∈ C ↔ x ∈ A ∨ x ∈ B
  rest : ∀ L ∈ Ls, L ≠ A → L ≠ B → L ∈ Ms
end
end Sw
namespace Sw
open PySem L2
structure Gsd (n : Int) (S : List (List Int)) : Prop where
  cv : Cov n S
  rise : ∀ L ∈ S, L.Pairwise (· < ·)
  nx : NonX S
  srt : S.Pairwise fun a b => lexB b a = false
def alone (n : Int) : List (List Int) := (ivl 1 (n + 1)).map fun x => [x]
structure Chd (n : Int) (SS : List (List (List Int))) : Prop where
  first : SS[0]? = some (alone n)
  good : ∀ S ∈ SS, Gsd n S
  len : ∀ (t : Nat) (S : List (List Int)), SS[t]? = some S → S.length + t = n.toNat
  step : ∀ (t : Nat) (S S' : List (List Int)), SS[t]? = some S → SS[t + 1]? = some S' → ∃ A B C, JoinD n S S' A B C
end Sw
namespace L2
open PySem PySem.Spec PyProof.Rows
section
variable {X : Cx}
theorem pe_chain3 {op op' op'' : CmpOp} {r r' r'' : R2} {a b c d : Expr} {ta tb tc td : TE} {pos : Pos} (ho : OpR X (compareOp op) r) (ho' : OpR X (compareOp op') r') (ho2 : OpR X (compareOp op'') r'') (ha : PE X a ta) (hb : PE X b tb) (hc : PE X c tc) (hd : PE X d td)
    (hm : lastMarks [op, op', op''] [b, c, d] = false := by with_unfolding_all rfl) : PE X (.Compare a [op, op', op''] [b, c, d] pos) (tChain3 r r' r'' ta tb tc td) := by
  intro pins s σ H Q I h
  refine Compare_chain (thn (ha pins s σ H _ I h) fun v s1 ⟨x, H1, I1, r1, q1⟩ => chain_link (thn (hb pins s1 σ H1 _ I1 q1) fun u s2 ⟨y, H2, I2, r2, q2⟩ =>
    thn (ho pins s2 σ H2 x y v u _ I2 r1 r2 q2) fun d s3 ⟨z, H3, I3, r3, k, e, q3⟩ => ?_)) hm
  subst e
  cases r3
  refine wpAny_truthy_bool ?_
  cases k with
  | false => exact ite_ff ⟨.bl false, H3, I3, rfl, q3⟩
  | true =>
    refine ite_tt (chain_link (thn (hc pins s3 σ H3 _ I3 q3) fun w' s4 ⟨z', H4, I4, r4, q4⟩ => thn (ho' pins s4 σ H4 y z' u w' _ I4 r2 r4 q4) fun d' s5 ⟨z2, H5, I5, r5, k2, e2, q5⟩ => ?_))
    subst e2
    cases r5
    refine wpAny_truthy_bool ?_
    cases k2 with
    | false => exact ite_ff ⟨.bl false, H5, I5, rfl, q5⟩
    | true => exact ite_tt (chain_last (thn (hd pins s5 σ H5 _ I5 q5) fun w2 s6 ⟨z3, H6, I6, r6, q6⟩ => ho2 pins s6 σ H6 z' z3 w' w2 Q I6 r4 r6 q6))
end
end L2
namespace L2
open PySem PySem.Spec PyProof.Rows
def EmW (prog : Program) (w : World) (A : Around) (elt : Expr) (gens : List Comprehension) (scope : Scope) (pos : Pos) (d : Nat) (acc : Value) (env : Env) (Q : Shared → Prop) (s : Shared) : Prop :=
  match gens[d + 1]? with
  | some g' => wpAny (model prog w) A (eval g'.iter env) (fun x s₃ => wpAny (model prog w) A (pyIter x) (fun it2 s₄ =>
      codeAny (model prog w) A (.compStart (.ListComp elt gens scope pos) (d + 1) it2 acc env) (fun r s₅ => r = .ok .next ∧ Q s₅) s₄) (fun _ _ => False) s₃) (fun _ _ => False) s
  | none => wpAny (model prog w) A (eval elt env) (fun x s₄ => wpAny (model prog w) A (call (.builtin "list.append") [acc, x]) (fun _ s₅ => Q s₅) (fun _ _ => False) s₄) (fun _ _ => False) s
section
variable {prog : Program} {w : World} {A : Around} {R : Result → Shared → Prop} {s : Shared} {elt t i : Expr} {ifs : List Expr} {gens : List Comprehension} {scope : Scope} {pos : Pos} {d : Nat} {it acc : Value} {env : Env}
theorem compLoopN_any (hd : gens[d]? = some ⟨t, i, ifs, 0⟩) (ha : ∀ g', gens[d + 1]? = some g' → g'.is_async = 0 ∧ ∀ x, foldedSetIterable g'.iter env x = pure x) (I : Nat → Shared → Prop)
    (turn : ∀ n s, I n s → wpAny (model prog w) A (pyNext it) (fun r s₁ => match r with
      | none => R (.ok .next) s₁
      | some v => wpAny (model prog w) A (letOwnedTupleGo t it v) (fun _ s₁ => wpAny (model prog w) A (assign t env v) (fun _ s₂ =>
          wpAny (model prog w) A (forIn ifs true fun c r => if r = true then do let ok ← isTrue c env (eval c env); pure (ForInStep.yield ok) else pure (ForInStep.yield r)) (fun ok s₃ =>
            if ok = true then EmW prog w A elt gens scope pos d acc env (fun s₄ => ∃ m, m < n ∧ I m s₄) s₃
            else ∃ m, m < n ∧ I m s₃) (fun _ _ => False) s₂) (fun _ _ => False) s₁) (fun _ _ => False) s₁) (fun _ _ => False) s)
    (n : Nat) (h : I n s) :
    codeAny (model prog w) A (.compLoop (.ListComp elt gens scope pos) d it acc env) R s := by
  refine codeAny_loop rfl I (fun n s hI => ?_) n h
  show wpAny _ A ((compTurn (.ListComp elt gens scope pos) d it acc env).onRaise (fun x => do noteFrame x env; theTreesLotGoes x)) _ _ s
  refine wpAny_noted ?_
  unfold compTurn
  simp only [hd, bne_self_eq_false, Bool.false_eq_true, if_false]
  refine wpAny_bind (wpAny_standAt (wpAny_bind (wpAny_mono (turn n s hI) (fun r s₁ h₁ => ?_) fun _ _ h' => h'.elim)))
  cases r with
  | none => exact wpAny_pure h₁
  | some v =>
    refine wpAny_bind (wpAny_mono h₁ (fun _ s₁ h₁ => ?_) fun _ _ h' => h'.elim)
    refine wpAny_bind (wpAny_mono h₁ (fun _ s₂ h₂ => wpAny_bind (wpAny_mono h₂ (fun ok s₃ h₃ => ?_) fun _ _ h' => h'.elim)) fun _ _ h' => h'.elim)
    cases ok with
    | false => exact wpAny_pure ⟨rfl, h₃⟩
    | true =>
      rw [if_pos rfl] at h₃ ⊢
      unfold EmW at h₃
      cases hg : gens[d + 1]? with
      | none =>
        rw [hg] at h₃
        refine wpAny_bind (wpAny_bind (wpAny_mono h₃ (fun x s₄ h₄ => wpAny_bind (wpAny_mono h₄ (fun _ s₅ h₅ => ?_) fun _ _ h' => h'.elim)) fun _ _ h' => h'.elim))
        exact wpAny_pure (wpAny_pure ⟨rfl, h₅⟩)
      | some g' =>
        rw [hg] at h₃
        obtain ⟨as, hs⟩ := ha g' hg
        simp only [as, bne_self_eq_false, Bool.false_eq_true, if_false]
        refine wpAny_bind (wpAny_mono h₃ (fun x s₃ h₃ => wpAny_bind (wpAny_standAt (wpAny_bind (wpAny_of_eq (hs x) (wpAny_bind (wpAny_holding (wpAny_mono h₃ (fun it2 s₄ h₄ => ?_) fun _ _ h' => h'.elim))))))) fun _ _ h' => h'.elim)
        refine wpAny_bind (wpAny_runOwn (codeAny_mono h₄ fun r s₅ h₅ => ?_))
        obtain ⟨rfl, h₅⟩ := h₅
        exact wpAny_pure ⟨rfl, h₅⟩
theorem compStartN (hd : gens[d]? = some ⟨t, i, ifs, 0⟩) (hf : (Code.compStart (.ListComp elt gens scope pos) d it acc env).isFrame = false)
    (h1 : codeAny (model prog w) A (.compLoop (.ListComp elt gens scope pos) d it acc env) R s)
    (h2 : wpAny (model prog w) A (pyIter it) (fun it' s' => codeAny (model prog w) A (.compLoop (.ListComp elt gens scope pos) d it' acc env) R s') (fun _ _ => False) s) :
    codeAny (model prog w) A (.compStart (.ListComp elt gens scope pos) d it acc env) R s := by
  refine codeAny_of_tree ?_
  show wpAny _ A ((compStart (.ListComp elt gens scope pos) d it acc env).onRaise (fun x => do noteFrame x env; standAt theWindowsPlace)) _ _ s
  refine wpAny_onRaise ?_
  unfold compStart
  have hc : clausesOf (.ListComp elt gens scope pos) = gens := rfl
  simp only [hc, hd, Option.elim, bne_self_eq_false, Bool.false_eq_true, if_false]
  refine wpAny_bind (wpAny_askSetting ?_)
  split
  · exact wpAny_pure ⟨rfl, h1⟩
  · refine wpAny_bind (wpAny_rule (wpAny_bind (wpAny_standAt (wpAny_bind (wpAny_mono h2 (fun it' s' h' => ?_) fun _ _ z => z.elim)))))
    exact wpAny_pure ⟨rfl, h'⟩
end
end L2
namespace L2
open PySem PySem.Spec PyProof.Rows
theorem EmW.mono {prog : Program} {w : World} {A : Around} {elt : Expr} {gens : List Comprehension} {scope : Scope} {pos : Pos} {d : Nat} {acc : Value} {env : Env} {Q Q' : Shared → Prop} {s : Shared} (h : EmW prog w A elt gens scope pos d acc env Q s) (hQ : ∀ s', Q s' → Q' s') : EmW prog w A elt gens scope pos d acc env Q' s := by
  unfold EmW at h ⊢
  cases hg : gens[d + 1]? with
  | none =>
    rw [hg] at h
    exact thn h fun x s₄ h₄ => thn h₄ fun _ s₅ h₅ => hQ _ h₅
  | some g' =>
    rw [hg] at h
    exact thn h fun x s₃ h₃ => thn h₃ fun it2 s₄ h₄ => codeAny_mono h₄ fun r s₅ h₅ => ⟨h₅.1, hQ _ h₅.2⟩
abbrev WK := List V → St → Hp → Prop
abbrev IN := List V → St → Hp → WK → Prop
def wElt (te : TE) : IN := fun ys σ H R => ys.length < sizeLine ∧ te σ H fun v H5 => R (ys ++ [v]) σ H5
def wLoop (g : TG) (tc : TT) (inn : IN) (J : It) : IN := fun ys σ H R =>
  ∃ W : WC, (∃ m, W 0 m ys σ H) ∧ ∀ i m ys' σ' H', W i m ys' σ' H' →
    (J.stop i H' ∧ R ys' σ' H') ∨
    (J.go i H' ∧ ∀ x H2, J.yld i H' x H2 → g x σ' H2 fun σ2 H3 => tc σ2 H3 fun b H4 => if b = true then inn ys' σ2 H4 (fun ys2 σ3 H5 => ∃ m', m' < m ∧ W (i + 1) m' ys2 σ3 H5) else ∃ m', m' < m ∧ W (i + 1) m' ys' σ2 H4)
def wGen (wi : TI) (g : TG) (tc : TT) (inn : IN) : IN := fun ys σ H R => wi σ H fun J H4 => wLoop g tc inn J ys σ H4 R
def Lob (its : List Value) (k : Nat) : Obj := { cls := .type "list", data := .seq its.toArray k }
structure DOk (Y : Cx) (base : List (Addr × Obj)) (D : Addr) : Prop where
  loc : D ≠ Y.env.locals
  sz : Y.s₀.heap.objs.size ≤ D
  cel : ∀ x c, Y.env.cells.lookup x = some c → c ≠ D
  pin : ∀ p ∈ Y.pn ++ base, p.1 ≠ D
inductive Chain (Y : Cx) (gens : List Comprehension) (elt : Expr) : Nat → IN → Prop
  | last {d : Nat} {te : TE} (hn : gens[d + 1]? = none) (he : PE Y elt te) : Chain Y gens elt d (wElt te)
  | more {d : Nat} {t i : Expr} {ifs : List Expr} {wi : TI} {g : TG} {tc : TT} {inn : IN} (hd : gens[d + 1]? = some ⟨t, i, ifs, 0⟩) (hi : PI Y t i wi) (hg : PG Y t g) (ht : PIf Y ifs tc) (hs : ∀ x, foldedSetIterable i Y.env x = pure x) (rest : Chain Y gens elt (d + 1) inn) : Chain Y gens elt d (wGen wi g tc inn)
theorem Chain.next {Y : Cx} {gens : List Comprehension} {elt : Expr} {d : Nat} {inn : IN} (c : Chain Y gens elt d inn) : ∀ g', gens[d + 1]? = some g' → g'.is_async = 0 ∧ ∀ x, foldedSetIterable g'.iter Y.env x = pure x := by
  intro g' h
  cases c with
  | last hn _ => rw [hn] at h; cases h
  | more hd _ _ _ hs _ => rw [hd] at h; cases h; exact ⟨rfl, hs⟩
section
variable {Y : Cx} {base : List (Addr × Obj)} {D : Addr} {elt : Expr} {gens : List Comprehension} {scope : Scope} {pos : Pos}
def At (Y : Cx) (base : List (Addr × Obj)) (D : Addr) (P : List (Addr × Obj)) (R : WK) (s' : Shared) : Prop :=
  ∃ σ' H' ys' its' k', Inv Y (base ++ ((D, Lob its' k') :: P)) σ' H' s' ∧ Vals ys' its' ∧ R ys' σ' H'
def BodyP (Y : Cx) (base : List (Addr × Obj)) (D : Addr) (elt : Expr) (gens : List Comprehension) (scope : Scope) (pos : Pos) (d : Nat) (inn : IN) : Prop :=
  ∀ (P : List (Addr × Obj)) (s : Shared) (σ : St) (H : Hp) (ys : List V) (its : List Value) (k : Nat) (R : WK), (∀ p ∈ P, p.1 ≠ D) → Inv Y (base ++ ((D, Lob its k) :: P)) σ H s → Vals ys its → inn ys σ H R →
    EmW Y.prog Y.w Y.A elt gens scope pos d (.ref D) Y.env (At Y base D P R) s
theorem mem_D {p : Addr × Obj} {P : List (Addr × Obj)} {o : Obj} (h : p ∈ base ++ ((D, o) :: P)) : p ∈ base ∨ p = (D, o) ∨ p ∈ P := by
  rcases List.mem_append.mp h with z | z
  · exact .inl z
  · exact .inr (List.mem_cons.mp z)
theorem loop_of_body {d : Nat} {t i : Expr} {ifs : List Expr} {g : TG} {tc : TT} {inn : IN} (hxe : Y.xe = fun _ _ => False) (hc : Y.calm = true) (hd : gens[d]? = some ⟨t, i, ifs, 0⟩) (ch : ∀ g', gens[d + 1]? = some g' → g'.is_async = 0 ∧ ∀ x, foldedSetIterable g'.iter Y.env x = pure x)
    (hg : PG Y t g) (ht : PIf Y ifs tc) (body : BodyP Y base D elt gens scope pos d inn)
    {P : List (Addr × Obj)} {J : It} {fp : List Addr} {it : Addr} {tn : Nat → Heap → Prop} {s : Shared} {σ : St} {H : Hp} {ys : List V} {its : List Value} {k : Nat} {R : WK} (hP : ∀ p ∈ P, p.1 ≠ D)
    (I : Inv Y (base ++ ((D, Lob its k) :: P)) σ H s) (rv : Vals ys its) (T : Turn Y.prog Y.w Y.K t J fp it tn) (st : tn 0 s.heap) (f : ∀ b ∈ fp, FpOk Y (base ++ ((D, Lob its k) :: P)) H b) (w : wLoop g tc inn J ys σ H R) :
    codeAny (model Y.prog Y.w) Y.A (.compLoop (.ListComp elt gens scope pos) d (.ref it) (.ref D) Y.env) (fun r s' => r = .ok .next ∧ At Y base D P R s') s := by
  obtain ⟨W, ⟨m0, w0⟩, turn⟩ := w
  have stat : ∀ {H' : Hp} {oD : Obj}, (∀ b ∈ fp, H' b = none) → ∀ b ∈ fp, FpOk Y (base ++ ((D, oD) :: P)) H' b := fun {H' oD} hn b hb => by
    obtain ⟨f0, f1, f2, f3, f4, f5⟩ := f b hb
    refine ⟨hn b hb, f1, f2, f3, f4, fun p hp => ?_⟩
    rcases List.mem_append.mp hp with z | z
    · exact f5 p (List.mem_append_left _ z)
    · rcases mem_D z with z | z | z
      · exact f5 p (List.mem_append_right _ (List.mem_append_left _ z))
      · have := f5 (D, Lob its k) (List.mem_append_right _ (List.mem_append_right _ List.mem_cons_self))
        rw [z]; exact this
      · exact f5 p (List.mem_append_right _ (List.mem_append_right _ (List.mem_cons_of_mem _ z)))
  have fD : ∀ b ∈ fp, b ≠ D := fun b hb => by
    obtain ⟨_, _, _, _, _, f5⟩ := f b hb
    exact (f5 (D, Lob its k) (List.mem_append_right _ (List.mem_append_right _ List.mem_cons_self))).symm
  refine compLoopN_any hd ch (fun n s' => ∃ j σ' H' ys' its' k', Inv Y (base ++ ((D, Lob its' k') :: P)) σ' H' s' ∧ tn j s'.heap ∧ (∀ b ∈ fp, H' b = none) ∧ Vals ys' its' ∧ W j n ys' σ' H') ?_ m0 ⟨0, σ, H, ys, its, k, I, st, fun b hb => (f b hb).1, rv, w0⟩
  rintro n s' ⟨j, σj, Hj, ysj, itsj, kj, Ij, stj, frj, rvj, wj⟩
  rcases turn j n ysj σj Hj wj with ⟨stop, q⟩ | ⟨go, step⟩
  · refine thn (T.done Y rfl rfl rfl hc j _ s' σj Hj _ Ij (stat frj) stj stop) fun r s2 ⟨hr, I2⟩ => ?_
    subst hr
    exact ⟨rfl, σj, Hj, ysj, itsj, kj, I2, rvj, q⟩
  · refine thn (T.item Y rfl rfl rfl hc j _ s' σj Hj _ Ij (stat frj) stj go) fun r s4 ⟨u, hr, h4⟩ => ?_
    subst hr
    refine thn h4 fun _ s5 ⟨x, H5, I5, r5, y5, st5, fr5⟩ => ?_
    have I5' := I5.pinned (stat fr5) (T.obj _ _ st5)
    rw [List.append_assoc, List.cons_append] at I5'
    have hP' : ∀ p ∈ P ++ pinsAt fp s5.heap, p.1 ≠ D := fun p hp => by
      rcases List.mem_append.mp hp with z | z
      · exact hP p z
      · obtain ⟨hb, _⟩ := of_pinsAt z
        exact fD _ hb
    have keep : ∀ {s' : Shared} {σ' : St} {H' : Hp} {oD : Obj}, Inv Y (base ++ ((D, oD) :: (P ++ pinsAt fp s5.heap))) σ' H' s' → tn (j + 1) s'.heap ∧ (∀ b ∈ fp, H' b = none) ∧ Inv Y (base ++ ((D, oD) :: P)) σ' H' s' := fun {s' σ' H' oD} I' => by
      have pin : ∀ p ∈ pinsAt fp s5.heap, p ∈ Y.pn ++ (base ++ ((D, oD) :: (P ++ pinsAt fp s5.heap))) := fun p hp => List.mem_append_right _ (List.mem_append_right _ (List.mem_cons_of_mem _ (List.mem_append_right _ hp)))
      refine ⟨T.keep _ _ _ st5 fun b hb o e => (I'.pin (b, o) (pin _ (mem_pinsAt hb e))).1, fun b hb => ?_, ?_⟩
      · obtain ⟨o, e, d⟩ := T.obj _ _ st5 b hb
        exact (I'.pin (b, o) (pin _ (mem_pinsAt hb e))).2.1
      · have := I'
        rw [← List.cons_append, ← List.append_assoc] at this
        exact this.unpinned
    have h6 := hg _ s5 σj H5 x u _ I5' r5 (step x H5 y5)
    rw [hxe] at h6
    refine thn h6 fun _ s6 ⟨σ6, H6, I6, q6⟩ => ?_
    have h7 := ht _ s6 σ6 H6 _ I6 q6
    rw [hxe] at h7
    refine thn h7 fun ok s7 ⟨H7, I7, q7⟩ => ?_
    cases ok with
    | false =>
      rw [if_neg Bool.false_ne_true] at q7 ⊢
      obtain ⟨m', hm, wm⟩ := q7
      obtain ⟨k1, k2, k3⟩ := keep I7
      exact ⟨m', hm, j + 1, σ6, H7, ysj, itsj, kj, k3, k1, k2, rvj, wm⟩
    | true =>
      rw [if_pos rfl] at q7 ⊢
      refine (body (P ++ pinsAt fp s5.heap) s7 σ6 H7 ysj itsj kj _ hP' I7 rvj q7).mono fun s8 ⟨σ8, H8, ys8, its8, k8, I8, rv8, m', hm, wm⟩ => ?_
      obtain ⟨k1, k2, k3⟩ := keep I8
      exact ⟨m', hm, j + 1, σ8, H8, ys8, its8, k8, k3, k1, k2, rv8, wm⟩
theorem bodyN (hxe : Y.xe = fun _ _ => False) (hc : Y.calm = true) (dk : DOk Y base D) (hfr : ∀ d it acc env, (Code.compStart (.ListComp elt gens scope pos) d it acc env).isFrame = false) {d : Nat} {inn : IN} (c : Chain Y gens elt d inn) : BodyP Y base D elt gens scope pos d inn := by
  induction c with
  | @last d te hn he =>
    intro P s σ H ys its k R hP I rv h
    unfold EmW
    rw [hn]
    obtain ⟨hz, h⟩ := h
    have h1 := he _ s σ H _ I h
    rw [hxe] at h1
    refine thn h1 fun z s13 ⟨v13, H13, I13, r13, w13⟩ => ?_
    have inD : (D, Lob its k) ∈ Y.pn ++ (base ++ ((D, Lob its k) :: P)) := List.mem_append_right _ (List.mem_append_right _ List.mem_cons_self)
    have pD := I13.pin _ inD
    have I13v : Inv Y base σ H13 s13 := I13.unpinned
    have len := rv.length
    refine wpAny_list_append_plain (items := its.toArray) (hsz := by simp; omega) ⟨k, pD.1⟩ fun h9 hl9 hs9 => ?_
    obtain ⟨k9, e9⟩ := hl9
    have I9 : Inv Y base σ H13 { s13 with heap := h9 } := I13v.turned (t' := s13.toks) (it := D) (fun b o hb e => hs9.extBut b o hb e) pD.2.1 dk.loc (.inr dk.sz) dk.cel dk.pin
    have e9' : h9.get? D = some (Lob (its ++ [z]) k9) := by
      rw [e9]; unfold Lob; simp
    refine ⟨σ, H13, ys ++ [v13], its ++ [z], k9, I9.pins_of fun p hp => ?_, rv.append (.cons r13 .nil), w13⟩
    rcases mem_D hp with q | q | q
    · exact I9.pin p (List.mem_append_right _ q)
    · subst q
      exact ⟨e9', pD.2.1, pD.2.2.1, pD.2.2.2.1, fun v z => by cases z⟩
    · obtain ⟨a1, a2, a3, a4, a5⟩ := I13.pin p (List.mem_append_right _ (List.mem_append_right _ (List.mem_cons_of_mem _ q)))
      exact ⟨hs9.extBut p.1 p.2 (hP p q) a1, a2, a3, a4, a5⟩
  | @more d t i ifs wi g tc inn hd hi hg ht hs rest ih =>
    intro P s σ H ys its k R hP I rv h
    unfold EmW
    rw [hd]
    have h1 := hi _ s σ H _ I h
    rw [hxe] at h1
    refine thn h1 fun v s7 h7 => thn h7 fun itv2 s8 h8 => ?_
    obtain ⟨it2, fp2, tn2, J2, H8, rfl, I8, T2, st8, f8, w8⟩ := h8
    have lp := loop_of_body (s := s8) hxe hc hd rest.next hg ht ih hP I8 rv T2 st8 f8 w8
    exact compStartN hd (hfr _ _ _ _) lp (T2.self _ 0 _ _ _ st8 lp)
end
end L2
namespace L2
open PySem PySem.Spec PyProof.Rows
def fin (Q : VK) : WK := fun ys _ H' => ys.length ≤ sizeLine ∧ ∀ p, H' p = none → Q (.ref p) (upd H' p (.lst ys))
def tCompN (ix : List (Option Nat)) (wi : TI) (g : TG) (tc : TT) (inn : IN) : TE := fun σ H Q => wi σ H fun J H1 => wLoop g tc inn J [] (startC ix σ) H1 (fin Q)
section
variable {X : Cx} {scope : Scope} {N : List Str} {ix : List (Option Nat)} {elt tg iter : Expr} {ifs : List Expr} {gens : List Comprehension} {g : TG} {tc : TT} {inn : IN} {pos : Pos}
theorem comp_blockN {pins : List (Addr × Obj)} {σ : St} {s2 : Shared} {Q : VK} {itv : Value} {RR : Value → Addr → Result → Shared → Prop} {E : Value → Shared → Prop} (c : CompOk X scope N ix) (hc : X.calm = true)
    (hd0 : gens[0]? = some ⟨tg, iter, ifs, 0⟩) (hg : ∀ C fp s H, PG (cxC X N scope C fp s H) tg g) (ht : ∀ C fp s H, PIf (cxC X N scope C fp s H) ifs tc) (hch : ∀ C fp s H, Chain (cxC X N scope C fp s H) gens elt 0 inn)
    (h2 : PIE X pins σ tg (fun J H1 => wLoop g tc inn J [] (startC ix σ) H1 (fin Q)) itv s2)
    (hR : ∀ (D C : Addr) (s' : Shared) (H' : Hp) (m : Str → Option Value), Inv X pins σ H' s' → s'.heap.Ns C m → H' C = none → X.s₀.heap.objs.size ≤ C → (∀ p ∈ X.pn ++ pins, p.1 ≠ C) → C ≠ X.env.locals → (∀ x c, X.env.cells.lookup x = some c → c ≠ C) → Q (.ref D) H' → RR (.ref D) C (.ok .next) s') :
    wpAny (model X.prog X.w) X.A (newList []) (fun acc s₃ => wpAny (model X.prog X.w) X.A (newFunctionEnv scope X.env.globals (closL X.env.cells scope.names []) [] X.env.qual none .none (some X.env)) (fun cenv s₄ =>
      codeAny (model X.prog X.w) X.A (.compStart (.ListComp elt gens scope pos) 0 itv acc { cenv with scope := relabel scope X.env }) (RR acc cenv.locals) s₄) E s₃) E s2 := by
  obtain ⟨it, fp, tn, J, H2, rfl, I2, T, st2, f2, wl⟩ := h2
  refine wpAny_newObj_type (wpAny_newFunctionEnv c.nocell (by intro y hy; simp at hy) (fun h₁ hns₁ hsb₁ => ?_) c.kind)
  dsimp only at hns₁ hsb₁ ⊢
  generalize hH2 : s2.heap.push { cls := .type "list", dict := none, data := .seq ([] : List Value).toArray } = G2 at hns₁ hsb₁ ⊢
  have hCs : G2.objs.size = s2.heap.objs.size + 1 := by rw [← hH2, Heap.size_push]
  generalize hCe : G2.objs.size = C at hns₁ hsb₁ hCs ⊢
  generalize hDe : s2.heap.objs.size = D at hCs ⊢
  have ltC : ∀ b, @LT.lt Nat _ b D → b ≠ C := fun b hb => Nat.ne_of_lt (by rw [hCs]; exact Nat.lt_succ_of_lt hb)
  have ltS : ∀ b o, s2.heap.get? b = some o → @LT.lt Nat _ b D := fun b o e => by rw [← hDe]; exact Heap.lt_size e
  have hDC : D ≠ C := Nat.ne_of_lt (by rw [hCs]; exact Nat.lt_succ_self _)
  have old : ∀ b o, s2.heap.get? b = some o → h₁.get? b = some o := fun b o e => hsb₁.extBut b o (ltC b (ltS b o e)) (Heap.get?_push_of_some _ (hH2 ▸ Heap.get?_push_of_some _ e))
  have hoD : h₁.get? D = some { cls := .type "list", dict := none, data := .seq ([] : List Value).toArray } := by
    refine hsb₁.extBut _ _ hDC (Heap.get?_push_of_some _ ?_)
    rw [← hH2, ← hDe]
    exact Heap.get?_push_size _ rfl
  have I4 : Inv (cxC X N scope C fp s2 H2) (pins ++ [(D, { cls := .type "list", data := .seq ([] : List Value).toArray })]) (startC ix σ) H2 { s2 with heap := h₁, toks := s2.toks + ([] : List (Str × Value)).length } :=
    c.enter I2 f2 (T.obj _ _ st2) (by rw [hCs, hDe]) hDe.symm old hns₁ hoD fun v z => by cases z
  have st4 : tn 0 h₁ := T.keep _ _ _ st2 fun b _ o e => old b o e
  have pinD : ∀ p ∈ X.pn ++ pins, p.1 ≠ D := fun p hp => Nat.ne_of_lt (ltS _ _ (I2.pin p hp).1)
  have pinC : ∀ p ∈ X.pn ++ pins, p.1 ≠ C := fun p hp => ltC _ (ltS _ _ (I2.pin p hp).1)
  have celD : ∀ x d, X.env.cells.lookup x = some d → @LT.lt Nat _ d D := fun x d e => by
    obtain ⟨v, o, ho, _⟩ := I2.cell x d e
    exact ltS d o ho
  have fpD : ∀ b ∈ fp, @LT.lt Nat _ b D := fun b hb => by
    obtain ⟨o, e, _⟩ := T.obj _ _ st2 b hb
    exact ltS b o e
  have sub : ∀ x d, (closL X.env.cells scope.names []).lookup x = some d → X.env.cells.lookup x = some d := fun x d e => by
    rcases closL_sub e with z | z
    · simp at z
    · exact z
  have stat : ∀ {H' : Hp} {oD : Obj}, (∀ b ∈ fp, H' b = none) → ∀ b ∈ fp, FpOk (cxC X N scope C fp s2 H2) (pins ++ [(D, oD)]) H' b := fun {H' oD} hn b hb => by
    obtain ⟨f0, f1, f2, f3, f4, f5⟩ := f2 b hb
    refine ⟨hn b hb, ltC b (fpD b hb), fun z => ?_, .inl hb, fun x d e => f4 x d (sub x d e), fun p hp => ?_⟩
    · rcases List.mem_cons.mp (I2.stkSub b z) with e | e
      · exact f1 e
      · exact f2 e
    · have hp : p ∈ X.pn ++ (pins ++ [(D, oD)]) := hp
      rw [← List.append_assoc] at hp
      rcases List.mem_append.mp hp with z | z
      · exact f5 p z
      · have e : p = (D, oD) := by simpa using z
        subst e
        exact Nat.ne_of_gt (fpD b hb)
  have dk : DOk (cxC X N scope C fp s2 H2) pins D := ⟨hDC, by show s2.heap.objs.size ≤ D; rw [hDe]; exact Nat.le_refl _, fun x d e => Nat.ne_of_lt (celD x d (sub x d e)), pinD⟩
  have lp : ∀ s3 : Shared, s3 = { s2 with heap := h₁, toks := s2.toks + ([] : List (Str × Value)).length } →
      codeAny (model X.prog X.w) X.A (.compLoop (.ListComp elt gens scope pos) 0 (.ref it) (.ref D) (cxC X N scope C fp s2 H2).env) (RR (.ref D) C) s3 := by
    rintro s3 rfl
    refine codeAny_mono (loop_of_body (Y := cxC X N scope C fp s2 H2) (base := pins) (D := D) (P := []) (its := []) (k := 0) rfl (show (cxC X N scope C fp s2 H2).calm = true from hc) hd0 (hch C fp s2 H2).next (hg C fp s2 H2) (ht C fp s2 H2) (bodyN (Y := cxC X N scope C fp s2 H2) rfl (show (cxC X N scope C fp s2 H2).calm = true from hc) dk (fun _ _ _ _ => rfl) (hch C fp s2 H2)) (fun p hp => nomatch hp) I4 .nil T st4 (stat fun b hb => (f2 b hb).1) wl) fun r s4 ⟨hr, σ4, H4, ys4, its4, k4, I4, rv4, hz, qn⟩ => ?_
    subst hr
    have hDn : H4 D = none := (I4.pin (D, _) (List.mem_append_right _ (List.mem_append_right _ List.mem_cons_self))).2.1
    obtain ⟨m4, hn4, _⟩ := id I4.loc
    refine hR D C s4 _ m4 (c.leave I2 f2 (by rw [hCs, hDe]) hDe.symm I4 rv4 hz) hn4 ?_ ?_ pinC ?_ (fun x d e => ltC d (celD x d e)) (qn D hDn)
    · rw [upd_ne hDC.symm]; exact I4.free
    · refine Nat.le_trans I2.sz ?_
      rw [hDe, hCs]; exact Nat.le_succ _
    · refine Nat.ne_of_gt (Nat.lt_of_lt_of_le I2.lt ?_)
      rw [hDe, hCs]; exact Nat.le_succ _
  exact compStartN hd0 rfl (lp _ rfl) (T.self _ 0 _ _ _ st4 (lp _ rfl))
variable {wi : TI}
theorem pe_compN {gs : List Comprehension} (c : CompOk X scope N ix) (hc : X.calm = true) (hi : PI X tg iter wi) (hg : ∀ C fp s H, PG (cxC X N scope C fp s H) tg g) (ht : ∀ C fp s H, PIf (cxC X N scope C fp s H) ifs tc) (hch : ∀ C fp s H, Chain (cxC X N scope C fp s H) (⟨tg, iter, ifs, 0⟩ :: gs) elt 0 inn)
    (hs : ∀ x, foldedSetIterable iter X.env x = pure x := by intro _; rfl) : PE X (.ListComp elt (⟨tg, iter, ifs, 0⟩ :: gs) scope pos) (tCompN ix wi g tc inn) := by
  intro pins s σ H Q I h
  rw [eval_ListComp]
  have hcl : ∀ y ∈ scope.names, y.2 = NameKind.free → ∃ d, X.env.cells.lookup y.1 = some d := fun y hy e => I.ok.has _ (c.fr y hy e)
  refine wpAny_comprehension_free (use := none) rfl hs (closureFor_eq hcl) c.kind c.names (thn (hi pins s σ H _ I h) fun v s1 h1 => thn h1 fun itv s2 h2 => ?_)
  refine comp_blockN (RR := fun acc C => compPost (model X.prog X.w) X.A X.xe none (EP X pins σ Q) acc C) c hc rfl hg ht hch h2 ?_
  intro D C s' H' m I' hn hC hz hp hL hcells q
  exact ⟨m, hn, fun h' hs' => ⟨.ref D, H', I'.turned (t' := s'.toks) (fun b o hb e => hs'.extBut b o hb e) hC hL (.inr hz) hcells hp, rfl, q⟩⟩
end
theorem wl_list {K : PySem.W.Frag} {a : Addr} {xs : List V} {g : TG} {tc : TT} {inn : IN} {ys : List V} {σ : St} {H : Hp} {R : WK} (Pv : Nat → List V → St → Hp → Prop) (h0 : Pv 0 ys σ H) (hl : ∀ i ys σ H, i ≤ xs.length → Pv i ys σ H → SqL K H a xs)
    (hs : ∀ i ys σ H x (S : WK), xs[i]? = some x → Pv i ys σ H → (∀ ys' σ' H', Pv (i + 1) ys' σ' H' → S ys' σ' H') → g x σ H fun σ2 H3 => tc σ2 H3 fun b H4 => if b = true then inn ys σ2 H4 S else S ys σ2 H4)
    (hd : ∀ ys σ H, Pv xs.length ys σ H → R ys σ H) : wLoop g tc inn (Itl K a) ys σ H R := by
  refine ⟨fun i m ys σ H => m = xs.length - i ∧ i ≤ xs.length ∧ Pv i ys σ H, ⟨xs.length, by simp, Nat.zero_le _, h0⟩, ?_⟩
  rintro i m ys' σ' H' ⟨rfl, hi, p⟩
  have q := hl i ys' σ' H' hi p
  by_cases hlt : i < xs.length
  · refine .inr ⟨⟨xs, xs[i], q, by simp [hlt]⟩, fun x H2 y => ?_⟩
    obtain ⟨rfl, y⟩ := y
    exact hs i ys' σ' _ x _ (y xs q) p fun ys2 σ2 H2 q2 => ⟨xs.length - (i + 1), by omega, rfl, hlt, q2⟩
  · have e : i = xs.length := by omega
    subst e
    exact .inl ⟨⟨xs, q, Nat.le_refl _⟩, hd _ _ _ p⟩
end L2
namespace L2
open PySem PySem.Spec PyProof.Rows
theorem zip_apart (n a b : Nat) (h1 : a < n) (h2 : b < n) : ZipApart (n + 4) (n + 2) (n + 3) n (n + 1) a b := by
  constructor <;> (intro e; have e : @Eq Nat _ _ := e; omega)
def Itz (K : PySem.W.Frag) (a b : Addr) (xs ys : List V) : It :=
  ⟨fun i H => i < min xs.length ys.length ∧ SqL K H a xs ∧ SqL K H b ys, fun i H x H' => ∃ t v u, H t = none ∧ x = .ref t ∧ xs[i]? = some v ∧ ys[i]? = some u ∧ H' = upd H t (.tup [v, u]), fun i H => i = min xs.length ys.length ∧ SqL K H a xs ∧ SqL K H b ys⟩
theorem turn_zip {P : Program} {w : World} {K : PySem.W.Frag} {elts : List Expr} {k : Nat} {pos : Pos} (a b z TI TO i1 i2 : Addr) (xs ys : List V) (D : ZipApart z TI TO i1 i2 a b) :
    Turn P w K (.Tuple elts k pos) (Itz K a b xs ys) [z, TI, TO, i1, i2] z (fun i h => IsZip h z TI TO .none ∧ IsPair h TI (.ref i1) (.ref i2) ∧ (∃ x y, IsPair h TO x y) ∧ h.IsListIter i1 a i ∧ h.IsListIter i2 b i) where
  mem := by simp
  obj := fun i h st c hc => by
    obtain ⟨hz, hTI, ⟨x, y, hTO⟩, ⟨o1, e1, c1, d1⟩, ⟨o2, e2, c2, d2⟩⟩ := st
    simp only [List.mem_cons, List.not_mem_nil, or_false] at hc
    rcases hc with rfl | rfl | rfl | rfl | rfl
    · exact ⟨_, hz, fun v z => by cases z⟩
    · exact ⟨_, hTI, fun v z => by cases z⟩
    · exact ⟨_, hTO, fun v z => by cases z⟩
    · exact ⟨o1, e1, fun v z => by rw [d1] at z; cases z⟩
    · exact ⟨o2, e2, fun v z => by rw [d2] at z; cases z⟩
  keep := fun i h h' st kk => by
    obtain ⟨hz, hTI, ⟨x, y, hTO⟩, h1, h2⟩ := st
    exact ⟨kk z (by simp) _ hz, kk TI (by simp) _ hTI, ⟨x, y, kk TO (by simp) _ hTO⟩, h1.at fun o q => kk i1 (by simp) o q, h2.at fun o q => kk i2 (by simp) o q⟩
  item := by
    intro X hP hw hK hc i pins s σ H E I hf st hg
    subst hP hw hK
    obtain ⟨hi, hq1, hq2⟩ := hg
    obtain ⟨its, rv, pl, _⟩ := I.list hq1
    obtain ⟨jts, rv2, pl2, _⟩ := I.list hq2
    have hl := rv.length
    have hl2 := rv2.length
    obtain ⟨hz, hTI, hTO, h1, h2⟩ := st
    have W := WalksT.zip2 (prog := X.prog) (w := X.w) (A := X.A) (show X.A.handled = none from I.ok.hd hc) z TI TO i1 i2 a b D its.toArray jts.toArray
    refine W.item i s _ _ (by simp; omega) ⟨hz, hTI, hTO, h1, h2, pl.isList, pl2.isList⟩ fun T vals h' tk hPt hsz hT hMid hk => ?_
    obtain ⟨x, y, hx, hy, rfl⟩ := hPt
    obtain ⟨v, hv, rvx⟩ : ∃ v, xs[i]? = some v ∧ RelV v x := by
      have hi' : i < xs.length := by omega
      rw [List.getElem?_eq_getElem hi']
      obtain ⟨u, hu, ru⟩ := rv.get (List.getElem?_eq_getElem hi')
      have : its[i]? = some x := by simpa using hx
      rw [this] at hu
      cases hu
      exact ⟨_, rfl, ru⟩
    obtain ⟨v2, hv2, rvy⟩ : ∃ v, ys[i]? = some v ∧ RelV v y := by
      have hi' : i < ys.length := by omega
      rw [List.getElem?_eq_getElem hi']
      obtain ⟨u, hu, ru⟩ := rv2.get (List.getElem?_eq_getElem hi')
      have : jts[i]? = some y := by simpa using hy
      rw [this] at hu
      cases hu
      exact ⟨_, rfl, ru⟩
    refine ⟨.ref T, rfl, W.go elts k pos i T _ _ _ hMid fun h'' hSt hk'' => ?_⟩
    have ap := W.apart i T h' hMid
    have sub : ∀ c, c ∉ [z, TI, TO, i1, i2] → c ∉ [z, TO, i1, i2] := fun c hc z' => hc (by simp at z' ⊢; rcases z' with e | e | e | e <;> simp [e])
    have I1 : Inv X pins σ H { s with heap := h'', toks := tk } := I.turnedL (fp := [z, TI, TO, i1, i2]) (fun b o hb q => hk'' b o (sub b hb) (hk b o (sub b hb) q)) hf
    have fT : FpOk X pins H T := I.fpOk hsz (I.hok.fresh hsz)
    have hT' : IsTup h'' T #[x, y] := by
      obtain ⟨o, e1, e2, e3⟩ := hT
      exact ⟨o, hk'' T o ap e1, e2, e3⟩
    obtain ⟨hz2, hTI2, hTO2, h12, h22, _, _⟩ := hSt
    refine ⟨.ref T, upd H T (.tup [v, v2]), I1.track fT ⟨(by show 2 ≤ sizeLine; decide), [x, y], .cons rvx (.cons rvy .nil), hT'⟩, rfl, ⟨T, v, v2, fT.1, rfl, hv, hv2, rfl⟩, ⟨hz2, hTI2, hTO2, h12, h22⟩, fun c hc => ?_⟩
    have hcT : c ≠ T := fun e => by
      subst e
      have lt : ∀ {o}, s.heap.get? c = some o → False := fun e => Nat.lt_irrefl _ (Nat.lt_of_lt_of_le (Heap.lt_size e) hsz)
      simp only [List.mem_cons, List.not_mem_nil, or_false] at hc
      rcases hc with e | e | e | e | e
      · rw [← e] at hz; exact lt hz
      · rw [← e] at hTI; exact lt hTI
      · obtain ⟨_, _, hTO⟩ := hTO; rw [← e] at hTO; exact lt hTO
      · obtain ⟨o, e1, _⟩ := h1; rw [← e] at e1; exact lt e1
      · obtain ⟨o, e1, _⟩ := h2; rw [← e] at e1; exact lt e1
    rw [upd_ne hcT]
    exact (hf c hc).1
  done := by
    intro X hP hw hK hc i pins s σ H E I hf st hg
    subst hP hw hK
    obtain ⟨hi, hq1, hq2⟩ := hg
    obtain ⟨its, rv, pl, _⟩ := I.list hq1
    obtain ⟨jts, rv2, pl2, _⟩ := I.list hq2
    have hl := rv.length
    have hl2 := rv2.length
    obtain ⟨hz, hTI, hTO, h1, h2⟩ := st
    have W := WalksT.zip2 (prog := X.prog) (w := X.w) (A := X.A) (show X.A.handled = none from I.ok.hd hc) z TI TO i1 i2 a b D its.toArray jts.toArray
    have en : i = min its.toArray.size jts.toArray.size := by simp; omega
    rw [en] at h1 h2
    have sub : ∀ c, c ∉ [z, TI, TO, i1, i2] → c ∉ [z, TO, i1, i2] := fun c hc z' => hc (by simp at z' ⊢; rcases z' with e | e | e | e <;> simp [e])
    exact W.done s _ _ ⟨hz, hTI, hTO, h1, h2, pl.isList, pl2.isList⟩ fun h' tk hk => ⟨rfl, I.turnedL (fp := [z, TI, TO, i1, i2]) (fun b o hb q => hk b o (sub b hb) q) hf⟩
  self := fun A i s Q E st hQ => wpAny_pyIter_zip st.1 hQ
def iZip (K : PySem.W.Frag) (ta : TA) : TI := fun σ H R => ta σ H fun vs H1 => ∃ (a b : Addr) (xs ys : List V), vs = [.ref a, .ref b] ∧ SqL K H1 a xs ∧ SqL K H1 b ys ∧ R (Itz K a b xs ys) H1
theorem pi_zip {X : Cx} {K : PySem.W.Frag} {e e2 : Expr} {ta : TA} {p pos : Pos} {kk : Nat} {elts : List Expr} {tp : Pos} (hK : X.K = K) (hg : Gl X "zip") (hm : X.mg "zip" = none) (ha : PA X [e, e2] ta)
    (hs : starEach [e, e2] X.env = (false, eval e X.env) :: starEach [e2] X.env := by rfl) (hpl : (backTo pos (starEach [e2] X.env)).any (·.1) = false := by rfl) :
    PI X (.Tuple elts kk tp) (.Call (.Name "zip" p) [e, e2] [] pos) (iZip K ta) := by
  subst hK
  intro pins s σ H R I h
  refine Call_ (ld_blt I hg hm (by decide +kernel : bootBuiltins "zip" = some (.type "zip")) (PyProof.Rows.callWith_type1 (thn (ha pos pins s σ H _ I h) fun us s2 ⟨vs, H2, I2, r1, a, b, xs, ys, e1, hq1, hq2, hR⟩ => ?_) hs hpl) (by decide +kernel) (by decide +kernel))
  subst e1
  obtain ⟨u, u2, rfl, ru, ru2⟩ := vals2 r1
  cases ru
  cases ru2
  obtain ⟨its, rv, pl, _⟩ := I2.list hq1
  obtain ⟨jts, rv2, pl2, _⟩ := I2.list hq2
  refine call_zip_2 pl.isList pl2.isList fun h' z0 t0 o0 i10 i20 sz k0 => ?_
  have lta : @LT.lt Nat _ a s2.heap.objs.size := by obtain ⟨o, n, e, _⟩ := pl; exact Heap.lt_size e
  have ltb : @LT.lt Nat _ b s2.heap.objs.size := by obtain ⟨o, n, e, _⟩ := pl2; exact Heap.lt_size e
  refine wpAny_pyIter_zip z0 ?_
  have D : ZipApart (s2.heap.objs.size + 4) (s2.heap.objs.size + 2) (s2.heap.objs.size + 3) s2.heap.objs.size (s2.heap.objs.size + 1) a b := zip_apart _ _ _ lta ltb
  refine ⟨s2.heap.objs.size + 4, [s2.heap.objs.size + 4, s2.heap.objs.size + 2, s2.heap.objs.size + 3, s2.heap.objs.size, s2.heap.objs.size + 1], _, _, H2, rfl, I2.kept (t' := s2.toks) k0, turn_zip a b _ _ _ _ _ xs ys D, ⟨z0, t0, ⟨_, _, o0⟩, i10, i20⟩, fun c hc => ?_, hR⟩
  have le : @LE.le Nat _ s2.heap.objs.size c := by
    simp only [List.mem_cons, List.not_mem_nil, or_false] at hc
    rcases hc with e | e | e | e | e <;> rw [e]
    · exact Nat.le_add_right _ _
    · exact Nat.le_add_right _ _
    · exact Nat.le_add_right _ _
    · exact Nat.le_refl _
    · exact Nat.le_add_right _ _
  exact I2.fpOk le (I2.hok.fresh le)
end L2
namespace L2
open PySem PySem.Spec PyProof.Rows
theorem compZ {K : PySem.W.Frag} {ix : List (Option Nat)} {g : TG} {te : TE} {σ : St} {Q : VK} {H : Hp} {a b : Addr} {xs ys : List V} (Pv : Nat → List V → St → Hp → Prop) (hn : min xs.length ys.length ≤ 1000000) (h0 : Pv 0 [] (startC ix σ) H)
    (hl : ∀ i zs σ H, i ≤ min xs.length ys.length → Pv i zs σ H → SqL K H a xs ∧ SqL K H b ys) (hlen : ∀ i zs σ H, Pv i zs σ H → zs.length ≤ i)
    (hs : ∀ i zs σ H t v u (R : St → List V → Hp → Prop), xs[i]? = some v → ys[i]? = some u → Pv i zs σ H → H t = none → (∀ σ2 ys2 H5, Pv (i + 1) ys2 σ2 H5 → R σ2 ys2 H5) → g (.ref t) σ (upd H t (.tup [v, u])) fun σ2 H3 => te σ2 H3 fun v H5 => R σ2 (zs ++ [v]) H5)
    (mg : ∀ x σ H R R', (∀ σ2 H2, R σ2 H2 → R' σ2 H2) → g x σ H R → g x σ H R')
    (hd : ∀ zs σ' H' p, Pv (min xs.length ys.length) zs σ' H' → H' p = none → Q (.ref p) (upd H' p (.lst zs))) : rComp ix g tTrue te σ Q (Itz K a b xs ys) H := by
  refine comp_by Pv hn h0 (fun i zs σ H hi p => ⟨hi, hl i zs σ H (Nat.le_of_lt hi) p⟩) (fun zs σ H p => ⟨rfl, hl _ zs σ H (Nat.le_refl _) p⟩) hlen (fun i zs σ H x H2 R hi p y r => ?_) hd
  obtain ⟨t, v, u, ht, rfl, hv, hu, rfl⟩ := y
  refine mg _ _ _ _ _ (fun σ2 H3 q => ?_) (hs i zs σ H t v u R hv hu p ht r)
  unfold tTrue
  simp only [if_true]
  exact q
end L2
namespace L2
open PySem PySem.Spec PyProof.Rows
theorem gNJ {i : Nat} {v : V} {σ : St} {H : Hp} {k : St → Hp → Prop} (h : k (σ.set i (some v)) H) : gName i v σ H k := h
theorem seq_byJ {t u : TS} {D : Ends} {σ : St} {H : Hp} (R : St → Hp → Prop) (h1 : ∀ D' : Ends, (∀ σ' H', R σ' H' → D'.nx σ' H') → t D' σ H) (h2 : ∀ σ' H', R σ' H' → u D σ' H') : tSeq t u D σ H := h1 _ h2
theorem sub_leA {α : Type} [DecidableEq α] : ∀ {as bs : List α}, as.Nodup → (∀ x ∈ as, x ∈ bs) → as.length ≤ bs.length
  | [], _, _, _ => Nat.zero_le _
  | a :: as, bs, nd, h => by
    rw [List.nodup_cons] at nd
    have hb := h a List.mem_cons_self
    have le := sub_leA (bs := bs.erase a) nd.2 fun x hx => by
      have ne : x ≠ a := fun z => nd.1 (by rw [← z]; exact hx)
      exact (List.mem_erase_of_ne ne).mpr (h x (List.mem_cons_of_mem _ hx))
    rw [List.length_erase_of_mem hb] at le
    have := List.length_pos_of_mem hb
    rw [List.length_cons]
    omega
end L2
namespace L2
open PySem
mutual
theorem DT.imp {H : Hp} {P R : Addr → Prop} (k : ∀ a, P a → R a) : ∀ {v : V} {d : PyData}, DT H P v d → DT H R v d
  | _, _, .non => .non
  | _, _, .bl b => .bl b
  | _, _, .int i => .int i
  | _, _, .str x => .str x
  | _, _, .lst h p r => .lst h (k _ p) (DTs.imp k r)
  | _, _, .tup h p r => .tup h (k _ p) (DTs.imp k r)
theorem DTs.imp {H : Hp} {P R : Addr → Prop} (k : ∀ a, P a → R a) : ∀ {vs : List V} {ds : List PyData}, DTs H P vs ds → DTs H R vs ds
  | _, _, .nil => .nil
  | _, _, .cons h r => .cons (DT.imp k h) (DTs.imp k r)
end
mutual
theorem DT.alive {H : Hp} {P : Addr → Prop} : ∀ {v : V} {d : PyData}, DT H P v d → DT H (fun b => P b ∧ H b ≠ none) v d
  | _, _, .non => .non
  | _, _, .bl b => .bl b
  | _, _, .int i => .int i
  | _, _, .str x => .str x
  | _, _, .lst h p r => .lst h ⟨p, by rw [h]; intro z; cases z⟩ (DTs.alive r)
  | _, _, .tup h p r => .tup h ⟨p, by rw [h]; intro z; cases z⟩ (DTs.alive r)
theorem DTs.alive {H : Hp} {P : Addr → Prop} : ∀ {vs : List V} {ds : List PyData}, DTs H P vs ds → DTs H (fun b => P b ∧ H b ≠ none) vs ds
  | _, _, .nil => .nil
  | _, _, .cons h r => .cons (DT.alive h) (DTs.alive r)
end
theorem at_refI {ws : List V} {i : Int} {v : V} (h0 : 0 ≤ i) (h : ws[i.toNat]? = some v) : atI ws i = some v := by
  have := atI_nat h
  rwa [Int.toNat_of_nonneg h0] at this
theorem cutDg {xs : List V} {a : Int} (h0 : 0 ≤ a) : cutV xs (some a) none = xs.drop a.toNat := by
  by_cases h : a ≤ xs.length
  · exact Sw.cutD9 h0 h
  · have e2 : HT.sIx xs.length xs.length none = xs.length := rfl
    unfold cutV
    rw [Sw.sIx_in h0, e2, Nat.min_eq_right (by omega), List.drop_length, List.take_nil, List.drop_eq_nil_of_le (by omega)]
theorem all1 {Q : PyData → Prop} {a : PyData} (h1 : Q a) : ∀ d ∈ [a], Q d := fun d hd => by rw [List.mem_singleton.mp hd]; exact h1
theorem acc_tup {H0 H : Hp} {P : Addr → Prop} {vs xs : List V} {ds es : List PyData} {t : Addr} (hP : ∀ x, H0 x = none → P x) (s : Same H0 H) (a : DTs H P vs ds) (f : H t = none) (e : DTs H P xs es) : DTs (upd H t (.tup xs)) P (vs ++ [.ref t]) (ds ++ [.tuple es]) ∧ Same H0 (upd H t (.tup xs)) := by
  have z : Same H (upd H t (.tup xs)) := Same.new f
  exact ⟨(a.keep fun b o _ q => z b o q).snoc (.tup upd_same (hP _ (s.free f)) (e.keep fun b o _ q => z b o q)), s.trans z⟩
theorem acc_lst {H0 H : Hp} {P : Addr → Prop} {vs xs : List V} {ds es : List PyData} {t : Addr} (hP : ∀ x, H0 x = none → P x) (s : Same H0 H) (a : DTs H P vs ds) (f : H t = none) (e : DTs H P xs es) : DTs (upd H t (.lst xs)) P (vs ++ [.ref t]) (ds ++ [.list es]) ∧ Same H0 (upd H t (.lst xs)) := by
  have z : Same H (upd H t (.lst xs)) := Same.new f
  exact ⟨(a.keep fun b o _ q => z b o q).snoc (.lst upd_same (hP _ (s.free f)) (e.keep fun b o _ q => z b o q)), s.trans z⟩
end L2
namespace L2
open PySem
theorem op_neDI {X : Cx} {K : PySem.W.Frag} (hK : X.K = K) (hu : X.A.units + 64 < cLine) : OpR X (compareOp .NotEq) (rNeD K) := by subst hK; exact op_neD hu
end L2
namespace Sw
open PySem L2
def intI : PyData → Int
  | .int a => a
  | _ => 0
def adjB (L : List Int) : List Bool := List.zipWith (fun x y => decide (x < y)) L (L.drop 1)
theorem adj_all : ∀ L : List Int, ((adjB L).all id = true) ↔ L.Pairwise (· < ·)
  | [] => by unfold adjB; simp
  | [a] => by unfold adjB; simp
  | a :: b :: L => by
    have ih := adj_all (b :: L)
    have e : adjB (a :: b :: L) = decide (a < b) :: adjB (b :: L) := rfl
    rw [e, List.all_cons, Bool.and_eq_true, ih]
    constructor
    · rintro ⟨h1, h2⟩
      have h1 : a < b := of_decide_eq_true h1
      refine List.pairwise_cons.mpr ⟨fun x hx => ?_, h2⟩
      rcases List.mem_cons.mp hx with rfl | hx
      · exact h1
      · have := (List.pairwise_cons.mp h2).1 x hx; omega
    · intro h
      obtain ⟨h1, h2⟩ := List.pairwise_cons.mp h
      exact ⟨decide_eq_true (h1 b List.mem_cons_self), h2⟩
def ispt (n : Int) : PyData → Bool
  | .list ds => (decide (ds ≠ []) && ds.all (btw 1 n)) && (adjB (ds.map intI)).all id
  | _ => false
theorem btwI : ∀ {ds : List PyData} {lo hi : Int}, ds.all (btw lo hi) = true → ds = (ds.map intI).map PyData.int ∧ ∀ x ∈ ds.map intI, lo ≤ x ∧ x ≤ hi
  | [], _, _, _ => ⟨rfl, by simp⟩
  | d :: r, lo, hi, h => by
    rw [List.all_cons] at h
    obtain ⟨h1, h2⟩ := Bool.and_eq_true_iff.mp h
    obtain ⟨e, b⟩ := btwI h2
    cases d with
    | int i =>
      refine ⟨?_, fun x hx => ?_⟩
      · rw [List.map_cons, List.map_cons, ← e]; rfl
      · rw [List.map_cons] at hx
        rcases List.mem_cons.mp hx with rfl | hx
        · exact of_decide_eq_true h1
        · exact b x hx
    | _ => exact absurd h1 Bool.false_ne_true
theorem ispt_is {n : Int} {d : PyData} (h : ispt n d = true) : ∃ L : List Int, d = .list (L.map PyData.int) ∧ L ≠ [] ∧ L.Pairwise (· < ·) ∧ ∀ x ∈ L, 1 ≤ x ∧ x ≤ n := by
  cases d with
  | list ds =>
    obtain ⟨h1, h2⟩ := Bool.and_eq_true_iff.mp h
    obtain ⟨h3, h4⟩ := Bool.and_eq_true_iff.mp h1
    obtain ⟨e, b⟩ := btwI h4
    have h3 : ds ≠ [] := of_decide_eq_true h3
    exact ⟨ds.map intI, by rw [← e], fun z => h3 (List.map_eq_nil_iff.mp z), (adj_all _).mp h2, b⟩
  | _ => cases h
theorem map_intI : ∀ L : List Int, (L.map PyData.int).map intI = L
  | [] => rfl
  | a :: r => by rw [List.map_cons, List.map_cons, map_intI r]; rfl
theorem ispt_of {n : Int} {L : List Int} (h1 : L ≠ []) (h2 : L.Pairwise (· < ·)) (h3 : ∀ x ∈ L, 1 ≤ x ∧ x ≤ n) : ispt n (.list (L.map PyData.int)) = true := by
  show ((decide (L.map PyData.int ≠ []) && (L.map PyData.int).all (btw 1 n)) && (adjB ((L.map PyData.int).map intI)).all id) = true
  have ne : L.map PyData.int ≠ [] := fun z => h1 (List.map_eq_nil_iff.mp z)
  rw [map_intI, (adj_all L).mpr h2, decide_eq_true ne, Bool.and_true, Bool.true_and, List.all_map, List.all_eq_true]
  exact fun x hx => decide_eq_true (h3 x hx)
def shD (Ls : List (List Int)) : PyData := .list (Ls.map fun L => .list (L.map PyData.int))
def IsSh (n : Int) (d : PyData) : Prop := ∃ Ls, d = shD Ls ∧ Gsd n Ls
theorem shs_of {n : Int} {H : Hp} {P : Addr → Prop} : ∀ {us : List V} {ds : List PyData}, DTs H P us ds → ds.all (ispt n) = true → ∃ Ls, ds = Ls.map (fun L => PyData.list (L.map PyData.int)) ∧ Lsts H us Ls ∧ ∀ L ∈ Ls, L ≠ [] ∧ L.Pairwise (· < ·) ∧ ∀ x ∈ L, 1 ≤ x ∧ x ≤ n
  | _, _, .nil, _ => ⟨[], rfl, .nil, by simp⟩
  | _, _, .cons (d := d) h hs, e => by
    rw [List.all_cons] at e
    obtain ⟨e1, e2⟩ := Bool.and_eq_true_iff.mp e
    obtain ⟨Ls, e3, x, q⟩ := shs_of hs e2
    obtain ⟨L, e4, l1, l2, l3⟩ := ispt_is e1
    subst e4
    cases h with
    | lst ha _ r =>
      have hu := DTs.toIntsI r
      subst hu
      refine ⟨L :: Ls, by rw [e3]; rfl, .cons ha x, fun M hM => ?_⟩
      rcases List.mem_cons.mp hM with rfl | hM
      · exact ⟨l1, l2, l3⟩
      · exact q M hM
where
  DTs.toIntsI {H : Hp} {P : Addr → Prop} : ∀ {ns : List Int} {us : List V}, DTs H P us (ns.map PyData.int) → us = ns.map V.int
  | [], us, h => by cases h; rfl
  | n :: r, us, h => by
    cases h with
    | cons h1 h2 =>
      cases h1
      rw [DTs.toIntsI h2]
      rfl
theorem rise_len {n : Int} {L : List Int} (h0 : 0 ≤ n) (h2 : L.Pairwise (· < ·)) (h3 : ∀ x ∈ L, 1 ≤ x ∧ x ≤ n) : L.length ≤ n.toNat := by
  have nd : L.Nodup := h2.imp fun h => by omega
  have := sub_leA nd (bs := ivl 1 (n + 1)) fun x hx => mem_ivl.mpr (by have := h3 x hx; omega)
  rw [ivl_length] at this
  omega
def Crs (L M : List Int) : Prop := ∃ a ∈ L, ∃ c ∈ L, ∃ b ∈ M, ∃ d ∈ M, a < b ∧ b < c ∧ c < d
def lenI : PyData → Nat
  | .list es => es.length
  | _ => 0
def Few2 (d : PyData) : Prop := ∀ ds, d = .list ds → ds.length ≤ 60 ∧ (ds.map lenI).sum ≤ 60
theorem mem_sumI : ∀ {ds : List PyData} {e : PyData}, e ∈ ds → lenI e ≤ (ds.map lenI).sum
  | d :: ds, e, h => by
    rw [List.map_cons, List.sum_cons]
    rcases List.mem_cons.mp h with rfl | h
    · omega
    · have := mem_sumI h; omega
def spIspD : Sp := fun vs H Q _ => ∃ (v : V) (P : Addr → Prop) (d : PyData) (n : Int), vs = [.int n, v] ∧ DT H P v d ∧ (∀ ds, d = .list ds → ds.length ≤ 1000) ∧ ∀ H', Same H H' → Q (.bl (ispt n d)) H'
def spCroD : Sp := fun vs H Q _ => ∃ (l m : Addr) (L M : List Int), vs = [.ref l, .ref m] ∧ H l = some (.lst (L.map V.int)) ∧ H m = some (.lst (M.map V.int)) ∧ L.length ≤ 12 ∧ M.length ≤ 12 ∧ ∀ b H', (b = true ↔ Crs L M) → Same H H' → Q (.bl b) H'
def spIcrD : Sp := fun vs H Q _ => ∃ (l : Addr) (ws : List V) (Ls : List (List Int)), vs = [.ref l] ∧ H l = some (.lst ws) ∧ Lsts H ws Ls ∧ Ls.length ≤ 12 ∧ (∀ L ∈ Ls, L.length ≤ 12) ∧ ∀ b H', (b = true ↔ ¬ NonX Ls) → Same H H' → Q (.bl b) H'
def spIssD : Sp := fun vs H Q _ => ∃ (v : V) (P : Addr → Prop) (d : PyData) (n : Int), vs = [.int n, v] ∧ DT H P v d ∧ Few2 d ∧ 1 ≤ n ∧ n ≤ 12 ∧ ∀ b H', (b = true ↔ IsSh n d) → Same H H' → Q (.bl b) H'
structure TIspD (P : Program) (w : World) (K : PySem.W.Frag) (mg : Str → Option Value) (base : Heap) : Prop extends T1 mg K where
  b_zip : mg "zip" = none
  f_is_between : FnAt P w K mg base "is_between" 2 ["thing", "low", "high"] spBtD
structure TCroD (mg : Str → Option Value) (K : PySem.W.Frag) : Prop extends T1 mg K where
  b_any : mg "any" = none
structure TIcrD (P : Program) (w : World) (K : PySem.W.Frag) (mg : Str → Option Value) (base : Heap) : Prop extends T1 mg K where
  b_any : mg "any" = none
  f_crosses : FnAt P w K mg base "crosses" 1 ["one", "other"] spCroD
structure TIssD (P : Program) (w : World) (K : PySem.W.Frag) (mg : Str → Option Value) (base : Heap) : Prop extends T1 mg K where
  b_sorted : mg "sorted" = none
  f_is_part : FnAt P w K mg base "is_part" 3 ["n", "thing"] spIspD
  f_is_crossed : FnAt P w K mg base "is_crossed" 2 ["sharing"] spIcrD
theorem neLI {K : PySem.W.Frag} {H : Hp} {t u : Addr} {ns ms : List Int} {Q : VK} (h1 : H t = some (.lst (ns.map V.int))) (h2 : H u = some (.lst (ms.map V.int))) (q : Q (.bl (!decide (ns = ms))) H) : rNeD K (.ref t) (.ref u) H Q := by
  refine ⟨fun _ => True, .list (ns.map PyData.int), .list (ms.map PyData.int), .lst (SqL.of h1) True.intro (ints_dat ns), .lst (SqL.of h2) True.intro (ints_dat ms), ?_, ?_, ?_, ?_⟩
  · unfold PyData.canLay0; exact lay_ints ns
  · unfold PyData.canLay0; exact lay_ints ms
  · unfold PyData.depth; rw [depth_ints]; decide
  · unfold PyData.eqv; rw [eqv_ints]; exact q
theorem exTI {α : Type} {l : List α} {i : Nat} {y : α} (h : l[i]? = some y) (p : α → Prop) : (∃ x ∈ l.take (i + 1), p x) ↔ (∃ x ∈ l.take i, p x) ∨ p y := by
  rw [take_snoc h]
  constructor
  · rintro ⟨x, hx, px⟩
    rcases List.mem_append.mp hx with hx | hx
    · exact .inl ⟨x, hx, px⟩
    · rw [List.mem_singleton.mp hx] at px; exact .inr px
  · rintro (⟨x, hx, px⟩ | px)
    · exact ⟨x, List.mem_append_left _ hx, px⟩
    · exact ⟨y, List.mem_append_right _ (List.mem_singleton.mpr rfl), px⟩
theorem ex0I {α : Type} {l : List α} {p : α → Prop} : (∃ x ∈ l.take 0, p x) ↔ False := by rw [List.take_zero]; simp
theorem exAI {α : Type} {l : List α} {k : Nat} (h : l.length ≤ k) {p : α → Prop} : (∃ x ∈ l.take k, p x) ↔ ∃ x ∈ l, p x := by rw [List.take_of_length_le h]
theorem eqLq9 {K : PySem.W.Frag} {H : Hp} {l m : Addr} {vs ws : List V} {r q : List (List Int)} {Q : VK} (h1 : H l = some (.lst vs)) (x1 : Lsts H vs r) (h2 : H m = some (.lst ws)) (x2 : Lsts H ws q) (hq : Q (.bl (decide (r = q))) H) : rEqD K (.ref l) (.ref m) H Q := by
  refine ⟨fun _ => True, .list (r.map fun p => PyData.list (p.map PyData.int)), .list (q.map fun p => PyData.list (p.map PyData.int)), .lst (SqL.of h1) True.intro x1.dat, .lst (SqL.of h2) True.intro x2.dat, ?_, ?_, ?_, ?_⟩
  · unfold PyData.canLay0; exact lay_ll r
  · unfold PyData.canLay0; exact lay_ll q
  · unfold PyData.depth; have := depth_ll r; omega
  · unfold PyData.eqv; rw [eqv_ll]; exact hq
section
variable {P : Program} {w : World} {K : PySem.W.Frag} {mg : Str → Option Value} {base : Heap}
theorem sc_is_part : FnScope ["n", "thing"] ["n", "thing"] (defScope (top 4)) := ⟨rfl, rfl, rfl, by decide +kernel, rfl, by decide +kernel, by decide +kernel⟩
theorem ok_ispD {f : Addr} {fd : FuncData} (F : Fun K "is_part" "is_part" (top 4) f fd) (T : TIspD P w K mg base) : FnOk P w K mg base CX0 3 f fd ["n", "thing"] spIspD := by
  refine F.ok sc_is_part (fun vs H Q E h => ?_) (fun cdv A outer s H vs Q E hr h => ?_)
  · obtain ⟨v, P, d, n, rfl, _⟩ := h
    rfl
  · obtain ⟨v, P, d, n, rfl, hd, hlen, k⟩ := h
    refine ⟨_, (pss_cons (ps_if (PW.pt (pw_or (pt_not (pt_val (pe_callB (call_isiK (K := K) rfl) rfl T.b_isinstance (by decide +kernel) (pa_cons (pv 1) (pa_cons (pe_bltn (v := .ty "list") rfl T.b_list (by decide +kernel) rfl) pa_nil))))) (pw_or1 (pt_cmpR op_eq (pe_callB (call_lenK (K := K) rfl) rfl T.b_len (by decide +kernel) (pa_cons (pv 1) pa_nil)) pe_int (nomark _))))) (pss_one (ps_ret pe_bl)) pss_nil)
      (pss_cons (ps_if (pt_not (pt_val (pe_callB (call_allK (K := K) rfl rfl) rfl T.b_all (by decide +kernel) (pa_cons (pe_comp (N := (["number", "n"] : List Str)) (ix := ([none, some 0] : List (Option Nat))) (comp_ok rfl rfl) rfl (pi_listK (K := K) rfl (pv 1)) (fun _ _ _ _ => (pg_name (i := 0) (show List.Nodup (["number", "n"] : List Str) from by decide +kernel) rfl (Or.inl rfl))) (fun _ _ _ _ => pif_nil) (fun _ _ _ _ => (pe_callF T.f_is_between (hr.mono (by first | decide | omega)) rfl (@pa_cons _ _ _ _ _ (pv 0) (@pa_cons _ _ _ _ _ pe_int (@pa_cons _ _ _ _ _ (pv 1) pa_nil st_name) st_con) st_name)))) pa_nil)))) (pss_one (ps_ret pe_bl)) pss_nil)
      (pss_one (ps_ret (pe_callB (call_allK (K := K) rfl rfl) rfl T.b_all (by decide +kernel) (pa_cons (pe_comp (N := (["low", "high"] : List Str)) (ix := ([none, none] : List (Option Nat))) (comp_ok rfl rfl) rfl (pi_zip (K := K) rfl rfl T.b_zip (pa_cons (pv 1) (pa_cons (pe_slice (sl_listK (K := K) rfl) (pv 1) (po_some pe_int) po_none) pa_nil))) (fun _ _ _ _ => (pg_tupK (K := K) (n := 2) rfl rfl (pgs_cons (pg_name (i := 0) (show List.Nodup (["low", "high"] : List Str) from by decide +kernel) rfl (Or.inl rfl)) (pgs_cons (pg_name (i := 1) (show List.Nodup (["low", "high"] : List Str) from by decide +kernel) rfl (Or.inl rfl)) pgs_nil)))) (fun _ _ _ _ => pif_nil) (fun _ _ _ _ => (pe_cmpR op_lt (pv 0) (pv 1) (nomark _)))) pa_nil)))))), ?_⟩
    refine ⟨_, rfl, _, _, "list", _, rfl, hd.ty, kit_list K hd, _, rfl, ?_⟩
    cases hd with
    | @lst l us ds hl pl rs =>
      refine iteF ?_
      have ul := rs.length
      have dl := hlen ds rfl
      by_cases ne : ds = []
      · subst ne
        refine ⟨_, rfl, l, _, rfl, .inl (SqL.of hl), rfl, _, rfl, iteP (decide_eq_true (by rw [ul]; rfl)) ?_⟩
        exact k H (Same.refl H)
      have lp := List.length_pos_iff.mpr ne
      refine ⟨_, rfl, l, _, rfl, .inl (SqL.of hl), rfl, _, rfl, iteE (decide_eq_false fun z => by have := V.int.inj z; omega) ?_⟩
      refine ⟨_, rfl, l, rfl, ⟨_, SqL.of hl⟩, compL (K := K) (a := l) (xs := us) (k := 0) (fun i ys σ' H' => ys = ((ds.take i).map (btw 1 n)).map V.bl ∧ (∃ v, σ' = [v, some (.int n)]) ∧ H' = H) (by omega) ⟨rfl, ⟨none, rfl⟩, rfl⟩ (fun i ys σ' H' _ q => by rw [q.2.2]; exact SqL.of hl) (fun i ys σ' H' q => by rw [q.1, List.length_map, List.length_map, List.length_take]; omega) ?_ ?_⟩
      · rintro i ys σ' H' z R hz ⟨rfl, ⟨v, rfl⟩, rfl⟩ done
        obtain ⟨d, hd, hdz⟩ := rs.get hz
        refine ⟨_, rfl, _, rfl, z, P, d, 1, n, rfl, hdz, done _ _ _ ⟨?_, ⟨_, rfl⟩, rfl⟩⟩
        rw [all_take hd, List.map_append]
        rfl
      rintro ys σ' H' r ⟨rfl, _, rfl⟩ fr
      rw [List.take_of_length_le (by omega)]
      have s1 : Same H' (upd H' r (.lst ((ds.map (btw 1 n)).map V.bl))) := Same.new fr
      refine ⟨r, ds.map (btw 1 n), rfl, SqL.of upd_same, _, rfl, ?_⟩
      have ea : (ds.map (btw 1 n)).all id = ds.all (btw 1 n) := by rw [List.all_map]; rfl
      rw [ea]
      generalize upd H' r (.lst ((ds.map (btw 1 n)).map V.bl)) = H1 at s1 ⊢
      cases hw : ds.all (btw 1 n) with
      | false =>
        have e : ispt n (.list ds) = false := by
          show ((decide (ds ≠ []) && ds.all (btw 1 n)) && _) = false
          rw [hw, Bool.and_false]; rfl
        rw [e] at k
        exact iteT (k H1 s1)
      | true =>
        refine iteF ?_
        obtain ⟨ed, bd⟩ := btwI hw
        have e : ispt n (.list ds) = (adjB (ds.map intI)).all id := by
          show ((decide (ds ≠ []) && ds.all (btw 1 n)) && _) = _
          rw [hw, decide_eq_true ne]; rfl
        rw [e] at k
        rw [ed] at rs
        have hu := shs_of.DTs.toIntsI rs
        have Ll : (ds.map intI).length = ds.length := List.length_map ..
        generalize ds.map intI = L at *
        subst hu
        have hl1 := s1 _ _ hl
        refine ⟨_, rfl, _, rfl, ?_⟩
        dsimp only [tNoPart]
        refine ⟨_, rfl, l, _, rfl, SqL.of hl1, fun qd fqd => ?_⟩
        have cd : cutV (L.map V.int) (some 1) none = (L.drop 1).map V.int := by rw [cutD9 (by decide) (by rw [List.length_map]; omega), List.map_drop]; rfl
        rw [cd]
        have s4 : Same H1 (upd H1 qd (.lst ((L.drop 1).map V.int))) := Same.new fqd
        have hqd : upd H1 qd (.lst ((L.drop 1).map V.int)) qd = some (.lst ((L.drop 1).map V.int)) := upd_same
        generalize upd H1 qd (.lst ((L.drop 1).map V.int)) = H4 at s4 hqd ⊢
        have a4 := s1.trans s4
        have al : (adjB L).length = L.length - 1 := by unfold adjB; rw [List.length_zipWith, List.length_drop]; omega
        refine ⟨l, qd, _, _, rfl, SqL.of (s4 _ _ hl1), SqL.of hqd, compZ (K := K) (fun i zs σ' H' => zs = ((adjB L).take i).map V.bl ∧ (∃ v0 v1, σ' = [v0, v1]) ∧ Same H4 H') (by rw [List.length_map]; omega) ⟨rfl, ⟨none, none, rfl⟩, Same.refl _⟩ (fun i zs σ' H' _ z => ⟨SqL.of (z.2.2 _ _ (s4 _ _ hl1)), SqL.of (z.2.2 _ _ hqd)⟩) (fun i zs σ' H' z => by rw [z.1, List.length_map, List.length_take]; omega) ?_ ?_ ?_⟩
        · rintro i zs σ' H5 t v u R hv hu ⟨rfl, ⟨w0, w1, rfl⟩, s5⟩ ft done
          obtain ⟨x, rfl, hx⟩ := mem_int hv
          obtain ⟨y, rfl, hy⟩ := mem_int hu
          refine ⟨t, _, rfl, SqT.of upd_same, rfl, _, _, rfl, _, _, rfl, rfl, ?_⟩
          refine ⟨_, rfl, _, rfl, _, _, rfl, rfl, done _ _ _ ⟨?_, ⟨_, _, rfl⟩, s5.trans (Same.new ft)⟩⟩
          have ha : (adjB L)[i]? = some (decide (x < y)) := by
            unfold adjB
            rw [List.getElem?_zipWith, hx, hy]
          rw [take_snoc ha, List.map_append]
          rfl
        · intro x σ H R R' m q
          obtain ⟨a, xs, e1, h, hl, v, vs, e2, v', vs', e3, e4, q⟩ := q
          exact ⟨a, xs, e1, h, hl, v, vs, e2, v', vs', e3, e4, m _ _ q⟩
        · rintro zs σ' H5 r2 ⟨rfl, _, s5⟩ fr2
          rw [List.take_of_length_le (by rw [al, List.length_map, List.length_map, List.length_drop]; omega)]
          exact ⟨r2, adjB L, rfl, SqL.of upd_same, k _ (a4.trans (s5.trans (Same.new fr2)))⟩
    | _ => exact iteT (k H (Same.refl H))
theorem sc_crosses : FnScope ["one", "other"] ["one", "other"] (defScope (top 5)) := ⟨rfl, rfl, rfl, by decide +kernel, rfl, by decide +kernel, by decide +kernel⟩
theorem ok_croD {f : Addr} {fd : FuncData} (F : Fun K "crosses" "crosses" (top 5) f fd) (T : TCroD mg K) : FnOk P w K mg base CX0 1 f fd ["one", "other"] spCroD := by
  refine F.ok sc_crosses (fun vs H Q E h => ?_) (fun cdv A outer s H vs Q E hr h => ?_)
  · obtain ⟨l, m, L, M, rfl, _⟩ := h
    rfl
  · obtain ⟨l, m, L, M, rfl, hl, hm, ll, ml, k⟩ := h
    refine ⟨_, (pss_one (ps_ret (pe_callB (call_any (K := K) rfl rfl) rfl T.b_any (by decide +kernel) (pa_cons (pe_compN (N := (["a", "c", "b", "d", "one", "other"] : List Str)) (ix := ([none, none, none, none, some 0, some 1] : List (Option Nat))) (comp_ok rfl rfl) rfl (pi_listK (K := K) rfl (pv 0)) (fun _ _ _ _ => (pg_name (i := 0) (show List.Nodup (["a", "c", "b", "d", "one", "other"] : List Str) from by decide +kernel) rfl (Or.inl rfl))) (fun _ _ _ _ => pif_nil) (fun _ _ _ _ => (Chain.more rfl (pi_listK (K := K) rfl (pv 4)) (pg_name (i := 1) (show List.Nodup (["a", "c", "b", "d", "one", "other"] : List Str) from by decide +kernel) rfl (Or.inl rfl)) pif_nil (fun _ => rfl) (Chain.more rfl (pi_listK (K := K) rfl (pv 5)) (pg_name (i := 2) (show List.Nodup (["a", "c", "b", "d", "one", "other"] : List Str) from by decide +kernel) rfl (Or.inl rfl)) pif_nil (fun _ => rfl) (Chain.more rfl (pi_listK (K := K) rfl (pv 5)) (pg_name (i := 3) (show List.Nodup (["a", "c", "b", "d", "one", "other"] : List Str) from by decide +kernel) rfl (Or.inl rfl)) pif_nil (fun _ => rfl) (Chain.last rfl (pe_chain3 op_lt op_lt op_lt (pv 0) (pv 2) (pv 1) (pv 3)))))))) pa_nil)))), ?_⟩
    have big : (10000000 : Nat) ≤ sizeLine := by decide
    have Ll : (L.map V.int).length = L.length := List.length_map ..
    have Ml : (M.map V.int).length = M.length := List.length_map ..
    refine ⟨_, rfl, l, rfl, ⟨_, SqL.of hl⟩, wl_list (K := K) (a := l) (xs := L.map V.int) (fun i ys σ' H' => (∃ v0 v1 v2 v3, σ' = [v0, v1, v2, v3, some (.ref l), some (.ref m)]) ∧ (∃ bs : List Bool, ys = bs.map V.bl ∧ bs.length ≤ i * 1728 ∧ (bs.any id = true ↔ ∃ a ∈ L.take i, ∃ c ∈ L, ∃ b ∈ M, ∃ d ∈ M, a < b ∧ b < c ∧ c < d)) ∧ H' = H) ⟨⟨_, _, _, _, rfl⟩, ⟨[], rfl, Nat.zero_le _, by rw [ex0I]; simp⟩, rfl⟩ (fun i ys σ' H' _ z => by rw [z.2.2]; exact SqL.of hl) ?_ ?_⟩
    · rintro i ys σ' H' x S hx ⟨⟨v0, v1, v2, v3, rfl⟩, ⟨b0, rfl, cl0, an0⟩, rfl⟩ done
      obtain ⟨a, rfl, ha⟩ := mem_int hx
      have il := (List.getElem?_eq_some_iff.mp ha).1
      dsimp only [gName, tTrue]
      rw [if_pos rfl]
      refine ⟨_, rfl, l, rfl, ⟨_, SqL.of hl⟩, wl_list (K := K) (a := l) (xs := L.map V.int) (fun j ys σ' H2 => (∃ v1 v2 v3, σ' = [some (.int a), v1, v2, v3, some (.ref l), some (.ref m)]) ∧ (∃ bs : List Bool, ys = bs.map V.bl ∧ bs.length ≤ i * 1728 + j * 144 ∧ (bs.any id = true ↔ b0.any id = true ∨ ∃ c ∈ L.take j, ∃ b ∈ M, ∃ d ∈ M, a < b ∧ b < c ∧ c < d)) ∧ H2 = H') ⟨⟨_, _, _, rfl⟩, ⟨b0, rfl, by omega, by rw [ex0I, or_false]⟩, rfl⟩ (fun j ys σ' H2 _ z => by rw [z.2.2]; exact SqL.of hl) ?_ ?_⟩
      · rintro j ys σ' H2 x S2 hx2 ⟨⟨v1, v2, v3, rfl⟩, ⟨b1, rfl, cl1, an1⟩, rfl⟩ done2
        obtain ⟨c, rfl, hc⟩ := mem_int hx2
        have jl := (List.getElem?_eq_some_iff.mp hc).1
        dsimp only [gName, tTrue]
        rw [if_pos rfl]
        refine ⟨_, rfl, m, rfl, ⟨_, SqL.of hm⟩, wl_list (K := K) (a := m) (xs := M.map V.int) (fun p ys σ' H3 => (∃ v2 v3, σ' = [some (.int a), some (.int c), v2, v3, some (.ref l), some (.ref m)]) ∧ (∃ bs : List Bool, ys = bs.map V.bl ∧ bs.length ≤ i * 1728 + j * 144 + p * 12 ∧ (bs.any id = true ↔ b1.any id = true ∨ ∃ b ∈ M.take p, ∃ d ∈ M, a < b ∧ b < c ∧ c < d)) ∧ H3 = H2) ⟨⟨_, _, rfl⟩, ⟨b1, rfl, by omega, by rw [ex0I, or_false]⟩, rfl⟩ (fun p ys σ' H3 _ z => by rw [z.2.2]; exact SqL.of hm) ?_ ?_⟩
        · rintro p ys σ' H3 x S3 hx3 ⟨⟨v2, v3, rfl⟩, ⟨b2, rfl, cl2, an2⟩, rfl⟩ done3
          obtain ⟨b, rfl, hb⟩ := mem_int hx3
          have pl := (List.getElem?_eq_some_iff.mp hb).1
          dsimp only [gName, tTrue]
          rw [if_pos rfl]
          refine ⟨_, rfl, m, rfl, ⟨_, SqL.of hm⟩, wl_list (K := K) (a := m) (xs := M.map V.int) (fun t ys σ' H4 => (∃ v3, σ' = [some (.int a), some (.int c), some (.int b), v3, some (.ref l), some (.ref m)]) ∧ (∃ bs : List Bool, ys = bs.map V.bl ∧ bs.length ≤ i * 1728 + j * 144 + p * 12 + t ∧ (bs.any id = true ↔ b2.any id = true ∨ ∃ d ∈ M.take t, a < b ∧ b < c ∧ c < d)) ∧ H4 = H3) ⟨⟨_, rfl⟩, ⟨b2, rfl, by omega, by rw [ex0I, or_false]⟩, rfl⟩ (fun t ys σ' H4 _ z => by rw [z.2.2]; exact SqL.of hm) ?_ ?_⟩
          · rintro t ys σ' H4 x S4 hx4 ⟨⟨v3, rfl⟩, ⟨b3, rfl, cl3, an3⟩, rfl⟩ done4
            obtain ⟨d, rfl, hd⟩ := mem_int hx4
            have tl := (List.getElem?_eq_some_iff.mp hd).1
            dsimp only [gName, tTrue]
            rw [if_pos rfl]
            have fin : ∀ q : Bool, (q = true ↔ a < b ∧ b < c ∧ c < d) → S4 (b3.map V.bl ++ [V.bl q]) [some (.int a), some (.int c), some (.int b), some (.int d), some (.ref l), some (.ref m)] H4 := fun q hq => by
              refine done4 _ _ _ ⟨⟨_, rfl⟩, ⟨b3 ++ [q], by rw [List.map_append]; rfl, by rw [List.length_append]; show _ + 1 ≤ _; omega, ?_⟩, rfl⟩
              rw [exTI hd, List.any_append, Bool.or_eq_true, an3, or_assoc, ← hq]
              simp
            refine ⟨by rw [List.length_map]; omega, _, rfl, _, rfl, _, _, rfl, rfl, _, rfl, ?_⟩
            by_cases q1 : a < b
            · refine iteP (decide_eq_true q1) ⟨_, rfl, _, _, rfl, rfl, _, rfl, ?_⟩
              by_cases q2 : b < c
              · refine iteP (decide_eq_true q2) ⟨_, rfl, _, _, rfl, rfl, ?_⟩
                exact fin (decide (c < d)) (by rw [decide_eq_true_eq]; exact ⟨fun z => ⟨q1, q2, z⟩, fun z => z.2.2⟩)
              · exact iteE (decide_eq_false q2) (fin false ⟨fun z => (by cases z), fun z => absurd z.2.1 q2⟩)
            · exact iteE (decide_eq_false q1) (fin false ⟨fun z => (by cases z), fun z => absurd z.1 q1⟩)
          · rintro ys σ' H4 ⟨⟨v3, rfl⟩, ⟨b3, rfl, cl3, an3⟩, rfl⟩
            rw [exAI (by omega)] at an3
            exact done3 _ _ _ ⟨⟨_, _, rfl⟩, ⟨b3, rfl, by omega, by rw [exTI hb, an3, an2, or_assoc]⟩, rfl⟩
        · rintro ys σ' H3 ⟨⟨v2, v3, rfl⟩, ⟨b2, rfl, cl2, an2⟩, rfl⟩
          rw [exAI (by omega)] at an2
          exact done2 _ _ _ ⟨⟨_, _, _, rfl⟩, ⟨b2, rfl, by omega, by rw [exTI hc, an2, an1, or_assoc]⟩, rfl⟩
      · rintro ys σ' H2 ⟨⟨v1, v2, v3, rfl⟩, ⟨b1, rfl, cl1, an1⟩, rfl⟩
        rw [exAI (by omega)] at an1
        exact done _ _ _ ⟨⟨_, _, _, _, rfl⟩, ⟨b1, rfl, by omega, by rw [exTI ha, an1, an0]⟩, rfl⟩
    · rintro ys σ' H' ⟨_, ⟨bs, rfl, cl, an⟩, rfl⟩
      rw [exAI (by omega)] at an
      refine ⟨by rw [List.length_map]; omega, fun p fp => ?_⟩
      refine ⟨p, bs, rfl, SqL.of upd_same, ?_⟩
      exact k _ _ an (Same.new fp)
theorem sc_is_crossed : FnScope ["sharing"] ["sharing"] (defScope (top 6)) := ⟨rfl, rfl, rfl, by decide +kernel, rfl, by decide +kernel, by decide +kernel⟩
theorem ok_icrD {f : Addr} {fd : FuncData} (F : Fun K "is_crossed" "is_crossed" (top 6) f fd) (T : TIcrD P w K mg base) : FnOk P w K mg base CX0 2 f fd ["sharing"] spIcrD := by
  refine F.ok sc_is_crossed (fun vs H Q E h => ?_) (fun cdv A outer s H vs Q E hr h => ?_)
  · obtain ⟨l, ws, Ls, rfl, _⟩ := h
    rfl
  · obtain ⟨l, ws, Ls, rfl, hl, xl, ll, lb, k⟩ := h
    refine ⟨_, (pss_one (ps_ret (pe_callB (call_any (K := K) rfl rfl) rfl T.b_any (by decide +kernel) (pa_cons (pe_compN (N := (["one", "other", "sharing"] : List Str)) (ix := ([none, none, some 0] : List (Option Nat))) (comp_ok rfl rfl) rfl (pi_listK (K := K) rfl (pv 0)) (fun _ _ _ _ => (pg_name (i := 0) (show List.Nodup (["one", "other", "sharing"] : List Str) from by decide +kernel) rfl (Or.inl rfl))) (fun _ _ _ _ => pif_nil) (fun _ _ _ _ => (Chain.more rfl (pi_listK (K := K) rfl (pv 2)) (pg_name (i := 1) (show List.Nodup (["one", "other", "sharing"] : List Str) from by decide +kernel) rfl (Or.inl rfl)) (pif_one (pt_cmpR (op_neDI (K := K) rfl hr.units) (pv 0) (pv 1) (nomark _))) (fun _ => rfl) (Chain.last rfl (pe_callF T.f_crosses (hr.mono (by first | decide | omega)) rfl (pa_cons (pv 0) (pa_cons (pv 1) pa_nil))))))) pa_nil)))), ?_⟩
    have big : (10000000 : Nat) ≤ sizeLine := by decide
    have wl := xl.length
    refine ⟨_, rfl, l, rfl, ⟨_, SqL.of hl⟩, wl_list (K := K) (a := l) (xs := ws) (fun i ys σ' H' => (∃ v0 v1, σ' = [v0, v1, some (.ref l)]) ∧ (∃ bs : List Bool, ys = bs.map V.bl ∧ bs.length ≤ i * 12 ∧ (bs.any id = true ↔ ∃ L ∈ Ls.take i, ∃ M ∈ Ls, L ≠ M ∧ Crs L M)) ∧ Same H H') ⟨⟨_, _, rfl⟩, ⟨[], rfl, Nat.zero_le _, by rw [ex0I]; simp⟩, Same.refl _⟩ (fun i ys σ' H' _ z => SqL.of (z.2.2 _ _ hl)) ?_ ?_⟩
    · rintro i ys σ' H1 x S hx ⟨⟨v0, v1, rfl⟩, ⟨b0, rfl, cl0, an0⟩, s1⟩ done
      obtain ⟨b, L, rfl, hb, hL⟩ := (xl.keep s1).get hx
      have il := (List.getElem?_eq_some_iff.mp hx).1
      dsimp only [gName, tTrue]
      rw [if_pos rfl]
      refine ⟨_, rfl, l, rfl, ⟨_, SqL.of (s1 _ _ hl)⟩, wl_list (K := K) (a := l) (xs := ws) (fun j ys σ' H2 => (∃ v1, σ' = [some (.ref b), v1, some (.ref l)]) ∧ (∃ bs : List Bool, ys = bs.map V.bl ∧ bs.length ≤ i * 12 + j ∧ (bs.any id = true ↔ b0.any id = true ∨ ∃ M ∈ Ls.take j, L ≠ M ∧ Crs L M)) ∧ Same H1 H2) ⟨⟨_, rfl⟩, ⟨b0, rfl, by omega, by rw [ex0I, or_false]⟩, Same.refl _⟩ (fun j ys σ' H2 _ z => SqL.of (z.2.2 _ _ (s1 _ _ hl))) ?_ ?_⟩
      · rintro j ys σ' H2 x S2 hx2 ⟨⟨v1, rfl⟩, ⟨b1, rfl, cl1, an1⟩, s2⟩ done2
        obtain ⟨b2, M, rfl, hb2, hM⟩ := ((xl.keep s1).keep s2).get hx2
        have jl := (List.getElem?_eq_some_iff.mp hx2).1
        refine ⟨_, rfl, _, rfl, neLI (s2 _ _ hb) hb2 ⟨_, rfl, ?_⟩⟩
        by_cases e : L = M
        · refine iteE (by rw [decide_eq_true e]; rfl) (done2 _ _ _ ⟨⟨_, rfl⟩, ⟨b1, rfl, by omega, ?_⟩, s2⟩)
          rw [exTI hM, an1]
          constructor
          · rintro (h | h)
            · exact .inl h
            · exact .inr (.inl h)
          · rintro (h | h | h)
            · exact .inl h
            · exact .inr h
            · exact absurd e h.1
        · refine iteP (by rw [decide_eq_false e]; rfl) ⟨by rw [List.length_map]; omega, _, rfl, _, rfl, b, b2, L, M, rfl, s2 _ _ hb, hb2, lb L (List.mem_of_getElem? hL), lb M (List.mem_of_getElem? hM), fun q H3 hq s3 => done2 _ _ _ ⟨⟨_, rfl⟩, ⟨b1 ++ [q], by rw [List.map_append]; rfl, by rw [List.length_append]; show _ + 1 ≤ _; omega, ?_⟩, s2.trans s3⟩⟩
          rw [exTI hM, List.any_append, Bool.or_eq_true, an1, or_assoc]
          have : ([q].any id = true) ↔ (L ≠ M ∧ Crs L M) := by
            rw [← show Crs L M ↔ (L ≠ M ∧ Crs L M) from ⟨fun z => ⟨e, z⟩, fun z => z.2⟩, ← hq]; simp
          rw [this]
      · rintro ys σ' H2 ⟨⟨v1, rfl⟩, ⟨b1, rfl, cl1, an1⟩, s2⟩
        rw [exAI (by omega)] at an1
        exact done _ _ _ ⟨⟨_, _, rfl⟩, ⟨b1, rfl, by omega, by rw [exTI hL, an1, an0]⟩, s1.trans s2⟩
    · rintro ys σ' H' ⟨_, ⟨bs, rfl, cl, an⟩, s1⟩
      rw [exAI (by omega)] at an
      refine ⟨by rw [List.length_map]; omega, fun p fp => ?_⟩
      refine ⟨p, bs, rfl, SqL.of upd_same, ?_⟩
      refine k _ _ ?_ (s1.trans (Same.new fp))
      rw [an]
      constructor
      · rintro ⟨L, hL, M, hM, ne, a, ha, c, hc, b, hb, d, hd, q1, q2, q3⟩ nx
        exact ne (nx L hL M hM a b c d ha hc hb hd q1 q2 q3)
      · intro nx
        apply Classical.byContradiction
        intro no
        refine nx fun L hL M hM a b c d ha hc hb hd q1 q2 q3 => ?_
        apply Classical.byContradiction
        intro e
        exact no ⟨L, hL, M, hM, e, a, ha, c, hc, b, hb, d, hd, q1, q2, q3⟩
theorem sc_is_sharing : FnScope ["n", "thing"] ["n", "thing"] (defScope (top 7)) := ⟨rfl, rfl, rfl, by decide +kernel, rfl, by decide +kernel, by decide +kernel⟩
theorem ok_issD {f : Addr} {fd : FuncData} (F : Fun K "is_sharing" "is_sharing" (top 7) f fd) (T : TIssD P w K mg base) : FnOk P w K mg base CX0 4 f fd ["n", "thing"] spIssD := by
  refine F.ok sc_is_sharing (fun vs H Q E h => ?_) (fun cdv A outer s H vs Q E hr h => ?_)
  · obtain ⟨v, P, d, n, rfl, _⟩ := h
    rfl
  · obtain ⟨v, P, d, n, rfl, hd, few, n1, n12, k⟩ := h
    refine ⟨_, (pss_cons (ps_if (PW.pt (pw_or (pt_not (pt_val (pe_callB (call_isiK (K := K) rfl) rfl T.b_isinstance (by decide +kernel) (pa_cons (pv 1) (pa_cons (pe_bltn (v := .ty "list") rfl T.b_list (by decide +kernel) rfl) pa_nil))))) (pw_or1 (pt_not (pt_val (pe_callB (call_allK (K := K) rfl rfl) rfl T.b_all (by decide +kernel) (pa_cons (pe_comp (N := (["part", "n"] : List Str)) (ix := ([none, some 0] : List (Option Nat))) (comp_ok rfl rfl) rfl (pi_listK (K := K) rfl (pv 1)) (fun _ _ _ _ => (pg_name (i := 0) (show List.Nodup (["part", "n"] : List Str) from by decide +kernel) rfl (Or.inl rfl))) (fun _ _ _ _ => pif_nil) (fun _ _ _ _ => (pe_callF T.f_is_part (hr.mono (by first | decide | omega)) rfl (pa_cons (pv 1) (pa_cons (pv 0) pa_nil))))) pa_nil))))))) (pss_one (ps_ret pe_bl)) pss_nil)
      (pss_cons (ps_if (pt_cmpR (op_neD hr.units) (pe_callB (call_sorted (K := K) rfl) rfl T.b_sorted (by decide +kernel) (pa_cons (pe_comp2 (N := (["part", "number"] : List Str)) (ix := ([none, none] : List (Option Nat))) (comp_ok rfl rfl) rfl (pi_listK (K := K) rfl (pv 1)) (fun _ _ _ _ => (pg_name (i := 0) (show List.Nodup (["part", "number"] : List Str) from by decide +kernel) rfl (Or.inl rfl))) (fun _ _ _ _ => (pi_listK (K := K) rfl (pv 0))) (fun _ _ _ _ => (pg_name (i := 1) (show List.Nodup (["part", "number"] : List Str) from by decide +kernel) rfl (Or.inl rfl))) (fun _ _ _ _ => (pv 1))) pa_nil)) (pe_callTy (call_list_rng rfl) rfl T.b_list (by decide +kernel) (pa_cons (pe_callTy call_range rfl T.b_range (by decide +kernel) (pa_cons pe_int (pa_cons (pe_op op_add (pv 0) pe_int) pa_nil))) pa_nil)) (nomark _)) (pss_one (ps_ret pe_bl)) pss_nil)
      (pss_one (ps_ret (pe_and (pe_cmpR (op_eqD hr.units) (pv 1) (pe_callB (call_sortedLL (K := K) rfl hr.units) rfl T.b_sorted (by decide +kernel) (pa_cons (pv 1) pa_nil)) (nomark _)) (pe_one (pe_not (pe_callF T.f_is_crossed (hr.mono (by first | decide | omega)) rfl (pa_cons (pv 1) pa_nil))))))))), ?_⟩
    have big : (10000000 : Nat) ≤ sizeLine := by decide
    have z200 : (1000 : Int) < 2 ^ 200 := by decide
    have no : ∀ H', ¬ IsSh n d → Same H H' → Q (.bl false) H' := fun H' z s => k false H' ⟨fun q => (by cases q), fun q => absurd q z⟩ s
    refine ⟨_, rfl, _, _, "list", _, rfl, hd.ty, kit_list K hd, _, rfl, ?_⟩
    cases hd with
    | @lst l ws ds hl pl rs =>
      refine iteF ?_
      obtain ⟨dl, dl2⟩ := few ds rfl
      have wl := rs.length
      refine ⟨_, rfl, l, rfl, ⟨_, SqL.of hl⟩, compL (K := K) (a := l) (xs := ws) (k := 0) (fun i ys σ' H' => ys = ((ds.take i).map (ispt n)).map V.bl ∧ (∃ v, σ' = [v, some (.int n)]) ∧ Same H H') (by omega) ⟨rfl, ⟨none, rfl⟩, Same.refl _⟩ (fun i ys σ' H' _ q => SqL.of (q.2.2 _ _ hl)) (fun i ys σ' H' q => by rw [q.1, List.length_map, List.length_map, List.length_take]; omega) ?_ ?_⟩
      · rintro i ys σ' H1 z R hz ⟨rfl, ⟨v, rfl⟩, s1⟩ done
        obtain ⟨e, he, hez⟩ := rs.get hz
        refine ⟨_, rfl, _, rfl, z, P, e, n, rfl, DT.same hez s1, fun es hes => by have := mem_sumI (List.mem_of_getElem? he); rw [hes] at this; have : es.length ≤ _ := this; omega, fun H2 s2 => done _ _ _ ⟨?_, ⟨_, rfl⟩, s1.trans s2⟩⟩
        rw [all_take he, List.map_append]
        rfl
      rintro ys σ' H1 r ⟨rfl, _, s1⟩ fr
      rw [List.take_of_length_le (by omega)]
      have s2 := s1.trans (Same.new (o := .lst ((ds.map (ispt n)).map V.bl)) fr)
      refine ⟨r, ds.map (ispt n), rfl, SqL.of upd_same, _, rfl, ?_⟩
      have ea : (ds.map (ispt n)).all id = ds.all (ispt n) := by rw [List.all_map]; rfl
      rw [ea]
      generalize upd H1 r (.lst ((ds.map (ispt n)).map V.bl)) = H2 at s2 ⊢
      cases hw : ds.all (ispt n) with
      | false =>
        refine iteT (no H2 (fun ⟨Ls, e, g⟩ => ?_) s2)
        injection e with e
        rw [e, List.all_map] at hw
        have : Ls.all ((ispt n) ∘ fun L => PyData.list (L.map PyData.int)) = true := List.all_eq_true.mpr fun L hL => ispt_of (g.cv.1 L hL) (g.rise L hL) fun x hx => by
          have := mem_ivl.mp (g.cv.2.mem_iff.mp (List.mem_flatten.mpr ⟨L, hL, hx⟩))
          omega
        rw [this] at hw
        cases hw
      | true =>
        refine iteF ?_
        obtain ⟨Ls, e, xl0, pr⟩ := shs_of rs hw
        have Ll : Ls.length = ds.length := by rw [e, List.length_map]
        have uniq : ∀ Ms, PyData.list ds = shD Ms → Ms = Ls := fun Ms h => by
          injection h with h
          rw [e] at h
          have inj : ∀ a b : List Int, PyData.list (a.map PyData.int) = PyData.list (b.map PyData.int) → a = b := fun a b h => by
            injection h with h
            have := congrArg (List.map intI) h
            rwa [map_intI, map_intI] at this
          exact ((List.map_inj_right inj).mp h).symm
        have yes : Gsd n Ls → IsSh n (.list ds) := fun g => ⟨Ls, by rw [e]; rfl, g⟩
        have neg : ¬ Gsd n Ls → ¬ IsSh n (.list ds) := fun z ⟨Ms, h, g⟩ => z (by rw [← uniq Ms h]; exact g)
        have bd : ∀ L ∈ Ls, L.length ≤ 12 := fun L hL => by
          have := rise_len (by omega) (pr L hL).2.1 (pr L hL).2.2
          omega
        have flb : ∀ k, ((Ls.take k).flatten).length ≤ 12 * k := fun k => by
          rw [List.length_flatten]
          have : ∀ Ms : List (List Int), (∀ L ∈ Ms, L.length ≤ 12) → (Ms.map List.length).sum ≤ 12 * Ms.length := by
            intro Ms
            induction Ms with
            | nil => intro _; exact Nat.zero_le _
            | cons M Ms ih =>
              intro h
              have := ih fun L hL => h L (List.mem_cons_of_mem _ hL)
              have := h M List.mem_cons_self
              rw [List.map_cons, List.sum_cons, List.length_cons]; omega
          have h1 := this (Ls.take k) fun L hL => bd L (List.mem_of_mem_take hL)
          have h2 : (Ls.take k).length ≤ k := by rw [List.length_take]; omega
          omega
        have hl2 := s2 _ _ hl
        have xl2 := xl0.keep s2
        refine ⟨_, rfl, l, rfl, ⟨_, SqL.of hl2⟩, comp2L (K := K) (a := l) (xs := ws) (k := 0) (fun i ys σ' H' => (∃ v0 v1, σ' = [v0, v1]) ∧ H' = H2 ∧ ys = (Ls.take i).flatten.map V.int ∧ i ≤ 60) ⟨⟨none, none, rfl⟩, rfl, rfl, Nat.zero_le _⟩ (fun i ys σ' H' _ q => by rw [q.2.1]; exact SqL.of hl2) (fun i ys σ' H' q => by rw [q.2.2.1, List.length_map]; have := flb i; have := q.2.2.2; omega) ?_ ?_⟩
        · rintro i ys σ' H' x R hx ⟨⟨v0, v1, rfl⟩, rfl, rfl, l2⟩ done
          obtain ⟨a, L, rfl, ha, hL⟩ := xl2.get hx
          have il := (List.getElem?_eq_some_iff.mp hx).1
          have et : (Ls.take (i + 1)).flatten = (Ls.take i).flatten ++ L := by rw [take_snoc hL, List.flatten_append, List.flatten_cons, List.flatten_nil, List.append_nil]
          have bL := bd L (List.mem_of_getElem? hL)
          have bi := flb i
          refine ⟨_, rfl, a, rfl, ⟨_, SqL.of ha⟩, ?_⟩
          refine inner2L (K := K) (a := a) (xs := L.map V.int) (k := 1) (fun j ys' σ'' H'' => (∃ v1, σ'' = [some (.ref a), v1]) ∧ H'' = H' ∧ ys' = ((Ls.take i).flatten ++ L.take j).map V.int) ⟨⟨_, rfl⟩, rfl, by rw [List.take_zero, List.append_nil]⟩ (fun j ys' σ'' H'' _ q => by rw [q.2.1]; exact SqL.of ha) (fun j ys' σ'' H'' q => by rw [q.2.2, List.length_map, List.length_append, List.length_take]; omega) ?_ ?_
          · rintro j ys' σ'' H'' y S hy ⟨⟨v1, rfl⟩, rfl, rfl⟩ fin
            obtain ⟨z, rfl, hz⟩ := mem_int hy
            refine ⟨_, rfl, fin _ _ _ ⟨⟨_, rfl⟩, rfl, ?_⟩⟩
            rw [take_snoc hz, ← List.append_assoc, List.map_append (l₂ := [z])]
            rfl
          · rintro ys' σ'' H'' ⟨⟨v1, rfl⟩, rfl, rfl⟩
            rw [List.length_map, List.take_length, ← et]
            exact done _ _ _ ⟨⟨_, _, rfl⟩, rfl, rfl, by omega⟩
        rintro ys σ' H' q ⟨_, rfl, rfl, _⟩ fq
        rw [List.take_of_length_le (by omega)]
        have fl : Ls.flatten.length ≤ 60 := by
          rw [e, List.map_map] at dl2
          have e2 : (lenI ∘ fun L : List Int => PyData.list (L.map PyData.int)) = List.length := funext fun L => List.length_map ..
          rw [e2, ← List.length_flatten] at dl2
          exact dl2
        have s3 : Same H' (upd H' q (.lst (Ls.flatten.map V.int))) := Same.new fq
        have h3 : upd H' q (.lst (Ls.flatten.map V.int)) q = some (.lst (Ls.flatten.map V.int)) := upd_same
        generalize upd H' q (.lst (Ls.flatten.map V.int)) = H3 at s3 h3 ⊢
        refine ⟨q, Ls.flatten, rfl, SqL.of h3, by omega, fun lc r' flc pm pw => ?_⟩
        have s4 : Same H3 (upd H3 lc (.lst (r'.map V.int))) := Same.new flc
        have h4 : upd H3 lc (.lst (r'.map V.int)) lc = some (.lst (r'.map V.int)) := upd_same
        generalize upd H3 lc (.lst (r'.map V.int)) = H4 at s4 h4 ⊢
        refine ⟨_, rfl, _, _, rfl, rfl, .inr ⟨_, _, rfl, fun rg hrg => ⟨rg, _, _, rfl, upd_same, by omega, by omega, by omega, by omega, fun ll hll => ?_⟩⟩⟩
        have s5 := (Same.new (o := .rng 1 (n + 1)) hrg).trans (Same.new (o := .lst ((ivl 1 (n + 1)).map V.int)) hll)
        refine eqL (s5 _ _ h4) upd_same ⟨_, rfl, ?_⟩
        have a5 := s2.trans (s3.trans (s4.trans s5))
        generalize upd (upd H4 rg (.rng 1 (n + 1))) ll (.lst ((ivl 1 (n + 1)).map V.int)) = H5 at s5 a5 ⊢
        by_cases er : r' = ivl 1 (n + 1)
        · refine iteE (by rw [decide_eq_true er]; rfl) ?_
          have cv : Cov n Ls := ⟨fun L hL => (pr L hL).1, by rw [← er]; exact pm.symm⟩
          have hl5 := a5 _ _ hl
          have xl5 := xl0.keep a5
          refine ⟨_, rfl, _, rfl, ?_⟩
          dsimp only [tNil]
          refine sortLB hl5 xl5 (by omega) fun l9 us Ms H9 f9 h9 x9 p9 s9 uq so _ _ => ?_
          refine eqLq9 (s9 _ _ hl5) (xl5.keep s9) h9 x9 ⟨_, rfl, ?_⟩
          have a9 := a5.trans s9
          by_cases em : Ls = Ms
          · refine iteP (decide_eq_true em) ?_
            have sz : Ls.length ≤ 12 := by
              have h1 : Ls.flatten.length = n.toNat := by rw [cv.2.length_eq, ivl_length]; omega
              have : ∀ Ms : List (List Int), (∀ L ∈ Ms, L ≠ []) → Ms.length ≤ Ms.flatten.length := by
                intro Ms
                induction Ms with
                | nil => intro _; exact Nat.zero_le _
                | cons M Ms ih =>
                  intro h
                  have := ih fun L hL => h L (List.mem_cons_of_mem _ hL)
                  have := List.length_pos_iff.mpr (h M List.mem_cons_self)
                  rw [List.flatten_cons, List.length_append, List.length_cons]; omega
              have := this Ls cv.1
              omega
            refine ⟨_, rfl, l, ws, Ls, rfl, a9 _ _ hl, xl0.keep a9, sz, bd, fun b H10 hb s10 => ⟨_, rfl, k _ H10 ?_ (a9.trans s10)⟩⟩
            cases b with
            | true => exact ⟨fun z => (by cases z), fun z => absurd z (neg fun g => (hb.mp rfl) g.nx)⟩
            | false =>
              refine ⟨fun _ => yes ⟨cv, fun L hL => (pr L hL).2.1, ?_, by rw [em]; exact so⟩, fun _ => rfl⟩
              apply Classical.byContradiction
              intro z
              exact absurd (hb.mpr z) Bool.false_ne_true
          · refine iteE (decide_eq_false em) ?_
            exact no H9 (neg fun g => em (uq Ls (List.Perm.refl _) g.srt).symm) a9
        · refine iteP (by rw [decide_eq_false er]; rfl) ?_
          refine no H5 (neg fun g => er ?_) a5
          have p2 : r'.Perm (ivl 1 (n + 1)) := pm.trans g.cv.2
          have nd : r'.Nodup := p2.nodup_iff.mpr (ivl_nodup3 n)
          exact rise_uniq ((pw.and nd).imp fun ⟨a, b⟩ => by omega) (ivl_riseS 1 (n + 1)) fun x => p2.mem_iff
    | _ => exact iteT (no H (fun ⟨Ls, e, _⟩ => by cases e) (Same.refl H))
end
end Sw
namespace L2
open PySem
theorem compE0if {K : PySem.W.Frag} {ix : List (Option Nat)} {g : TG} {tc : TT} {te : TE} {σ : St} {Q : VK} {H : Hp} {a : Addr} {xs : List V} (Pv : Nat → List V → St → Hp → Prop) (hn : xs.length ≤ 1000000) (h0 : Pv 0 [] (startC ix σ) H)
    (hl : ∀ i ys σ H, i ≤ xs.length → Pv i ys σ H → SqL K H a xs) (hlen : ∀ i ys σ H, Pv i ys σ H → ys.length ≤ i)
    (hs : ∀ i ys σ H t v (R : St → List V → Hp → Prop), xs[i]? = some v → Pv i ys σ H → H t = none → (∀ σ2 ys2 H5, Pv (i + 1) ys2 σ2 H5 → R σ2 ys2 H5) → g (.ref t) σ (upd H t (.tup [.int (i : Int), v])) fun σ2 H3 => tc σ2 H3 fun b H4 => if b = true then te σ2 H4 fun v H5 => R σ2 (ys ++ [v]) H5 else R σ2 ys H4)
    (hd : ∀ ys σ' H' p, Pv xs.length ys σ' H' → H' p = none → Q (.ref p) (upd H' p (.lst ys))) : rComp ix g tc te σ Q (Ite0 K a xs) H := by
  refine comp_by Pv hn h0 (fun i ys σ H hi p => ⟨hi, hl i ys σ H (Nat.le_of_lt hi) p⟩) (fun ys σ H p => ⟨rfl, hl _ ys σ H (Nat.le_refl _) p⟩) hlen (fun i ys σ H x H2 R hi p y r => ?_) hd
  obtain ⟨t, v, ht, rfl, hv, rfl⟩ := y
  exact hs i ys σ H t v R hv p ht r
end L2
namespace Sw
open PySem L2
def ownL : Nat → List (List Int) → Int → List Int
  | _, [], _ => []
  | k, L :: r, x => if x ∈ L then (k : Int) :: ownL (k + 1) r x else ownL (k + 1) r x
theorem ownL_append (x : Int) : ∀ (A B : List (List Int)) (k : Nat), ownL k (A ++ B) x = ownL k A x ++ ownL (k + A.length) B x
  | [], _, _ => rfl
  | L :: A, B, k => by
    show (if x ∈ L then (k : Int) :: ownL (k + 1) (A ++ B) x else ownL (k + 1) (A ++ B) x) = (if x ∈ L then (k : Int) :: ownL (k + 1) A x else ownL (k + 1) A x) ++ _
    rw [ownL_append x A B (k + 1), List.length_cons, show k + 1 + A.length = k + (A.length + 1) from by omega]
    by_cases h : x ∈ L
    · rw [if_pos h, if_pos h]; rfl
    · rw [if_neg h, if_neg h]
theorem ownL_take {x : Int} {Ls : List (List Int)} {i : Nat} {L : List Int} (h : Ls[i]? = some L) : ownL 0 (Ls.take (i + 1)) x = ownL 0 (Ls.take i) x ++ (if x ∈ L then [(i : Int)] else []) := by
  have hi : i < Ls.length := (List.getElem?_eq_some_iff.mp h).1
  rw [List.take_add_one, h, ownL_append, List.length_take, Nat.min_eq_left (Nat.le_of_lt hi), Nat.zero_add]
  rfl
theorem ownL_len (x : Int) : ∀ (Ls : List (List Int)) (k : Nat), (ownL k Ls x).length ≤ Ls.length
  | [], _ => Nat.le_refl _
  | L :: r, k => by
    show (if x ∈ L then (k : Int) :: ownL (k + 1) r x else ownL (k + 1) r x).length ≤ r.length + 1
    have := ownL_len x r (k + 1)
    by_cases h : x ∈ L
    · rw [if_pos h, List.length_cons]; omega
    · rw [if_neg h]; omega
def spOwner : Sp := fun vs H Q _ => ∃ (l : Addr) (ws : List V) (Ls : List (List Int)) (x j : Int) (r : List Int), vs = [.ref l, .int x] ∧ H l = some (.lst ws) ∧ Lsts H ws Ls ∧ Ls.length ≤ 1000 ∧ ownL 0 Ls x = j :: r ∧ ∀ H', Same H H' → Q (.int j) H'
section
variable {P : Program} {w : World} {K : PySem.W.Frag} {mg : Str → Option Value} {base : Heap}
structure TOw (mg : Str → Option Value) (K : PySem.W.Frag) : Prop extends T1 mg K where
  b_enumerate : mg "enumerate" = none
theorem sc__law_owner : FnScope ["_law_sharing_here", "_law_thing"] ["_law_sharing_here", "_law_thing"] (defScope (top 14)) := ⟨rfl, rfl, rfl, by decide +kernel, rfl, by decide +kernel, by decide +kernel⟩
theorem ok_owner {f : Addr} {fd : FuncData} (F : Fun K "_law_owner" "_law_owner" (top 14) f fd) (T : TOw mg K) : FnOk P w K mg base CX0 1 f fd ["_law_sharing_here", "_law_thing"] spOwner := by
  refine F.ok sc__law_owner (fun vs H Q E h => ?_) (fun cdv A outer s H vs Q E hr h => ?_)
  · obtain ⟨l, ws, Ls, x, j, r, rfl, _⟩ := h
    rfl
  · obtain ⟨l, ws, Ls, x, j, r, rfl, hl, xl, ll, eo, k⟩ := h
    refine ⟨_, (pss_one (ps_ret (pe_ix (ix_listK (K := K) rfl) (pe_comp (N := (["_law_place", "_law_part", "_law_thing"] : List Str)) (ix := ([none, none, some 1] : List (Option Nat))) (comp_ok rfl rfl) rfl (pi_enum0 (K := K) rfl rfl T.b_enumerate (pa_cons (pv 0) pa_nil)) (fun _ _ _ _ => (pg_tupK (K := K) (n := 2) rfl rfl (pgs_cons (pg_name (i := 0) (show List.Nodup (["_law_place", "_law_part", "_law_thing"] : List Str) from by decide +kernel) rfl (Or.inl rfl)) (pgs_cons (pg_name (i := 1) (show List.Nodup (["_law_place", "_law_part", "_law_thing"] : List Str) from by decide +kernel) rfl (Or.inl rfl)) pgs_nil)))) (fun _ _ _ _ => (pif_one (pt_cmpR (op_inK (K := K) rfl) (pv 2) (pv 1) rfl))) (fun _ _ _ _ => (pv 0))) pe_int (fun _ _ => rfl)))), ?_⟩
    have wl := xl.length
    refine ⟨_, rfl, l, ws, rfl, SqL.of hl, compE0if (K := K) (a := l) (xs := ws) (fun i ys σ' H' => ys = (ownL 0 (Ls.take i) x).map V.int ∧ (∃ v0 v1, σ' = [v0, v1, some (.int x)]) ∧ Same H H') (by omega) ⟨rfl, ⟨none, none, rfl⟩, Same.refl _⟩ (fun i ys σ' H' _ q => SqL.of (q.2.2 _ _ hl)) (fun i ys σ' H' q => by rw [q.1, List.length_map]; have := ownL_len x (Ls.take i) 0; rw [List.length_take] at this; omega) ?_ ?_⟩
    · rintro i ys σ' H2 tt v R hv ⟨rfl, ⟨v0, v1, rfl⟩, s2⟩ ftt done
      obtain ⟨a, ns, rfl, ha, hns⟩ := (xl.keep s2).get hv
      have st : Same H2 (upd H2 tt (.tup [.int (i : Int), .ref a])) := Same.new ftt
      refine ⟨tt, _, rfl, SqT.of upd_same, rfl, _, _, rfl, _, _, rfl, rfl, ?_⟩
      refine ⟨_, rfl, _, rfl, a, _, rfl, .inl (SqL.of (st _ _ ha)), rfl, flat_ints _, _, rfl, ?_⟩
      have em : inV (V.int x) (ns.map V.int) = decide (x ∈ ns) := inV_int ..
      have tk := ownL_take (x := x) hns
      show if inV (V.int x) (ns.map V.int) = true then _ else _
      rw [em]
      by_cases hx : x ∈ ns
      · rw [if_pos (decide_eq_true hx)]
        refine ⟨_, rfl, done _ _ _ ⟨?_, ⟨_, _, rfl⟩, s2.trans st⟩⟩
        rw [tk, if_pos hx, List.map_append]; rfl
      · rw [if_neg (by rw [decide_eq_false hx]; exact Bool.false_ne_true)]
        refine done _ _ _ ⟨?_, ⟨_, _, rfl⟩, s2.trans st⟩
        rw [tk, if_neg hx, List.append_nil]
    · rintro ys σ' H2 q ⟨rfl, _, s2⟩ fq
      rw [List.take_of_length_le (by omega), eo]
      exact ⟨q, _, _, _, rfl, rfl, SqL.of upd_same, at_int (z := j) (Int.le_refl _) rfl, k _ (s2.trans (Same.new fq))⟩
end
end Sw
namespace Sw
open PySem L2
def CrossAt (who : List Int) (a b c : Nat) : Prop := ∃ x y, who[a]? = some x ∧ who[c]? = some x ∧ who[b]? = some y ∧ x ≠ y ∧ y ∈ who.drop (c + 1)
def CrossP (who : List Int) : Prop := ∃ a b c, a < b ∧ b < c ∧ CrossAt who a b c
def Owns (n : Nat) (Ls : List (List Int)) (who : List Int) : Prop := who.length = n ∧ ∀ (i : Nat) (x : Int), who[i]? = some x → ∃ r, ownL 0 Ls ((i : Int) + 1) = x :: r
def spCrosses : Sp := fun vs H Q _ => ∃ (l : Addr) (ws : List V) (Ls : List (List Int)) (n : Int) (who : List Int), vs = [.ref l, .int n] ∧ H l = some (.lst ws) ∧ Lsts H ws Ls ∧ Ls.length ≤ 1000 ∧ 0 ≤ n ∧ n ≤ 100 ∧ Owns n.toNat Ls who ∧ ∀ b H', (b = true ↔ CrossP who) → Same H H' → Q (.bl b) H'
structure TCr3 (P : Program) (w : World) (K : PySem.W.Frag) (mg : Str → Option Value) (base : Heap) : Prop extends T1 mg K where
  f__law_owner : FnAt P w K mg base "_law_owner" 1 ["_law_sharing_here", "_law_thing"] spOwner
section
variable {P : Program} {w : World} {K : PySem.W.Frag} {mg : Str → Option Value} {base : Heap}
theorem sc__law_crosses : FnScope ["_law_sharing_here", "_law_n", "_law_who", "_law_a", "_law_b", "_law_c"] ["_law_sharing_here", "_law_n"] (defScope (top 15)) := ⟨rfl, rfl, rfl, by decide +kernel, rfl, by decide +kernel, by decide +kernel⟩
theorem ok_crosses {f : Addr} {fd : FuncData} (F : Fun K "_law_crosses" "_law_crosses" (top 15) f fd) (T : TCr3 P w K mg base) : FnOk P w K mg base CX0 2 f fd ["_law_sharing_here", "_law_n"] spCrosses := by
  refine F.ok sc__law_crosses (fun vs H Q E h => ?_) (fun cdv A outer s H vs Q E hr h => ?_)
  · obtain ⟨l, ws, Ls, n, who, rfl, _⟩ := h
    rfl
  · obtain ⟨l, ws, Ls, n, who, rfl, hl, xl, ll, n0, n1, ow, k⟩ := h
    refine ⟨_, (pss_cons (ps_comp (i := 2) sc__law_crosses.nd rfl rfl (N := (["_law_thing", "_law_sharing_here"] : List Str)) (ix := ([none, some 0] : List (Option Nat))) (comp_ok rfl rfl) rfl (pi_range2 rfl T.b_range (pa_cons pe_int (pa_cons (pe_op op_add (pv 1) pe_int) pa_nil))) (fun _ _ _ _ => (pg_name (i := 0) (show List.Nodup (["_law_thing", "_law_sharing_here"] : List Str) from by decide +kernel) rfl (Or.inl rfl))) (fun _ _ _ _ => pif_nil) (fun _ _ _ _ => (pe_callF T.f__law_owner (hr.mono (by first | decide | omega)) rfl (pa_cons (pv 1) (pa_cons (pv 0) pa_nil)))))
      (pss_cons (ps_for PassesOwn.never rfl (pi_range1 rfl T.b_range (pa_cons (pv 1) pa_nil)) (pg_name (i := 3) sc__law_crosses.nd rfl (Or.inl rfl)) (pss_one (ps_for PassesOwn.never rfl (pi_range2 rfl T.b_range (pa_cons (pe_op op_add (pv 3) pe_int) (pa_cons (pv 1) pa_nil))) (pg_name (i := 4) sc__law_crosses.nd rfl (Or.inl rfl)) (pss_one (ps_for PassesOwn.never rfl (pi_range2 rfl T.b_range (pa_cons (pe_op op_add (pv 4) pe_int) (pa_cons (pv 1) pa_nil))) (pg_name (i := 5) sc__law_crosses.nd rfl (Or.inl rfl)) (pss_one (ps_if (PW.pt (pw_and (pt_cmpR op_eq (pe_ix (ix_listK (K := K) rfl) (pv 2) (pv 3) (fun _ _ => rfl)) (pe_ix (ix_listK (K := K) rfl) (pv 2) (pv 5) (fun _ _ => rfl)) (nomark _)) (pw_and (pt_cmpR op_ne (pe_ix (ix_listK (K := K) rfl) (pv 2) (pv 3) (fun _ _ => rfl)) (pe_ix (ix_listK (K := K) rfl) (pv 2) (pv 4) (fun _ _ => rfl)) (nomark _)) (pw_and1 (pt_cmpR (op_inK (K := K) rfl) (pe_ix (ix_listK (K := K) rfl) (pv 2) (pv 4) (fun _ _ => rfl)) (pe_slice (sl_listK (K := K) rfl) (pv 2) (po_some (pe_op op_add (pv 5) pe_int)) po_none) rfl))))) (pss_one (ps_ret pe_bl)) pss_nil)))))))
      (pss_one (ps_ret pe_bl)))), ?_⟩
    have wl := xl.length
    obtain ⟨wn, wo⟩ := ow
    refine ⟨_, rfl, _, _, rfl, rfl, 1, n + 1, rfl, ⟨by decide, by decide, by omega, by omega⟩, compR (k := 0) (fun i ys σ' H' => ys = (who.take i).map V.int ∧ (∃ v, σ' = [v, some (.ref l)]) ∧ Same H H') (by omega) ⟨rfl, ⟨none, rfl⟩, Same.refl _⟩ (fun i ys σ' H' z => by rw [z.1, List.length_map, List.length_take]; omega) ?_ ?_⟩
    · rintro i ys σ' H1 R hi ⟨rfl, ⟨v, rfl⟩, s1⟩ done
      obtain ⟨x, hx⟩ : ∃ x, who[i]? = some x := ⟨_, List.getElem?_eq_getElem (by omega)⟩
      obtain ⟨r, er⟩ := wo i x hx
      rw [Int.add_comm] at er
      refine ⟨_, rfl, _, rfl, l, ws, Ls, _, x, r, rfl, s1 _ _ hl, xl.keep s1, ll, er, fun H2 s2 => done _ _ _ ⟨?_, ⟨_, rfl⟩, s1.trans s2⟩⟩
      rw [List.take_add_one, hx, List.map_append]
      rfl
    rintro ys σ' H1 q ⟨rfl, _, s1⟩ fq
    rw [List.take_of_length_le (by omega)]
    have s1 := s1.trans (Same.new (o := .lst (who.map V.int)) fq)
    have hq : upd H1 q (.lst (who.map V.int)) q = some (.lst (who.map V.int)) := upd_same
    generalize upd H1 q (.lst (who.map V.int)) = H2 at s1 hq ⊢
    refine ⟨_, rfl, _, rfl, by omega, by omega, ?_⟩
    refine for_range (fun i σ H' => (∃ va vb vc, σ = [some (.ref l), some (.int n), some (.ref q), va, vb, vc]) ∧ Same H H' ∧ H' q = some (.lst (who.map V.int)) ∧ ∀ a b c, a < i → a < b → b < c → ¬ CrossAt who a b c) ⟨⟨_, _, _, rfl⟩, s1, hq, fun a b c h => by omega⟩ ?_ ?_
    · rintro i σ H3 hi ⟨⟨va, vb, vc, rfl⟩, s3, hq3, no⟩
      refine ⟨_, rfl, _, _, rfl, rfl, _, rfl, 0 + (i : Int) + 1, n, rfl, ⟨by omega, by omega, by omega, by omega⟩, ?_⟩
      refine for_range (fun j σ H' => (∃ vb vc, σ = [some (.ref l), some (.int n), some (.ref q), some (.int (0 + (i : Int))), vb, vc]) ∧ Same H H' ∧ H' q = some (.lst (who.map V.int)) ∧ ∀ b c, b < i + 1 + j → i < b → b < c → ¬ CrossAt who i b c) ⟨⟨_, _, rfl⟩, s3, hq3, fun b c h h' => by omega⟩ ?_ ?_
      · rintro j σ H4 hj ⟨⟨vb, vc, rfl⟩, s4, hq4, no4⟩
        refine ⟨_, rfl, _, _, rfl, rfl, _, rfl, 0 + (i : Int) + 1 + (j : Int) + 1, n, rfl, ⟨by omega, by omega, by omega, by omega⟩, ?_⟩
        refine for_range (fun m σ H' => (∃ vc, σ = [some (.ref l), some (.int n), some (.ref q), some (.int (0 + (i : Int))), some (.int (0 + (i : Int) + 1 + (j : Int))), vc]) ∧ Same H H' ∧ H' q = some (.lst (who.map V.int)) ∧ ∀ c, c < i + 1 + j + 1 + m → i + 1 + j < c → ¬ CrossAt who i (i + 1 + j) c) ⟨⟨_, rfl⟩, s4, hq4, fun c h h' => by omega⟩ ?_ ?_
        · rintro m σ H5 hm ⟨⟨vc, rfl⟩, s5, hq5, no5⟩
          obtain ⟨x, hx⟩ : ∃ x, who[i]? = some x := ⟨_, List.getElem?_eq_getElem (by omega)⟩
          obtain ⟨y, hy⟩ : ∃ y, who[i + 1 + j]? = some y := ⟨_, List.getElem?_eq_getElem (by omega)⟩
          obtain ⟨z, hz⟩ : ∃ z, who[i + 1 + j + 1 + m]? = some z := ⟨_, List.getElem?_eq_getElem (by omega)⟩
          have ax : atI (who.map V.int) (0 + (i : Int)) = some (V.int x) := at_int (by omega) (by rw [show (0 + (i : Int)).toNat = i from by omega]; exact hx)
          have ay : atI (who.map V.int) (0 + (i : Int) + 1 + (j : Int)) = some (V.int y) := at_int (by omega) (by rw [show (0 + (i : Int) + 1 + (j : Int)).toNat = i + 1 + j from by omega]; exact hy)
          have az : atI (who.map V.int) (0 + (i : Int) + 1 + (j : Int) + 1 + (m : Int)) = some (V.int z) := at_int (by omega) (by rw [show (0 + (i : Int) + 1 + (j : Int) + 1 + (m : Int)).toNat = i + 1 + j + 1 + m from by omega]; exact hz)
          have step : ¬ CrossAt who i (i + 1 + j) (i + 1 + j + 1 + m) → ∀ c, c < i + 1 + j + 1 + (m + 1) → i + 1 + j < c → ¬ CrossAt who i (i + 1 + j) c := fun h c a b => by
            by_cases e : c = i + 1 + j + 1 + m
            · rw [e]; exact h
            · exact no5 c (by omega) b
          refine ⟨_, rfl, _, rfl, q, _, _, _, rfl, rfl, SqL.of hq5, ax, _, rfl, _, rfl, q, _, _, _, rfl, rfl, SqL.of hq5, az, rfl, _, rfl, ite2 (fun e => ?_) (fun e => ?_)⟩
          · have e : x = z := by simpa using e
            subst e
            refine ⟨_, rfl, _, rfl, q, _, _, _, rfl, rfl, SqL.of hq5, ax, _, rfl, _, rfl, q, _, _, _, rfl, rfl, SqL.of hq5, ay, rfl, _, rfl, ite2 (fun e => ?_) (fun e => ?_)⟩
            · have nxy : x ≠ y := by simpa using e
              refine ⟨_, rfl, _, rfl, q, _, _, _, rfl, rfl, SqL.of hq5, ay, _, rfl, _, rfl, _, _, rfl, rfl, _, rfl, q, _, rfl, SqL.of hq5, fun p hp => ?_⟩
              have ec : cutV (who.map V.int) (some (0 + (i : Int) + 1 + (j : Int) + 1 + (m : Int) + 1)) none = (who.drop (i + 1 + j + 1 + m + 1)).map V.int := by
                rw [cutD9 (by omega) (by rw [List.length_map]; omega), List.map_drop, show (0 + (i : Int) + 1 + (j : Int) + 1 + (m : Int) + 1).toNat = i + 1 + j + 1 + m + 1 from by omega]
              rw [ec]
              have s6 : Same H5 (upd H5 p (.lst ((who.drop (i + 1 + j + 1 + m + 1)).map V.int))) := Same.new hp
              refine ⟨p, _, rfl, .inl (SqL.of upd_same), rfl, flat_ints _, _, rfl, ite2 (fun e => ?_) (fun e => ?_)⟩
              · have e : y ∈ who.drop (i + 1 + j + 1 + m + 1) := by
                  have e : inV (V.int y) ((who.drop (i + 1 + j + 1 + m + 1)).map V.int) = true := by simpa using e
                  rw [inV_int] at e
                  exact of_decide_eq_true e
                exact k true _ ⟨fun _ => ⟨i, i + 1 + j, i + 1 + j + 1 + m, by omega, by omega, x, y, hx, hz, hy, nxy, e⟩, fun _ => rfl⟩ (s5.trans s6)
              · have e : ¬ y ∈ who.drop (i + 1 + j + 1 + m + 1) := fun h => e (by
                  show inV (V.int y) ((who.drop (i + 1 + j + 1 + m + 1)).map V.int) = true
                  rw [inV_int]; exact decide_eq_true h)
                refine ⟨⟨_, rfl⟩, s5.trans s6, s6 _ _ hq5, step ?_⟩
                rintro ⟨x', y', h1, h2, h3, h4, h5⟩
                rw [hy] at h3; cases h3
                exact e h5
            · have exy : x = y := by simpa using e
              refine ite2 (fun e => absurd e (by simp)) (fun _ => ?_)
              refine ⟨⟨_, rfl⟩, s5, hq5, step ?_⟩
              rintro ⟨x', y', h1, h2, h3, h4, h5⟩
              rw [hy] at h3; cases h3
              rw [hx] at h1; cases h1
              exact h4 exy
          · refine ite2 (fun e => absurd e (by simp)) (fun _ => ?_)
            refine ⟨⟨_, rfl⟩, s5, hq5, step ?_⟩
            have e : ¬ x = z := by simpa using e
            rintro ⟨x', y', h1, h2, h3, h4, h5⟩
            rw [hx] at h1; cases h1
            rw [hz] at h2; cases h2
            exact e rfl
        · rintro σ H5 ⟨⟨vc, rfl⟩, s5, hq5, no5⟩
          refine ⟨⟨_, _, rfl⟩, s5, hq5, fun b c h1 h2 h3 => ?_⟩
          by_cases e : b = i + 1 + j
          · rw [e]
            by_cases hc : c < n.toNat
            · exact no5 c (by omega) (by omega)
            · rintro ⟨x, y, _, h, _⟩
              rw [List.getElem?_eq_none (by omega)] at h; cases h
          · exact no4 b c (by omega) h2 h3
      · rintro σ H4 ⟨⟨vb, vc, rfl⟩, s4, hq4, no4⟩
        refine ⟨⟨_, _, _, rfl⟩, s4, hq4, fun a b c h1 h2 h3 => ?_⟩
        by_cases e : a = i
        · rw [e]
          by_cases hb : b < n.toNat
          · exact no4 b c (by omega) (by omega) h3
          · rintro ⟨x, y, _, _, h, _⟩
            rw [List.getElem?_eq_none (by omega)] at h; cases h
        · exact no a b c (by omega) h2 h3
    · rintro σ H3 ⟨⟨va, vb, vc, rfl⟩, s3, hq3, no⟩
      refine k false H3 ⟨fun h => absurd h Bool.false_ne_true, fun ⟨a, b, c, h1, h2, h3⟩ => ?_⟩ s3
      by_cases ha : a < n.toNat
      · exact absurd h3 (no a b c (by omega) h1 h2)
      · obtain ⟨x, y, h, _⟩ := h3
        rw [List.getElem?_eq_none (by omega)] at h; cases h
end
end Sw
namespace Sw
open PySem L2
theorem ownB {x : Int} : ∀ (Ls : List (List Int)) (k : Nat), x ∈ Ls.flatten → ∃ (j : Nat) (r : List Int) (M : List Int), ownL k Ls x = ((k + j : Nat) : Int) :: r ∧ Ls[j]? = some M ∧ x ∈ M
  | [], _, h => by cases h
  | L :: Ls, k, h => by
    by_cases g : x ∈ L
    · refine ⟨0, ownL (k + 1) Ls x, L, ?_, rfl, g⟩
      show (if x ∈ L then (k : Int) :: ownL (k + 1) Ls x else ownL (k + 1) Ls x) = _
      rw [if_pos g]; rfl
    · rw [List.flatten_cons] at h
      obtain ⟨j, r, M, e, hM, hx⟩ := ownB Ls (k + 1) ((List.mem_append.mp h).resolve_left g)
      refine ⟨j + 1, r, M, ?_, by rw [List.getElem?_cons_succ]; exact hM, hx⟩
      show (if x ∈ L then (k : Int) :: ownL (k + 1) Ls x else ownL (k + 1) Ls x) = _
      rw [if_neg g, e, show k + 1 + j = k + (j + 1) from by omega]
theorem ownsB {n : Int} {Ls : List (List Int)} (h : ∀ x, 1 ≤ x → x ≤ n → x ∈ Ls.flatten) : ∃ who, Owns n.toNat Ls who ∧ ∀ (i : Nat) (x : Int), who[i]? = some x → ∃ (j : Nat) (M : List Int), x = (j : Int) ∧ Ls[j]? = some M ∧ ((i : Int) + 1) ∈ M := by
  have sp : ∀ i : Nat, i < n.toNat → ∃ (j : Nat) (r : List Int) (M : List Int), ownL 0 Ls ((i : Int) + 1) = ((j : Nat) : Int) :: r ∧ Ls[j]? = some M ∧ ((i : Int) + 1) ∈ M := fun i hi => by
    obtain ⟨j, r, M, e, h1, h2⟩ := ownB Ls 0 (h ((i : Int) + 1) (by omega) (by omega))
    rw [Nat.zero_add] at e
    exact ⟨j, r, M, e, h1, h2⟩
  refine ⟨(List.range n.toNat).map fun i : Nat => (ownL 0 Ls ((i : Int) + 1)).headD 0, ⟨by rw [List.length_map, List.length_range], fun i x hx => ?_⟩, fun i x hx => ?_⟩
  · rw [List.getElem?_map] at hx
    by_cases hi : i < n.toNat
    · rw [List.getElem?_range hi] at hx
      obtain ⟨j, r, M, e, _⟩ := sp i hi
      have hx : (ownL 0 Ls ((i : Int) + 1)).headD 0 = x := Option.some.inj hx
      rw [e] at hx
      exact ⟨r, by rw [e, ← hx]; rfl⟩
    · rw [List.getElem?_eq_none (by rw [List.length_range]; omega)] at hx; cases hx
  · rw [List.getElem?_map] at hx
    by_cases hi : i < n.toNat
    · rw [List.getElem?_range hi] at hx
      obtain ⟨j, r, M, e, h1, h2⟩ := sp i hi
      have hx : (ownL 0 Ls ((i : Int) + 1)).headD 0 = x := Option.some.inj hx
      rw [e] at hx
      exact ⟨j, M, hx.symm, h1, h2⟩
    · rw [List.getElem?_eq_none (by rw [List.length_range]; omega)] at hx; cases hx
theorem no_crossB {n : Int} {Ls : List (List Int)} (nd : Ls.flatten.Nodup) (ne : ∀ L ∈ Ls, L ≠ []) (nx : NonX Ls) {who : List Int} (hw : ∀ (i : Nat) (x : Int), who[i]? = some x → ∃ (j : Nat) (M : List Int), x = (j : Int) ∧ Ls[j]? = some M ∧ ((i : Int) + 1) ∈ M) : ¬ CrossP who := by
  rintro ⟨a, b, c, ab, bc, x, y, ha, hc, hb, xy, hd⟩
  obtain ⟨d', hd', e⟩ := List.getElem_of_mem hd
  rw [List.getElem_drop] at e
  have hd : who[c + 1 + d']? = some y := by rw [List.getElem?_eq_getElem (by rw [List.length_drop] at hd'; omega), e]
  obtain ⟨j1, L1, e1, l1, m1⟩ := hw a x ha
  obtain ⟨j2, L2, e2, l2, m2⟩ := hw c x hc
  obtain ⟨j3, L3, e3, l3, m3⟩ := hw b y hb
  obtain ⟨j4, L4, e4, l4, m4⟩ := hw _ y hd
  have e12 : j1 = j2 := by omega
  have e34 : j3 = j4 := by omega
  subst e12 e34
  rw [l1] at l2; cases l2
  rw [l3] at l4; cases l4
  have eq := nx L1 (List.mem_of_getElem? l1) L3 (List.mem_of_getElem? l3) _ _ _ _ m1 m2 m3 m4 (by omega) (by omega) (by omega)
  subst eq
  have := flat_ix nd l1 l3 m1 m1
  omega
theorem cross_of {n : Int} {Ls : List (List Int)} (cv : Cov n Ls) {who : List Int} (wl : who.length = n.toNat) (hw : ∀ (i : Nat) (x : Int), who[i]? = some x → ∃ (j : Nat) (M : List Int), x = (j : Int) ∧ Ls[j]? = some M ∧ ((i : Int) + 1) ∈ M) (no : ¬ CrossP who) : NonX Ls := by
  intro L hL M hM a b c d ha hc hb hd ab bc cd
  have nd : Ls.flatten.Nodup := cv.2.nodup_iff.mpr (ivl_nodup3 n)
  apply Decidable.byContradiction
  intro ne
  obtain ⟨i, hi⟩ := List.getElem?_of_mem hL
  obtain ⟨j, hj⟩ := List.getElem?_of_mem hM
  have ij : i ≠ j := fun z => ne (by subst z; exact Option.some.inj (hi.symm.trans hj))
  have at_ : ∀ {x : Int} {k : Nat} {N : List Int}, Ls[k]? = some N → x ∈ N → 1 ≤ x ∧ x ≤ n ∧ who[(x - 1).toNat]? = some (k : Int) := fun {x k N} hk hx => by
    have bx := ivl_mem3.mp (cv.2.mem_iff.mp (List.mem_flatten.mpr ⟨N, List.mem_of_getElem? hk, hx⟩))
    obtain ⟨y, hy⟩ : ∃ y, who[(x - 1).toNat]? = some y := ⟨_, List.getElem?_eq_getElem (by omega)⟩
    obtain ⟨q, R, e, h1, h2⟩ := hw _ y hy
    rw [show (((x - 1).toNat : Int) + 1) = x by omega] at h2
    have := flat_ix nd h1 hk h2 hx
    subst this
    exact ⟨bx.1, bx.2, by rw [hy, e]⟩
  have qa := at_ hi ha
  have qb := at_ hj hb
  have qc := at_ hi hc
  have qd := at_ hj hd
  refine no ⟨(a - 1).toNat, (b - 1).toNat, (c - 1).toNat, by omega, by omega, (i : Int), (j : Int), qa.2.2, qc.2.2, qb.2.2, by omega, ?_⟩
  refine List.mem_of_getElem? (i := (d - 1).toNat - ((c - 1).toNat + 1)) ?_
  rw [List.getElem?_drop, show (c - 1).toNat + 1 + ((d - 1).toNat - ((c - 1).toNat + 1)) = (d - 1).toNat by omega]
  exact qd.2.2
end Sw
namespace Sw
open PySem L2
def spIshD : Sp := fun vs H Q _ => ∃ (v : V) (P : Addr → Prop) (d : PyData) (n : Int), vs = [.int n, v] ∧ DT H P v d ∧ Few2 d ∧ Nice 10 d ∧ 1 ≤ n ∧ n ≤ 12 ∧ ∀ b H', (b = true ↔ IsSh n d) → Same H H' → Q (.bl b) H'
structure TIshD (P : Program) (w : World) (K : PySem.W.Frag) (mg : Str → Option Value) (base : Heap) : Prop extends T1 mg K where
  b_sorted : mg "sorted" = none
  b_set : mg "set" = none
  f__law_whole : FnAt P w K mg base "_law_whole" 1 ["_law_thing"] spIwD
  f__law_crosses : FnAt P w K mg base "_law_crosses" 2 ["_law_sharing_here", "_law_n"] spCrosses
theorem nice_sub {k : Nat} {ds : List PyData} (h : Nice k (.list ds)) : ∀ e ∈ ds, Nice k e := by
  have h1 : PyData.canLayAll0 ds = true := by have := h.lay; unfold PyData.canLay0 at this; exact this
  have h2 : PyData.depthAll ds + 1 ≤ k := by have := h.dp; unfold PyData.depth at this; exact this
  clear h
  induction ds with
  | nil => intro e he; cases he
  | cons d ds ih =>
    unfold PyData.canLayAll0 at h1
    unfold PyData.depthAll at h2
    obtain ⟨a, b⟩ := Bool.and_eq_true_iff.mp h1
    intro e he
    rcases List.mem_cons.mp he with rfl | he
    · exact ⟨a, by omega⟩
    · exact ih b (by omega) e he
theorem eqNil {K : PySem.W.Frag} {H : Hp} {P : Addr → Prop} {v : V} {m : Addr} {ds : List PyData} {Q : VK} (h1 : DT H P v (.list ds)) (n : Nice 10 (.list ds)) (h2 : H m = some (.lst [])) (q : Q (.bl (decide (ds = []))) H) : rEqD K v (.ref m) H Q := by
  refine ⟨fun _ => True, .list ds, .list [], (h1.imp fun _ _ => True.intro).dat, .lst (SqL.of h2) True.intro .nil, n.lay, rfl, by have := n.dp; omega, ?_⟩
  have : PyData.eqv (.list ds) (.list []) = decide (ds = []) := by
    unfold PyData.eqv
    cases ds with
    | nil => rfl
    | cons d ds => unfold PyData.eqvAll; exact (decide_eq_false (by intro z; cases z)).symm
  rw [this]
  exact q
theorem isw_intI : ∀ {ds : List PyData}, ds.all isw = true → ds = (ds.map intI).map PyData.int
  | [], _ => rfl
  | d :: r, h => by
    rw [List.all_cons] at h
    obtain ⟨h1, h2⟩ := Bool.and_eq_true_iff.mp h
    cases d with
    | int i => rw [List.map_cons, List.map_cons, ← isw_intI h2]; rfl
    | _ => exact absurd h1 Bool.false_ne_true
theorem lsts_of {H : Hp} {P : Addr → Prop} : ∀ {us : List V} {Ls : List (List Int)}, DTs H P us (Ls.map fun L => PyData.list (L.map PyData.int)) → Lsts H us Ls
  | _, [], h => by cases h; exact .nil
  | _, L :: Ls, h => by
    cases h with
    | cons h1 h2 =>
      cases h1 with
      | lst ha _ r =>
        have hu := shs_of.DTs.toIntsI r
        subst hu
        exact .cons ha (lsts_of h2)
section
variable {P : Program} {w : World} {K : PySem.W.Frag} {mg : Str → Option Value} {base : Heap}
theorem sc__law_is_sharing : FnScope ["_law_n", "_law_thing", "_law_things", "_law_part"] ["_law_n", "_law_thing"] (defScope (top 16)) := ⟨rfl, rfl, rfl, by decide +kernel, rfl, by decide +kernel, by decide +kernel⟩
theorem ok_ishD {f : Addr} {fd : FuncData} (F : Fun K "_law_is_sharing" "_law_is_sharing" (top 16) f fd) (T : TIshD P w K mg base) : FnOk P w K mg base CX0 3 f fd ["_law_n", "_law_thing"] spIshD := by
  refine F.ok sc__law_is_sharing (fun vs H Q E h => ?_) (fun cdv A outer s H vs Q E hr h => ?_)
  · obtain ⟨v, P, d, n, rfl, _⟩ := h
    rfl
  · obtain ⟨v, P, d, n, rfl, hd, few, nc, n1, n12, k⟩ := h
    refine ⟨_, (pss_cons (ps_if (pt_not (pt_val (pe_callB (call_isiK (K := K) rfl) rfl T.b_isinstance (by decide +kernel) (pa_cons (pv 1) (pa_cons (pe_bltn (v := .ty "list") rfl T.b_list (by decide +kernel) rfl) pa_nil))))) (pss_one (ps_ret pe_bl)) pss_nil)
      (pss_cons (ps_set (i := 2) sc__law_is_sharing.nd rfl (Or.inl rfl) (pe_lst pa_nil))
      (pss_cons (ps_for PassesOwn.never rfl (pi_listK (K := K) rfl (pv 1)) (pg_name (i := 3) sc__law_is_sharing.nd rfl (Or.inl rfl)) (pss_cons (ps_if (PW.pt (pw_or (pt_not (pt_val (pe_callB (call_isiK (K := K) rfl) rfl T.b_isinstance (by decide +kernel) (pa_cons (pv 3) (pa_cons (pe_bltn (v := .ty "list") rfl T.b_list (by decide +kernel) rfl) pa_nil))))) (pw_or (pt_cmpR (op_eqD hr.units) (pv 3) (pe_lst pa_nil) (nomark _)) (pw_or1 (pt_not (pt_val (pe_callB (call_allK (K := K) rfl rfl) rfl T.b_all (by decide +kernel) (pa_cons (pe_comp (N := (["_law_one"] : List Str)) (ix := ([none] : List (Option Nat))) (comp_ok rfl rfl) rfl (pi_listK (K := K) rfl (pv 3)) (fun _ _ _ _ => (pg_name (i := 0) (show List.Nodup (["_law_one"] : List Str) from by decide +kernel) rfl (Or.inl rfl))) (fun _ _ _ _ => pif_nil) (fun _ _ _ _ => (pe_callF T.f__law_whole (hr.mono (by first | decide | omega)) rfl (pa_cons (pv 0) pa_nil)))) pa_nil)))))))) (pss_one (ps_ret pe_bl)) pss_nil)
      (pss_cons (ps_if (pt_cmpR (op_neD hr.units) (pv 3) (pe_callB (call_sortedSK (w := w) rfl rfl) rfl T.b_sorted (by decide +kernel) (pa_cons (pe_callTy (call_setNK (K := K) (w := w) rfl rfl rfl) rfl T.b_set (by decide +kernel) (pa_cons (pv 3) pa_nil)) pa_nil)) (nomark _)) (pss_one (ps_ret pe_bl)) pss_nil)
      (pss_one (ps_set (i := 2) sc__law_is_sharing.nd rfl (Or.inl rfl) (pe_op op_cat (pv 2) (pv 3)))))))
      (pss_cons (ps_if (PW.pt (pw_or (pt_cmpR (op_neD hr.units) (pv 1) (pe_callB (call_sortedLL (K := K) rfl hr.units) rfl T.b_sorted (by decide +kernel) (pa_cons (pv 1) pa_nil)) (nomark _)) (pw_or1 (pt_cmpR (op_neD hr.units) (pe_callB (call_sorted (K := K) rfl) rfl T.b_sorted (by decide +kernel) (pa_cons (pv 2) pa_nil)) (pe_callTy (call_list_rng rfl) rfl T.b_list (by decide +kernel) (pa_cons (pe_callTy call_range rfl T.b_range (by decide +kernel) (pa_cons pe_int (pa_cons (pe_op op_add (pv 0) pe_int) pa_nil))) pa_nil)) (nomark _))))) (pss_one (ps_ret pe_bl)) pss_nil)
      (pss_one (ps_ret (pe_not (pe_callF T.f__law_crosses (hr.mono (by first | decide | omega)) rfl (pa_cons (pv 1) (pa_cons (pv 0) pa_nil)))))))))), ?_⟩
    have big : (10000000 : Nat) ≤ sizeLine := by decide
    have no : ∀ H', ¬ IsSh n d → Same H H' → Q (.bl false) H' := fun H' z s => k false H' ⟨fun q => (by cases q), fun q => absurd q z⟩ s
    refine ⟨_, rfl, _, _, "list", _, rfl, hd.ty, kit_list K hd, _, rfl, ?_⟩
    cases hd with
    | @lst l ws ds hl pl rs =>
      refine iteF ?_
      obtain ⟨dl, dl2⟩ := few ds rfl
      have wl := rs.length
      have part : ∀ Ms, PyData.list ds = shD Ms → ∀ (i : Nat) (e : PyData), ds[i]? = some e → ∃ M, M ∈ Ms ∧ e = .list (M.map PyData.int) := fun Ms h i e he => by
        injection h with h
        rw [h, List.getElem?_map] at he
        cases hm : Ms[i]? with
        | none => rw [hm] at he; cases he
        | some M => rw [hm] at he; exact ⟨M, List.mem_of_getElem? hm, (Option.some.inj he).symm⟩
      refine ⟨Nat.zero_le _, fun l1 f1 => ?_⟩
      have s1 : Same H (upd H l1 (.lst [])) := Same.new f1
      have g1 : upd H l1 (.lst []) l1 = some (.lst (([] : List Int).map V.int)) := upd_same
      generalize upd H l1 (.lst []) = H1 at s1 g1 ⊢
      have hl1 := s1 _ _ hl
      refine ⟨_, rfl, l, rfl, ⟨_, SqL.of hl1⟩, for_list (K := K) (a := l) (xs := ws) (fun i σ H' => ∃ lt Ls, (∃ v3, σ = [some (.int n), some (.ref l), some (.ref lt), v3]) ∧ ds.take i = Ls.map (fun L => PyData.list (L.map PyData.int)) ∧ (∀ L ∈ Ls, L ≠ [] ∧ L.Pairwise (· < ·)) ∧ H' lt = some (.lst (Ls.flatten.map V.int)) ∧ Same H1 H') ⟨l1, [], ⟨_, rfl⟩, rfl, (by simp), g1, Same.refl _⟩ (fun i σ H' _ z => by obtain ⟨_, _, _, _, _, _, z⟩ := z; exact SqL.of (z _ _ hl1)) ?_ ?_⟩
      · rintro i x σ H2 hx ⟨lt, Ls, ⟨v3, rfl⟩, et, pr, ht2, s2⟩
        have S2 := s1.trans s2
        obtain ⟨e, he, hez⟩ := rs.get hx
        have hez2 := DT.same hez S2
        have em := List.mem_of_getElem? he
        have ne := nice_sub nc e em
        have le := mem_sumI em
        refine ⟨_, rfl, _, _, "list", _, rfl, hez2.ty, kit_list K hez2, _, rfl, ?_⟩
        cases hez2 with
        | @lst b us es hb pb ru =>
          refine iteF ?_
          have el : es.length ≤ 60 := by have : es.length ≤ _ := le; omega
          have ul := ru.length
          refine ⟨_, rfl, Nat.zero_le _, fun l3 f3 => ?_⟩
          have se : Same H2 (upd H2 l3 (.lst [])) := Same.new f3
          have ge : upd H2 l3 (.lst []) l3 = some (.lst []) := upd_same
          generalize upd H2 l3 (.lst []) = H3 at se ge ⊢
          refine eqNil (.lst (se _ _ hb) pb (DTs.same ru se)) ne ge ⟨_, rfl, ?_⟩
          by_cases en : es = []
          · refine iteP (decide_eq_true en) (no H3 (fun ⟨Ms, h, g⟩ => ?_) (S2.trans se))
            obtain ⟨M, hM, eM⟩ := part Ms h i _ he
            injection eM with eM
            rw [en] at eM
            exact g.cv.1 M hM (List.map_eq_nil_iff.mp eM.symm)
          refine iteE (decide_eq_false en) ?_
          have hb3 := se _ _ hb
          have ru3 := DTs.same ru se
          refine ⟨_, rfl, b, rfl, ⟨_, SqL.of hb3⟩, compL (K := K) (a := b) (xs := us) (k := 0) (fun j zs σ' H' => zs = ((es.take j).map isw).map V.bl ∧ (∃ v, σ' = [v]) ∧ H' = H3) (by omega) ⟨rfl, ⟨none, rfl⟩, rfl⟩ (fun j zs σ' H' _ q => by rw [q.2.2]; exact SqL.of hb3) (fun j zs σ' H' q => by rw [q.1, List.length_map, List.length_map, List.length_take]; omega) ?_ ?_⟩
          · rintro j zs σ' H' y R' hy ⟨rfl, ⟨v, rfl⟩, rfl⟩ d2
            obtain ⟨e', he', hz'⟩ := ru3.get hy
            refine ⟨_, rfl, y, P, e', rfl, hz', d2 _ _ _ ⟨?_, ⟨_, rfl⟩, rfl⟩⟩
            rw [all_take he', List.map_append]
            rfl
          rintro zs σ' H' q ⟨rfl, _, rfl⟩ fq
          rw [List.take_of_length_le (by omega)]
          have s4 : Same H' (upd H' q (.lst ((es.map isw).map V.bl))) := Same.new fq
          refine ⟨q, es.map isw, rfl, SqL.of upd_same, _, rfl, ?_⟩
          have ea : (es.map isw).all id = es.all isw := by rw [List.all_map]; rfl
          rw [ea]
          generalize upd H' q (.lst ((es.map isw).map V.bl)) = H4 at s4 ⊢
          have S4 := (S2.trans se).trans s4
          cases hw : es.all isw with
          | false =>
            refine iteT (no H4 (fun ⟨Ms, h, g⟩ => ?_) S4)
            obtain ⟨M, hM, eM⟩ := part Ms h i _ he
            injection eM with eM
            rw [eM, List.all_map] at hw
            have : M.all (isw ∘ PyData.int) = true := List.all_eq_true.mpr fun _ _ => rfl
            rw [this] at hw; cases hw
          | true =>
            refine iteF ?_
            have ei := isw_intI hw
            rw [ei] at ru3
            have hu := shs_of.DTs.toIntsI ru3
            have Ml : (es.map intI).length = es.length := List.length_map ..
            generalize hM : es.map intI = M at *
            subst hu
            have hb4 := s4 _ _ hb3
            refine ⟨_, rfl, _, rfl, b, M, rfl, SqL.of hb4, by omega, fun qs ms fqs nd mem => ?_⟩
            have msl : ms.length ≤ M.length := sub_leA nd fun x hx => (mem x).mp hx
            have s5 : Same H4 (upd H4 qs (SetV w qs (ms.map V.int))) := Same.new fqs
            refine ⟨qs, ms, rfl, upd_same, by omega, fun l6 r6 f6 pm6 pw6 => ?_⟩
            have n6 : r6.Nodup := pm6.nodup_iff.mpr nd
            have rise6 : r6.Pairwise (· < ·) := (pw6.and n6).imp fun ⟨a, b⟩ => by omega
            have s6 : Same (upd H4 qs (SetV w qs (ms.map V.int))) (upd (upd H4 qs (SetV w qs (ms.map V.int))) l6 (.lst (r6.map V.int))) := Same.new f6
            have a6 := s5.trans s6
            refine eqL (a6 _ _ hb4) upd_same ⟨_, rfl, ?_⟩
            generalize upd (upd H4 qs (SetV w qs (ms.map V.int))) l6 (.lst (r6.map V.int)) = H6 at a6 ⊢
            by_cases e6 : M = r6
            · refine iteE (by rw [decide_eq_true e6]; rfl) ?_
              have a26 := se.trans (s4.trans a6)
              have pt : M ≠ [] ∧ M.Pairwise (· < ·) := ⟨fun z => en (by rw [ei, z]; rfl), by rw [e6]; exact rise6⟩
              have sm : Ls.flatten.length + M.length ≤ 60 := by
                have h1 : ((ds.take (i + 1)).map lenI).sum ≤ (ds.map lenI).sum := by
                  conv => rhs; rw [← List.take_append_drop (i + 1) ds, List.map_append, List.sum_append]
                  omega
                have e2 : (lenI ∘ fun L : List Int => PyData.list (L.map PyData.int)) = List.length := funext fun L => List.length_map ..
                rw [take_snoc he, et, List.map_append, List.sum_append, List.map_map, e2, ← List.length_flatten] at h1
                have : ([PyData.list es].map lenI).sum = es.length := by show es.length + 0 = _; omega
                omega
              refine ⟨_, rfl, _, rfl, lt, b, _, _, rfl, rfl, a26 _ _ ht2, a26 _ _ hb, by rw [List.length_map, List.length_map]; omega, fun l7 f7 => ?_⟩
              refine ⟨l7, Ls ++ [M], ⟨_, rfl⟩, ?_, fun L hL => ?_, ?_, s2.trans (a26.trans (Same.new f7))⟩
              · rw [take_snoc he, et, List.map_append, ei]; rfl
              · rcases List.mem_append.mp hL with hL | hL
                · exact pr L hL
                · rw [List.mem_singleton.mp hL]; exact pt
              · rw [upd_same, List.flatten_append, List.map_append, List.flatten_cons, List.flatten_nil, List.append_nil]
            · refine iteP (by rw [decide_eq_false e6]; rfl) (no H6 (fun ⟨Ms, h, g⟩ => e6 ?_) (S4.trans a6))
              obtain ⟨M', hM', eM⟩ := part Ms h i _ he
              injection eM with eM
              have : M' = M := by rw [← hM, eM, map_intI]
              subst this
              exact rise_uniq (g.rise _ hM') rise6 fun x => (by rw [pm6.mem_iff, mem])
        | _ => exact iteT (no H2 (fun ⟨Ms, h, g⟩ => by obtain ⟨M, _, eM⟩ := part Ms h i _ he; cases eM) S2)
      · rintro σ H2 ⟨lt, Ls, ⟨v3, rfl⟩, et, pr, ht2, s2⟩
        rw [List.take_of_length_le (by omega)] at et
        have Ll : Ls.length = ds.length := by rw [et, List.length_map]
        have xl0 : Lsts H ws Ls := lsts_of (by rw [← et]; exact rs)
        have S2 := s1.trans s2
        have fl : Ls.flatten.length ≤ 60 := by
          rw [et, List.map_map] at dl2
          have e2 : (lenI ∘ fun L : List Int => PyData.list (L.map PyData.int)) = List.length := funext fun L => List.length_map ..
          rw [e2, ← List.length_flatten] at dl2
          exact dl2
        have uniq : ∀ Ms, PyData.list ds = shD Ms → Ms = Ls := fun Ms h => by
          injection h with h
          rw [et] at h
          have inj : ∀ a b : List Int, PyData.list (a.map PyData.int) = PyData.list (b.map PyData.int) → a = b := fun a b h => by
            injection h with h
            have := congrArg (List.map intI) h
            rwa [map_intI, map_intI] at this
          exact ((List.map_inj_right inj).mp h).symm
        have yes : Gsd n Ls → IsSh n (.list ds) := fun g => ⟨Ls, by rw [et]; rfl, g⟩
        have neg : ¬ Gsd n Ls → ¬ IsSh n (.list ds) := fun z ⟨Ms, h, g⟩ => z (by rw [← uniq Ms h]; exact g)
        have hl2 := S2 _ _ hl
        have xl2 := xl0.keep S2
        refine ⟨_, rfl, _, rfl, ?_⟩
        dsimp only [tNil]
        refine sortLB hl2 xl2 (by omega) fun l9 us Ms H9 f9 h9 x9 p9 s9 uq so _ _ => ?_
        have S9 := S2.trans s9
        refine eqLL (s9 _ _ hl2) (xl2.keep s9) h9 x9 ⟨_, rfl, ?_⟩
        by_cases em : Ls = Ms
        · refine iteE (by rw [decide_eq_true em]; rfl) ?_
          refine ⟨_, rfl, lt, Ls.flatten, rfl, SqL.of (s9 _ _ ht2), by omega, fun lc r' flc pm pw => ?_⟩
          have s4 : Same H9 (upd H9 lc (.lst (r'.map V.int))) := Same.new flc
          have h4 : upd H9 lc (.lst (r'.map V.int)) lc = some (.lst (r'.map V.int)) := upd_same
          generalize upd H9 lc (.lst (r'.map V.int)) = H4 at s4 h4 ⊢
          refine ⟨_, rfl, _, _, rfl, rfl, .inr ⟨_, _, rfl, fun rg hrg => ⟨rg, _, _, rfl, upd_same, by omega, by omega, by omega, by omega, fun ll hll => ?_⟩⟩⟩
          have s5 := (Same.new (o := .rng 1 (n + 1)) hrg).trans (Same.new (o := .lst ((ivl 1 (n + 1)).map V.int)) hll)
          refine eqL (s5 _ _ h4) upd_same ⟨_, rfl, ?_⟩
          have a5 := S9.trans (s4.trans s5)
          generalize upd (upd H4 rg (.rng 1 (n + 1))) ll (.lst ((ivl 1 (n + 1)).map V.int)) = H5 at s5 a5 ⊢
          by_cases er : r' = ivl 1 (n + 1)
          · refine iteE (by rw [decide_eq_true er]; rfl) ?_
            have cv : Cov n Ls := ⟨fun L hL => (pr L hL).1, by rw [← er]; exact pm.symm⟩
            have nd : Ls.flatten.Nodup := cv.2.nodup_iff.mpr (ivl_nodup3 n)
            obtain ⟨who, ow, hw⟩ := ownsB (n := n) (Ls := Ls) fun x h1 h2 => cv.2.mem_iff.mpr (mem_ivl.mpr ⟨h1, by omega⟩)
            refine ⟨_, rfl, _, rfl, l, ws, Ls, n, who, rfl, a5 _ _ hl, xl0.keep a5, by omega, by omega, by omega, ow, fun b H6 hb s6 => ⟨_, rfl, k _ H6 ?_ (a5.trans s6)⟩⟩
            cases b with
            | true => exact ⟨fun z => (by cases z), fun z => absurd z (neg fun g => no_crossB (n := n) nd (fun L hL => (pr L hL).1) g.nx hw (hb.mp rfl))⟩
            | false =>
              refine ⟨fun _ => yes ⟨cv, fun L hL => (pr L hL).2, cross_of cv ow.1 hw fun z => absurd (hb.mpr z) Bool.false_ne_true, by rw [em]; exact so⟩, fun _ => rfl⟩
          · refine iteP (by rw [decide_eq_false er]; rfl) ?_
            refine no H5 (neg fun g => er ?_) a5
            have p2 : r'.Perm (ivl 1 (n + 1)) := pm.trans g.cv.2
            have nd : r'.Nodup := p2.nodup_iff.mpr (ivl_nodup3 n)
            exact rise_uniq ((pw.and nd).imp fun ⟨a, b⟩ => by omega) (ivl_riseS 1 (n + 1)) fun x => p2.mem_iff
        · refine iteP (by rw [decide_eq_false em]; rfl) ?_
          exact no H9 (neg fun g => em (uq Ls (List.Perm.refl _) g.srt).symm) S9
    | _ => exact iteT (no H (fun ⟨Ls, e, _⟩ => by cases e) (Same.refl H))
end
end Sw
namespace Sw
open PySem L2
def spCell (K : PySem.W.Frag) : Sp := fun vs H Q _ => ∃ (a : Addr) (ns : List Int) (i : Int), vs = [.ref a, .int i] ∧ SqL K H a (ns.map V.int) ∧ 0 ≤ i ∧ i ≤ 1000 ∧ ∀ z : Int, Q (.int z) H
def spNum (K : PySem.W.Frag) : Sp := fun vs H Q _ => ∃ (a : Addr) (ns : List Int) (i : Int), vs = [.ref a, .int i] ∧ SqL K H a (ns.map V.int) ∧ 0 ≤ i ∧ i ≤ 1000 ∧ ∀ z : Int, 0 ≤ z → Q (.int z) H
def spSize : Sp := fun vs H Q _ => ∃ (z : Int), vs = [.int z] ∧ 0 ≤ z ∧ ∀ n H', 1 ≤ n → n ≤ 12 → Same H H' → Q (.int n) H'
structure TNm (P : Program) (w : World) (K : PySem.W.Frag) (mg : Str → Option Value) (base : Heap) : Prop extends T1 mg K where
  f__law_cell : FnAt P w K mg base "_law_cell" 1 ["_law_script", "_law_k"] (spCell K)
section
variable {P : Program} {w : World} {K : PySem.W.Frag} {mg : Str → Option Value} {base : Heap}
theorem sc__law_cell : FnScope ["_law_script", "_law_k"] ["_law_script", "_law_k"] (defScope (top 9)) := ⟨rfl, rfl, rfl, by decide +kernel, rfl, by decide +kernel, by decide +kernel⟩
theorem ok_cell {f : Addr} {fd : FuncData} (F : Fun K "_law_cell" "_law_cell" (top 9) f fd) (T : T1 mg K) : FnOk P w K mg base CX0 1 f fd ["_law_script", "_law_k"] (spCell K) := by
  refine F.ok sc__law_cell (fun vs H Q E h => ?_) (fun cdv A outer s H vs Q E hr h => ?_)
  · obtain ⟨a, ns, i, rfl, _⟩ := h
    rfl
  · obtain ⟨a, ns, i, rfl, hs, i0, i1, k⟩ := h
    refine ⟨_, (pss_cons (ps_if (pt_cmpR op_lt (pv 1) (pe_callB (call_lenK (K := K) rfl) rfl T.b_len (by decide +kernel) (pa_cons (pv 0) pa_nil)) (nomark _)) (pss_one (ps_ret (pe_ix (ix_listK (K := K) rfl) (pv 0) (pv 1) (fun _ _ => rfl)))) pss_nil)
      (pss_one (ps_ret pe_int))), ?_⟩
    refine ⟨_, rfl, _, rfl, a, _, rfl, .inl hs, _, _, rfl, rfl, _, rfl, ite2 (fun c => ?_) (fun c => ?_)⟩
    · have c : i < ((ns.map V.int).length : Int) := of_decide_eq_true c
      rw [List.length_map] at c
      obtain ⟨z, hz⟩ := get_lt (ns := ns) (k := i.toNat) (by omega)
      exact ⟨_, rfl, _, rfl, a, _, _, _, rfl, rfl, hs, at_int i0 hz, k z⟩
    · exact k 0
theorem sc__law_number : FnScope ["_law_script", "_law_k", "_law_cell_here", "_law_one"] ["_law_script", "_law_k"] (defScope (top 10)) := ⟨rfl, rfl, rfl, by decide +kernel, rfl, by decide +kernel, by decide +kernel⟩
theorem ok_number {f : Addr} {fd : FuncData} (F : Fun K "_law_number" "_law_number" (top 10) f fd) (T : TNm P w K mg base) : FnOk P w K mg base CX0 2 f fd ["_law_script", "_law_k"] (spNum K) := by
  refine F.ok sc__law_number (fun vs H Q E h => ?_) (fun cdv A outer s H vs Q E hr h => ?_)
  · obtain ⟨a, ns, i, rfl, _⟩ := h
    rfl
  · obtain ⟨a, ns, i, rfl, hs, i0, i1, k⟩ := h
    refine ⟨_, (pss_cons (ps_set (i := 2) sc__law_number.nd rfl (Or.inl rfl) (pe_callF T.f__law_cell (hr.mono (by first | decide | omega)) rfl (pa_cons (pv 0) (pa_cons (pv 1) pa_nil))))
      (pss_cons (ps_if (pt_cmpR op_ge (pe_callB call_abs rfl T.b_abs (by decide +kernel) (pa_cons (pv 2) pa_nil)) (pe_op op_pow pe_int pe_int) (nomark _)) (pss_one (ps_ret (pe_callB call_abs rfl T.b_abs (by decide +kernel) (pa_cons (pv 2) pa_nil)))) pss_nil)
      (pss_cons (ps_set (i := 3) sc__law_number.nd rfl (Or.inl rfl) (pe_op op_add (pe_op op_mod (pv 2) (pe_op op_pow pe_int pe_int)) (pe_op op_mul pe_int (pe_op op_add (pe_op op_add (pe_op op_mul (pv 1) (pv 1)) (pv 1)) pe_int))))
      (pss_cons (ps_set (i := 3) sc__law_number.nd rfl (Or.inl rfl) (pe_op op_mod (pe_op op_mul (pv 3) pe_int) (pe_op op_pow pe_int pe_int)))
      (pss_one (ps_ret (pe_op op_fdivL (pe_op op_powB (pv 3) pe_int) (pe_op op_pow pe_int pe_int)))))))), ?_⟩
    have p18 : (0 : Int) < 10 ^ Int.toNat 18 := by decide
    have p37 : (0 : Int) < 10 ^ Int.toNat 37 := by decide
    have p20 : (0 : Int) < 10 ^ Int.toNat 20 := by decide
    have q20 : (10 : Int) ^ Int.toNat 20 < 2 ^ 200 := by decide
    refine ⟨_, rfl, _, rfl, a, ns, i, rfl, hs, i0, i1, fun x => ?_⟩
    refine ⟨_, rfl, x, rfl, _, _, rfl, rfl, ⟨by decide, by decide, by decide⟩, _, _, rfl, rfl, _, rfl, ite2 (fun _ => ?_) (fun _ => ?_)⟩
    · exact ⟨_, rfl, x, rfl, k _ (by split <;> omega)⟩
    · have ii : 0 ≤ i * i := Int.mul_nonneg i0 i0
      refine ⟨_, rfl, _, _, rfl, rfl, ⟨by decide, by decide, by decide⟩, _, _, rfl, rfl, p18, _, rfl, _, rfl, _, _, rfl, rfl, .inl ⟨by omega, by omega⟩, _, rfl, _, _, rfl, rfl, _, _, rfl, rfl, _, _, rfl, rfl, .inl ⟨by omega, by omega⟩, _, _, rfl, rfl, ?_⟩
      refine ⟨_, rfl, _, _, rfl, rfl, .inr ⟨by omega, by omega⟩, _, _, rfl, rfl, ⟨by decide, by decide, by decide⟩, _, _, rfl, rfl, p37, ?_⟩
      have o0 := Int.emod_nonneg ((x % 10 ^ Int.toNat 18 + 1442695040888963407 * (i * i + i + 1)) * 6364136223846793005) (Int.ne_of_gt p37)
      have o1 := Int.emod_lt_of_pos ((x % 10 ^ Int.toNat 18 + 1442695040888963407 * (i * i + i + 1)) * 6364136223846793005) p37
      have bd : ∀ one : Int, 0 ≤ one → one < 10 ^ Int.toNat 37 → one.natAbs < 2 ^ 400 := fun one h0 h1 => by
        have h1 : one < 10 ^ 37 := h1
        omega
      refine ⟨_, rfl, _, _, rfl, rfl, ⟨by decide, by decide, bd _ o0 o1⟩, _, _, rfl, rfl, ⟨by decide, by decide, by decide⟩, _, _, rfl, rfl, ⟨p20, q20⟩, k _ ?_⟩
      exact Int.ediv_nonneg (Int.pow_nonneg o0) (by decide)
theorem sc__law_size : FnScope ["_law_number_here"] ["_law_number_here"] (defScope (top 12)) := ⟨rfl, rfl, rfl, by decide +kernel, rfl, by decide +kernel, by decide +kernel⟩
theorem ok_size {f : Addr} {fd : FuncData} (F : Fun K "_law_size" "_law_size" (top 12) f fd) : FnOk P w K mg base CX0 1 f fd ["_law_number_here"] spSize := by
  refine F.ok sc__law_size (fun vs H Q E h => ?_) (fun cdv A outer s H vs Q E hr h => ?_)
  · obtain ⟨z, rfl, _⟩ := h
    rfl
  · obtain ⟨z, rfl, z0, k⟩ := h
    refine ⟨_, (@pss_one _ _ _ (@ps_ret _ _ _ _ (@pe_ix _ _ _ _ _ _ _ (ix_listK (K := K) rfl) (@pe_lst _ _ _ _ (@pa_consts _ _ ([1, 2, 3, 4, 5, 6, 7, 8, 9, 10, 11, 12, 12, 11, 10, 9].map V.int) rfl)) (pe_op op_mod (pv 0) pe_int) (fun _ _ => rfl)))), ?_⟩
    have p16 : (0 : Int) < 16 := by decide
    have r0 := Int.emod_nonneg z (Int.ne_of_gt p16)
    have r1 := Int.emod_lt_of_pos z p16
    obtain ⟨x, hx⟩ := get_lt (ns := [1, 2, 3, 4, 5, 6, 7, 8, 9, 10, 11, 12, 12, 11, 10, 9]) (k := (z % 16).toNat) (by show _ < 16; omega)
    have hb : 1 ≤ x ∧ x ≤ 12 := by
      have := List.mem_of_getElem? hx
      have h : ∀ y ∈ ([1, 2, 3, 4, 5, 6, 7, 8, 9, 10, 11, 12, 12, 11, 10, 9] : List Int), 1 ≤ y ∧ y ≤ 12 := by decide
      exact h x this
    refine ⟨(by show 16 ≤ sizeLine; decide), fun l fl => ⟨_, rfl, _, _, rfl, rfl, p16, l, _, _, _, rfl, rfl, SqL.of upd_same, at_int (ns := [1, 2, 3, 4, 5, 6, 7, 8, 9, 10, 11, 12, 12, 11, 10, 9]) r0 hx, k x _ hb.1 hb.2 (Same.new fl)⟩⟩
end
end Sw
namespace Sw
open PySem L2
section
variable {P : Program} {w : World} {K : PySem.W.Frag} {mg : Str → Option Value} {base : Heap}
inductive Sgd : Nat → List (List Int) → List Nat → Prop
  | nil : Sgd 0 [] []
  | new {i : Nat} {Ls : List (List Int)} {op : List Nat} : Sgd i Ls op → Sgd (i + 1) (Ls ++ [[(i : Int) + 1]]) (op ++ [Ls.length])
  | add {i : Nat} {Ls : List (List Int)} {op : List Nat} {k j : Nat} {L : List Int} : Sgd i Ls op → op[k]? = some j → Ls[j]? = some L → Sgd (i + 1) (Ls.set j (L ++ [(i : Int) + 1])) (op.take (k + 1))
theorem Sgd.lt {i : Nat} {Ls : List (List Int)} {op : List Nat} (h : Sgd i Ls op) : (∀ j ∈ op, j < Ls.length) ∧ op.length ≤ i ∧ Ls.length ≤ i := by
  induction h with
  | nil => exact ⟨by simp, Nat.le_refl _, Nat.le_refl _⟩
  | new h ih =>
    refine ⟨fun j hj => ?_, by rw [List.length_append, List.length_singleton]; omega, by rw [List.length_append, List.length_singleton]; omega⟩
    rw [List.length_append, List.length_singleton]
    rcases List.mem_append.mp hj with hj | hj
    · have := ih.1 j hj; omega
    · rw [List.mem_singleton.mp hj]; omega
  | add h e q ih =>
    refine ⟨fun j hj => ?_, by rw [List.length_take]; omega, by rw [List.length_set]; omega⟩
    rw [List.length_set]
    exact ih.1 j (List.mem_of_mem_take hj)
theorem Sgd.len {i : Nat} {Ls : List (List Int)} {op : List Nat} (h : Sgd i Ls op) : ∀ L ∈ Ls, L.length ≤ i := by
  induction h with
  | nil => exact fun _ h => (by cases h)
  | new h ih =>
    intro L hL
    rcases List.mem_append.mp hL with hL | hL
    · have := ih L hL; omega
    · rw [List.mem_singleton.mp hL, List.length_singleton]; omega
  | add h e q ih =>
    intro L hL
    rcases List.mem_or_eq_of_mem_set hL with hL | hL
    · have := ih L hL; omega
    · have := ih _ (List.mem_of_getElem? q)
      rw [hL, List.length_append, List.length_singleton]; omega
def spSgd : Sp := fun vs H Q _ => ∃ (z n : Int), vs = [.int z, .int n] ∧ 0 ≤ z ∧ 0 ≤ n ∧ n ≤ 100 ∧ ∀ l ws Ls op H', H l = none → H' l = some (.lst ws) → Lsts H' ws Ls → ws.Nodup → (∀ a, V.ref a ∈ ws → H a = none) → V.ref l ∉ ws → Sgd n.toNat Ls op → Same H H' → Q (.ref l) H'
theorem sc__law_sharing : FnScope ["_law_number_here", "_law_n", "_law_parts_told", "_law_open_ones", "_law_thing", "_law_way"] ["_law_number_here", "_law_n"] (defScope (top 13)) := ⟨rfl, rfl, rfl, by decide +kernel, rfl, by decide +kernel, by decide +kernel⟩
theorem ok_lsharing {f : Addr} {fd : FuncData} (F : Fun K "_law_sharing" "_law_sharing" (top 13) f fd) (T : T1 mg K) : FnOk P w K mg base CX0 1 f fd ["_law_number_here", "_law_n"] spSgd := by
  refine F.ok sc__law_sharing (fun vs H Q E h => ?_) (fun cdv A outer s H vs Q E hr h => ?_)
  · obtain ⟨z, n, rfl, _⟩ := h
    rfl
  · obtain ⟨z, n, rfl, z0, n0, n1, k⟩ := h
    refine ⟨_, (pss_cons (ps_set (i := 2) sc__law_sharing.nd rfl (Or.inl rfl) (pe_lst pa_nil))
      (pss_cons (ps_set (i := 3) sc__law_sharing.nd rfl (Or.inl rfl) (pe_lst pa_nil))
      (pss_cons (ps_for PassesOwn.never rfl (pi_range2 rfl T.b_range (pa_cons pe_int (pa_cons (pe_op op_add (pv 1) pe_int) pa_nil))) (pg_name (i := 4) sc__law_sharing.nd rfl (Or.inl rfl)) (pss_cons (ps_set (i := 5) sc__law_sharing.nd rfl (Or.inl rfl) (pe_op op_mod (pv 0) (pe_op op_add (pe_callB (call_lenK (K := K) rfl) rfl T.b_len (by decide +kernel) (pa_cons (pv 3) pa_nil)) pe_int)))
      (pss_cons (ps_set (i := 0) sc__law_sharing.nd rfl (Or.inl rfl) (pe_op op_fdivL (pv 0) (pe_op op_add (pe_callB (call_lenK (K := K) rfl) rfl T.b_len (by decide +kernel) (pa_cons (pv 3) pa_nil)) pe_int)))
      (pss_one (ps_if (pt_cmpR op_ge (pv 5) (pe_callB (call_lenK (K := K) rfl) rfl T.b_len (by decide +kernel) (pa_cons (pv 3) pa_nil)) (nomark _)) (pss_cons (ps_expr (pe_bmK (K := K) rfl PySem.F.plainAttrs_list PySem.F.slot_list_append PySem.F.type_list_append mt_append (pv 2) (pa_cons (pe_lst (pa_cons (pv 4) pa_nil)) pa_nil)))
      (pss_one (ps_expr (pe_bmK (K := K) rfl PySem.F.plainAttrs_list PySem.F.slot_list_append PySem.F.type_list_append mt_append (pv 3) (pa_cons (pe_op op_sub (pe_callB (call_lenK (K := K) rfl) rfl T.b_len (by decide +kernel) (pa_cons (pv 2) pa_nil)) pe_int) pa_nil))))) (pss_cons (ps_expr (pe_bmK (K := K) rfl PySem.F.plainAttrs_list PySem.F.slot_list_append PySem.F.type_list_append mt_append (pe_ix (ix_listK (K := K) rfl) (pv 2) (pe_ix (ix_listK (K := K) rfl) (pv 3) (pv 5) (fun _ _ => rfl)) (fun _ _ => rfl)) (pa_cons (pv 4) pa_nil)))
      (pss_one (ps_set (i := 3) sc__law_sharing.nd rfl (Or.inl rfl) (pe_slice (sl_listK (K := K) rfl) (pv 3) po_none (po_some (pe_op op_add (pv 5) pe_int)))))))))))
      (pss_one (ps_ret (pv 2)))))), ?_⟩
    have big : (10000000 : Nat) ≤ sizeLine := by decide
    refine ⟨Nat.zero_le _, fun l hl => ⟨Nat.zero_le _, fun lo hlo => ?_⟩⟩
    have s1 := (Same.new (o := .lst []) hl)
    have flo : H lo = none := s1.free hlo
    have nlo : l ≠ lo := ne_of_none (upd_same (H := H) (a := l) (o := .lst [])) hlo
    refine ⟨_, rfl, _, _, rfl, rfl, 1, n + 1, rfl, ⟨by decide, by decide, by omega, by omega⟩, ?_⟩
    refine for_range (fun i σ H' => ∃ z' ws Ls op o v4 v5, σ = [some (.int z'), some (.int n), some (.ref l), some (.ref o), v4, v5] ∧ 0 ≤ z' ∧ Same H H' ∧ H o = none ∧ H' l = some (.lst ws) ∧ Lsts H' ws Ls ∧ ws.Nodup ∧ (∀ a, V.ref a ∈ ws → H a = none) ∧ V.ref l ∉ ws ∧ V.ref o ∉ ws ∧ l ≠ o ∧ H' o = some (.lst ((op.map fun j : Nat => (j : Int)).map V.int)) ∧ Sgd i Ls op)
      ⟨z, [], [], [], lo, _, _, rfl, z0, s1.trans (Same.new hlo), flo, by rw [upd_ne nlo, upd_same], .nil, List.nodup_nil, fun _ h => (by cases h), fun h => (by cases h), fun h => (by cases h), nlo, upd_same, Sgd.nil⟩ ?_ ?_
    · rintro i σ H2 hi ⟨z', ws, Ls, op, o, v4, v5, rfl, z0', s2, fo, hL, xl, nd, fr, nl, no, nlo', hO, sg⟩
      obtain ⟨op1, op2, op3⟩ := sg.lt
      have wl := xl.length
      have ol : ((op.map fun j : Nat => (j : Int)).map V.int).length = op.length := by rw [List.length_map, List.length_map]
      have mpos : (0 : Int) < ((((op.map fun j : Nat => (j : Int)).map V.int).length : Nat) : Int) + 2 := by omega
      have m0 := Int.emod_nonneg z' (Int.ne_of_gt mpos)
      have m1 := Int.emod_lt_of_pos z' mpos
      have one1 : 1 ≤ sizeLine := by decide
      refine ⟨_, rfl, _, rfl, o, _, rfl, .inl (SqL.of hO), _, _, rfl, rfl, _, _, rfl, rfl, mpos, ?_⟩
      refine ⟨_, rfl, _, rfl, o, _, rfl, .inl (SqL.of hO), _, _, rfl, rfl, _, _, rfl, rfl, ⟨mpos, by omega⟩, ?_⟩
      have zz : 0 ≤ z' / ((((op.map fun j : Nat => (j : Int)).map V.int).length : Nat) + 2 : Int) := Int.ediv_nonneg z0' (by omega)
      refine ⟨_, rfl, _, rfl, o, _, rfl, .inl (SqL.of hO), _, _, rfl, rfl, _, rfl, ite2 (fun e => ?_) (fun e => ?_)⟩
      · refine ⟨_, rfl, .inl ⟨rfl, _, SqL.of hL⟩, _, rfl, one1, fun p hp => ?_⟩
        have s3 : Same H2 (upd H2 p (.lst [.int (1 + (i : Int))])) := Same.new hp
        have hP : upd H2 p (.lst [.int (1 + (i : Int))]) p = some (.lst ([1 + (i : Int)].map V.int)) := upd_same
        have hL3 := s3 _ _ hL
        have hO3 := s3 _ _ hO
        have xl3 := xl.keep s3
        have fp : H p = none := s2.free hp
        have npw : V.ref p ∉ ws := fun q => by
          obtain ⟨ns, e⟩ := xl.mem q
          rw [hp] at e; cases e
        have nlp : l ≠ p := ne_of_none hL hp
        have nop : o ≠ p := ne_of_none hO hp
        have s3 := s2.trans s3
        generalize upd H2 p (.lst [.int (1 + (i : Int))]) = H3 at s3 hP hL3 hO3 xl3 ⊢
        refine ⟨l, _, _, rfl, rfl, hL3, by omega, ?_⟩
        have hO4 : upd H3 l (.lst (ws ++ [.ref p])) o = some (.lst ((op.map fun j : Nat => (j : Int)).map V.int)) := by rw [upd_ne nlo'.symm]; exact hO3
        have hL4 : upd H3 l (.lst (ws ++ [.ref p])) l = some (.lst (ws ++ [.ref p])) := upd_same
        refine ⟨_, rfl, .inl ⟨rfl, _, SqL.of hO4⟩, _, rfl, l, _, rfl, .inl (SqL.of hL4), _, _, rfl, rfl, o, _, _, rfl, rfl, hO4, by omega, ?_⟩
        have xs := xl3.snoc hP
        rw [show (1 + (i : Int)) = (i : Int) + 1 from Int.add_comm _ _] at xs
        have nlw : V.ref l ∉ ws ++ [V.ref p] := fun q => by
          rcases List.mem_append.mp q with q | q
          · exact nl q
          · exact nlp (by injection List.mem_singleton.mp q)
        have now : V.ref o ∉ ws ++ [V.ref p] := fun q => by
          rcases List.mem_append.mp q with q | q
          · exact no q
          · exact nop (by injection List.mem_singleton.mp q)
        refine ⟨_, ws ++ [.ref p], Ls ++ [[(i : Int) + 1]], op ++ [Ls.length], o, _, _, rfl, zz, Same.put (Same.put s3 hl) fo, fo, ?_, (xs.off nlw).off now, ?_, ?_, nlw, now, nlo', ?_, sg.new⟩
        · rw [upd_ne nlo', upd_same]
        · exact List.nodup_append.mpr ⟨nd, List.nodup_cons.mpr ⟨by simp, List.nodup_nil⟩, fun x hx y hy e => npw (by rw [List.mem_singleton.mp hy] at e; rw [← e]; exact hx)⟩
        · intro a ha
          rcases List.mem_append.mp ha with ha | ha
          · exact fr a ha
          · rw [show a = p from by injection List.mem_singleton.mp ha]; exact fp
        · rw [upd_same, List.map_append, List.map_append, List.length_append, wl]
          congr 3
          show [V.int (((Ls.length + 1 : Nat) : Int) - 1)] = [V.int (Ls.length : Int)]
          rw [show (((Ls.length + 1 : Nat) : Int) - 1) = (Ls.length : Int) from by omega]
      · have e : ¬ ((((op.map fun j : Nat => (j : Int)).map V.int).length : Int) ≤ z' % ((((op.map fun j : Nat => (j : Int)).map V.int).length : Nat) + 2 : Int)) := by simpa using e
        obtain ⟨j, hj⟩ : ∃ j, op[(z' % ((((op.map fun j : Nat => (j : Int)).map V.int).length : Nat) + 2 : Int)).toNat]? = some j := ⟨_, List.getElem?_eq_getElem (by omega)⟩
        have jl := op1 j (List.mem_of_getElem? hj)
        obtain ⟨x, hx⟩ : ∃ x, ws[j]? = some x := ⟨_, List.getElem?_eq_getElem (by omega)⟩
        obtain ⟨a, L, rfl, hA, hL'⟩ := xl.get hx
        have aw : V.ref a ∈ ws := List.mem_of_getElem? hx
        have nla : l ≠ a := fun q => nl (by rw [q]; exact aw)
        have noa : o ≠ a := fun q => no (by rw [q]; exact aw)
        refine ⟨_, rfl, _, rfl, _, rfl, o, _, _, _, rfl, rfl, SqL.of hO, at_int (z := (j : Int)) m0 (by rw [List.getElem?_map, hj]; rfl), l, _, _, _, rfl, rfl, SqL.of hL, atI_nat hx, .inl ⟨rfl, _, SqL.of hA⟩, _, rfl, a, _, _, rfl, rfl, hA, ?_, ?_⟩
        · have := sg.len _ (List.mem_of_getElem? hL')
          rw [List.length_map]; omega
        have hO3 : upd H2 a (.lst (L.map V.int ++ [.int (1 + (i : Int))])) o = some (.lst ((op.map fun j : Nat => (j : Int)).map V.int)) := by rw [upd_ne noa]; exact hO
        have hL3 : upd H2 a (.lst (L.map V.int ++ [.int (1 + (i : Int))])) l = some (.lst ws) := by rw [upd_ne nla]; exact hL
        have ea : L.map V.int ++ [V.int (1 + (i : Int))] = (L ++ [(i : Int) + 1]).map V.int := by rw [List.map_append, show (1 + (i : Int)) = (i : Int) + 1 from Int.add_comm _ _]; rfl
        have xl3 : Lsts (upd H2 a (.lst (L.map V.int ++ [.int (1 + (i : Int))]))) ws (Ls.set j (L ++ [(i : Int) + 1])) := by rw [ea]; exact xl.set nd hx
        have s3 : Same H (upd H2 a (.lst (L.map V.int ++ [.int (1 + (i : Int))]))) := Same.put s2 (fr a aw)
        generalize upd H2 a (.lst (L.map V.int ++ [.int (1 + (i : Int))])) = H3 at hO3 hL3 xl3 s3 ⊢
        refine ⟨_, rfl, _, rfl, _, _, rfl, rfl, _, rfl, o, _, rfl, SqL.of hO3, fun p hp => ?_⟩
        have npw : V.ref p ∉ ws := fun q => by
          obtain ⟨ns, e⟩ := xl3.mem q
          rw [hp] at e; cases e
        have nlp : l ≠ p := ne_of_none hL3 hp
        have s4 := fun v => s3.trans (Same.new (o := .lst v) hp)
        refine ⟨_, ws, Ls.set j (L ++ [(i : Int) + 1]), op.take ((z' % ((((op.map fun j : Nat => (j : Int)).map V.int).length : Nat) + 2 : Int)).toNat + 1), p, _, _, rfl, zz, s4 _, s3.free hp, ?_, xl3.off npw, nd, fr, nl, npw, nlp, ?_, sg.add hj hL'⟩
        · rw [upd_ne nlp]; exact hL3
        · rw [upd_same]
          show some (HO.lst (cutV ((op.map fun j : Nat => (j : Int)).map V.int) none (some (_ + 1)))) = _
          rw [cutT9 (by omega) (by omega), List.map_take, List.map_take]
          congr 3
          omega
    · rintro σ H2 ⟨z', ws, Ls, op, o, v4, v5, rfl, z0', s2, fo, hL, xl, nd, fr, nl, no, nlo', hO, sg⟩
      refine ⟨_, rfl, k l ws Ls op H2 hl hL xl nd fr nl (by rw [show (n + 1 - 1) = n from by omega] at sg; exact sg) s2⟩
end
end Sw
namespace Sw
open PySem L2
theorem Lsts.offI {H : Hp} {a : Addr} {o : HO} : ∀ {vs : List V} {Ls : List (List Int)}, Lsts H vs Ls → V.ref a ∉ vs → Lsts (upd H a o) vs Ls
  | _, _, .nil, _ => .nil
  | _, _, .cons (a := b) h x, n => by
    have : b ≠ a := fun z => n (by rw [z]; exact List.mem_cons_self)
    exact .cons (by rw [upd_ne this]; exact h) (x.offI fun z => n (List.mem_cons_of_mem _ z))
theorem Lsts.putI {H : Hp} {a : Addr} {M : List Int} : ∀ {vs : List V} {Ls : List (List Int)} (i : Nat), Lsts H vs Ls → vs.Nodup → vs[i]? = some (.ref a) → Lsts (upd H a (.lst (M.map V.int))) vs (Ls.set i M)
  | _, _, i, .nil, _, h => by simp at h
  | _, _, 0, .cons h x, nd, e => by
    injection e with e
    injection e with e
    subst e
    exact .cons upd_same (x.offI (List.nodup_cons.mp nd).1)
  | _, _, i + 1, .cons (a := b) h x, nd, e => by
    have nd' := List.nodup_cons.mp nd
    have : b ≠ a := fun z => nd'.1 (by rw [z]; exact List.mem_of_getElem? e)
    exact .cons (by rw [upd_ne this]; exact h) (Lsts.putI i x nd'.2 e)
theorem Lsts.dtsI {H : Hp} {P : Addr → Prop} (hP : ∀ a, P a) : ∀ {vs : List V} {Ls : List (List Int)}, Lsts H vs Ls → DTs H P vs (Ls.map fun L => PyData.list (L.map PyData.int))
  | _, _, .nil => .nil
  | _, _, .cons h x => .cons (.lst h (hP _) (DTs.ints _)) (x.dtsI hP)
theorem set_flat (M : List Int) : ∀ (Ls : List (List Int)) (i : Nat), (Ls.set i M).flatten.length ≤ Ls.flatten.length + M.length
  | [], i => by simp
  | L :: Ls, 0 => by rw [List.set_cons_zero, List.flatten_cons, List.flatten_cons, List.length_append, List.length_append]; omega
  | L :: Ls, i + 1 => by
    have := set_flat M Ls i
    rw [List.set_cons_succ, List.flatten_cons, List.flatten_cons, List.length_append, List.length_append]; omega
theorem mem_flatI {L : List Int} : ∀ {Ls : List (List Int)}, L ∈ Ls → L.length ≤ Ls.flatten.length
  | M :: Ls, h => by
    rw [List.flatten_cons, List.length_append]
    rcases List.mem_cons.mp h with rfl | h
    · omega
    · have := mem_flatI h; omega
def OkB (d : PyData) : Prop := Few2 d ∧ Nice 10 d
theorem few_sh {Ls : List (List Int)} (h1 : Ls.length ≤ 60) (h2 : Ls.flatten.length ≤ 60) : Few2 (shD Ls) := fun ds e => by
  injection e with e
  subst e
  rw [List.length_map, List.map_map]
  have e2 : (lenI ∘ fun L : List Int => PyData.list (L.map PyData.int)) = List.length := funext fun L => List.length_map ..
  rw [e2, ← List.length_flatten]
  exact ⟨h1, h2⟩
theorem nice_sh (Ls : List (List Int)) : Nice 2 (shD Ls) := nice_list fun d hd => by
  obtain ⟨L, _, rfl⟩ := List.mem_map.mp hd
  exact nice_list (nice_ints L)
theorem ok_sh {Ls : List (List Int)} (h1 : Ls.length ≤ 60) (h2 : Ls.flatten.length ≤ 60) : OkB (shD Ls) := ⟨few_sh h1 h2, (nice_sh Ls).mono (by decide)⟩
def SmL (Ls : List (List Int)) : Prop := Ls ≠ [] ∧ (∀ L ∈ Ls, L ≠ []) ∧ Ls.length ≤ 12 ∧ Ls.flatten.length ≤ 12 ∧ ∀ x ∈ Ls.flatten, 1 ≤ x ∧ x ≤ 12
def spMvT : Sp := fun vs H Q _ => ∃ (l : Addr) (ws : List V) (Ls : List (List Int)) (z : Int), vs = [.ref l, .int z] ∧ H l = some (.lst ws) ∧ Lsts H ws Ls ∧ SmL Ls ∧ 0 ≤ z ∧ ∀ v d H', DT H' (fun _ => True) v d → OkB d → Same H H' → Q v H'
structure TMvT (mg : Str → Option Value) (K : PySem.W.Frag) : Prop extends T1 mg K where
  b_sorted : mg "sorted" = none
section
variable {P : Program} {w : World} {K : PySem.W.Frag} {mg : Str → Option Value} {base : Heap}
theorem sc__law_moved_thing : FnScope ["_law_sharing_here", "_law_number_here", "_law_parts_told", "_law_at", "_law_spot", "_law_thing", "_law_goal"] ["_law_sharing_here", "_law_number_here"] (defScope (top 17)) := ⟨rfl, rfl, rfl, by decide +kernel, rfl, by decide +kernel, by decide +kernel⟩
theorem ok_mvt {f : Addr} {fd : FuncData} (F : Fun K "_law_moved_thing" "_law_moved_thing" (top 17) f fd) (T : TMvT mg K) : FnOk P w K mg base CX0 1 f fd ["_law_sharing_here", "_law_number_here"] spMvT := by
  refine F.ok sc__law_moved_thing (fun vs H Q E h => ?_) (fun cdv A outer s H vs Q E hr h => ?_)
  · obtain ⟨l, ws, Ls, z, rfl, _⟩ := h
    rfl
  · obtain ⟨l, ws, Ls, z, rfl, hl, xl, ⟨ne, nes, lb, fb, _⟩, z0, k⟩ := h
    refine ⟨_, (pss_cons (ps_comp (i := 2) sc__law_moved_thing.nd rfl rfl (N := (["_law_part"] : List Str)) (ix := ([none] : List (Option Nat))) (comp_ok rfl rfl) rfl (pi_listK (K := K) rfl (pv 0)) (fun _ _ _ _ => (pg_name (i := 0) (show List.Nodup (["_law_part"] : List Str) from by decide +kernel) rfl (Or.inl rfl))) (fun _ _ _ _ => pif_nil) (fun _ _ _ _ => (pe_callTy (call_list_ofK (K := K) rfl) rfl T.b_list (by decide +kernel) (pa_cons (pv 0) pa_nil))))
      (pss_cons (ps_set (i := 3) sc__law_moved_thing.nd rfl (Or.inl rfl) (pe_op op_mod (pe_op op_mod (pv 1) pe_int) (pe_callB (call_lenK (K := K) rfl) rfl T.b_len (by decide +kernel) (pa_cons (pv 2) pa_nil))))
      (pss_cons (ps_set (i := 4) sc__law_moved_thing.nd rfl (Or.inl rfl) (pe_op op_mod (pe_op op_mod (pe_op op_fdivL (pv 1) pe_int) pe_int) (pe_callB (call_lenK (K := K) rfl) rfl T.b_len (by decide +kernel) (pa_cons (pe_ix (ix_listK (K := K) rfl) (pv 2) (pv 3) (fun _ _ => rfl)) pa_nil))))
      (pss_cons (ps_set (i := 5) sc__law_moved_thing.nd rfl (Or.inl rfl) (pe_bmK (K := K) rfl PySem.F.plainAttrs_list PySem.F.slot_list_pop PySem.F.type_list_pop mt_popAt (pe_ix (ix_listK (K := K) rfl) (pv 2) (pv 3) (fun _ _ => rfl)) (pa_cons (pv 4) pa_nil)))
      (pss_cons (ps_set (i := 6) sc__law_moved_thing.nd rfl (Or.inl rfl) (pe_op op_mod (pe_op op_mod (pe_op op_fdivL (pv 1) pe_int) pe_int) (pe_op op_add (pe_callB (call_lenK (K := K) rfl) rfl T.b_len (by decide +kernel) (pa_cons (pv 2) pa_nil)) pe_int)))
      (pss_cons (ps_if (pt_cmpR op_eq (pv 6) (pe_callB (call_lenK (K := K) rfl) rfl T.b_len (by decide +kernel) (pa_cons (pv 2) pa_nil)) (nomark _)) (pss_one (ps_expr (pe_bmK (K := K) rfl PySem.F.plainAttrs_list PySem.F.slot_list_append PySem.F.type_list_append mt_append (pv 2) (pa_cons (pe_lst pa_nil) pa_nil)))) pss_nil)
      (pss_cons (ps_expr (pe_bmK (K := K) rfl PySem.F.plainAttrs_list PySem.F.slot_list_append PySem.F.type_list_append mt_append (pe_ix (ix_listK (K := K) rfl) (pv 2) (pv 6) (fun _ _ => rfl)) (pa_cons (pv 5) pa_nil)))
      (pss_one (ps_ret (pe_callB (call_sortedLL (K := K) rfl hr.units) rfl T.b_sorted (by decide +kernel) (pa_cons (pe_comp (N := (["_law_part"] : List Str)) (ix := ([none] : List (Option Nat))) (comp_ok rfl rfl) rfl (pi_listK (K := K) rfl (pv 2)) (fun _ _ _ _ => (pg_name (i := 0) (show List.Nodup (["_law_part"] : List Str) from by decide +kernel) rfl (Or.inl rfl))) (fun _ _ _ _ => (pif_one (pt_cmpR (op_neDI (K := K) rfl hr.units) (pv 0) (pe_lst pa_nil) (nomark _)))) (fun _ _ _ _ => (pe_callB (call_sorted (K := K) rfl) rfl T.b_sorted (by decide +kernel) (pa_cons (pv 0) pa_nil)))) pa_nil))))))))))), ?_⟩
    have big : (10000000 : Nat) ≤ sizeLine := by decide
    have wl := xl.length
    have lp := List.length_pos_iff.mpr ne
    refine ⟨_, rfl, l, rfl, ⟨_, SqL.of hl⟩, compL (K := K) (a := l) (xs := ws) (k := 0) (fun j ys σ' H' => (∃ v, σ' = [v]) ∧ Same H H' ∧ Lsts H' ys (Ls.take j) ∧ ys.length = j ∧ Fresh H ys) (by omega) ⟨⟨none, rfl⟩, Same.refl _, .nil, rfl, Fresh.nil⟩ (fun j ys σ' H' _ q => SqL.of (q.2.1 _ _ hl)) (fun j ys σ' H' q => Nat.le_of_eq q.2.2.2.1) ?_ ?_⟩
    · rintro j ys σ' H1 x R hx ⟨⟨v, rfl⟩, s1, x1, l1, f1⟩ done
      obtain ⟨b, L, rfl, hb, hL⟩ := (xl.keep s1).get hx
      refine ⟨_, rfl, b, _, rfl, .inl (SqL.of hb), fun q fq => done _ _ _ ⟨⟨_, rfl⟩, s1.trans (Same.new fq), ?_, by rw [List.length_append, l1]; rfl, f1.snoc x1 fq (s1.free fq)⟩⟩
      rw [take_snoc hL]
      exact (x1.keep (Same.new fq)).snoc upd_same
    rintro ps σ' H1 lp' ⟨_, s1, x1, l1, fr⟩ flp
    rw [List.take_of_length_le (by omega)] at x1
    have s2 : Same H1 (upd H1 lp' (.lst ps)) := Same.new flp
    have hp2 : upd H1 lp' (.lst ps) lp' = some (.lst ps) := upd_same
    have x2 := x1.keep s2
    have npp : V.ref lp' ∉ ps := fun z => by
      obtain ⟨ns, e⟩ := x1.mem z
      rw [flp] at e; cases e
    have fp0 : H lp' = none := s1.free flp
    generalize upd H1 lp' (.lst ps) = H2 at s2 hp2 x2 ⊢
    have S2 := s1.trans s2
    have pl : ps.length = Ls.length := x2.length
    obtain ⟨at', hat⟩ : ∃ a : Int, z % 12 % (ps.length : Int) = a := ⟨_, rfl⟩
    have a0 : 0 ≤ at' := by rw [← hat]; exact Int.emod_nonneg _ (by omega)
    have a1 : at' < ps.length := by rw [← hat]; exact Int.emod_lt_of_pos _ (by omega)
    refine ⟨_, rfl, _, _, rfl, rfl, (show (0 : Int) < 12 by decide), _, rfl, lp', _, rfl, .inl (SqL.of hp2), _, _, rfl, rfl, by omega, ?_⟩
    refine gNJ ?_
    dsimp only
    rw [hat]
    obtain ⟨u, hu⟩ : ∃ u, ps[at'.toNat]? = some u := ⟨_, List.getElem?_eq_getElem (by omega)⟩
    obtain ⟨b, L, rfl, hb, hL⟩ := x2.get hu
    have Ln := List.length_pos_iff.mpr (nes L (List.mem_of_getElem? hL))
    have Lb := mem_flatI (List.mem_of_getElem? hL)
    obtain ⟨sp, hsp⟩ : ∃ a : Int, z / 12 % 12 % (L.length : Int) = a := ⟨_, rfl⟩
    have p0 : 0 ≤ sp := by rw [← hsp]; exact Int.emod_nonneg _ (by omega)
    have p1 : sp < L.length := by rw [← hsp]; exact Int.emod_lt_of_pos _ (by omega)
    refine ⟨_, rfl, _, _, rfl, rfl, ⟨by decide, by decide⟩, _, _, rfl, rfl, (show (0 : Int) < 12 by decide), _, rfl, _, rfl, lp', _, _, _, rfl, rfl, SqL.of hp2, at_refI a0 hu, b, _, rfl, .inl (SqL.of hb), _, _, rfl, rfl, by rw [List.length_map]; omega, ?_⟩
    refine gNJ ?_
    dsimp only
    rw [List.length_map, hsp]
    obtain ⟨y, hy⟩ := get_lt (ns := L) (k := sp.toNat) (by omega)
    refine ⟨_, rfl, _, rfl, lp', _, _, _, rfl, rfl, SqL.of hp2, at_refI a0 hu, .inl ⟨rfl, _, SqL.of hb⟩, _, rfl, b, _, sp, sp.toNat, _, rfl, rfl, hb, by omega, by omega, (ixN_seq (ixN_lt p0 (by rw [List.length_map]; exact p1))).1, map_get hy, ?_⟩
    have nbp : b ≠ lp' := fun z => npp (by rw [← z]; exact List.mem_of_getElem? hu)
    have hp3 : upd H2 b (.lst ((L.eraseIdx sp.toNat).map V.int)) lp' = some (.lst ps) := by rw [upd_ne nbp.symm]; exact hp2
    have x3 := x2.putI (M := L.eraseIdx sp.toNat) at'.toNat fr.1 hu
    have frO : ∀ a, V.ref a ∈ ps → H a = none := fun a h => by
      obtain ⟨a', e, h'⟩ := fr.2 _ h
      injection e with e
      rw [e]; exact h'
    have S3 : Same H (upd H2 b (.lst ((L.eraseIdx sp.toNat).map V.int))) := Same.put S2 (frO b (List.mem_of_getElem? hu))
    rw [eraseIdx_map]
    generalize upd H2 b (.lst ((L.eraseIdx sp.toNat).map V.int)) = H3 at hp3 x3 S3 ⊢
    have l3 : (Ls.set at'.toNat (L.eraseIdx sp.toNat)).length = ps.length := by rw [List.length_set]; omega
    have f3 : (Ls.set at'.toNat (L.eraseIdx sp.toNat)).flatten.length ≤ 24 := by
      have := set_flat (L.eraseIdx sp.toNat) Ls at'.toNat
      have : (L.eraseIdx sp.toNat).length ≤ L.length := List.length_eraseIdx_le ..
      omega
    generalize Ls.set at'.toNat (L.eraseIdx sp.toNat) = Ls3 at x3 l3 f3
    refine gNJ ?_
    dsimp only
    obtain ⟨go', hgo⟩ : ∃ a : Int, z / 144 % 13 % ((ps.length : Int) + 1) = a := ⟨_, rfl⟩
    have g0 : 0 ≤ go' := by rw [← hgo]; exact Int.emod_nonneg _ (by omega)
    have g1 : go' < (ps.length : Int) + 1 := by rw [← hgo]; exact Int.emod_lt_of_pos _ (by omega)
    refine ⟨_, rfl, _, _, rfl, rfl, ⟨by decide, by decide⟩, _, _, rfl, rfl, (show (0 : Int) < 13 by decide), _, rfl, lp', _, rfl, .inl (SqL.of hp3), _, _, rfl, rfl, _, _, rfl, rfl, by omega, ?_⟩
    refine gNJ ?_
    dsimp only
    rw [hgo]
    refine seq_byJ (t := tIfS _ _ _) (fun σ' H' => ∃ ps' Ls', σ' = [some (.ref l), some (.int z), some (.ref lp'), some (.int at'), some (.int sp), some (.int y), some (.int go')] ∧ H' lp' = some (.lst ps') ∧ Lsts H' ps' Ls' ∧ ps'.Nodup ∧ V.ref lp' ∉ ps' ∧ go' < ps'.length ∧ ps'.length ≤ 13 ∧ Ls'.flatten.length ≤ 24 ∧ Same H H' ∧ ∀ a, V.ref a ∈ ps' → H a = none) (fun D' hD => ?_) ?_
    · refine ⟨_, rfl, _, rfl, lp', _, rfl, .inl (SqL.of hp3), rfl, _, rfl, ?_⟩
      by_cases c : go' = (ps.length : Int)
      · refine iteP (decide_eq_true (by rw [c])) ?_
        refine ⟨_, rfl, .inl ⟨rfl, _, SqL.of hp3⟩, Nat.zero_le _, fun ln fln => ?_⟩
        have z4 : Same H3 (upd H3 ln (.lst [])) := Same.new fln
        have h4 : upd H3 ln (.lst []) ln = some (.lst (([] : List Int).map V.int)) := upd_same
        have nln : ln ≠ lp' := (ne_of_none hp3 fln).symm
        have nlp : V.ref ln ∉ ps := fun z => by
          obtain ⟨ns, e⟩ := x3.mem z
          rw [fln] at e; cases e
        generalize upd H3 ln (.lst []) = H4 at z4 h4 ⊢
        refine ⟨lp', _, _, rfl, rfl, z4 _ _ hp3, by omega, ?_⟩
        refine hD _ _ ⟨ps ++ [.ref ln], Ls3 ++ [[]], rfl, upd_same, (((x3.keep z4).offI npp).snoc (by rw [upd_ne nln]; exact h4)), List.nodup_append.mpr ⟨fr.1, by simp, fun v hv u hu e => by rw [List.mem_singleton.mp hu] at e; subst e; exact nlp hv⟩, fun z => ?_, by rw [List.length_append]; show go' < ((ps.length + 1 : Nat) : Int); omega, by rw [List.length_append]; show _ + 1 ≤ 13; omega, by rw [List.flatten_append, List.length_append]; show _ + 0 ≤ 24; omega, Same.put (S3.trans z4) fp0, fun a h => ?_⟩
        · rcases List.mem_append.mp z with z | z
          · exact npp z
          · have := List.mem_singleton.mp z
            injection this with this
            exact nln this.symm
        · rcases List.mem_append.mp h with h | h
          · exact frO a h
          · have := List.mem_singleton.mp h
            injection this with this
            subst this
            exact S3.free fln
      · refine iteE (decide_eq_false fun z => c (V.int.inj z)) ?_
        exact hD _ _ ⟨ps, Ls3, rfl, hp3, x3, fr.1, npp, by omega, by omega, by omega, S3, frO⟩
    rintro σ H4 ⟨ps', Ls', rfl, hp4, x4, nd4, npp4, gl, l13, f4, S4, fr4⟩
    have pl4 := x4.length
    obtain ⟨u4, hu4⟩ : ∃ u, ps'[go'.toNat]? = some u := ⟨_, List.getElem?_eq_getElem (by omega)⟩
    obtain ⟨b4, L4, rfl, hb4, hL4⟩ := x4.get hu4
    have Lb4 := mem_flatI (List.mem_of_getElem? hL4)
    have nb4 : b4 ≠ lp' := fun z => npp4 (by rw [← z]; exact List.mem_of_getElem? hu4)
    refine ⟨_, rfl, _, rfl, lp', _, _, _, rfl, rfl, SqL.of hp4, at_refI g0 hu4, .inl ⟨rfl, _, SqL.of hb4⟩, _, rfl, b4, _, _, rfl, rfl, hb4, by rw [List.length_map]; omega, ?_⟩
    have e5 : L4.map V.int ++ [.int y] = (L4 ++ [y]).map V.int := by rw [List.map_append]; rfl
    rw [e5]
    have x5 := x4.putI (M := L4 ++ [y]) go'.toNat nd4 hu4
    have hp5 : upd H4 b4 (.lst ((L4 ++ [y]).map V.int)) lp' = some (.lst ps') := by rw [upd_ne nb4.symm]; exact hp4
    have S5 : Same H (upd H4 b4 (.lst ((L4 ++ [y]).map V.int))) := Same.put S4 (fr4 b4 (List.mem_of_getElem? hu4))
    have l5 : (Ls'.set go'.toNat (L4 ++ [y])).length ≤ 13 := by rw [List.length_set]; omega
    have f5 : (Ls'.set go'.toNat (L4 ++ [y])).flatten.length ≤ 49 := by
      have := set_flat (L4 ++ [y]) Ls' go'.toNat
      rw [List.length_append] at this
      have : (L4 ++ [y]).length = L4.length + 1 := by rw [List.length_append]; rfl
      have : [y].length = 1 := rfl
      omega
    generalize upd H4 b4 (.lst ((L4 ++ [y]).map V.int)) = H5 at x5 hp5 S5 ⊢
    generalize Ls'.set go'.toNat (L4 ++ [y]) = Ls5 at x5 l5 f5
    have pl5 := x5.length
    refine ⟨_, rfl, lp', rfl, ⟨_, SqL.of hp5⟩, compLif (K := K) (a := lp') (xs := ps') (k := 0) (fun i zs σ' H' => (∃ v, σ' = [v]) ∧ Same H5 H' ∧ zs.length ≤ i ∧ ∃ Ms : List (List Int), Lsts H' zs Ms ∧ Ms.flatten.length ≤ (Ls5.take i).flatten.length ∧ i ≤ 13) (by omega) ⟨⟨none, rfl⟩, Same.refl _, Nat.zero_le _, [], .nil, Nat.zero_le _, by decide⟩ (fun i zs σ' H' _ q => SqL.of (q.2.1 _ _ hp5)) (fun i zs σ' H' q => q.2.2.1) ?_ ?_⟩
    · rintro i zs σ' H6 x R hx ⟨⟨v, rfl⟩, s6, zl, Ms, xm, fm, i13⟩ done
      obtain ⟨c, M, rfl, hc, hM⟩ := (x5.keep s6).get hx
      have il := (List.getElem?_eq_some_iff.mp hx).1
      have Mb := mem_flatI (List.mem_of_getElem? hM)
      have tk : (Ls5.take (i + 1)).flatten.length = (Ls5.take i).flatten.length + M.length := by rw [take_snoc hM, List.flatten_append, List.length_append, List.flatten_cons, List.flatten_nil, List.append_nil]
      refine ⟨_, rfl, Nat.zero_le _, fun le fle => ?_⟩
      have z7 : Same H6 (upd H6 le (.lst [])) := Same.new fle
      have h7 : upd H6 le (.lst []) le = some (.lst (([] : List Int).map V.int)) := upd_same
      generalize upd H6 le (.lst []) = H7 at z7 h7 ⊢
      refine neLI (z7 _ _ hc) h7 ⟨_, rfl, ite2 (fun cc => ?_) (fun cc => ?_)⟩
      · refine ⟨_, rfl, c, M, rfl, SqL.of (z7 _ _ hc), by omega, fun l' ns' f' pm pw => done _ _ _ ⟨⟨_, rfl⟩, s6.trans (z7.trans (Same.new f')), by rw [List.length_append]; show _ + 1 ≤ _; omega, Ms ++ [ns'], ((xm.keep z7).keep (Same.new f')).snoc upd_same, ?_, by omega⟩⟩
        rw [List.flatten_append, List.length_append, List.flatten_cons, List.flatten_nil, List.append_nil, pm.length_eq, tk]
        omega
      · exact done _ _ _ ⟨⟨_, rfl⟩, s6.trans z7, by omega, Ms, xm.keep z7, by omega, by omega⟩
    rintro zs σ' H6 lq ⟨_, s6, zl, Ms, xm, fm, _⟩ flq
    rw [List.take_of_length_le (by omega)] at fm
    have z7 : Same H6 (upd H6 lq (.lst zs)) := Same.new flq
    have ml := xm.length
    refine sortLB upd_same (xm.keep z7) (by omega) fun l9 us Ns H9 f9 h9 x9 p9 s9 _ _ _ _ => ?_
    refine k (.ref l9) (shD Ns) H9 (.lst h9 True.intro (x9.dtsI fun _ => True.intro)) (ok_sh ?_ ?_) ((S5.trans s6).trans (z7.trans s9))
    · rw [p9.length_eq]; omega
    · rw [p9.flatten.length_eq]; omega
end
end Sw
namespace L2
open PySem PySem.Spec PyProof.Rows
inductive One (x0 : Str) : List (Str × NameKind) → Prop
  | here {r : List (Str × NameKind)} : (∀ y ∈ r, y.2 ≠ .cell) → One x0 ((x0, .cell) :: r)
  | skip {n : Str} {k : NameKind} {r : List (Str × NameKind)} : k ≠ .cell → One x0 r → One x0 ((n, k) :: r)
structure CompOkK (X : Cx) (scope : Scope) (N : List Str) (ix : List (Option Nat)) (x0 : Str) : Prop where
  kind : scope.kind = .function
  own : One x0 scope.names
  nof : (x0, NameKind.free) ∉ scope.names
  len : ix.length = N.length
  names : ∀ y ∈ scope.names, y.2 = .local → scope.names.lookup y.1 = some .local
  fr : ∀ y ∈ scope.names, y.2 = .free → X.env.kindOf y.1 = some .cell ∨ X.env.kindOf y.1 = some .free
  cap : ∀ (j i : Nat), ix[j]? = some (some i) → ∃ x : Str, N[j]? = some x ∧ X.N[i]? = some x ∧ scope.names.lookup x = some .free ∧ (x, NameKind.free) ∈ scope.names
end L2
namespace Sw
open PySem L2
def spBp : Sp := fun vs H Q _ => ∃ (b : Addr) (L : List Int) (wy z : Int), vs = [.ref b, .int wy, .int z] ∧ H b = some (.lst (L.map V.int)) ∧ L ≠ [] ∧ L.length ≤ 12 ∧ (∀ x ∈ L, 1 ≤ x ∧ x ≤ 12) ∧ 0 ≤ wy ∧ wy < 10 ∧ 0 ≤ z ∧ ∀ v d H', DT H' (fun _ => True) v d → lenI d ≤ 13 → Nice 5 d → Same H H' → Q v H'
structure TBp (mg : Str → Option Value) (K : PySem.W.Frag) : Prop extends T1 mg K where
  b_str : mg "str" = none
theorem str_small {y : Int} (h1 : 1 ≤ y) (h2 : y ≤ 12) : PyData.strOk (Str.ofString (toString y)) = true := by
  have : y = 1 ∨ y = 2 ∨ y = 3 ∨ y = 4 ∨ y = 5 ∨ y = 6 ∨ y = 7 ∨ y = 8 ∨ y = 9 ∨ y = 10 ∨ y = 11 ∨ y = 12 := by omega
  rcases this with rfl | rfl | rfl | rfl | rfl | rfl | rfl | rfl | rfl | rfl | rfl | rfl <;> decide +kernel
theorem DTs.revI {H : Hp} {P : Addr → Prop} : ∀ {us : List V} {ds : List PyData}, DTs H P us ds → DTs H P us.reverse ds.reverse
  | _, _, .nil => .nil
  | _, _, .cons h r => by rw [List.reverse_cons, List.reverse_cons]; exact (DTs.revI r).snoc h
def spBn : Sp := fun vs H Q _ => ∃ (l : Addr) (ws : List V) (Ls : List (List Int)) (wy z : Int), vs = [.ref l, .int wy, .int z] ∧ H l = some (.lst ws) ∧ Lsts H ws Ls ∧ SmL Ls ∧ 0 ≤ wy ∧ wy < 20 ∧ 0 ≤ z ∧ ∀ v d H', DT H' (fun _ => True) v d → OkB d → Same H H' → Q v H'
structure TBn (P : Program) (w : World) (K : PySem.W.Frag) (mg : Str → Option Value) (base : Heap) : Prop extends T1 mg K where
  b_sorted : mg "sorted" = none
  b_set : mg "set" = none
  f__law_moved_thing : FnAt P w K mg base "_law_moved_thing" 1 ["_law_sharing_here", "_law_number_here"] spMvT
  f__law_bent_part : FnAt P w K mg base "_law_bent_part" 1 ["_law_part", "_law_way", "_law_number_here"] spBp
section
variable {P : Program} {w : World} {K : PySem.W.Frag} {mg : Str → Option Value} {base : Heap}
theorem sc__law_bent_part : FnScope ["_law_part", "_law_way", "_law_number_here", "_law_one", "_law_some"] ["_law_part", "_law_way", "_law_number_here"] (defScope (top 18)) := ⟨rfl, rfl, rfl, by decide +kernel, rfl, by decide +kernel, by decide +kernel⟩
theorem ok_bp {f : Addr} {fd : FuncData} (F : Fun K "_law_bent_part" "_law_bent_part" (top 18) f fd) (T : TBp mg K) : FnOk P w K mg base CX0 1 f fd ["_law_part", "_law_way", "_law_number_here"] spBp := by
  refine F.ok sc__law_bent_part (fun vs H Q E h => ?_) (fun cdv A outer s H vs Q E hr h => ?_)
  · obtain ⟨b, L, wy, z, rfl, _⟩ := h
    rfl
  · obtain ⟨b, L, wy, z, rfl, hb, ne, lb, bd, w0, w1, z0, k⟩ := h
    refine ⟨_, (@pss_cons _ _ _ _ _ (ps_set (i := 3) sc__law_bent_part.nd rfl (Or.inl rfl) (pe_ix (ix_listK (K := K) rfl) (pv 0) (pe_op op_mod (pe_op op_mod (pv 2) pe_int) (pe_callB (call_lenK (K := K) rfl) rfl T.b_len (by decide +kernel) (pa_cons (pv 0) pa_nil))) (fun _ _ => rfl)))
      (@pss_cons _ _ _ _ _ (@ps_set _ _ 4 _ _ _ _ sc__law_bent_part.nd rfl (Or.inl rfl) (@pe_lst _ _ _ _ (@pa_cons _ _ _ _ _ (pe_op op_cat (pe_revL (pv 0)) (pe_lst (pa_cons (pv 3) pa_nil))) (@pa_cons _ _ _ _ _ (pe_lst pa_nil) (@pa_cons _ _ _ _ _ (pe_callTy (call_tuple_ofK (K := K) rfl) rfl T.b_tuple (by decide +kernel) (pa_cons (pv 0) pa_nil)) (@pa_cons _ _ _ _ _ pe_non (@pa_cons _ _ _ _ _ (pe_op op_cat (pe_lst (pa_cons pe_int pa_nil)) (pv 0)) (@pa_cons _ _ _ _ _ (pe_op op_cat (pv 0) (pe_lst (pa_cons pe_int pa_nil))) (@pa_cons _ _ _ _ _ (pe_op op_cat (pe_lst (pa_cons (pe_cmpR op_gt (pv 3) pe_int (nomark _)) pa_nil)) (pv 0)) pa_nil st_bin) st_bin) st_bin) st_con) st_call) st_list) st_bin)) (by rfl) (by first | exact .inl rfl | exact .inr rfl))
      (pss_cons (ps_set (i := 4) sc__law_bent_part.nd rfl (Or.inl rfl) (pe_op op_cat (pv 4) (pe_lst (@pa_cons _ _ _ _ _ (pe_lst (pa_cons (pe_callTy call_str_int rfl T.b_str (by decide +kernel) (pa_cons (pv 3) pa_nil)) pa_nil)) (@pa_cons _ _ _ _ _ (pe_lst (pa_cons pe_non pa_nil)) (@pa_cons _ _ _ _ _ (pv 3) pa_nil st_name) st_list) st_list))))
      (pss_one (ps_ret (pe_ix (ix_listK (K := K) rfl) (pv 4) (pv 1) (fun _ _ => rfl))))))), ?_⟩
    have big : (10000000 : Nat) ≤ sizeLine := by decide
    have one : 1 ≤ sizeLine := by decide
    have Ln := List.length_pos_iff.mpr ne
    obtain ⟨sp, hsp⟩ : ∃ a : Int, z % 12 % (L.length : Int) = a := ⟨_, rfl⟩
    have p0 : 0 ≤ sp := by rw [← hsp]; exact Int.emod_nonneg _ (by omega)
    have p1 : sp < L.length := by rw [← hsp]; exact Int.emod_lt_of_pos _ (by omega)
    obtain ⟨y, hy⟩ := get_lt (ns := L) (k := sp.toNat) (by omega)
    have yb := bd y (List.mem_of_getElem? hy)
    refine ⟨_, rfl, _, rfl, _, _, rfl, rfl, (show (0 : Int) < 12 by decide), _, rfl, b, _, rfl, .inl (SqL.of hb), _, _, rfl, rfl, by rw [List.length_map]; omega, b, _, _, _, rfl, rfl, SqL.of hb, by rw [List.length_map, hsp]; exact at_int p0 hy, ?_⟩
    have hP : ∀ x, H x = none → (fun _ : Addr => True) x := fun _ _ => True.intro
    have S0 := Same.refl H
    have A0 : DTs H (fun _ => True) [] [] := .nil
    refine ⟨_, rfl, b, _, rfl, SqL.of hb, fun q1 f1 => ?_⟩
    have z1 : Same H (upd H q1 (.lst (L.map V.int).reverse)) := Same.new f1
    have h1 : upd H q1 (.lst (L.map V.int).reverse) q1 = some (.lst (L.map V.int).reverse) := upd_same
    generalize upd H q1 (.lst (L.map V.int).reverse) = H1 at z1 h1 ⊢
    refine ⟨_, rfl, one, fun q2 f2 => ?_⟩
    have z2 : Same H1 (upd H1 q2 (.lst [.int y])) := Same.new f2
    have h2 : upd H1 q2 (.lst [.int y]) q2 = some (.lst [.int y]) := upd_same
    generalize upd H1 q2 (.lst [.int y]) = H2 at z2 h2 ⊢
    refine ⟨q1, q2, _, _, rfl, rfl, z2 _ _ h1, h2, by rw [List.length_reverse, List.length_map]; show _ + 1 ≤ _; omega, fun r1 g1 => ?_⟩
    have e1 : (L.map V.int).reverse ++ [.int y] = (L.reverse ++ [y]).map V.int := by rw [List.map_append, List.map_reverse]; rfl
    rw [e1]
    obtain ⟨A1, S1⟩ := acc_lst hP (z1.trans z2) .nil g1 (DTs.ints (L.reverse ++ [y]))
    generalize upd H2 r1 (.lst ((L.reverse ++ [y]).map V.int)) = J1 at A1 S1 ⊢
    refine ⟨Nat.zero_le _, fun r2 g2 => ?_⟩
    obtain ⟨A2, S2⟩ := acc_lst hP S1 A1 g2 .nil
    generalize upd J1 r2 (.lst []) = J2 at A2 S2 ⊢
    refine ⟨_, rfl, b, _, rfl, .inl ⟨SqL.of (S2 _ _ hb), fun r3 g3 => ?_⟩⟩
    obtain ⟨A3, S3⟩ := acc_tup hP S2 A2 g3 (DTs.ints L)
    generalize upd J2 r3 (.tup (L.map V.int)) = J3 at A3 S3 ⊢
    have A4 := A3.snoc DT.non
    refine ⟨one, fun q5 f5 => ?_⟩
    have z5 : Same J3 (upd J3 q5 (.lst [.int 0])) := Same.new f5
    have h5 : upd J3 q5 (.lst [.int 0]) q5 = some (.lst [.int 0]) := upd_same
    generalize upd J3 q5 (.lst [.int 0]) = K5 at z5 h5 ⊢
    refine ⟨_, rfl, q5, b, _, _, rfl, rfl, h5, z5 _ _ (S3 _ _ hb), by rw [List.length_map]; show 1 + _ ≤ _; omega, fun r5 g5 => ?_⟩
    have e5 : [.int 0] ++ L.map V.int = ([0] ++ L).map V.int := rfl
    rw [e5]
    obtain ⟨A5, S5⟩ := acc_lst hP (S3.trans z5) (DTs.same A4 z5) g5 (DTs.ints ([0] ++ L))
    generalize upd K5 r5 (.lst (([0] ++ L).map V.int)) = J5 at A5 S5 ⊢
    refine ⟨_, rfl, one, fun q6 f6 => ?_⟩
    have z6 : Same J5 (upd J5 q6 (.lst [.int 13])) := Same.new f6
    have h6 : upd J5 q6 (.lst [.int 13]) q6 = some (.lst [.int 13]) := upd_same
    generalize upd J5 q6 (.lst [.int 13]) = K6 at z6 h6 ⊢
    refine ⟨b, q6, _, _, rfl, rfl, z6 _ _ (S5 _ _ hb), h6, by rw [List.length_map]; show _ + 1 ≤ _; omega, fun r6 g6 => ?_⟩
    have e6 : L.map V.int ++ [.int 13] = (L ++ [13]).map V.int := by rw [List.map_append]; rfl
    rw [e6]
    obtain ⟨A6, S6⟩ := acc_lst hP (S5.trans z6) (DTs.same A5 z6) g6 (DTs.ints (L ++ [13]))
    generalize upd K6 r6 (.lst ((L ++ [13]).map V.int)) = J6 at A6 S6 ⊢
    refine ⟨_, rfl, _, _, rfl, rfl, one, fun q7 f7 => ?_⟩
    dsimp only
    obtain ⟨bb, hbb⟩ : ∃ bb : Bool, decide (0 < y) = bb := ⟨_, rfl⟩
    rw [hbb]
    have z7 : Same J6 (upd J6 q7 (.lst [.bl bb])) := Same.new f7
    have h7 : upd J6 q7 (.lst [.bl bb]) q7 = some (.lst [.bl bb]) := upd_same
    generalize upd J6 q7 (.lst [.bl bb]) = K7 at z7 h7 ⊢
    refine ⟨_, rfl, q7, b, _, _, rfl, rfl, h7, z7 _ _ (S6 _ _ hb), by rw [List.length_map]; show 1 + _ ≤ _; omega, fun r7 g7 => ?_⟩
    obtain ⟨A7, S7⟩ := acc_lst hP (S6.trans z7) (DTs.same A6 z7) g7 (xs := [.bl bb] ++ L.map V.int) (es := .bool bb :: L.map PyData.int) (.cons (.bl bb) (DTs.ints L))
    generalize upd K7 r7 (.lst ([.bl bb] ++ L.map V.int)) = J7 at A7 S7 ⊢
    refine ⟨(by show 7 ≤ sizeLine; decide), fun l8 f8 => ?_⟩
    have z8 : Same J7 (upd J7 l8 (.lst [.ref r1, .ref r2, .ref r3, .non, .ref r5, .ref r6, .ref r7])) := Same.new f8
    have h8 : upd J7 l8 (.lst [.ref r1, .ref r2, .ref r3, .non, .ref r5, .ref r6, .ref r7]) l8 = some (.lst [.ref r1, .ref r2, .ref r3, .non, .ref r5, .ref r6, .ref r7]) := upd_same
    have A8 := DTs.same A7 z8
    have S8 := S7.trans z8
    generalize upd J7 l8 (.lst [.ref r1, .ref r2, .ref r3, .non, .ref r5, .ref r6, .ref r7]) = J8 at A8 S8 h8 ⊢
    have alog : y.natAbs.log2 < 1920 := by
      have : y.natAbs < 2 ^ 4 := by omega
      by_cases z : y.natAbs = 0
      · rw [z]; decide
      · have := (Nat.log2_lt z).mpr this; omega
    refine ⟨_, rfl, _, rfl, y, rfl, alog, one, fun r9 g9 => ?_⟩
    obtain ⟨A9, S9⟩ := acc_lst hP S8 A8 g9 (.cons (.str (Str.ofString (toString y))) .nil)
    have h9 := Same.new (o := .lst [.str (Str.ofString (toString y))]) g9 _ _ h8
    generalize upd J8 r9 (.lst [.str (Str.ofString (toString y))]) = J9 at A9 S9 h9 ⊢
    refine ⟨one, fun r10 g10 => ?_⟩
    obtain ⟨A10, S10⟩ := acc_lst hP S9 A9 g10 (.cons .non .nil)
    have h10 := Same.new (o := .lst [.non]) g10 _ _ h9
    generalize upd J9 r10 (.lst [.non]) = J10 at A10 S10 h10 ⊢
    have A11 := A10.snoc (.int y)
    refine ⟨_, rfl, (by show 3 ≤ sizeLine; decide), fun l11 f11 => ?_⟩
    have z11 : Same J10 (upd J10 l11 (.lst [.ref r9, .ref r10, .int y])) := Same.new f11
    have h11 : upd J10 l11 (.lst [.ref r9, .ref r10, .int y]) l11 = some (.lst [.ref r9, .ref r10, .int y]) := upd_same
    generalize upd J10 l11 (.lst [.ref r9, .ref r10, .int y]) = J11 at z11 h11 ⊢
    refine ⟨l8, l11, _, _, rfl, rfl, z11 _ _ h10, h11, (by show 7 + 3 ≤ sizeLine; decide), fun l12 f12 => ?_⟩
    have e12 : ([.ref r1, .ref r2, .ref r3, .non, .ref r5, .ref r6, .ref r7] ++ [.ref r9, .ref r10, .int y] : List V) = [.ref r1, .ref r2, .ref r3, .non, .ref r5, .ref r6, .ref r7, .ref r9, .ref r10, .int y] := rfl
    rw [e12]
    have z12 : Same J11 (upd J11 l12 (.lst [.ref r1, .ref r2, .ref r3, .non, .ref r5, .ref r6, .ref r7, .ref r9, .ref r10, .int y])) := Same.new f12
    have h12 : upd J11 l12 (.lst [.ref r1, .ref r2, .ref r3, .non, .ref r5, .ref r6, .ref r7, .ref r9, .ref r10, .int y]) l12 = some (.lst [.ref r1, .ref r2, .ref r3, .non, .ref r5, .ref r6, .ref r7, .ref r9, .ref r10, .int y]) := upd_same
    have A12 := DTs.same A11 (z11.trans z12)
    have S12 := S10.trans (z11.trans z12)
    generalize upd J11 l12 (.lst [.ref r1, .ref r2, .ref r3, .non, .ref r5, .ref r6, .ref r7, .ref r9, .ref r10, .int y]) = J12 at A12 S12 h12 ⊢
    obtain ⟨xv, hxv⟩ : ∃ v, ([.ref r1, .ref r2, .ref r3, .non, .ref r5, .ref r6, .ref r7, .ref r9, .ref r10, .int y] : List V)[wy.toNat]? = some v := ⟨_, List.getElem?_eq_getElem (by show wy.toNat < 10; omega)⟩
    refine ⟨_, rfl, _, rfl, l12, _, wy, xv, rfl, rfl, SqL.of h12, at_refI w0 hxv, ?_⟩
    obtain ⟨xd, hxd, dX⟩ := A12.get hxv
    have fin : lenI xd ≤ 13 ∧ Nice 5 xd := by
      have ni : ∀ ns : List Int, Nice 5 (.list (ns.map PyData.int)) := fun ns => (nice_list (k := 0) (nice_ints ns)).mono (by decide)
      have : wy.toNat = 0 ∨ wy.toNat = 1 ∨ wy.toNat = 2 ∨ wy.toNat = 3 ∨ wy.toNat = 4 ∨ wy.toNat = 5 ∨ wy.toNat = 6 ∨ wy.toNat = 7 ∨ wy.toNat = 8 ∨ wy.toNat = 9 := by omega
      rcases this with e | e | e | e | e | e | e | e | e | e <;> rw [e] at hxd <;> injection hxd with hxd <;> subst hxd
      · exact ⟨by show (List.map _ _).length ≤ 13; rw [List.length_map, List.length_append, List.length_reverse]; show _ + 1 ≤ 13; omega, ni _⟩
      · exact ⟨Nat.zero_le _, ni []⟩
      · exact ⟨Nat.zero_le _, (nice_tuple (k := 0) (nice_ints L)).mono (by decide)⟩
      · exact ⟨Nat.zero_le _, nice_none⟩
      · exact ⟨by show (List.map _ _).length ≤ 13; rw [List.length_map, List.length_append]; show 1 + _ ≤ 13; omega, ni _⟩
      · exact ⟨by show (List.map _ _).length ≤ 13; rw [List.length_map, List.length_append]; show _ + 1 ≤ 13; omega, ni _⟩
      · refine ⟨by show (PyData.bool bb :: L.map PyData.int).length ≤ 13; rw [List.length_cons, List.length_map]; omega, (nice_list (k := 0) fun d hd => ?_).mono (by decide)⟩
        rcases List.mem_cons.mp hd with rfl | hd
        · exact nice_bool _
        · exact nice_ints L d hd
      · exact ⟨by show 1 ≤ 13; decide, (nice_list (k := 0) (all1 (nice_str (str_small yb.1 yb.2)))).mono (by decide)⟩
      · exact ⟨by show 1 ≤ 13; decide, (nice_list (k := 0) (all1 nice_none)).mono (by decide)⟩
      · exact ⟨Nat.zero_le _, nice_int _⟩
    exact k xv xd J12 dX fin.1 fin.2 S12
theorem sc__law_bent : FnScope ["_law_sharing_here", "_law_way", "_law_number_here", "_law_at", "_law_parts_told", "_law_other", "_law_both"] ["_law_sharing_here", "_law_way", "_law_number_here"] (defScope (top 19)) := ⟨rfl, rfl, rfl, by decide +kernel, rfl, by decide +kernel, by decide +kernel⟩
theorem ok_bn {f : Addr} {fd : FuncData} (F : Fun K "_law_bent" "_law_bent" (top 19) f fd) (T : TBn P w K mg base) : FnOk P w K mg base CX0 2 f fd ["_law_sharing_here", "_law_way", "_law_number_here"] spBn := by
  refine F.ok sc__law_bent (fun vs H Q E h => ?_) (fun cdv A outer s H vs Q E hr h => ?_)
  · obtain ⟨l, ws, Ls, wy, z, rfl, _⟩ := h
    rfl
  · obtain ⟨l, ws, Ls, wy, z, rfl, hl, xl, sml, w0, w1, z0, k⟩ := h
    refine ⟨_, (@pss_cons _ _ _ _ _ (ps_set (i := 3) sc__law_bent.nd rfl (Or.inl rfl) (pe_op op_mod (pe_op op_mod (pv 2) pe_int) (pe_callB (call_lenK (K := K) rfl) rfl T.b_len (by decide +kernel) (pa_cons (pv 0) pa_nil))))
      (@pss_cons _ _ _ _ _ (ps_comp (i := 4) sc__law_bent.nd rfl rfl (N := (["_law_part"] : List Str)) (ix := ([none] : List (Option Nat))) (comp_ok rfl rfl) rfl (pi_listK (K := K) rfl (pv 0)) (fun _ _ _ _ => (pg_name (i := 0) (show List.Nodup (["_law_part"] : List Str) from by decide +kernel) rfl (Or.inl rfl))) (fun _ _ _ _ => pif_nil) (fun _ _ _ _ => (pe_callTy (call_list_ofK (K := K) rfl) rfl T.b_list (by decide +kernel) (pa_cons (pv 0) pa_nil))))
      (@pss_cons _ _ _ _ _ (ps_if (pt_cmpR op_eq (pv 1) pe_int (nomark _)) (pss_one (ps_ret (pe_callF T.f__law_moved_thing (hr.mono (by first | decide | omega)) rfl (pa_cons (pv 0) (pa_cons (pv 2) pa_nil))))) pss_nil)
      (@pss_cons _ _ _ _ _ (ps_if (pt_cmpR op_eq (pv 1) pe_int (nomark _)) (pss_one (ps_ret (pe_op op_cat (pv 4) (pe_lst (pa_cons (pe_ix (ix_listK (K := K) rfl) (pv 4) (pv 3) (fun _ _ => rfl)) pa_nil))))) pss_nil)
      (@pss_cons _ _ _ _ _ (ps_if (pt_cmpR op_eq (pv 1) pe_int (nomark _)) (pss_one (ps_ret (pe_op op_cat (pe_slice (sl_listK (K := K) rfl) (pv 4) po_none (po_some (pv 3))) (pe_slice (sl_listK (K := K) rfl) (pv 4) (po_some (pe_op op_add (pv 3) pe_int)) po_none)))) pss_nil)
      (@pss_cons _ _ _ _ _ (ps_if (pt_cmpR op_eq (pv 1) pe_int (nomark _)) (pss_one (ps_ret (pe_revL (pv 4)))) pss_nil)
      (@pss_cons _ _ _ _ _ (ps_if (pt_cmpR op_eq (pv 1) pe_int (nomark _)) (pss_one (ps_ret (pe_op op_cat (pe_op op_cat (pe_slice (sl_listK (K := K) rfl) (pv 4) po_none (po_some (pv 3))) (pe_lst (pa_cons (pe_revL (pe_ix (ix_listK (K := K) rfl) (pv 4) (pv 3) (fun _ _ => rfl))) pa_nil))) (pe_slice (sl_listK (K := K) rfl) (pv 4) (po_some (pe_op op_add (pv 3) pe_int)) po_none)))) pss_nil)
      (@pss_cons _ _ _ _ _ (ps_if (pt_cmpR op_eq (pv 1) pe_int (nomark _)) (pss_cons (ps_set (i := 5) sc__law_bent.nd rfl (Or.inl rfl) (pe_op op_mod (pe_op op_mod (pe_op op_fdivL (pv 2) pe_int) pe_int) (pe_callB (call_lenK (K := K) rfl) rfl T.b_len (by decide +kernel) (pa_cons (pv 0) pa_nil))))
      (pss_cons (ps_set (i := 6) sc__law_bent.nd rfl (Or.inr rfl) (pe_callB (call_sortedSK (w := w) rfl rfl) rfl T.b_sorted (by decide +kernel) (pa_cons (pe_callTy (call_setNK (K := K) (w := w) rfl rfl rfl) rfl T.b_set (by decide +kernel) (pa_cons (pe_op op_cat (pe_ix ix_list (pv 4) (pv 3) (fun _ _ => rfl)) (pe_ix ix_list (pv 4) (pv 5) (fun _ _ => rfl))) pa_nil)) pa_nil)))
      (pss_one (ps_ret (pe_callB (call_sortedLL (K := K) rfl hr.units) rfl T.b_sorted (by decide +kernel) (pa_cons (pe_op op_cat (pe_comp (N := (["_law_part", "_law_both"] : List Str)) (ix := ([none, some 6] : List (Option Nat))) (comp_ok rfl rfl) rfl (pi_listK (K := K) rfl (pv 4)) (fun _ _ _ _ => (pg_name (i := 0) (show List.Nodup (["_law_part", "_law_both"] : List Str) from by decide +kernel) rfl (Or.inl rfl))) (fun _ _ _ _ => (pif_one (pt_cmpR (op_notInK (K := K) rfl) (pe_ix (ix_listK (K := K) rfl) (pv 0) pe_int (fun _ _ => rfl)) (pv 1) rfl))) (fun _ _ _ _ => (pv 0))) (pe_lst (pa_cons (pv 6) pa_nil))) pa_nil)))))) pss_nil)
      (@pss_cons _ _ _ _ _ (ps_if (pt_cmpR op_eq (pv 1) pe_int (nomark _)) (pss_one (ps_ret (pe_callTy (call_tuple_ofK (K := K) rfl) rfl T.b_tuple (by decide +kernel) (pa_cons (pv 4) pa_nil)))) pss_nil)
      (@pss_cons _ _ _ _ _ (ps_if (pt_cmpR op_eq (pv 1) pe_int (nomark _)) (pss_one (ps_ret (pe_comp (N := (["_law_part"] : List Str)) (ix := ([none] : List (Option Nat))) (comp_ok rfl rfl) rfl (pi_listK (K := K) rfl (pv 4)) (fun _ _ _ _ => (pg_name (i := 0) (show List.Nodup (["_law_part"] : List Str) from by decide +kernel) rfl (Or.inl rfl))) (fun _ _ _ _ => pif_nil) (fun _ _ _ _ => (pe_comp (N := (["_law_one"] : List Str)) (ix := ([none] : List (Option Nat))) (comp_ok rfl rfl) rfl (pi_listK (K := K) rfl (pv 0)) (fun _ _ _ _ => (pg_name (i := 0) (show List.Nodup (["_law_one"] : List Str) from by decide +kernel) rfl (Or.inl rfl))) (fun _ _ _ _ => pif_nil) (fun _ _ _ _ => (pe_op op_sub pe_int (pv 0)))))))) pss_nil)
      (@pss_cons _ _ _ _ _ (@ps_if _ _ _ _ _ _ _ _ (pt_cmpR op_gt (pv 1) pe_int (nomark _)) (@pss_one _ _ _ (@ps_ret _ _ _ _ (@pe_ix _ _ _ _ _ _ _ (ix_listK (K := K) rfl) (@pe_lst _ _ _ _ (@pa_cons _ _ _ _ _ pe_non (@pa_cons _ _ _ _ _ (pe_callB (call_lenK (K := K) rfl) rfl T.b_len (by decide +kernel) (pa_cons (pv 0) pa_nil)) (@pa_cons _ _ _ _ _ pe_bl (@pa_cons _ _ _ _ _ pe_str (@pa_cons _ _ _ _ _ (pe_lst pa_nil) (@pa_cons _ _ _ _ _ (pe_lst (pa_cons (pe_lst pa_nil) pa_nil)) (@pa_cons _ _ _ _ _ (pe_lst (pa_cons pe_int pa_nil)) (@pa_cons _ _ _ _ _ (pe_ix (ix_listK (K := K) rfl) (pv 4) (pv 3) (fun _ _ => rfl)) pa_nil st_sub) st_list) st_list) st_list) st_con) st_con) st_call) st_con)) (pe_op op_mod (pe_op op_fdivL (pv 2) pe_int) pe_int) (fun _ _ => rfl)))) pss_nil)
      (pss_one (ps_ret (pe_op op_cat (pe_op op_cat (pe_slice (sl_listK (K := K) rfl) (pv 4) po_none (po_some (pv 3))) (pe_lst (pa_cons (pe_callF T.f__law_bent_part (hr.mono (by first | decide | omega)) rfl (@pa_cons _ _ _ _ _ (pe_ix (ix_listK (K := K) rfl) (pv 4) (pv 3) (fun _ _ => rfl)) (@pa_cons _ _ _ _ _ (pe_op op_sub (pv 1) pe_int) (@pa_cons _ _ _ _ _ (pe_op op_fdivL (pv 2) pe_int) pa_nil st_bin) st_bin) st_sub)) pa_nil))) (pe_slice (sl_listK (K := K) rfl) (pv 4) (po_some (pe_op op_add (pv 3) pe_int)) po_none))))))))))))))), ?_⟩
    obtain ⟨ne, nes, lb, fb, bd⟩ := id sml
    have big : (10000000 : Nat) ≤ sizeLine := by decide
    have one : 1 ≤ sizeLine := by decide
    have wl := xl.length
    have lp := List.length_pos_iff.mpr ne
    obtain ⟨at', hat⟩ : ∃ a : Int, z % 12 % (ws.length : Int) = a := ⟨_, rfl⟩
    have a0 : 0 ≤ at' := by rw [← hat]; exact Int.emod_nonneg _ (by omega)
    have a1 : at' < ws.length := by rw [← hat]; exact Int.emod_lt_of_pos _ (by omega)
    refine ⟨_, rfl, _, _, rfl, rfl, (show (0 : Int) < 12 by decide), _, rfl, l, _, rfl, .inl (SqL.of hl), _, _, rfl, rfl, by omega, ?_⟩
    refine gNJ ?_
    dsimp only
    rw [hat]
    refine ⟨_, rfl, l, rfl, ⟨_, SqL.of hl⟩, compL (K := K) (a := l) (xs := ws) (k := 0) (fun j ys σ' H' => (∃ v, σ' = [v]) ∧ Same H H' ∧ Lsts H' ys (Ls.take j) ∧ ys.length = j) (by omega) ⟨⟨none, rfl⟩, Same.refl _, .nil, rfl⟩ (fun j ys σ' H' _ q => SqL.of (q.2.1 _ _ hl)) (fun j ys σ' H' q => Nat.le_of_eq q.2.2.2) ?_ ?_⟩
    · rintro j ys σ' H1 x R hx ⟨⟨v, rfl⟩, s1, x1, l1⟩ done
      obtain ⟨b, L, rfl, hb, hL⟩ := (xl.keep s1).get hx
      refine ⟨_, rfl, b, _, rfl, .inl (SqL.of hb), fun q fq => done _ _ _ ⟨⟨_, rfl⟩, s1.trans (Same.new fq), ?_, by rw [List.length_append, l1]; rfl⟩⟩
      rw [take_snoc hL]
      exact (x1.keep (Same.new fq)).snoc upd_same
    rintro ps σ' H1 lq ⟨_, s1, x1, l1⟩ flp
    rw [List.take_of_length_le (by omega)] at x1
    have s2 : Same H1 (upd H1 lq (.lst ps)) := Same.new flp
    have hp : upd H1 lq (.lst ps) lq = some (.lst ps) := upd_same
    have x2 := x1.keep s2
    generalize upd H1 lq (.lst ps) = H2 at s2 hp x2 ⊢
    have S2 := s1.trans s2
    have pl : ps.length = Ls.length := x2.length
    obtain ⟨pds, hpd⟩ : ∃ pds, pds = Ls.map (fun L => PyData.list (L.map PyData.int)) := ⟨_, rfl⟩
    have dps : DTs H2 (fun _ => True) ps pds := by rw [hpd]; exact x2.dtsI fun _ => True.intro
    have pdl : pds.length = Ls.length := by rw [hpd, List.length_map]
    have pds_sum : (pds.map lenI).sum = Ls.flatten.length := by
      rw [hpd, List.map_map]
      have e2 : (lenI ∘ fun L : List Int => PyData.list (L.map PyData.int)) = List.length := funext fun L => List.length_map ..
      rw [e2, ← List.length_flatten]
    have pds_n : ∀ d ∈ pds, Nice 5 d := fun d hd => by
      rw [hpd] at hd
      obtain ⟨L, _, rfl⟩ := List.mem_map.mp hd
      exact (nice_list (k := 0) (nice_ints L)).mono (by decide)
    have okl : ∀ ds : List PyData, ds.length ≤ 60 → (ds.map lenI).sum ≤ 60 → (∀ d ∈ ds, Nice 5 d) → OkB (.list ds) := fun ds h1 h2 h3 => ⟨fun es e => by injection e with e; subst e; exact ⟨h1, h2⟩, (nice_list h3).mono (by decide)⟩
    have okn : ∀ d : PyData, (∀ ds, d ≠ .list ds) → Nice 10 d → OkB d := fun d h1 h2 => ⟨fun ds e => absurd e (h1 ds), h2⟩
    obtain ⟨u, hu⟩ : ∃ u, ps[at'.toNat]? = some u := ⟨_, List.getElem?_eq_getElem (by omega)⟩
    obtain ⟨b, L, rfl, hb, hL⟩ := x2.get hu
    have Lm := List.mem_of_getElem? hL
    have Lb := mem_flatI Lm
    have Ln := nes L Lm
    have hpa : pds[at'.toNat]? = some (.list (L.map PyData.int)) := by rw [hpd, List.getElem?_map, hL]; rfl
    have sumT : ∀ k, ((pds.take k).map lenI).sum ≤ 12 := fun k => by
      have : (pds.map lenI).sum = ((pds.take k).map lenI).sum + ((pds.drop k).map lenI).sum := by
        conv => lhs; rw [← List.take_append_drop k pds, List.map_append, List.sum_append]
      omega
    have sumD : ∀ k, ((pds.drop k).map lenI).sum ≤ 12 := fun k => by
      have : (pds.map lenI).sum = ((pds.take k).map lenI).sum + ((pds.drop k).map lenI).sum := by
        conv => lhs; rw [← List.take_append_drop k pds, List.map_append, List.sum_append]
      omega
    -- parts[:at] + [x] + parts[at + 1:] with any x
    have okc : ∀ xd : PyData, lenI xd ≤ 13 → Nice 5 xd → OkB (.list (pds.take at'.toNat ++ [xd] ++ pds.drop (at' + 1).toNat)) := fun xd h1 h2 => by
      refine okl _ ?_ ?_ fun d hd => ?_
      · rw [List.length_append, List.length_append, List.length_take, List.length_drop]; show _ + 1 + _ ≤ 60; omega
      · rw [List.map_append, List.map_append, List.sum_append, List.sum_append]
        have := sumT at'.toNat
        have := sumD (at' + 1).toNat
        have : ([xd].map lenI).sum = lenI xd := by show lenI xd + 0 = _; omega
        omega
      · rcases List.mem_append.mp hd with hd | hd
        · rcases List.mem_append.mp hd with hd | hd
          · exact pds_n d (List.mem_of_mem_take hd)
          · rw [List.mem_singleton.mp hd]; exact h2
        · exact pds_n d (List.mem_of_mem_drop hd)
    refine gNJ ?_
    dsimp only
    refine ⟨_, rfl, rfl, _, rfl, ite2 (fun c => ?_) (fun nw0 => ?_)⟩
    · exact ⟨_, rfl, _, rfl, l, ws, Ls, z, rfl, S2 _ _ hl, xl.keep S2, sml, z0, fun v d H' h1 h2 h3 => k v d H' h1 h2 (S2.trans h3)⟩
    have c0 : wy ≠ 0 := fun z => by subst z; exact nw0 (decide_eq_true rfl)
    refine ⟨_, rfl, rfl, _, rfl, ite2 (fun c => ?_) (fun nw1 => ?_)⟩
    · refine ⟨_, rfl, _, rfl, _, rfl, lq, _, _, _, rfl, rfl, SqL.of hp, at_refI a0 hu, one, fun q1 f1 => ?_⟩
      have z1 : Same H2 (upd H2 q1 (.lst [.ref b])) := Same.new f1
      have h1 : upd H2 q1 (.lst [.ref b]) q1 = some (.lst [.ref b]) := upd_same
      generalize upd H2 q1 (.lst [.ref b]) = G1 at z1 h1 ⊢
      refine ⟨lq, q1, _, _, rfl, rfl, z1 _ _ hp, h1, by show _ + 1 ≤ _; omega, fun q2 f2 => ?_⟩
      have z2 := z1.trans (Same.new (o := .lst (ps ++ [.ref b])) f2)
      refine k _ (.list (pds ++ [.list (L.map PyData.int)])) _ (.lst upd_same True.intro ((DTs.same dps z2).append (.cons (.lst (z2 _ _ hb) True.intro (DTs.ints L)) .nil))) (okl _ ?_ ?_ fun d hd => ?_) (S2.trans z2)
      · rw [List.length_append]; show _ + 1 ≤ 60; omega
      · rw [List.map_append, List.sum_append]
        have : ([PyData.list (L.map PyData.int)].map lenI).sum = L.length := by show (L.map PyData.int).length + 0 = _; rw [List.length_map]; omega
        omega
      · rcases List.mem_append.mp hd with hd | hd
        · exact pds_n d hd
        · rw [List.mem_singleton.mp hd]; exact pds_n _ (List.mem_of_getElem? hpa)
    refine ⟨_, rfl, rfl, _, rfl, ite2 (fun c => ?_) (fun nw2 => ?_)⟩
    · refine ⟨_, rfl, _, rfl, at', rfl, lq, ps, rfl, SqL.of hp, fun q1 e1 => ?_⟩
      rw [cutT9 a0 (by omega)]
      have z1 : Same H2 (upd H2 q1 (.lst (ps.take at'.toNat))) := Same.new e1
      have h1 : upd H2 q1 (.lst (ps.take at'.toNat)) q1 = some (.lst (ps.take at'.toNat)) := upd_same
      generalize upd H2 q1 (.lst (ps.take at'.toNat)) = G1 at z1 h1 ⊢
      refine ⟨_, rfl, _, rfl, _, _, rfl, rfl, _, rfl, ?_⟩
      try unfold tNoPart
      refine ⟨lq, ps, rfl, SqL.of (z1 _ _ hp), fun q2 e2 => ?_⟩
      rw [cutDg (by omega)]
      have z2 : Same G1 (upd G1 q2 (.lst (ps.drop (at' + 1).toNat))) := Same.new e2
      have h2 : upd G1 q2 (.lst (ps.drop (at' + 1).toNat)) q2 = some (.lst (ps.drop (at' + 1).toNat)) := upd_same
      generalize upd G1 q2 (.lst (ps.drop (at' + 1).toNat)) = G2 at z2 h2 ⊢
      refine ⟨q1, q2, _, _, rfl, rfl, z2 _ _ h1, h2, by rw [List.length_take, List.length_drop]; omega, fun q3 e3 => ?_⟩
      have y3 := z1.trans (z2.trans (Same.new (o := .lst (ps.take at'.toNat ++ ps.drop (at' + 1).toNat)) e3))
      refine k _ (.list (pds.take at'.toNat ++ pds.drop (at' + 1).toNat)) _ (.lst upd_same True.intro (((DTs.same dps y3).take _).append ((DTs.same dps y3).drop _))) (okl _ ?_ ?_ fun d hd => ?_) (S2.trans y3)
      · rw [List.length_append, List.length_take, List.length_drop]; omega
      · rw [List.map_append, List.sum_append]
        have := sumT at'.toNat
        have := sumD (at' + 1).toNat
        omega
      · rcases List.mem_append.mp hd with hd | hd
        · exact pds_n d (List.mem_of_mem_take hd)
        · exact pds_n d (List.mem_of_mem_drop hd)
    refine ⟨_, rfl, rfl, _, rfl, ite2 (fun c => ?_) (fun nw3 => ?_)⟩
    · refine ⟨_, rfl, lq, _, rfl, SqL.of hp, fun q1 f1 => ?_⟩
      have z1 := Same.new (o := .lst ps.reverse) f1
      refine k _ (shD Ls.reverse) _ (.lst upd_same True.intro ?_) (ok_sh (Ls := Ls.reverse) (by rw [List.length_reverse]; omega) (by rw [(List.reverse_perm Ls).flatten.length_eq]; omega)) (S2.trans z1)
      rw [List.map_reverse, ← hpd]
      exact DTs.revI (DTs.same dps z1)
    refine ⟨_, rfl, rfl, _, rfl, ite2 (fun c => ?_) (fun nw4 => ?_)⟩
    · -- a part turned about
      refine ⟨_, rfl, _, rfl, at', rfl, lq, ps, rfl, SqL.of hp, fun q1 e1 => ?_⟩
      rw [cutT9 a0 (by omega)]
      have z1 : Same H2 (upd H2 q1 (.lst (ps.take at'.toNat))) := Same.new e1
      have h1 : upd H2 q1 (.lst (ps.take at'.toNat)) q1 = some (.lst (ps.take at'.toNat)) := upd_same
      generalize upd H2 q1 (.lst (ps.take at'.toNat)) = G1 at z1 h1 ⊢
      refine ⟨_, rfl, _, rfl, lq, _, _, _, rfl, rfl, SqL.of (z1 _ _ hp), at_refI a0 hu, b, _, rfl, SqL.of (z1 _ _ hb), fun xa fxa => ?_⟩
      have zX : Same G1 (upd G1 xa (.lst (L.map V.int).reverse)) := Same.new fxa
      have dX : DT (upd G1 xa (.lst (L.map V.int).reverse)) (fun _ => True) (.ref xa) (.list (L.reverse.map PyData.int)) := .lst upd_same True.intro (by rw [← List.map_reverse]; exact DTs.ints _)
      have oX : lenI (.list (L.reverse.map PyData.int)) ≤ 13 := by show (L.reverse.map PyData.int).length ≤ 13; rw [List.length_map, List.length_reverse]; omega
      have nX : Nice 5 (.list (L.reverse.map PyData.int)) := (nice_list (k := 0) (nice_ints _)).mono (by decide)
      obtain ⟨xv, exv⟩ : ∃ xv, xv = V.ref xa := ⟨_, rfl⟩
      obtain ⟨xd, exd⟩ : ∃ xd, xd = PyData.list (L.reverse.map PyData.int) := ⟨_, rfl⟩
      rw [← exd] at oX nX dX
      rw [← exv] at dX
      generalize upd G1 xa (.lst (L.map V.int).reverse) = GX at zX dX ⊢
      rw [← exv]
      refine ⟨one, fun q2 e2 => ?_⟩
      have z2 : Same GX (upd GX q2 (.lst [xv])) := Same.new e2
      have h2 : upd GX q2 (.lst [xv]) q2 = some (.lst [xv]) := upd_same
      generalize upd GX q2 (.lst [xv]) = G2 at z2 h2 ⊢
      refine ⟨q1, q2, _, _, rfl, rfl, z2 _ _ (zX _ _ h1), h2, by rw [List.length_take]; show _ + 1 ≤ _; omega, fun q3 e3 => ?_⟩
      have z3 : Same G2 (upd G2 q3 (.lst (ps.take at'.toNat ++ [xv]))) := Same.new e3
      have h3 : upd G2 q3 (.lst (ps.take at'.toNat ++ [xv])) q3 = some (.lst (ps.take at'.toNat ++ [xv])) := upd_same
      generalize upd G2 q3 (.lst (ps.take at'.toNat ++ [xv])) = G3 at z3 h3 ⊢
      have y3 := z1.trans (zX.trans (z2.trans z3))
      refine ⟨_, rfl, _, rfl, _, _, rfl, rfl, _, rfl, ?_⟩
      try unfold tNoPart
      refine ⟨lq, ps, rfl, SqL.of (y3 _ _ hp), fun q4 e4 => ?_⟩
      rw [cutDg (by omega)]
      have z4 : Same G3 (upd G3 q4 (.lst (ps.drop (at' + 1).toNat))) := Same.new e4
      have h4 : upd G3 q4 (.lst (ps.drop (at' + 1).toNat)) q4 = some (.lst (ps.drop (at' + 1).toNat)) := upd_same
      generalize upd G3 q4 (.lst (ps.drop (at' + 1).toNat)) = G4 at z4 h4 ⊢
      refine ⟨q3, q4, _, _, rfl, rfl, z4 _ _ h3, h4, by rw [List.length_append, List.length_take, List.length_drop]; show _ + 1 + _ ≤ _; omega, fun q5 e5 => ?_⟩
      have z5 : Same G4 (upd G4 q5 (.lst (ps.take at'.toNat ++ [xv] ++ ps.drop (at' + 1).toNat))) := Same.new e5
      have y5 := y3.trans (z4.trans z5)
      exact k _ (.list (pds.take at'.toNat ++ [xd] ++ pds.drop (at' + 1).toNat)) _ (.lst upd_same True.intro ((((DTs.same dps y5).take _).append (.cons (DT.same dX (z2.trans (z3.trans (z4.trans z5)))) .nil)).append ((DTs.same dps y5).drop _))) (okc xd oX nX) (S2.trans y5)
    refine ⟨_, rfl, rfl, _, rfl, ite2 (fun c => ?_) (fun nw5 => ?_)⟩
    · -- two parts joined
      obtain ⟨ot, hot⟩ : ∃ a : Int, z / 12 % 12 % (ws.length : Int) = a := ⟨_, rfl⟩
      have o0 : 0 ≤ ot := by rw [← hot]; exact Int.emod_nonneg _ (by omega)
      have o1 : ot < ws.length := by rw [← hot]; exact Int.emod_lt_of_pos _ (by omega)
      refine ⟨_, rfl, _, _, rfl, rfl, ⟨by decide, by decide⟩, _, _, rfl, rfl, (show (0 : Int) < 12 by decide), _, rfl, l, _, rfl, .inl (SqL.of (S2 _ _ hl)), _, _, rfl, rfl, by omega, ?_⟩
      refine gNJ ?_
      dsimp only
      rw [hot]
      obtain ⟨u2, hu2⟩ : ∃ u, ps[ot.toNat]? = some u := ⟨_, List.getElem?_eq_getElem (by omega)⟩
      obtain ⟨b2, M, rfl, hb2, hM⟩ := x2.get hu2
      have Mb := mem_flatI (List.mem_of_getElem? hM)
      refine ⟨_, rfl, _, rfl, lq, _, _, _, rfl, rfl, SqL.of hp, at_refI a0 hu, _, rfl, _, rfl, lq, _, _, _, rfl, rfl, SqL.of hp, at_refI o0 hu2, b, b2, _, _, rfl, rfl, hb, hb2, by rw [List.length_map, List.length_map]; omega, fun q1 f1 => ?_⟩
      have e1 : L.map V.int ++ M.map V.int = (L ++ M).map V.int := by rw [List.map_append]
      rw [e1]
      have z1 : Same H2 (upd H2 q1 (.lst ((L ++ M).map V.int))) := Same.new f1
      have h1 : upd H2 q1 (.lst ((L ++ M).map V.int)) q1 = some (.lst ((L ++ M).map V.int)) := upd_same
      generalize upd H2 q1 (.lst ((L ++ M).map V.int)) = G1 at z1 h1 ⊢
      have LMl : (L ++ M).length ≤ 24 := by rw [List.length_append]; omega
      refine ⟨q1, L ++ M, rfl, SqL.of h1, by omega, fun qs ms fqs nd mem => ?_⟩
      have msl : ms.length ≤ (L ++ M).length := sub_leA nd fun x hx => (mem x).mp hx
      have z2 : Same G1 (upd G1 qs (SetV w qs (ms.map V.int))) := Same.new fqs
      refine ⟨qs, ms, rfl, upd_same, by omega, fun l6 r6 f6 pm6 pw6 => ?_⟩
      have r6l := pm6.length_eq
      have z3 : Same (upd G1 qs (SetV w qs (ms.map V.int))) (upd (upd G1 qs (SetV w qs (ms.map V.int))) l6 (.lst (r6.map V.int))) := Same.new f6
      have h6 : upd (upd G1 qs (SetV w qs (ms.map V.int))) l6 (.lst (r6.map V.int)) l6 = some (.lst (r6.map V.int)) := upd_same
      have y3 := z1.trans (z2.trans z3)
      generalize upd (upd G1 qs (SetV w qs (ms.map V.int))) l6 (.lst (r6.map V.int)) = G3 at y3 h6 ⊢
      have x3 := x2.keep y3
      have hp3 := y3 _ _ hp
      refine ⟨_, rfl, lq, rfl, ⟨_, SqL.of hp3⟩, compLif (K := K) (a := lq) (xs := ps) (k := 0) (fun i zs σ' H' => (∃ v, σ' = [v, some (.ref l6)]) ∧ H' = G3 ∧ zs.length ≤ i ∧ ∃ Ms : List (List Int), Lsts H' zs Ms ∧ Ms.flatten.length ≤ (Ls.take i).flatten.length) (by omega) ⟨⟨none, rfl⟩, rfl, Nat.zero_le _, [], .nil, Nat.zero_le _⟩ (fun i zs σ' H' _ q => by rw [q.2.1]; exact SqL.of hp3) (fun i zs σ' H' q => q.2.2.1) ?_ ?_⟩
      · rintro i zs σ' H6 x R hx ⟨⟨v, rfl⟩, rfl, zl, Ms, xm, fm⟩ done
        obtain ⟨cc, N, rfl, hc, hN⟩ := x3.get hx
        obtain ⟨n0, hn0⟩ : ∃ n0, N[0]? = some n0 := ⟨_, List.getElem?_eq_getElem (List.length_pos_iff.mpr (nes N (List.mem_of_getElem? hN)))⟩
        have tk : (Ls.take (i + 1)).flatten.length = (Ls.take i).flatten.length + N.length := by rw [take_snoc hN, List.flatten_append, List.length_append, List.flatten_cons, List.flatten_nil, List.append_nil]
        refine ⟨_, rfl, cc, _, _, _, rfl, rfl, SqL.of hc, at_int (by decide) hn0, _, rfl, l6, _, rfl, .inl (SqL.of h6), rfl, ?_, _, rfl, ite2 (fun q => ?_) (fun q => ?_)⟩
        · rw [List.all_map, List.all_eq_true]; intro _ _; rfl
        · refine ⟨_, rfl, done _ _ _ ⟨⟨_, rfl⟩, rfl, by rw [List.length_append]; show _ + 1 ≤ _; omega, Ms ++ [N], xm.snoc hc, ?_⟩⟩
          rw [List.flatten_append, List.length_append, List.flatten_cons, List.flatten_nil, List.append_nil, tk]
          omega
        · exact done _ _ _ ⟨⟨_, rfl⟩, rfl, by omega, Ms, xm, by omega⟩
      rintro zs σ' H6 lz ⟨_, rfl, zl, Ms, xm, fm⟩ flz
      rw [List.take_of_length_le (by omega)] at fm
      have z7 : Same H6 (upd H6 lz (.lst zs)) := Same.new flz
      have h7 : upd H6 lz (.lst zs) lz = some (.lst zs) := upd_same
      have xm7 := xm.keep z7
      have h67 := z7 _ _ h6
      generalize upd H6 lz (.lst zs) = G7 at z7 h7 xm7 h67 ⊢
      refine ⟨_, rfl, one, fun lo flo => ?_⟩
      have z8 : Same G7 (upd G7 lo (.lst [.ref l6])) := Same.new flo
      have h8 : upd G7 lo (.lst [.ref l6]) lo = some (.lst [.ref l6]) := upd_same
      generalize upd G7 lo (.lst [.ref l6]) = G8 at z8 h8 ⊢
      refine ⟨lz, lo, _, _, rfl, rfl, z8 _ _ h7, h8, by show _ + 1 ≤ _; omega, fun lc flc => ?_⟩
      have z9 : Same G8 (upd G8 lc (.lst (zs ++ [.ref l6]))) := Same.new flc
      have xm9 : Lsts (upd G8 lc (.lst (zs ++ [.ref l6]))) (zs ++ [.ref l6]) (Ms ++ [r6]) := ((xm7.keep z8).keep z9).snoc (z9 _ _ (z8 _ _ h67))
      have ml := xm.length
      have fl9 : (Ms ++ [r6]).flatten.length ≤ 36 := by rw [List.flatten_append, List.length_append, List.flatten_cons, List.flatten_nil, List.append_nil]; omega
      refine sortLB upd_same xm9 (by rw [List.length_append]; show _ + 1 < 64; omega) fun l9 us Ns H9 f9 h9 x9 p9 s9 _ _ _ _ => ?_
      refine k (.ref l9) (shD Ns) H9 (.lst h9 True.intro (x9.dtsI fun _ => True.intro)) (ok_sh ?_ ?_) ((S2.trans y3).trans ((z7.trans z8).trans (z9.trans s9)))
      · rw [p9.length_eq, List.length_append]; show _ + 1 ≤ 60; omega
      · rw [p9.flatten.length_eq]; omega
    refine ⟨_, rfl, rfl, _, rfl, ite2 (fun c => ?_) (fun nw6 => ?_)⟩
    · refine ⟨_, rfl, lq, _, rfl, .inl ⟨SqL.of hp, fun t ft => ?_⟩⟩
      have z1 := Same.new (o := .tup ps) ft
      refine k _ (.tuple pds) _ (.tup upd_same True.intro (DTs.same dps z1)) (okn _ (by intro ds e; cases e) ((nice_tuple pds_n).mono (by decide))) (S2.trans z1)
    refine ⟨_, rfl, rfl, _, rfl, ite2 (fun c => ?_) (fun nw7 => ?_)⟩
    · -- numbers below nought
      refine ⟨_, rfl, lq, rfl, ⟨_, SqL.of hp⟩, compL (K := K) (a := lq) (xs := ps) (k := 0) (fun j ys σ' H' => (∃ v, σ' = [v]) ∧ Same H2 H' ∧ Lsts H' ys ((Ls.take j).map fun L => L.map fun x => 0 - x) ∧ ys.length = j) (by omega) ⟨⟨none, rfl⟩, Same.refl _, .nil, rfl⟩ (fun j ys σ' H' _ q => SqL.of (q.2.1 _ _ hp)) (fun j ys σ' H' q => Nat.le_of_eq q.2.2.2) ?_ ?_⟩
      · rintro j ys σ' H3 x R hx ⟨⟨v, rfl⟩, s3, x3, l3⟩ done
        obtain ⟨cc, N, rfl, hc, hN⟩ := (x2.keep s3).get hx
        have Nb := mem_flatI (List.mem_of_getElem? hN)
        refine ⟨_, rfl, cc, rfl, ⟨_, SqL.of hc⟩, compL (K := K) (a := cc) (xs := N.map V.int) (k := 0) (fun i zs σ' H' => zs = ((N.take i).map fun x => 0 - x).map V.int ∧ (∃ v, σ' = [v]) ∧ H' = H3) (by rw [List.length_map]; omega) ⟨rfl, ⟨none, rfl⟩, rfl⟩ (fun i zs σ' H' _ q => by rw [q.2.2]; exact SqL.of hc) (fun i zs σ' H' q => by rw [q.1, List.length_map, List.length_map, List.length_take]; omega) ?_ ?_⟩
        · rintro i zs σ' H' x R' hx' ⟨rfl, ⟨v', rfl⟩, rfl⟩ d2
          obtain ⟨y, rfl, hy⟩ := mem_int hx'
          refine ⟨_, rfl, _, _, rfl, rfl, d2 _ _ _ ⟨?_, ⟨_, rfl⟩, rfl⟩⟩
          rw [take_snoc hy, List.map_append, List.map_append]
          rfl
        · rintro zs σ' H' q ⟨rfl, _, rfl⟩ fq
          rw [List.length_map, List.take_length]
          refine done _ _ _ ⟨⟨_, rfl⟩, s3.trans (Same.new fq), ?_, by rw [List.length_append, l3]; rfl⟩
          rw [take_snoc hN, List.map_append]
          exact (x3.keep (Same.new fq)).snoc upd_same
      rintro ys σ' H3 lz ⟨_, s3, x3, l3⟩ flz
      rw [List.take_of_length_le (by omega)] at x3
      have z4 : Same H3 (upd H3 lz (.lst ys)) := Same.new flz
      refine k (.ref lz) (shD (Ls.map fun L => L.map fun x => 0 - x)) _ (.lst upd_same True.intro ((x3.keep z4).dtsI fun _ => True.intro)) (ok_sh (by rw [List.length_map]; omega) ?_) (S2.trans (s3.trans z4))
      rw [List.length_flatten, List.map_map]
      have e2 : (List.length ∘ fun L : List Int => L.map fun x => 0 - x) = List.length := funext fun L => List.length_map ..
      rw [e2, ← List.length_flatten]
      omega
    refine ⟨_, rfl, _, _, rfl, rfl, _, rfl, ite2 (fun c => ?_) (fun c => ?_)⟩
    · -- other things
      have hP : ∀ x, H2 x = none → (fun _ : Addr => True) x := fun _ _ => True.intro
      refine ⟨_, rfl, l, _, rfl, .inl (SqL.of (S2 _ _ hl)), ?_⟩
      have A0 : DTs H2 (fun _ => True) [.non, .int (ws.length : Int), .bl true, .str ""] [.none, .int (ws.length : Int), .bool true, .str ""] := .cons .non (.cons (.int _) (.cons (.bl _) (.cons (.str _) .nil)))
      refine ⟨Nat.zero_le _, fun r1 g1 => ?_⟩
      obtain ⟨A1, T1'⟩ := acc_lst hP (Same.refl _) A0 g1 .nil
      generalize upd H2 r1 (.lst []) = J1 at A1 T1' ⊢
      refine ⟨Nat.zero_le _, fun q2 f2 => ?_⟩
      have z2 : Same J1 (upd J1 q2 (.lst [])) := Same.new f2
      have h2 : upd J1 q2 (.lst []) q2 = some (.lst []) := upd_same
      generalize upd J1 q2 (.lst []) = K2 at z2 h2 ⊢
      refine ⟨one, fun r2 g2 => ?_⟩
      obtain ⟨A2, T2'⟩ := acc_lst hP (T1'.trans z2) (DTs.same A1 z2) g2 (.cons (.lst h2 True.intro .nil) .nil)
      generalize upd K2 r2 (.lst [.ref q2]) = J2 at A2 T2' ⊢
      refine ⟨one, fun r3 g3 => ?_⟩
      obtain ⟨A3, T3'⟩ := acc_lst hP T2' A2 g3 (.cons (.int 1) .nil)
      generalize upd J2 r3 (.lst [.int 1]) = J3 at A3 T3' ⊢
      refine ⟨_, rfl, _, rfl, lq, _, _, _, rfl, rfl, SqL.of (T3' _ _ hp), at_refI a0 hu, (by show 8 ≤ sizeLine; decide), fun l4 f4 => ?_⟩
      have A4 := A3.snoc (.lst (T3' _ _ hb) True.intro (DTs.ints L))
      have z4 : Same J3 (upd J3 l4 (.lst [.non, .int (ws.length : Int), .bl true, .str "", .ref r1, .ref r2, .ref r3, .ref b])) := Same.new f4
      have h4 : upd J3 l4 (.lst [.non, .int (ws.length : Int), .bl true, .str "", .ref r1, .ref r2, .ref r3, .ref b]) l4 = some (.lst [.non, .int (ws.length : Int), .bl true, .str "", .ref r1, .ref r2, .ref r3, .ref b]) := upd_same
      have A5 := DTs.same A4 z4
      have T5' := T3'.trans z4
      generalize upd J3 l4 (.lst [.non, .int (ws.length : Int), .bl true, .str "", .ref r1, .ref r2, .ref r3, .ref b]) = J4 at A5 T5' h4 ⊢
      have m0 := Int.emod_nonneg (z / 12) (show (8 : Int) ≠ 0 by decide)
      have m1 := Int.emod_lt_of_pos (z / 12) (show (0 : Int) < 8 by decide)
      obtain ⟨xv, hxv⟩ : ∃ v, ([.non, .int (ws.length : Int), .bl true, .str "", .ref r1, .ref r2, .ref r3, .ref b] : List V)[(z / 12 % 8).toNat]? = some v := ⟨_, List.getElem?_eq_getElem (by show (z / 12 % 8).toNat < 8; omega)⟩
      refine ⟨_, rfl, _, _, rfl, rfl, ⟨by decide, by decide⟩, _, _, rfl, rfl, (show (0 : Int) < 8 by decide), l4, _, _, xv, rfl, rfl, SqL.of h4, at_refI m0 hxv, ?_⟩
      obtain ⟨xd, hxd, dX⟩ := A5.get hxv
      refine k xv xd J4 dX ?_ (S2.trans T5')
      have ni : ∀ ns : List Int, Nice 10 (.list (ns.map PyData.int)) := fun ns => (nice_list (k := 0) (nice_ints ns)).mono (by decide)
      have okI : ∀ ns : List Int, ns.length ≤ 60 → OkB (.list (ns.map PyData.int)) := fun ns h => ⟨fun ds e => by
        injection e with e
        subst e
        refine ⟨by rw [List.length_map]; exact h, ?_⟩
        have : ((ns.map PyData.int).map lenI).sum = 0 := by
          rw [List.map_map]
          have : (lenI ∘ PyData.int) = fun _ => 0 := rfl
          rw [this]
          clear h
          induction ns with
          | nil => rfl
          | cons _ _ ih => rw [List.map_cons, List.sum_cons, ih]
        omega, ni ns⟩
      have : (z / 12 % 8).toNat = 0 ∨ (z / 12 % 8).toNat = 1 ∨ (z / 12 % 8).toNat = 2 ∨ (z / 12 % 8).toNat = 3 ∨ (z / 12 % 8).toNat = 4 ∨ (z / 12 % 8).toNat = 5 ∨ (z / 12 % 8).toNat = 6 ∨ (z / 12 % 8).toNat = 7 := by omega
      rcases this with e | e | e | e | e | e | e | e <;> rw [e] at hxd <;> injection hxd with hxd <;> subst hxd
      · exact okn _ (by intro ds e; cases e) nice_none
      · exact okn _ (by intro ds e; cases e) (nice_int _)
      · exact okn _ (by intro ds e; cases e) (nice_bool _)
      · exact okn _ (by intro ds e; cases e) (nice_str (by decide +kernel))
      · exact okI [] (by show 0 ≤ 60; decide)
      · exact ok_sh (Ls := [[]]) (by show 1 ≤ 60; decide) (by show 0 ≤ 60; decide)
      · exact okI [1] (by show 1 ≤ 60; decide)
      · exact okI L (by omega)
    have c18 : wy ≤ 17 := by
      apply Classical.byContradiction
      intro zz
      exact c (decide_eq_true (by omega))
    refine ⟨_, rfl, _, rfl, at', rfl, lq, ps, rfl, SqL.of hp, fun q1 e1 => ?_⟩
    rw [cutT9 a0 (by omega)]
    have z1 : Same H2 (upd H2 q1 (.lst (ps.take at'.toNat))) := Same.new e1
    have h1 : upd H2 q1 (.lst (ps.take at'.toNat)) q1 = some (.lst (ps.take at'.toNat)) := upd_same
    generalize upd H2 q1 (.lst (ps.take at'.toNat)) = G1 at z1 h1 ⊢
    have w8 : 8 ≤ wy := by
      have h : ∀ i : Int, ¬ decide (V.int wy = V.int i) = true → wy ≠ i := fun i h z => h (decide_eq_true (by rw [z]))
      have := h 1 nw1
      have := h 2 nw2
      have := h 3 nw3
      have := h 4 nw4
      have := h 5 nw5
      have := h 6 nw6
      have := h 7 nw7
      omega
    refine ⟨_, rfl, _, rfl, lq, _, _, _, rfl, rfl, SqL.of (z1 _ _ hp), at_refI a0 hu, _, rfl, _, _, rfl, rfl, _, rfl, _, _, rfl, rfl, ⟨by decide, by decide⟩, b, L, _, _, rfl, z1 _ _ hb, Ln, by omega, fun x hx => bd x (List.mem_flatten.mpr ⟨L, Lm, hx⟩), by omega, by omega, Int.ediv_nonneg z0 (by decide), fun xv xd GX dX oX nX zX => ?_⟩
    refine ⟨one, fun q2 e2 => ?_⟩
    have z2 : Same GX (upd GX q2 (.lst [xv])) := Same.new e2
    have h2 : upd GX q2 (.lst [xv]) q2 = some (.lst [xv]) := upd_same
    generalize upd GX q2 (.lst [xv]) = G2 at z2 h2 ⊢
    refine ⟨q1, q2, _, _, rfl, rfl, z2 _ _ (zX _ _ h1), h2, by rw [List.length_take]; show _ + 1 ≤ _; omega, fun q3 e3 => ?_⟩
    have z3 : Same G2 (upd G2 q3 (.lst (ps.take at'.toNat ++ [xv]))) := Same.new e3
    have h3 : upd G2 q3 (.lst (ps.take at'.toNat ++ [xv])) q3 = some (.lst (ps.take at'.toNat ++ [xv])) := upd_same
    generalize upd G2 q3 (.lst (ps.take at'.toNat ++ [xv])) = G3 at z3 h3 ⊢
    have y3 := z1.trans (zX.trans (z2.trans z3))
    refine ⟨_, rfl, _, rfl, _, _, rfl, rfl, _, rfl, ?_⟩
    try unfold tNoPart
    refine ⟨lq, ps, rfl, SqL.of (y3 _ _ hp), fun q4 e4 => ?_⟩
    rw [cutDg (by omega)]
    have z4 : Same G3 (upd G3 q4 (.lst (ps.drop (at' + 1).toNat))) := Same.new e4
    have h4 : upd G3 q4 (.lst (ps.drop (at' + 1).toNat)) q4 = some (.lst (ps.drop (at' + 1).toNat)) := upd_same
    generalize upd G3 q4 (.lst (ps.drop (at' + 1).toNat)) = G4 at z4 h4 ⊢
    refine ⟨q3, q4, _, _, rfl, rfl, z4 _ _ h3, h4, by rw [List.length_append, List.length_take, List.length_drop]; show _ + 1 + _ ≤ _; omega, fun q5 e5 => ?_⟩
    have z5 : Same G4 (upd G4 q5 (.lst (ps.take at'.toNat ++ [xv] ++ ps.drop (at' + 1).toNat))) := Same.new e5
    have y5 := y3.trans (z4.trans z5)
    exact k _ (.list (pds.take at'.toNat ++ [xd] ++ pds.drop (at' + 1).toNat)) _ (.lst upd_same True.intro ((((DTs.same dps y5).take _).append (.cons (DT.same dX (z2.trans (z3.trans (z4.trans z5)))) .nil)).append ((DTs.same dps y5).drop _))) (okc xd oX nX) (S2.trans y5)
end
end Sw
namespace Sw
open PySem L2
theorem flat_set {Ls : List (List Int)} {x : Int} : ∀ {j : Nat} {L : List Int}, Ls[j]? = some L → (Ls.set j (L ++ [x])).flatten.Perm (Ls.flatten ++ [x]) := by
  induction Ls with
  | nil => intro j L h; cases h
  | cons M r ih =>
    intro j L h
    cases j with
    | zero =>
      cases h
      show ((M ++ [x]) :: r).flatten.Perm _
      rw [List.flatten_cons, List.flatten_cons, List.append_assoc, List.append_assoc]
      exact List.Perm.append_left _ List.perm_append_comm
    | succ j =>
      rw [List.getElem?_cons_succ] at h
      show (M :: r.set j (L ++ [x])).flatten.Perm _
      rw [List.flatten_cons, List.flatten_cons, List.append_assoc]
      exact List.Perm.append_left _ (ih h)
theorem ivl_snoc3 (i : Nat) : ivl 1 (((i + 1 : Nat) : Int) + 1) = ivl 1 ((i : Int) + 1) ++ [(i : Int) + 1] := by
  apply List.ext_getElem?
  intro k
  have l1 : (ivl 1 ((i : Int) + 1)).length = i := by rw [ivl_length]; omega
  by_cases h : k < i
  · rw [List.getElem?_append_left (by omega), get_ivl (by omega), get_ivl (by omega)]
  · by_cases h2 : k = i
    · rw [List.getElem?_append_right (by omega), l1, h2, Nat.sub_self, get_ivl (by omega)]
      show some (1 + (i : Int)) = some ((i : Int) + 1)
      rw [Int.add_comm]
    · rw [List.getElem?_eq_none (by rw [ivl_length]; omega), List.getElem?_eq_none (by rw [List.length_append, l1, List.length_singleton]; omega)]
theorem Sgd.cov {i : Nat} {Ls : List (List Int)} {op : List Nat} (h : Sgd i Ls op) : Cov (i : Int) Ls := by
  induction h with
  | nil => exact ⟨fun _ h => (by cases h), List.Perm.of_eq rfl⟩
  | @new i Ls op h ih =>
    refine ⟨fun L hL => ?_, ?_⟩
    · rcases List.mem_append.mp hL with q | q
      · exact ih.1 L q
      · rw [List.mem_singleton.mp q]; exact List.cons_ne_nil _ _
    · rw [List.flatten_append, ivl_snoc3]
      exact List.Perm.append_right _ ih.2
  | @add i Ls op k j L h e q ih =>
    refine ⟨fun M hM => ?_, ?_⟩
    · rcases List.mem_or_eq_of_mem_set hM with g | g
      · exact ih.1 M g
      · rw [g]; exact fun e => by cases (List.append_eq_nil_iff.mp e).2
    · rw [ivl_snoc3]
      exact (flat_set q).trans (List.Perm.append_right _ ih.2)
structure SgI (i : Nat) (Ls : List (List Int)) (op : List Nat) : Prop where
  rise : ∀ L ∈ Ls, L.Pairwise (· < ·)
  nonx : ∀ (p q : Nat) (L M : List Int), Ls[p]? = some L → Ls[q]? = some M → ∀ a b c d, a ∈ L → c ∈ L → b ∈ M → d ∈ M → a < b → b < c → c < d → p = q
  free : ∀ j ∈ op, ∀ (p : Nat) (L M : List Int), Ls[p]? = some L → Ls[j]? = some M → ∀ a b c, a ∈ L → c ∈ L → b ∈ M → a < b → b < c → p = j
  up : ∀ (s t j k : Nat) (L M : List Int), s < t → op[s]? = some j → op[t]? = some k → Ls[j]? = some L → Ls[k]? = some M → ∀ x ∈ L, ∀ y ∈ M, x < y
end Sw
namespace Sw
open PySem L2
theorem eqvAll_lists : ∀ {ds : List PyData} {Ls : List (List Int)}, PyData.eqvAll ds (Ls.map fun L => PyData.list (L.map PyData.int)) = true → ∀ d ∈ ds, ∃ es, d = .list es
  | [], _, _, d, hd => by cases hd
  | e :: ds, [], h, _, _ => by unfold PyData.eqvAll at h; cases h
  | e :: ds, L :: Ls, h, d, hd => by
    rw [List.map_cons] at h
    unfold PyData.eqvAll at h
    obtain ⟨h1, h2⟩ := Bool.and_eq_true_iff.mp h
    rcases List.mem_cons.mp hd with rfl | hd
    · cases d with
      | list es => exact ⟨es, rfl⟩
      | _ => unfold PyData.eqv at h1; cases h1
    · exact eqvAll_lists h2 d hd
theorem eqv_lists {d : PyData} {Ls : List (List Int)} (h : PyData.eqv d (shD Ls) = true) : ∃ ds, d = .list ds ∧ ∀ e ∈ ds, ∃ es, e = .list es := by
  unfold shD at h
  cases d with
  | list ds => unfold PyData.eqv at h; exact ⟨ds, rfl, eqvAll_lists h⟩
  | _ => unfold PyData.eqv at h; cases h
theorem sh_one : Gsd 1 [[1]] := ⟨⟨by decide, List.Perm.refl _⟩, by decide, fun L hL M hM a b c d _ _ _ _ _ _ _ => by rw [List.mem_singleton.mp hL, List.mem_singleton.mp hM], by decide⟩
theorem sh_four : ¬ IsSh 4 (shD [[1, 3], [2, 4]]) := fun ⟨Ls, e, g⟩ => by
  have el : Ls = [[1, 3], [2, 4]] := by
    have inj : ∀ a b : List Int, PyData.list (a.map PyData.int) = PyData.list (b.map PyData.int) → a = b := fun a b h => by
      injection h with h
      have := congrArg (List.map intI) h
      rwa [map_intI, map_intI] at this
    injection e with e
    exact ((List.map_inj_right inj).mp e).symm
  subst el
  have := g.nx [1, 3] (by decide) [2, 4] (by decide) 1 2 3 4 (by decide) (by decide) (by decide) (by decide) (by decide) (by decide) (by decide)
  exact absurd this (by decide)
structure TL (P : Program) (w : World) (K : PySem.W.Frag) (mg : Str → Option Value) (base : Heap) : Prop extends T1 mg K where
  b_min : mg "min" = none
  b_max : mg "max" = none
  f__law_number : FnAt P w K mg base "_law_number" 2 ["_law_script", "_law_k"] (spNum K)
  f__law_size : FnAt P w K mg base "_law_size" 1 ["_law_number_here"] spSize
  f__law_sharing : FnAt P w K mg base "_law_sharing" 1 ["_law_number_here", "_law_n"] spSgd
  f__law_bent : FnAt P w K mg base "_law_bent" 2 ["_law_sharing_here", "_law_way", "_law_number_here"] spBn
  f__law_is_sharing : FnAt P w K mg base "_law_is_sharing" 3 ["_law_n", "_law_thing"] spIshD
  f_is_sharing : FnAt P w K mg base "is_sharing" 4 ["n", "thing"] spIssD
section
variable {P : Program} {w : World} {K : PySem.W.Frag} {mg : Str → Option Value} {base : Heap}
theorem sc_law : FnScope ["_law_script", "_law_k", "_law_number_here", "_law_n", "_law_way", "_law_sharing_here", "_law_size_here", "_law_many", "_law_thing", "_law_kept", "_law_found"] ["_law_script"] (defScope (top 20)) := ⟨rfl, rfl, rfl, by decide +kernel, rfl, by decide +kernel, by decide +kernel⟩
theorem ok_law {f : Addr} {fd : FuncData} (F : Fun K "law" "law" (top 20) f fd) (T : TL P w K mg base) : FnOk P w K mg base CX0 6 f fd ["_law_script"] (spLaw K) := by
  refine F.ok sc_law (fun vs H Q E h => ?_) (fun cdv A outer s H vs Q E hr h => ?_)
  · obtain ⟨a, ns, rfl, _⟩ := h
    rfl
  · obtain ⟨a, ns, rfl, hS, hlen, k⟩ := h
    refine ⟨_, (@pss_cons _ _ _ _ _ (ps_for PassesOwn.never rfl (pi_range1 rfl T.b_range (pa_cons (pe_callB (call_max2 rfl) rfl T.b_max (by decide +kernel) (pa_cons pe_int (pa_cons (pe_callB (call_min2 rfl) rfl T.b_min (by decide +kernel) (pa_cons (pe_callB (call_lenK (K := K) rfl) rfl T.b_len (by decide +kernel) (pa_cons (pv 0) pa_nil)) (pa_cons pe_int pa_nil))) pa_nil))) pa_nil)) (pg_name (i := 1) sc_law.nd rfl (Or.inl rfl)) (@pss_cons _ _ _ _ _ (ps_set (i := 2) sc_law.nd rfl (Or.inl rfl) (pe_callF T.f__law_number (hr.mono (by first | decide | omega)) rfl (pa_cons (pv 0) (pa_cons (pv 1) pa_nil))))
      (@pss_cons _ _ _ _ _ (ps_set (i := 3) sc_law.nd rfl (Or.inl rfl) (pe_callF T.f__law_size (hr.mono (by first | decide | omega)) rfl (pa_cons (pv 2) pa_nil)))
      (@pss_cons _ _ _ _ _ (ps_set (i := 4) sc_law.nd rfl (Or.inl rfl) (pe_op op_mod (pe_op op_fdivL (pv 2) pe_int) pe_int))
      (@pss_cons _ _ _ _ _ (ps_set (i := 5) sc_law.nd rfl (Or.inl rfl) (pe_callF T.f__law_sharing (hr.mono (by first | decide | omega)) rfl (pa_cons (pe_op op_fdivL (pe_op op_fdivL (pv 2) pe_int) (pe_op op_pow pe_int pe_int)) (pa_cons (pv 3) pa_nil))))
      (@pss_cons _ _ _ _ _ (@ps_set _ _ 6 _ _ _ _ sc_law.nd rfl (Or.inl rfl) (@pe_ix _ _ _ _ _ _ _ (ix_listK (K := K) rfl) (@pe_lst _ _ _ _ (@pa_cons _ _ _ _ _ (pv 3) (@pa_cons _ _ _ _ _ (pv 3) (@pa_cons _ _ _ _ _ (pv 3) (@pa_cons _ _ _ _ _ (pe_op op_sub (pv 3) pe_int) (@pa_cons _ _ _ _ _ (pe_op op_add (pv 3) pe_int) pa_nil st_bin) st_bin) st_name) st_name) st_name)) (pe_op op_mod (pe_op op_fdivL (pv 2) pe_int) pe_int) (fun _ _ => rfl)) (by rfl) (by first | exact .inl rfl | exact .inr rfl))
      (pss_one (ps_for PassesOwn.never rfl (pi_tupK (K := K) rfl (pe_tup (pa_cons (pe_tup (pa_cons (pv 3) (pa_cons (pv 5) pa_nil))) (pa_cons (pe_tup (pa_cons (pe_callB (call_min2 rfl) rfl T.b_min (by decide +kernel) (pa_cons pe_int (pa_cons (pe_callB (call_max2 rfl) rfl T.b_max (by decide +kernel) (pa_cons pe_int (pa_cons (pv 6) pa_nil))) pa_nil))) (pa_cons (pe_callF T.f__law_bent (hr.mono (by first | decide | omega)) rfl (@pa_cons _ _ _ _ _ (pv 5) (@pa_cons _ _ _ _ _ (pv 4) (@pa_cons _ _ _ _ _ (pe_op op_mod (pe_op op_fdivL (pv 2) pe_int) (pe_op op_pow pe_int pe_int)) pa_nil st_bin) st_name) st_name)) pa_nil))) pa_nil)))) (pg_tupK (K := K) (n := 2) rfl rfl (pgs_cons (pg_name (i := 7) sc_law.nd rfl (Or.inl rfl)) (pgs_cons (pg_name (i := 8) sc_law.nd rfl (Or.inl rfl)) pgs_nil))) (pss_cons (ps_set (i := 9) sc_law.nd rfl (Or.inl rfl) (pe_ifExp (pt_cmpR (op_eqD hr.units) (pv 8) (pv 5) (nomark _)) (pe_comp (N := (["_law_part"] : List Str)) (ix := ([none] : List (Option Nat))) (comp_ok rfl rfl) rfl (pi_listK (K := K) rfl (pv 8)) (fun _ _ _ _ => (pg_name (i := 0) (show List.Nodup (["_law_part"] : List Str) from by decide +kernel) rfl (Or.inl rfl))) (fun _ _ _ _ => pif_nil) (fun _ _ _ _ => (pe_callTy (call_list_ofK (K := K) rfl) rfl T.b_list (by decide +kernel) (pa_cons (pv 0) pa_nil)))) (pv 8)))
      (pss_cons (ps_set (i := 10) sc_law.nd rfl (Or.inl rfl) (pe_callF T.f_is_sharing (hr.mono (by first | decide | omega)) rfl (pa_cons (pv 7) (pa_cons (pv 8) pa_nil))))
      (pss_one (ps_if (PW.pt (pw_or (pt_not (pt_val (pe_callB (call_isiK (K := K) rfl) rfl T.b_isinstance (by decide +kernel) (pa_cons (pv 10) (pa_cons (pe_bltn (v := .ty "bool") rfl T.b_bool (by decide +kernel) rfl) pa_nil))))) (pw_or (pt_cmpR op_ne (pv 10) (pe_callF T.f__law_is_sharing (hr.mono (by first | decide | omega)) rfl (pa_cons (pv 7) (pa_cons (pv 8) pa_nil))) (nomark _)) (pw_or1 (pt_cmpR (op_neD hr.units) (pv 8) (pv 9) (nomark _)))))) (pss_one (ps_ret pe_bl)) pss_nil))))))))))))
      (pss_one (ps_ret (pe_and (pe_cmpR op_isB (pe_callF T.f_is_sharing (hr.mono (by first | decide | omega)) rfl (pa_cons pe_int (pa_cons (pe_lst (pa_cons (pe_lst (pa_cons pe_int pa_nil)) pa_nil)) pa_nil))) pe_bl (nomark _)) (pe_one (pe_cmpR op_isB (pe_callF T.f_is_sharing (hr.mono (by first | decide | omega)) rfl (pa_cons pe_int (pa_cons (pe_lst (pa_cons (pe_lst (pa_cons pe_int (pa_cons pe_int pa_nil))) (pa_cons (pe_lst (pa_cons pe_int (pa_cons pe_int pa_nil))) pa_nil))) pa_nil))) pe_bl (nomark _))))))), ?_⟩
    have big : (10000000 : Nat) ≤ sizeLine := by decide
    have one : 1 ≤ sizeLine := by decide
    have two : 2 ≤ sizeLine := by decide
    refine ⟨_, rfl, a, _, rfl, .inl hS, _, _, rfl, _, _, rfl, _, rfl, ?b1, ?b2, ?_⟩
    case b1 => rw [List.length_map]; split <;> (try split) <;> omega
    case b2 => rw [List.length_map]; split <;> (try split) <;> omega
    refine for_range (fun i σ H' => (∃ v1 v2 v3 v4 v5 v6 v7 v8 v9 v10, σ = [some (.ref a), v1, v2, v3, v4, v5, v6, v7, v8, v9, v10]) ∧ Same H H' ∧ i ≤ 100) ⟨⟨_, _, _, _, _, _, _, _, _, _, rfl⟩, Same.refl _, by decide⟩ ?_ ?_
    · rintro i σ H0 hi ⟨⟨v1, v2, v3, v4, v5, v6, v7, v8, v9, v10, rfl⟩, s0, _⟩
      have hi : i < 40 := Nat.lt_of_lt_of_le hi (by rw [List.length_map]; split <;> (try split) <;> omega)
      refine ⟨_, rfl, _, rfl, a, ns, _, rfl, s0.seq hS, by omega, by omega, fun z z0 => ?_⟩
      refine ⟨_, rfl, z, rfl, z0, fun n H1 n1 n12 s1 => ?_⟩
      have a1 := s0.trans s1
      refine ⟨_, rfl, _, _, rfl, rfl, ⟨by decide, by decide⟩, _, _, rfl, rfl, (show (0 : Int) < 20 by decide), ?_⟩
      obtain ⟨wy, hwy⟩ : ∃ wy : Int, z / 16 % 20 = wy := ⟨_, rfl⟩
      have w0 : 0 ≤ wy := by rw [← hwy]; exact Int.emod_nonneg _ (by decide)
      have w1 : wy < 20 := by rw [← hwy]; exact Int.emod_lt_of_pos _ (by decide)
      refine gNJ ?_
      dsimp only
      rw [hwy]
      have e7 : (10 : Int) ^ Int.toNat 7 = 10000000 := by decide
      refine ⟨_, rfl, _, _, rfl, rfl, ⟨by decide, by decide⟩, _, _, rfl, rfl, ⟨by decide, by decide, by decide⟩, _, _, rfl, rfl, ⟨by decide, by decide⟩, _, rfl, _, n, rfl, Int.ediv_nonneg (Int.ediv_nonneg z0 (by decide)) (by decide), by omega, by omega, fun ls ws Ls op H2 fls hls xl nd fw nls sg s2 => ?_⟩
      have a2 := a1.trans s2
      have cov : Cov n Ls := by have := sg.cov; rwa [Int.toNat_of_nonneg (by omega)] at this
      have fl : Ls.flatten.length = n.toNat := by rw [cov.2.length_eq, ivl_length]; omega
      have Ll : Ls.length ≤ 12 := by have := sg.lt.2.2; omega
      have sml : SmL Ls := ⟨fun z => by subst z; have : (0 : Nat) = n.toNat := fl; omega, cov.1, Ll, by omega, fun x hx => by have := mem_ivl.mp (cov.2.mem_iff.mp hx); omega⟩
      have okS := ok_sh (Ls := Ls) (by omega) (by omega)
      -- the number of things
      refine ⟨_, rfl, _, rfl, _, rfl, _, rfl, _, _, rfl, rfl, _, rfl, _, _, rfl, rfl, (by show 5 ≤ sizeLine; decide), fun l3 f3 => ?_⟩
      have z3 : Same H2 (upd H2 l3 (.lst [.int n, .int n, .int n, .int (n - 1), .int (n + 1)])) := Same.new f3
      have h3 : upd H2 l3 (.lst [.int n, .int n, .int n, .int (n - 1), .int (n + 1)]) l3 = some (.lst [.int n, .int n, .int n, .int (n - 1), .int (n + 1)]) := upd_same
      generalize upd H2 l3 (.lst [.int n, .int n, .int n, .int (n - 1), .int (n + 1)]) = H3 at z3 h3 ⊢
      have m0 := Int.emod_nonneg (z / 320) (show (5 : Int) ≠ 0 by decide)
      have m1 := Int.emod_lt_of_pos (z / 320) (show (0 : Int) < 5 by decide)
      obtain ⟨sz, hsz⟩ : ∃ sz : Int, ([.int n, .int n, .int n, .int (n - 1), .int (n + 1)] : List V)[(z / 320 % 5).toNat]? = some (.int sz) := by
        have : (z / 320 % 5).toNat = 0 ∨ (z / 320 % 5).toNat = 1 ∨ (z / 320 % 5).toNat = 2 ∨ (z / 320 % 5).toNat = 3 ∨ (z / 320 % 5).toNat = 4 := by omega
        rcases this with e | e | e | e | e <;> rw [e] <;> exact ⟨_, rfl⟩
      refine ⟨_, rfl, _, _, rfl, rfl, ⟨by decide, by decide⟩, _, _, rfl, rfl, (show (0 : Int) < 5 by decide), l3, _, _, _, rfl, rfl, SqL.of h3, at_refI m0 hsz, ?_⟩
      have hls3 := z3 _ _ hls
      have xl3 := xl.keep z3
      have a3 := a2.trans z3
      refine ⟨_, rfl, _, rfl, two, fun t1 ft1 => ?_⟩
      have z4 : Same H3 (upd H3 t1 (.tup [.int n, .ref ls])) := Same.new ft1
      have ht1 : upd H3 t1 (.tup [.int n, .ref ls]) t1 = some (.tup [.int n, .ref ls]) := upd_same
      generalize upd H3 t1 (.tup [.int n, .ref ls]) = H4 at z4 ht1 ⊢
      refine ⟨_, rfl, _, _, rfl, _, _, rfl, ?_⟩
      have mb : 1 ≤ (if (if sz > 1 then sz else 1) < 12 then (if sz > 1 then sz else 1) else 12) ∧ (if (if sz > 1 then sz else 1) < 12 then (if sz > 1 then sz else 1) else 12) ≤ 12 := by split <;> split <;> omega
      have p7 : (0 : Int) < (10 : Int) ^ Int.toNat 7 := by rw [e7]; decide
      refine ⟨_, rfl, _, rfl, _, rfl, _, _, rfl, rfl, ⟨by decide, by decide⟩, _, _, rfl, rfl, ⟨by decide, by decide, by decide⟩, _, _, rfl, rfl, p7, ls, ws, Ls, wy, _, rfl, z4 _ _ hls3, xl3.keep z4, sml, w0, w1, Int.emod_nonneg _ (by rw [e7]; decide), fun bv bd H5 dtb okb s5 => ?_⟩
      refine ⟨two, fun t2 ft2 => ?_⟩
      have z6 : Same H5 (upd H5 t2 (.tup [.int (if (if sz > 1 then sz else 1) < 12 then (if sz > 1 then sz else 1) else 12), bv])) := Same.new ft2
      have ht2 : upd H5 t2 (.tup [.int (if (if sz > 1 then sz else 1) < 12 then (if sz > 1 then sz else 1) else 12), bv]) t2 = some (.tup [.int (if (if sz > 1 then sz else 1) < 12 then (if sz > 1 then sz else 1) else 12), bv]) := upd_same
      refine ⟨two, fun tt ftt => ?_⟩
      have z7 : Same (upd H5 t2 (.tup [.int (if (if sz > 1 then sz else 1) < 12 then (if sz > 1 then sz else 1) else 12), bv])) (upd (upd H5 t2 (.tup [.int (if (if sz > 1 then sz else 1) < 12 then (if sz > 1 then sz else 1) else 12), bv])) tt (.tup [.ref t1, .ref t2])) := Same.new ftt
      have htt : upd (upd H5 t2 (.tup [.int (if (if sz > 1 then sz else 1) < 12 then (if sz > 1 then sz else 1) else 12), bv])) tt (.tup [.ref t1, .ref t2]) tt = some (.tup [.ref t1, .ref t2]) := upd_same
      have y7 := z4.trans (s5.trans (z6.trans z7))
      have ht17 := (s5.trans (z6.trans z7)) _ _ ht1
      have ht27 := z7 _ _ ht2
      have dtb7 := DT.same dtb (z6.trans z7)
      obtain ⟨H7, e7'⟩ : ∃ H7, H7 = upd (upd H5 t2 (.tup [.int (if (if sz > 1 then sz else 1) < 12 then (if sz > 1 then sz else 1) else 12), bv])) tt (.tup [.ref t1, .ref t2]) := ⟨_, rfl⟩
      rw [← e7'] at htt y7 ht17 ht27 dtb7
      have hls7 := y7 _ _ hls3
      have xl7 := xl3.keep y7
      have a7 := a3.trans y7
      have dtS : DT H7 (fun _ => True) (.ref ls) (shD Ls) := .lst hls7 True.intro (xl7.dtsI fun _ => True.intro)
      obtain ⟨mm, hmm⟩ : ∃ mm : Int, mm = (if (if sz > 1 then sz else 1) < 12 then (if sz > 1 then sz else 1) else 12) := ⟨_, rfl⟩
      rw [← hmm] at mb ht27
      refine ⟨tt, rfl, ⟨_, SqT.of upd_same⟩, ?_⟩
      show ∃ W : Nat → Nat → St → Hp → Prop, (∃ m, W 0 m _ (upd (upd H5 t2 (.tup [.int (if (if sz > 1 then sz else 1) < 12 then (if sz > 1 then sz else 1) else 12), bv])) tt (.tup [.ref t1, .ref t2]))) ∧ _
      rw [← e7']
      refine for_tup (K := K) (a := tt) (xs := [.ref t1, .ref t2]) (fun j σ H' => (∃ v7 v8 v9 v10, σ = [some (.ref a), some (.int (0 + (i : Int))), some (.int z), some (.int n), some (.int wy), some (.ref ls), some (.int sz), v7, v8, v9, v10]) ∧ Same H7 H') ⟨⟨_, _, _, _, rfl⟩, Same.refl _⟩ (fun j σ H' _ q => SqT.of (q.2 _ _ htt)) ?_ ?_
      · rintro j x σ H8 hx ⟨⟨u7, u8, u9, u10, rfl⟩, s8⟩
        obtain ⟨tx, m, v, d, rfl, htx, m1', m12', dt, ok⟩ : ∃ tx m v d, x = V.ref tx ∧ H7 tx = some (.tup [.int m, v]) ∧ 1 ≤ m ∧ m ≤ 12 ∧ DT H7 (fun _ => True) v d ∧ OkB d := by
          have : j = 0 ∨ j = 1 := by
            have := (List.getElem?_eq_some_iff.mp hx).1
            have : j < 2 := this
            omega
          rcases this with rfl | rfl
          · injection hx with hx
            exact ⟨t1, n, .ref ls, shD Ls, hx.symm, ht17, n1, n12, dtS, okS⟩
          · injection hx with hx
            exact ⟨t2, mm, bv, bd, hx.symm, ht27, mb.1, mb.2, dtb7, okb⟩
        refine ⟨tx, _, rfl, SqT.of (s8 _ _ htx), rfl, _, _, rfl, _, _, rfl, rfl, ?_⟩
        have dt8 := DT.same dt s8
        have dS8 := DT.same dtS s8
        refine seq_byJ (t := tAsg _ _) (fun σ' H' => ∃ kv, σ' = [some (.ref a), some (.int (0 + (i : Int))), some (.int z), some (.int n), some (.int wy), some (.ref ls), some (.int sz), some (.int m), some v, some kv, u10] ∧ DT H' (fun _ => True) kv d ∧ Same H8 H') (fun D' hD => ?_) ?_
        · refine ⟨_, rfl, _, rfl, fun _ => True, d, shD Ls, dt8.dat, dS8.dat, ok.2.lay, okS.2.lay, by have := ok.2.dp; omega, ⟨_, rfl, ite2 (fun c => ?_) (fun c => ?_)⟩⟩
          · obtain ⟨ds, rfl, all⟩ := eqv_lists c
            cases dt8 with
            | @lst lv us _ hv pv rs =>
              have ul := rs.length
              have dl := (ok.1 ds rfl).1
              refine ⟨_, rfl, lv, rfl, ⟨_, SqL.of hv⟩, compL (K := K) (a := lv) (xs := us) (k := 0) (fun j ys σ' H' => (∃ v, σ' = [v]) ∧ Same H8 H' ∧ DTs H' (fun _ => True) ys (ds.take j) ∧ ys.length = j) (by omega) ⟨⟨none, rfl⟩, Same.refl _, .nil, rfl⟩ (fun j ys σ' H' _ q => SqL.of (q.2.1 _ _ hv)) (fun j ys σ' H' q => Nat.le_of_eq q.2.2.2) ?_ ?_⟩
              · rintro j' ys σ' H9 x' R hx' ⟨⟨v', rfl⟩, s9, x9, l9⟩ done
                obtain ⟨e, he, hez⟩ := rs.get hx'
                obtain ⟨es, rfl⟩ := all e (List.mem_of_getElem? he)
                cases hez with
                | @lst c us2 _ hc pc rc =>
                  refine ⟨_, rfl, c, _, rfl, .inl (SqL.of (s9 _ _ hc)), fun q fq => done _ _ _ ⟨⟨_, rfl⟩, s9.trans (Same.new fq), ?_, by rw [List.length_append, l9]; rfl⟩⟩
                  rw [take_snoc he]
                  exact (DTs.same x9 (Same.new fq)).snoc (.lst upd_same True.intro (DTs.same (DTs.same rc s9) (Same.new fq)))
              · rintro ys σ' H9 q ⟨_, s9, x9, l9⟩ fq
                rw [List.take_of_length_le (by omega)] at x9
                exact hD _ _ ⟨.ref q, rfl, .lst upd_same True.intro (DTs.same x9 (Same.new fq)), s9.trans (Same.new fq)⟩
          · exact ⟨_, rfl, hD _ _ ⟨v, rfl, dt8, Same.refl _⟩⟩
        rintro σ H9 ⟨kv, rfl, dk, s9⟩
        have dt9 := DT.same dt8 s9
        refine ⟨_, rfl, _, rfl, v, _, d, m, rfl, dt9, ok.1, m1', m12', fun b H10 hb s10 => ?_⟩
        refine ⟨_, rfl, _, _, "bool", _, rfl, (DT.bl (H := H10) (P := fun _ => True) b).ty, kit_self _ _, true, rfl, iteF ?_⟩
        refine ⟨_, rfl, _, rfl, _, rfl, v, _, d, m, rfl, DT.same dt9 s10, ok.1, ok.2, m1', m12', fun b2 H11 hb2 s11 => ⟨rfl, _, rfl, iteE ?_ ?_⟩⟩
        · have : b = b2 := by rw [Bool.eq_iff_iff, hb, hb2]
          rw [this, decide_eq_true rfl]; rfl
        have s1011 := s10.trans s11
        refine ⟨_, rfl, _, rfl, fun _ => True, d, d, (DT.same dt9 s1011).dat, (DT.same dk s1011).dat, ok.2.lay, ok.2.lay, by have := ok.2.dp; omega, ?_⟩
        rw [PySem.SeqAt.eqv_refl d ok.2.lay]
        exact ⟨_, rfl, iteF ⟨⟨_, _, _, _, rfl⟩, s8.trans (s9.trans s1011)⟩⟩
      · rintro σ H8 ⟨⟨u7, u8, u9, u10, rfl⟩, s8⟩
        exact ⟨⟨_, _, _, _, _, _, _, _, _, _, rfl⟩, a7.trans s8, by omega⟩
    · rintro σ H0 ⟨⟨v1, v2, v3, v4, v5, v6, v7, v8, v9, v10, rfl⟩, s0, _⟩
      refine ⟨one, fun q1 f1 => ?_⟩
      have z1 : Same H0 (upd H0 q1 (.lst [.int 1])) := Same.new f1
      have h1 : upd H0 q1 (.lst [.int 1]) q1 = some (.lst ([1].map V.int)) := upd_same
      generalize upd H0 q1 (.lst [.int 1]) = H1 at z1 h1 ⊢
      refine ⟨one, fun q2 f2 => ?_⟩
      have z2 : Same H1 (upd H1 q2 (.lst [.ref q1])) := Same.new f2
      have h2 : upd H1 q2 (.lst [.ref q1]) q2 = some (.lst [.ref q1]) := upd_same
      have h12 := z2 _ _ h1
      generalize upd H1 q2 (.lst [.ref q1]) = H2 at z2 h2 h12 ⊢
      refine ⟨.ref q2, fun _ => True, shD [[1]], 1, rfl, .lst h2 True.intro (.cons (.lst h12 True.intro (DTs.ints [1])) .nil), few_sh (by decide) (by decide), by decide, by decide, fun b H3 hb s3 => ?_⟩
      have b1 : b = true := hb.mpr ⟨[[1]], rfl, sh_one⟩
      subst b1
      refine ⟨_, _, rfl, rfl, _, rfl, iteP rfl ?_⟩
      refine ⟨two, fun q4 f4 => ?_⟩
      have z4 : Same H3 (upd H3 q4 (.lst [.int 1, .int 3])) := Same.new f4
      have h4 : upd H3 q4 (.lst [.int 1, .int 3]) q4 = some (.lst ([1, 3].map V.int)) := upd_same
      generalize upd H3 q4 (.lst [.int 1, .int 3]) = H4 at z4 h4 ⊢
      refine ⟨two, fun q5 f5 => ?_⟩
      have z5 : Same H4 (upd H4 q5 (.lst [.int 2, .int 4])) := Same.new f5
      have h5 : upd H4 q5 (.lst [.int 2, .int 4]) q5 = some (.lst ([2, 4].map V.int)) := upd_same
      have h45 := z5 _ _ h4
      generalize upd H4 q5 (.lst [.int 2, .int 4]) = H5 at z5 h5 h45 ⊢
      refine ⟨two, fun q6 f6 => ?_⟩
      have z6 : Same H5 (upd H5 q6 (.lst [.ref q4, .ref q5])) := Same.new f6
      have h6 : upd H5 q6 (.lst [.ref q4, .ref q5]) q6 = some (.lst [.ref q4, .ref q5]) := upd_same
      have h46 := z6 _ _ h45
      have h56 := z6 _ _ h5
      generalize upd H5 q6 (.lst [.ref q4, .ref q5]) = H6 at z6 h6 h46 h56 ⊢
      refine ⟨.ref q6, fun _ => True, shD [[1, 3], [2, 4]], 4, rfl, .lst h6 True.intro (.cons (.lst h46 True.intro (DTs.ints [1, 3])) (.cons (.lst h56 True.intro (DTs.ints [2, 4])) .nil)), few_sh (by decide) (by decide), by decide, by decide, fun b H7 hb s7 => ?_⟩
      have b1 : b = false := by
        cases b with
        | false => rfl
        | true => exact absurd (hb.mp rfl) sh_four
      subst b1
      exact ⟨_, _, rfl, rfl, k H7⟩
end
end Sw
namespace Sw
open PySem L2
section
variable {P : Program} {w : World} {K : PySem.W.Frag} {mg : Str → Option Value} {base : Heap}
theorem sc_is_whole : FnScope ["thing"] ["thing"] (defScope (top 1)) := ⟨rfl, rfl, rfl, by decide +kernel, rfl, by decide +kernel, by decide +kernel⟩
theorem ok_iwD {f : Addr} {fd : FuncData} (F : Fun K "is_whole" "is_whole" (top 1) f fd) (T : T1 mg K) : FnOk P w K mg base CX0 1 f fd ["thing"] spIwD := by
  refine F.ok sc_is_whole (fun vs H Q E h => ?_) (fun cdv A outer s H vs Q E hr h => ?_)
  · obtain ⟨v, P, d, rfl, _⟩ := h
    rfl
  · obtain ⟨v, P, d, rfl, hd, k⟩ := h
    refine ⟨_, (pss_one (ps_ret (pe_and (pe_callB (call_isiK (K := K) rfl) rfl T.b_isinstance (by decide +kernel) (pa_cons (pv 0) (pa_cons (pe_bltn (v := .ty "int") rfl T.b_int (by decide +kernel) rfl) pa_nil))) (pe_one (pe_not (pe_callB (call_isiK (K := K) rfl) rfl T.b_isinstance (by decide +kernel) (pa_cons (pv 0) (pa_cons (pe_bltn (v := .ty "bool") rfl T.b_bool (by decide +kernel) rfl) pa_nil)))))))), ?_⟩
    refine ⟨_, rfl, _, _, "int", _, rfl, hd.ty, kit_int K hd, _, rfl, ite2 (fun c => ?_) (fun c => ?_)⟩
    · refine ⟨_, rfl, _, _, "bool", _, rfl, hd.ty, kit_bool K hd, _, rfl, ?_⟩
      cases hd <;> first | exact k | exact absurd c Bool.false_ne_true
    · cases hd <;> first | exact k | exact absurd rfl c
theorem sc_is_between : FnScope ["thing", "low", "high"] ["thing", "low", "high"] (defScope (top 2)) := ⟨rfl, rfl, rfl, by decide +kernel, rfl, by decide +kernel, by decide +kernel⟩
theorem ok_btD {f : Addr} {fd : FuncData} (F : Fun K "is_between" "is_between" (top 2) f fd) (T : TD P w K mg base) : FnOk P w K mg base CX0 2 f fd ["thing", "low", "high"] spBtD := by
  refine F.ok sc_is_between (fun vs H Q E h => ?_) (fun cdv A outer s H vs Q E hr h => ?_)
  · obtain ⟨v, P, d, lo, hi, rfl, _⟩ := h
    rfl
  · obtain ⟨v, P, d, lo, hi, rfl, hd, k⟩ := h
    refine ⟨_, (pss_one (ps_ret (pe_and (pe_callF T.f_is_whole (hr.mono (by first | decide | omega)) rfl (pa_cons (pv 0) pa_nil)) (pe_one (pe_chain op_le op_le (pv 1) (pv 0) (pv 2)))))), ?_⟩
    refine ⟨_, rfl, v, P, d, rfl, hd, _, rfl, ?_⟩
    cases hd with
    | int x =>
      refine iteT ?_
      refine ⟨_, rfl, _, rfl, _, _, rfl, rfl, _, rfl, ite2 (fun c => ?_) (fun c => ?_)⟩
      · have c : lo ≤ x := of_decide_eq_true c
        have e : btw lo hi (.int x) = decide (x ≤ hi) := by show decide (lo ≤ x ∧ x ≤ hi) = _; rw [Bool.eq_iff_iff]; simp [c]
        rw [e] at k
        exact ⟨_, rfl, _, _, rfl, rfl, k⟩
      · have c : ¬ lo ≤ x := of_decide_eq_false (by simpa using c)
        have e : btw lo hi (.int x) = false := by show decide (lo ≤ x ∧ x ≤ hi) = _; simp [c]
        rw [e] at k
        exact k
    | _ => exact iteF k
end
end Sw
namespace Sw
open PySem L2
section
variable {P : Program} {w : World} {K : PySem.W.Frag} {mg : Str → Option Value} {base : Heap}
theorem sc__law_whole : FnScope ["_law_thing"] ["_law_thing"] (defScope (top 11)) := ⟨rfl, rfl, rfl, by decide +kernel, rfl, by decide +kernel, by decide +kernel⟩
theorem ok_lwE {f : Addr} {fd : FuncData} (F : Fun K "_law_whole" "_law_whole" (top 11) f fd) (T : T1 mg K) : FnOk P w K mg base CX0 1 f fd ["_law_thing"] spIwD := by
  refine F.ok sc__law_whole (fun vs H Q E h => ?_) (fun cdv A outer s H vs Q E hr h => ?_)
  · obtain ⟨v, P, d, rfl, _⟩ := h
    rfl
  · obtain ⟨v, P, d, rfl, hd, k⟩ := h
    refine ⟨_, (pss_one (ps_ret (pe_and (pe_callB (call_isiK (K := K) rfl) rfl T.b_isinstance (by decide +kernel) (pa_cons (pv 0) (pa_cons (pe_bltn (v := .ty "int") rfl T.b_int (by decide +kernel) rfl) pa_nil))) (pe_one (pe_not (pe_callB (call_isiK (K := K) rfl) rfl T.b_isinstance (by decide +kernel) (pa_cons (pv 0) (pa_cons (pe_bltn (v := .ty "bool") rfl T.b_bool (by decide +kernel) rfl) pa_nil)))))))), ?_⟩
    refine ⟨_, rfl, _, _, "int", _, rfl, hd.ty, kit_int K hd, _, rfl, ite2 (fun c => ?_) (fun c => ?_)⟩
    · refine ⟨_, rfl, _, _, "bool", _, rfl, hd.ty, kit_bool K hd, _, rfl, ?_⟩
      cases hd <;> first | exact k | exact absurd c Bool.false_ne_true
    · cases hd <;> first | exact k | exact absurd rfl c
end
end Sw
namespace Sw
open PySem L2
theorem all_mk {l : PySem.W.OpenLaw} {w : World} {K : PySem.W.Frag} {h : Heap} {mg : Str → Option Value} {fa : Addr} (X : K.In h) (G : h.Ns mainGlobals mg) (hfa : mg "law" = some (.ref fa))
    {f0 : Addr} {od0 an0 : Option Addr} {sl0 : Array (Option Value)} {oc0 kV0 dc0 pm0 cd0 ct0 : Value}
    {f1 : Addr} {od1 an1 : Option Addr} {sl1 : Array (Option Value)} {oc1 kV1 dc1 pm1 cd1 ct1 : Value}
    {f2 : Addr} {od2 an2 : Option Addr} {sl2 : Array (Option Value)} {oc2 kV2 dc2 pm2 cd2 ct2 : Value}
    {f3 : Addr} {od3 an3 : Option Addr} {sl3 : Array (Option Value)} {oc3 kV3 dc3 pm3 cd3 ct3 : Value}
    {f4 : Addr} {od4 an4 : Option Addr} {sl4 : Array (Option Value)} {oc4 kV4 dc4 pm4 cd4 ct4 : Value}
    {f5 : Addr} {od5 an5 : Option Addr} {sl5 : Array (Option Value)} {oc5 kV5 dc5 pm5 cd5 ct5 : Value}
    {f6 : Addr} {od6 an6 : Option Addr} {sl6 : Array (Option Value)} {oc6 kV6 dc6 pm6 cd6 ct6 : Value}
    {f7 : Addr} {od7 an7 : Option Addr} {sl7 : Array (Option Value)} {oc7 kV7 dc7 pm7 cd7 ct7 : Value}
    {f8 : Addr} {od8 an8 : Option Addr} {sl8 : Array (Option Value)} {oc8 kV8 dc8 pm8 cd8 ct8 : Value}
    {f9 : Addr} {od9 an9 : Option Addr} {sl9 : Array (Option Value)} {oc9 kV9 dc9 pm9 cd9 ct9 : Value}
    {f10 : Addr} {od10 an10 : Option Addr} {sl10 : Array (Option Value)} {oc10 kV10 dc10 pm10 cd10 ct10 : Value}
    {f11 : Addr} {od11 an11 : Option Addr} {sl11 : Array (Option Value)} {oc11 kV11 dc11 pm11 cd11 ct11 : Value}
    {f12 : Addr} {od12 an12 : Option Addr} {sl12 : Array (Option Value)} {oc12 kV12 dc12 pm12 cd12 ct12 : Value}
    {f13 : Addr} {od13 an13 : Option Addr} {sl13 : Array (Option Value)} {oc13 kV13 dc13 pm13 cd13 ct13 : Value}
    {f14 : Addr} {od14 an14 : Option Addr} {sl14 : Array (Option Value)} {oc14 kV14 dc14 pm14 cd14 ct14 : Value}
    {f15 : Addr} {od15 an15 : Option Addr} {sl15 : Array (Option Value)} {oc15 kV15 dc15 pm15 cd15 ct15 : Value}
    {f16 : Addr} {od16 an16 : Option Addr} {sl16 : Array (Option Value)} {oc16 kV16 dc16 pm16 cd16 ct16 : Value}
    {f17 : Addr} {od17 an17 : Option Addr} {sl17 : Array (Option Value)} {oc17 kV17 dc17 pm17 cd17 ct17 : Value}
    (a0 : PySem.W.nsIn K mainGlobals "is_whole" = some (some (.ref f0))) (l0 : K.lookup f0 = some ⟨oc0, od0, .func (PySem.W.fnOf "is_whole" "is_whole" (defArgs (top 1)) (defBody (top 1)) (defScope (top 1)) .none kV0 dc0 pm0 an0 cd0 ct0), sl0⟩) (c0 : PySem.W.codeIn K cd0 "is_whole" = true) (k0 : PySem.W.keepIn K (.ref f0) = true)
    (a1 : PySem.W.nsIn K mainGlobals "is_between" = some (some (.ref f1))) (l1 : K.lookup f1 = some ⟨oc1, od1, .func (PySem.W.fnOf "is_between" "is_between" (defArgs (top 2)) (defBody (top 2)) (defScope (top 2)) .none kV1 dc1 pm1 an1 cd1 ct1), sl1⟩) (c1 : PySem.W.codeIn K cd1 "is_between" = true) (k1 : PySem.W.keepIn K (.ref f1) = true)
    (a2 : PySem.W.nsIn K mainGlobals "is_part" = some (some (.ref f2))) (l2 : K.lookup f2 = some ⟨oc2, od2, .func (PySem.W.fnOf "is_part" "is_part" (defArgs (top 4)) (defBody (top 4)) (defScope (top 4)) .none kV2 dc2 pm2 an2 cd2 ct2), sl2⟩) (c2 : PySem.W.codeIn K cd2 "is_part" = true) (k2 : PySem.W.keepIn K (.ref f2) = true)
    (a3 : PySem.W.nsIn K mainGlobals "crosses" = some (some (.ref f3))) (l3 : K.lookup f3 = some ⟨oc3, od3, .func (PySem.W.fnOf "crosses" "crosses" (defArgs (top 5)) (defBody (top 5)) (defScope (top 5)) .none kV3 dc3 pm3 an3 cd3 ct3), sl3⟩) (c3 : PySem.W.codeIn K cd3 "crosses" = true) (k3 : PySem.W.keepIn K (.ref f3) = true)
    (a4 : PySem.W.nsIn K mainGlobals "is_crossed" = some (some (.ref f4))) (l4 : K.lookup f4 = some ⟨oc4, od4, .func (PySem.W.fnOf "is_crossed" "is_crossed" (defArgs (top 6)) (defBody (top 6)) (defScope (top 6)) .none kV4 dc4 pm4 an4 cd4 ct4), sl4⟩) (c4 : PySem.W.codeIn K cd4 "is_crossed" = true) (k4 : PySem.W.keepIn K (.ref f4) = true)
    (a5 : PySem.W.nsIn K mainGlobals "is_sharing" = some (some (.ref f5))) (l5 : K.lookup f5 = some ⟨oc5, od5, .func (PySem.W.fnOf "is_sharing" "is_sharing" (defArgs (top 7)) (defBody (top 7)) (defScope (top 7)) .none kV5 dc5 pm5 an5 cd5 ct5), sl5⟩) (c5 : PySem.W.codeIn K cd5 "is_sharing" = true) (k5 : PySem.W.keepIn K (.ref f5) = true)
    (a6 : PySem.W.nsIn K mainGlobals "_law_cell" = some (some (.ref f6))) (l6 : K.lookup f6 = some ⟨oc6, od6, .func (PySem.W.fnOf "_law_cell" "_law_cell" (defArgs (top 9)) (defBody (top 9)) (defScope (top 9)) .none kV6 dc6 pm6 an6 cd6 ct6), sl6⟩) (c6 : PySem.W.codeIn K cd6 "_law_cell" = true) (k6 : PySem.W.keepIn K (.ref f6) = true)
    (a7 : PySem.W.nsIn K mainGlobals "_law_number" = some (some (.ref f7))) (l7 : K.lookup f7 = some ⟨oc7, od7, .func (PySem.W.fnOf "_law_number" "_law_number" (defArgs (top 10)) (defBody (top 10)) (defScope (top 10)) .none kV7 dc7 pm7 an7 cd7 ct7), sl7⟩) (c7 : PySem.W.codeIn K cd7 "_law_number" = true) (k7 : PySem.W.keepIn K (.ref f7) = true)
    (a8 : PySem.W.nsIn K mainGlobals "_law_whole" = some (some (.ref f8))) (l8 : K.lookup f8 = some ⟨oc8, od8, .func (PySem.W.fnOf "_law_whole" "_law_whole" (defArgs (top 11)) (defBody (top 11)) (defScope (top 11)) .none kV8 dc8 pm8 an8 cd8 ct8), sl8⟩) (c8 : PySem.W.codeIn K cd8 "_law_whole" = true) (k8 : PySem.W.keepIn K (.ref f8) = true)
    (a9 : PySem.W.nsIn K mainGlobals "_law_size" = some (some (.ref f9))) (l9 : K.lookup f9 = some ⟨oc9, od9, .func (PySem.W.fnOf "_law_size" "_law_size" (defArgs (top 12)) (defBody (top 12)) (defScope (top 12)) .none kV9 dc9 pm9 an9 cd9 ct9), sl9⟩) (c9 : PySem.W.codeIn K cd9 "_law_size" = true) (k9 : PySem.W.keepIn K (.ref f9) = true)
    (a10 : PySem.W.nsIn K mainGlobals "_law_sharing" = some (some (.ref f10))) (l10 : K.lookup f10 = some ⟨oc10, od10, .func (PySem.W.fnOf "_law_sharing" "_law_sharing" (defArgs (top 13)) (defBody (top 13)) (defScope (top 13)) .none kV10 dc10 pm10 an10 cd10 ct10), sl10⟩) (c10 : PySem.W.codeIn K cd10 "_law_sharing" = true) (k10 : PySem.W.keepIn K (.ref f10) = true)
    (a11 : PySem.W.nsIn K mainGlobals "_law_owner" = some (some (.ref f11))) (l11 : K.lookup f11 = some ⟨oc11, od11, .func (PySem.W.fnOf "_law_owner" "_law_owner" (defArgs (top 14)) (defBody (top 14)) (defScope (top 14)) .none kV11 dc11 pm11 an11 cd11 ct11), sl11⟩) (c11 : PySem.W.codeIn K cd11 "_law_owner" = true) (k11 : PySem.W.keepIn K (.ref f11) = true)
    (a12 : PySem.W.nsIn K mainGlobals "_law_crosses" = some (some (.ref f12))) (l12 : K.lookup f12 = some ⟨oc12, od12, .func (PySem.W.fnOf "_law_crosses" "_law_crosses" (defArgs (top 15)) (defBody (top 15)) (defScope (top 15)) .none kV12 dc12 pm12 an12 cd12 ct12), sl12⟩) (c12 : PySem.W.codeIn K cd12 "_law_crosses" = true) (k12 : PySem.W.keepIn K (.ref f12) = true)
    (a13 : PySem.W.nsIn K mainGlobals "_law_is_sharing" = some (some (.ref f13))) (l13 : K.lookup f13 = some ⟨oc13, od13, .func (PySem.W.fnOf "_law_is_sharing" "_law_is_sharing" (defArgs (top 16)) (defBody (top 16)) (defScope (top 16)) .none kV13 dc13 pm13 an13 cd13 ct13), sl13⟩) (c13 : PySem.W.codeIn K cd13 "_law_is_sharing" = true) (k13 : PySem.W.keepIn K (.ref f13) = true)
    (a14 : PySem.W.nsIn K mainGlobals "_law_moved_thing" = some (some (.ref f14))) (l14 : K.lookup f14 = some ⟨oc14, od14, .func (PySem.W.fnOf "_law_moved_thing" "_law_moved_thing" (defArgs (top 17)) (defBody (top 17)) (defScope (top 17)) .none kV14 dc14 pm14 an14 cd14 ct14), sl14⟩) (c14 : PySem.W.codeIn K cd14 "_law_moved_thing" = true) (k14 : PySem.W.keepIn K (.ref f14) = true)
    (a15 : PySem.W.nsIn K mainGlobals "_law_bent_part" = some (some (.ref f15))) (l15 : K.lookup f15 = some ⟨oc15, od15, .func (PySem.W.fnOf "_law_bent_part" "_law_bent_part" (defArgs (top 18)) (defBody (top 18)) (defScope (top 18)) .none kV15 dc15 pm15 an15 cd15 ct15), sl15⟩) (c15 : PySem.W.codeIn K cd15 "_law_bent_part" = true) (k15 : PySem.W.keepIn K (.ref f15) = true)
    (a16 : PySem.W.nsIn K mainGlobals "_law_bent" = some (some (.ref f16))) (l16 : K.lookup f16 = some ⟨oc16, od16, .func (PySem.W.fnOf "_law_bent" "_law_bent" (defArgs (top 19)) (defBody (top 19)) (defScope (top 19)) .none kV16 dc16 pm16 an16 cd16 ct16), sl16⟩) (c16 : PySem.W.codeIn K cd16 "_law_bent" = true) (k16 : PySem.W.keepIn K (.ref f16) = true)
    (a17 : PySem.W.nsIn K mainGlobals "law" = some (some (.ref f17))) (l17 : K.lookup f17 = some ⟨oc17, od17, .func (PySem.W.fnOf "law" "law" (defArgs (top 20)) (defBody (top 20)) (defScope (top 20)) .none kV17 dc17 pm17 an17 cd17 ct17), sl17⟩) (c17 : PySem.W.codeIn K cd17 "law" = true) (k17 : PySem.W.keepIn K (.ref f17) = true)
    (z_len : PySem.W.nsIn K mainGlobals "len" = some none)
    (z_abs : PySem.W.nsIn K mainGlobals "abs" = some none)
    (z_int : PySem.W.nsIn K mainGlobals "int" = some none)
    (z_all : PySem.W.nsIn K mainGlobals "all" = some none)
    (z_any : PySem.W.nsIn K mainGlobals "any" = some none)
    (z_isinstance : PySem.W.nsIn K mainGlobals "isinstance" = some none)
    (z_bool : PySem.W.nsIn K mainGlobals "bool" = some none)
    (z_tuple : PySem.W.nsIn K mainGlobals "tuple" = some none)
    (z_list : PySem.W.nsIn K mainGlobals "list" = some none)
    (z_range : PySem.W.nsIn K mainGlobals "range" = some none)
    (z_min : PySem.W.nsIn K mainGlobals "min" = some none)
    (z_max : PySem.W.nsIn K mainGlobals "max" = some none)
    (z_sorted : PySem.W.nsIn K mainGlobals "sorted" = some none)
    (z_set : PySem.W.nsIn K mainGlobals "set" = some none)
    (z_zip : PySem.W.nsIn K mainGlobals "zip" = some none)
    (z_str : PySem.W.nsIn K mainGlobals "str" = some none)
    (z_enumerate : PySem.W.nsIn K mainGlobals "enumerate" = some none)
    (kib : PySem.W.kitOne K (.type "int") (.type "bool") = some false) :
    ∃ fd : FuncData, (∀ (s : Shared) (v : Value), BindsTo s fd ⟨[v], []⟩ [("_law_script", v)]) ∧ ∀ base : Heap, K.In base → base.Ns mainGlobals mg → FnOk l.prog w K mg base CX0 6 fa fd ["_law_script"] (spLaw K) := by
  have F_is_whole := fun_mk (st := top 1) l0 c0 k0
  have b_is_whole := F_is_whole.binds (ps := ["thing"]) fun _ _ _ _ _ _ us hl => match us, hl with | [_], _ => rfl
  have m_is_whole := PySem.W.mg_of X G a0
  have F_is_between := fun_mk (st := top 2) l1 c1 k1
  have b_is_between := F_is_between.binds (ps := ["thing", "low", "high"]) fun _ _ _ _ _ _ us hl => match us, hl with | [_, _, _], _ => rfl
  have m_is_between := PySem.W.mg_of X G a1
  have F_is_part := fun_mk (st := top 4) l2 c2 k2
  have b_is_part := F_is_part.binds (ps := ["n", "thing"]) fun _ _ _ _ _ _ us hl => match us, hl with | [_, _], _ => rfl
  have m_is_part := PySem.W.mg_of X G a2
  have F_crosses := fun_mk (st := top 5) l3 c3 k3
  have b_crosses := F_crosses.binds (ps := ["one", "other"]) fun _ _ _ _ _ _ us hl => match us, hl with | [_, _], _ => rfl
  have m_crosses := PySem.W.mg_of X G a3
  have F_is_crossed := fun_mk (st := top 6) l4 c4 k4
  have b_is_crossed := F_is_crossed.binds (ps := ["sharing"]) fun _ _ _ _ _ _ us hl => match us, hl with | [_], _ => rfl
  have m_is_crossed := PySem.W.mg_of X G a4
  have F_is_sharing := fun_mk (st := top 7) l5 c5 k5
  have b_is_sharing := F_is_sharing.binds (ps := ["n", "thing"]) fun _ _ _ _ _ _ us hl => match us, hl with | [_, _], _ => rfl
  have m_is_sharing := PySem.W.mg_of X G a5
  have F__law_cell := fun_mk (st := top 9) l6 c6 k6
  have b__law_cell := F__law_cell.binds (ps := ["_law_script", "_law_k"]) fun _ _ _ _ _ _ us hl => match us, hl with | [_, _], _ => rfl
  have m__law_cell := PySem.W.mg_of X G a6
  have F__law_number := fun_mk (st := top 10) l7 c7 k7
  have b__law_number := F__law_number.binds (ps := ["_law_script", "_law_k"]) fun _ _ _ _ _ _ us hl => match us, hl with | [_, _], _ => rfl
  have m__law_number := PySem.W.mg_of X G a7
  have F__law_whole := fun_mk (st := top 11) l8 c8 k8
  have b__law_whole := F__law_whole.binds (ps := ["_law_thing"]) fun _ _ _ _ _ _ us hl => match us, hl with | [_], _ => rfl
  have m__law_whole := PySem.W.mg_of X G a8
  have F__law_size := fun_mk (st := top 12) l9 c9 k9
  have b__law_size := F__law_size.binds (ps := ["_law_number_here"]) fun _ _ _ _ _ _ us hl => match us, hl with | [_], _ => rfl
  have m__law_size := PySem.W.mg_of X G a9
  have F__law_sharing := fun_mk (st := top 13) l10 c10 k10
  have b__law_sharing := F__law_sharing.binds (ps := ["_law_number_here", "_law_n"]) fun _ _ _ _ _ _ us hl => match us, hl with | [_, _], _ => rfl
  have m__law_sharing := PySem.W.mg_of X G a10
  have F__law_owner := fun_mk (st := top 14) l11 c11 k11
  have b__law_owner := F__law_owner.binds (ps := ["_law_sharing_here", "_law_thing"]) fun _ _ _ _ _ _ us hl => match us, hl with | [_, _], _ => rfl
  have m__law_owner := PySem.W.mg_of X G a11
  have F__law_crosses := fun_mk (st := top 15) l12 c12 k12
  have b__law_crosses := F__law_crosses.binds (ps := ["_law_sharing_here", "_law_n"]) fun _ _ _ _ _ _ us hl => match us, hl with | [_, _], _ => rfl
  have m__law_crosses := PySem.W.mg_of X G a12
  have F__law_is_sharing := fun_mk (st := top 16) l13 c13 k13
  have b__law_is_sharing := F__law_is_sharing.binds (ps := ["_law_n", "_law_thing"]) fun _ _ _ _ _ _ us hl => match us, hl with | [_, _], _ => rfl
  have m__law_is_sharing := PySem.W.mg_of X G a13
  have F__law_moved_thing := fun_mk (st := top 17) l14 c14 k14
  have b__law_moved_thing := F__law_moved_thing.binds (ps := ["_law_sharing_here", "_law_number_here"]) fun _ _ _ _ _ _ us hl => match us, hl with | [_, _], _ => rfl
  have m__law_moved_thing := PySem.W.mg_of X G a14
  have F__law_bent_part := fun_mk (st := top 18) l15 c15 k15
  have b__law_bent_part := F__law_bent_part.binds (ps := ["_law_part", "_law_way", "_law_number_here"]) fun _ _ _ _ _ _ us hl => match us, hl with | [_, _, _], _ => rfl
  have m__law_bent_part := PySem.W.mg_of X G a15
  have F__law_bent := fun_mk (st := top 19) l16 c16 k16
  have b__law_bent := F__law_bent.binds (ps := ["_law_sharing_here", "_law_way", "_law_number_here"]) fun _ _ _ _ _ _ us hl => match us, hl with | [_, _, _], _ => rfl
  have m__law_bent := PySem.W.mg_of X G a16
  have F_law := fun_mk (st := top 20) l17 c17 k17
  have b_law := F_law.binds (ps := ["_law_script"]) fun _ _ _ _ _ _ us hl => match us, hl with | [_], _ => rfl
  have m_law := PySem.W.mg_of X G a17
  have z_len := PySem.W.mg_none_of X G z_len
  have z_abs := PySem.W.mg_none_of X G z_abs
  have z_int := PySem.W.mg_none_of X G z_int
  have z_all := PySem.W.mg_none_of X G z_all
  have z_any := PySem.W.mg_none_of X G z_any
  have z_isinstance := PySem.W.mg_none_of X G z_isinstance
  have z_bool := PySem.W.mg_none_of X G z_bool
  have z_tuple := PySem.W.mg_none_of X G z_tuple
  have z_list := PySem.W.mg_none_of X G z_list
  have z_range := PySem.W.mg_none_of X G z_range
  have z_min := PySem.W.mg_none_of X G z_min
  have z_max := PySem.W.mg_none_of X G z_max
  have z_sorted := PySem.W.mg_none_of X G z_sorted
  have z_set := PySem.W.mg_none_of X G z_set
  have z_zip := PySem.W.mg_none_of X G z_zip
  have z_str := PySem.W.mg_none_of X G z_str
  have z_enumerate := PySem.W.mg_none_of X G z_enumerate
  have e := hfa.symm.trans m_law
  cases e
  refine ⟨PySem.W.fnOf "law" "law" (defArgs (top 20)) (defBody (top 20)) (defScope (top 20)) .none kV17 dc17 pm17 an17 cd17 ct17, fun s v => .of_eq rfl, fun base _ _ => ?_⟩
  have t0 : TPurse mg := ⟨z_len, z_abs, z_int⟩
  have t1 : T1 mg K := { t0 with b_all := z_all, b_isinstance := z_isinstance, b_bool := z_bool, b_tuple := z_tuple, b_list := z_list, b_range := z_range, k_ib := kib }
  have fiw : FnAt l.prog w K mg base "is_whole" 1 ["thing"] spIwD := ⟨⟨_, _, ok_iwD F_is_whole t1, m_is_whole, k0, b_is_whole⟩⟩
  have td : TD l.prog w K mg base := { t1 with f_is_whole := fiw }
  have tip : TIspD l.prog w K mg base := { t1 with b_zip := z_zip, f_is_between := ⟨⟨_, _, ok_btD F_is_between td, m_is_between, k1, b_is_between⟩⟩ }
  have tcr : TCroD mg K := { t1 with b_any := z_any }
  have tic : TIcrD l.prog w K mg base := { t1 with b_any := z_any, f_crosses := ⟨⟨_, _, ok_croD F_crosses tcr, m_crosses, k3, b_crosses⟩⟩ }
  have tis : TIssD l.prog w K mg base := { t1 with b_sorted := z_sorted, f_is_part := ⟨⟨_, _, ok_ispD F_is_part tip, m_is_part, k2, b_is_part⟩⟩, f_is_crossed := ⟨⟨_, _, ok_icrD F_is_crossed tic, m_is_crossed, k4, b_is_crossed⟩⟩ }
  have tnm : TNm l.prog w K mg base := { t1 with f__law_cell := ⟨⟨_, _, ok_cell F__law_cell t1, m__law_cell, k6, b__law_cell⟩⟩ }
  have tow : TOw mg K := { t1 with b_enumerate := z_enumerate }
  have tc3 : TCr3 l.prog w K mg base := { t1 with f__law_owner := ⟨⟨_, _, ok_owner F__law_owner tow, m__law_owner, k11, b__law_owner⟩⟩ }
  have tih : TIshD l.prog w K mg base := { t1 with b_sorted := z_sorted, b_set := z_set, f__law_whole := ⟨⟨_, _, ok_lwE F__law_whole t1, m__law_whole, k8, b__law_whole⟩⟩, f__law_crosses := ⟨⟨_, _, ok_crosses F__law_crosses tc3, m__law_crosses, k12, b__law_crosses⟩⟩ }
  have tmt : TMvT mg K := { t1 with b_sorted := z_sorted }
  have tbp : TBp mg K := { t1 with b_str := z_str }
  have tbn : TBn l.prog w K mg base := { t1 with b_sorted := z_sorted, b_set := z_set, f__law_moved_thing := ⟨⟨_, _, ok_mvt F__law_moved_thing tmt, m__law_moved_thing, k14, b__law_moved_thing⟩⟩, f__law_bent_part := ⟨⟨_, _, ok_bp F__law_bent_part tbp, m__law_bent_part, k15, b__law_bent_part⟩⟩ }
  have tl : TL l.prog w K mg base := { t1 with
    b_min := z_min
    b_max := z_max
    f__law_number := ⟨⟨_, _, ok_number F__law_number tnm, m__law_number, k7, b__law_number⟩⟩
    f__law_size := ⟨⟨_, _, ok_size F__law_size, m__law_size, k9, b__law_size⟩⟩
    f__law_sharing := ⟨⟨_, _, ok_lsharing F__law_sharing t1, m__law_sharing, k10, b__law_sharing⟩⟩
    f__law_bent := ⟨⟨_, _, ok_bn F__law_bent tbn, m__law_bent, k16, b__law_bent⟩⟩
    f__law_is_sharing := ⟨⟨_, _, ok_ishD F__law_is_sharing tih, m__law_is_sharing, k13, b__law_is_sharing⟩⟩
    f_is_sharing := ⟨⟨_, _, ok_issD F_is_sharing tis, m_is_sharing, k5, b_is_sharing⟩⟩ }
  exact ok_law F_law tl
theorem walk {l : PySem.W.OpenLaw} {q : Program} {loose : List Str} {XP : (Str → Option Value) → Heap → Prop} {YP : World → Heap → Prop} {d : DefRec} {K : Params → PySem.W.Frag} (hn : l.most = some 63) (hdf : d.params.defaults = [])
    (hY : ∀ (w : World) (h : Heap), YP w h → (K w.params).In h)
    (F : ∀ (w : World) (mg : Str → Option Value) (fa : Addr) (h : Heap), (K w.params).In h → h.Ns mainGlobals mg → mg d.name = some (.ref fa) →
      ∃ fd : FuncData, (∀ (s : Shared) (u : Value), BindsTo s fd ⟨[u], []⟩ [("_law_script", u)]) ∧ ∀ base : Heap, (K w.params).In base → base.Ns mainGlobals mg → FnOk l.prog w (K w.params) mg base CX0 6 fa fd ["_law_script"] (spLaw (K w.params))) :
    PySem.W.WalkO q loose XP YP l.row.toRowW d [] (fun f vs => PySem.call f vs) :=
  L2.walk_of (n := 63) (k := 6) (x := "_law_script") (CX := fun _ => CX0) (sp := fun w => spLaw (K w.params)) hn (by decide) hdf ⟨rfl, rfl, by decide, by decide⟩ hY F (fun _ _ a ns hl _ hS => ⟨a, ns, rfl, hS, hl, fun _ => rfl⟩) fun _ _ _ _ _ z => z
end Sw
open PySem PySem.W PyProof.Rows
set_option maxRecDepth 100000 in
set_option maxHeartbeats 0 in
theorem PySem.Challenge.cw_swapstars_k32_sharings_known_holds : PySem.Challenge.rw_swapstars_k32_sharings_known.Holds := by
  w_on; o_law; k_head; (case hw => w_witness2)
  k_fill
  refine Sw.walk (l := PySem.Challenge.rw_swapstars_k32_sharings_known) rfl rfl (fun w h Y => PySem.W.kIn_of Y) ?F
  case F =>
    intro w mg fa h KX G hmg
    refine' Sw.all_mk KX G hmg ?a0 ?l0 ?c0 ?k0 ?a1 ?l1 ?c1 ?k1 ?a2 ?l2 ?c2 ?k2 ?a3 ?l3 ?c3 ?k3 ?a4 ?l4 ?c4 ?k4 ?a5 ?l5 ?c5 ?k5 ?a6 ?l6 ?c6 ?k6 ?a7 ?l7 ?c7 ?k7 ?a8 ?l8 ?c8 ?k8 ?a9 ?l9 ?c9 ?k9 ?a10 ?l10 ?c10 ?k10 ?a11 ?l11 ?c11 ?k11 ?a12 ?l12 ?c12 ?k12 ?a13 ?l13 ?c13 ?k13 ?a14 ?l14 ?c14 ?k14 ?a15 ?l15 ?c15 ?k15 ?a16 ?l16 ?c16 ?k16 ?a17 ?l17 ?c17 ?k17 ?z_len ?z_abs ?z_int ?z_all ?z_any ?z_isinstance ?z_bool ?z_tuple ?z_list ?z_range ?z_min ?z_max ?z_sorted ?z_set ?z_zip ?z_str ?z_enumerate  ?kib
    (case a0 => k_is); (case l0 => k_is); (case c0 => k_is); (case k0 => k_is)
    (case a1 => k_is); (case l1 => k_is); (case c1 => k_is); (case k1 => k_is)
    (case a2 => k_is); (case l2 => k_is); (case c2 => k_is); (case k2 => k_is)
    (case a3 => k_is); (case l3 => k_is); (case c3 => k_is); (case k3 => k_is)
    (case a4 => k_is); (case l4 => k_is); (case c4 => k_is); (case k4 => k_is)
    (case a5 => k_is); (case l5 => k_is); (case c5 => k_is); (case k5 => k_is)
    (case a6 => k_is); (case l6 => k_is); (case c6 => k_is); (case k6 => k_is)
    (case a7 => k_is); (case l7 => k_is); (case c7 => k_is); (case k7 => k_is)
    (case a8 => k_is); (case l8 => k_is); (case c8 => k_is); (case k8 => k_is)
    (case a9 => k_is); (case l9 => k_is); (case c9 => k_is); (case k9 => k_is)
    (case a10 => k_is); (case l10 => k_is); (case c10 => k_is); (case k10 => k_is)
    (case a11 => k_is); (case l11 => k_is); (case c11 => k_is); (case k11 => k_is)
    (case a12 => k_is); (case l12 => k_is); (case c12 => k_is); (case k12 => k_is)
    (case a13 => k_is); (case l13 => k_is); (case c13 => k_is); (case k13 => k_is)
    (case a14 => k_is); (case l14 => k_is); (case c14 => k_is); (case k14 => k_is)
    (case a15 => k_is); (case l15 => k_is); (case c15 => k_is); (case k15 => k_is)
    (case a16 => k_is); (case l16 => k_is); (case c16 => k_is); (case k16 => k_is)
    (case a17 => k_is); (case l17 => k_is); (case c17 => k_is); (case k17 => k_is)
    (case z_len => k_is); (case z_abs => k_is); (case z_int => k_is); (case z_all => k_is); (case z_any => k_is); (case z_isinstance => k_is); (case z_bool => k_is); (case z_tuple => k_is); (case z_list => k_is); (case z_range => k_is); (case z_min => k_is); (case z_max => k_is); (case z_sorted => k_is); (case z_set => k_is); (case z_zip => k_is); (case z_str => k_is); (case z_enumerate => k_is)
    (case kib => exact L2.kit_int_bool _)
