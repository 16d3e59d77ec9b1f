import PyProof.Rows.All
import Wide.All
import OpenK.AllK
import Wide.FinOn
import Lean
import PyProof.EqAt
import PyProof.EqKinds
import PyProof.TupleCall
import KE.KIntText
import PyProof.StrBlockH
import PyProof.StrLawsTight
import PyProof.StrLawsReplace
import PyProof.StrLawsJoin
import PyProof.StrLawsNeg
import KE.LcSums
import KE.KSortAsk
import KE.KItemsList
import KE.KRevIter
import PySem.Challenge.RW_swapstars_k72_no_rows_written
set_option Elab.async false
set_option linter.all false
set_option maxRecDepth 100000
set_option maxHeartbeats 8000000
namespace L2
open PySem PySem.Spec PyProof.Rows
abbrev Key := Sum Int Str
def keyIs : Key → Value → Bool
  | .inl k, v => Value.isInt k v
  | .inr x, v => Value.isStrOf x v
def keyH (w : World) : Key → Int
  | .inl k => hashInt k
  | .inr x => hashStr w x
theorem keyIs_shape : ∀ {k : Key} {v : Value}, keyIs k v = true → (∃ i t, k = Sum.inl i ∧ v = Value.int i t) ∨ (∃ x t, k = Sum.inr x ∧ v = Value.str x t)
  | .inl i, v, h => by
    obtain ⟨t, e⟩ := Value.isInt_shape (k := i) (v := v) h
    exact .inl ⟨i, t, rfl, e⟩
  | .inr x, v, h => by
    obtain ⟨t, e⟩ := Value.isStrOf_shape (x := x) (v := v) h
    exact .inr ⟨x, t, rfl, e⟩
theorem key_ll (a b : Int) : decide ((Sum.inl a : Key) = Sum.inl b) = (a == b) := by
  by_cases e : a = b
  · subst e; simp
  · have h : ¬ (Sum.inl a : Key) = Sum.inl b := fun q => e (Sum.inl.inj q)
    rw [decide_eq_false h]
    exact (beq_eq_false_iff_ne.mpr e).symm
theorem key_rr (a b : Str) : decide ((Sum.inr a : Key) = Sum.inr b) = decide (a = b) := by
  by_cases e : a = b
  · subst e; simp
  · have h : ¬ (Sum.inr a : Key) = Sum.inr b := fun q => e (Sum.inr.inj q)
    rw [decide_eq_false h, decide_eq_false e]
theorem key_lr (a : Int) (b : Str) : decide ((Sum.inl a : Key) = Sum.inr b) = false := decide_eq_false (fun q => nomatch q)
theorem key_rl (a : Str) (b : Int) : decide ((Sum.inr a : Key) = Sum.inl b) = false := decide_eq_false (fun q => nomatch q)
def mixKind (prog : Program) (w : World) : PySem.KeyKind prog w Key where
  is := keyIs
  hash := keyH w
  inj := fun v a b ha hb => by
    rcases keyIs_shape ha with ⟨i, t, rfl, rfl⟩ | ⟨x, t, rfl, rfl⟩
    · rcases keyIs_shape hb with ⟨j, u, rfl, e⟩ | ⟨y, u, rfl, e⟩
      · injection e with e1 _; rw [e1]
      · exact nomatch e
    · rcases keyIs_shape hb with ⟨j, u, rfl, e⟩ | ⟨y, u, rfl, e⟩
      · exact nomatch e
      · injection e with e1 _; rw [e1]
  byValue := fun k v h => by
    rcases keyIs_shape h with ⟨i, t, rfl, rfl⟩ | ⟨x, t, rfl, rfl⟩ <;> rfl
  pyHash := fun hv h => by
    rcases keyIs_shape hv with ⟨i, t, rfl, rfl⟩ | ⟨x, t, rfl, rfl⟩
    · exact wpAny_pyHash_int h
    · exact wpAny_pyHash_str h
  eqBool := fun hu hv h => by
    rcases keyIs_shape hu with ⟨i, t, rfl, rfl⟩ | ⟨x, t, rfl, rfl⟩
    · rcases keyIs_shape hv with ⟨j, u, rfl, rfl⟩ | ⟨y, u, rfl, rfl⟩
      · rw [key_ll] at h; exact wpAny_eqBool_int h
      · rw [key_lr] at h; exact SeqAt.EqAt.int_str i t y u _ _ _ _ h
    · rcases keyIs_shape hv with ⟨j, u, rfl, rfl⟩ | ⟨y, u, rfl, rfl⟩
      · rw [key_rl] at h; exact SeqAt.EqAt.str_int x t j u _ _ _ _ h
      · rw [key_rr] at h; exact wpAny_eqBool_str h
  «strs» := fun k x t v h => by
    rcases keyIs_shape h with ⟨i, u, rfl, e⟩ | ⟨y, u, rfl, e⟩
    · exact nomatch e
    · injection e with e1 _
      subst e1
      cases v <;> rfl
end L2
namespace L2
open PySem PySem.Spec PyProof.Rows
inductive V where
  | non | bl (b : Bool) | int (i : Int) | str (x : Str) | byt (b : Array UInt8) | flt (b : UInt64) | ref (a : Addr) | ty (n : String)
  deriving DecidableEq
def RelV : V → Value → Prop
  | .non, u => u = Value.none
  | .bl b, u => u = Value.bool b
  | .int i, u => ∃ t, u = Value.int i t
  | .str x, u => ∃ t, u = Value.str x t
  | .byt b, u => ∃ t, u = Value.bytes b t
  | .flt b, u => ∃ t, u = Value.float b t
  | .ref a, u => u = Value.ref a
  | .ty n, u => u = Value.type n
abbrev Vals : List V → List Value → Prop := Paired RelV
theorem Vals.length {xs : List V} {us : List Value} (r : Vals xs us) : xs.length = us.length := Paired.length r
theorem Vals.get : ∀ {xs : List V} {us : List Value} {i : Nat} {x : V}, Vals xs us → xs[i]? = some x → ∃ u, us[i]? = some u ∧ RelV x u
  | _, _, _, _, .nil, e => by simp at e
  | _, _, 0, _, .cons r _, e => by simp at e; subst e; exact ⟨_, rfl, r⟩
  | _, _, i + 1, x, .cons _ t, e => by
    obtain ⟨u, h1, h2⟩ := Vals.get (i := i) (x := x) t (by simpa using e)
    exact ⟨u, by simpa using h1, h2⟩
theorem Vals.set {x : V} {u : Value} (r : RelV x u) : ∀ {xs : List V} {us : List Value} (i : Nat), Vals xs us → Vals (xs.set i x) (us.set i u)
  | _, _, _, .nil => .nil
  | _, _, 0, .cons _ t => .cons r t
  | _, _, i + 1, .cons q t => .cons q (Vals.set r i t)
theorem Vals.append : ∀ {xs ys : List V} {us ws : List Value}, Vals xs us → Vals ys ws → Vals (xs ++ ys) (us ++ ws)
  | _, _, _, _, .nil, s => s
  | _, _, _, _, .cons r t, s => .cons r (Vals.append t s)
theorem Vals.take : ∀ {xs : List V} {us : List Value} (n : Nat), Vals xs us → Vals (xs.take n) (us.take n)
  | _, _, 0, _ => .nil
  | _, _, _ + 1, .nil => .nil
  | _, _, n + 1, .cons r t => .cons r (Vals.take n t)
theorem Vals.drop : ∀ {xs : List V} {us : List Value} (n : Nat), Vals xs us → Vals (xs.drop n) (us.drop n)
  | _, _, 0, r => r
  | _, _, _ + 1, .nil => .nil
  | _, _, n + 1, .cons _ t => Vals.drop n t
def RelO : Option V → Option Value → Prop
  | some v, some u => RelV v u
  | none, none => True
  | _, _ => False
def KV {κ : Type} : List (κ × V) → List (κ × Value) → Prop := Paired fun (p : κ × V) (q : κ × Value) => p.1 = q.1 ∧ RelV p.2 q.2
def kV : Key → V
  | .inl i => .int i
  | .inr x => .str x
inductive HO where
  | lst (xs : List V)
  | tup (xs : List V)
  | dK (kvs : List (Key × V)) | dT (kvs : List (List Key × V))
  | set (S : Int → Bool) (n : Nat)
  | ins (C dx : Addr) (fs : List (Str × V))
  | own (x : Addr)
  | xd (fs : List (Str × V))
  | met (f x : Addr)
  | rng (lo hi : Int)
  | frz (o : Obj) (u : HO)
  | tbl (ps : Array Value)
  | ext (φ : Heap → Prop)
abbrev Hp := Addr → Option HO
def upd (H : Hp) (a : Addr) (o : HO) : Hp := fun b => if b = a then some o else H b
theorem upd_same {H : Hp} {a : Addr} {o : HO} : upd H a o a = some o := by unfold upd; rw [if_pos rfl]
theorem upd_ne {H : Hp} {a b : Addr} {o : HO} (h : b ≠ a) : upd H a o b = H b := by unfold upd; rw [if_neg h]
theorem ne_of {H : Hp} {a b : Addr} {o u : HO} (h : H a = some o) (h' : H b = some u) (d : o ≠ u) : a ≠ b := by
  intro e; subst e; rw [h] at h'; exact d (Option.some.inj h')
theorem ne_of_none {H : Hp} {a b : Addr} {o : HO} (h : H a = some o) (h' : H b = none) : a ≠ b := by
  intro e; subst e; rw [h] at h'; cases h'
section
variable (P : Program) (w : World)
def ObjOk (H : Hp) (h : Heap) (a : Addr) : HO → Prop
  | .lst xs => xs.length ≤ sizeLine ∧ ∃ (its : List Value) (n : Nat), Vals xs its ∧ h.get? a = some { cls := .type "list", data := .seq its.toArray n }
  | .tup xs => xs.length ≤ sizeLine ∧ ∃ its : List Value, Vals xs its ∧ IsTup h a its.toArray
  | .dK kvs => kvs.length ≤ sizeLine ∧ (a == sysModules) = false ∧ ∃ vs, KV kvs vs ∧ h.DictOf (mixKind P w) a vs
  | .dT kvs => kvs.length ≤ sizeLine ∧ (a == sysModules) = false ∧ ∃ xs : List (List Key × Addr × Value),
      Paired (fun (p : List Key × V) (q : List Key × Addr × Value) => p.1 = q.1 ∧ H q.2.1 = some (.tup (p.1.map kV)) ∧ RelV p.2 q.2.2) kvs xs ∧
      ∃ o es ep, h.get? a = some o ∧ o.ExactDict ∧ o.data = .dict es ep ∧ es.toList = xs.map (entryOfKey (tupleKind (mixKind P w))) ∧ (xs.map (·.1)).Nodup
  | .set S n => h.SetOf (intKind P w) a S n
  | .ins C dx fs => H dx = some (.own a) ∧ fs.length ≤ 1000 ∧ dx ≠ a ∧ h.get? a = some (PySem.W.instObj C dx) ∧
      ∃ mA, h.Ns1 dx mA ∧ (∀ f, RelO (fs.lookup f) (mA f)) ∧ PySem.Within mA (fs.map (·.1))
  | .own _ => ∃ o, h.get? a = some o
  | .xd fs => ∃ mA, h.Ns1 a mA ∧ ∀ f, RelO (fs.lookup f) (mA f)
  | .rng lo hi => ∃ t u v, h.get? a = some { cls := .type "range", data := .fields #[.int lo t, .int hi u, .int 1 v] }
  | .frz o u => h.get? a = some o ∧ ObjOk H h a u
  | .tbl ps => h.get? a = some { cls := .none, data := .fields ps }
  | .met f x => h.get? a = some (PySem.W.methodObj (.ref f) (.ref x))
  | .ext φ => φ h ∧ (∃ o, h.get? a = some o) ∧ ∀ h1 h2 : Heap, φ h1 → (∀ o, h1.get? a = some o → h2.get? a = some o) → φ h2
def HOk (H : Hp) (h : Heap) : Prop := ∀ a o, H a = some o → ObjOk P w H h a o
end
section
variable {P : Program} {w : World} {H H' : Hp} {h h' : Heap} {a : Addr} {o : HO}
theorem ObjOk.lt (x : ObjOk P w H h a o) : a < h.objs.size := by
  cases o with
  | lst xs => obtain ⟨_, _, _, _, e⟩ := x; exact Heap.lt_size e
  | tup xs => obtain ⟨_, _, _, p⟩ := x; exact p.lt
  | dK kvs => obtain ⟨_, _, _, _, o, _, _, e, _⟩ := x; exact Heap.lt_size e
  | dT kvs => obtain ⟨_, _, _, _, o, _, _, e, _⟩ := x; exact Heap.lt_size e
  | set S n => obtain ⟨o, _, _, _, e, _⟩ := x; exact Heap.lt_size e
  | ins C dx fs => obtain ⟨_, _, _, e, _⟩ := x; exact Heap.lt_size e
  | own y => obtain ⟨_, e⟩ := x; exact Heap.lt_size e
  | xd fs => obtain ⟨_, ⟨_, _, _, e, _⟩, _⟩ := x; exact Heap.lt_size e
  | rng lo hi => obtain ⟨_, _, _, e⟩ := x; exact Heap.lt_size e
  | frz ob u => obtain ⟨e, _⟩ := x; exact Heap.lt_size e
  | tbl ps => exact Heap.lt_size (show h.get? a = some _ from x)
  | met f y => exact Heap.lt_size (show h.get? a = some _ from x)
  | ext φ => obtain ⟨_, ⟨_, e⟩, _⟩ := x; exact Heap.lt_size e
theorem Paired.mapP {α β : Type} {F G : α → β → Prop} : ∀ {l₁ : List α} {l₂ : List β}, Paired F l₁ l₂ → (∀ a b, F a b → G a b) → Paired G l₁ l₂
  | _, _, .nil, _ => .nil
  | _, _, .cons r t, f => .cons (f _ _ r) (Paired.mapP t f)
theorem ObjOk.stay (x : ObjOk P w H h a o) (k : ∀ b u, (b = a ∨ H b = some (.own a)) → h.get? b = some u → h'.get? b = some u)
    (ho : ∀ b, H b = some (.own a) → H' b = some (.own a)) (ht : ∀ b xs, H b = some (.tup xs) → H' b = some (.tup xs)) : ObjOk P w H' h' a o := by
  induction o with
  | lst xs => obtain ⟨z, its, n, r, e⟩ := x; exact ⟨z, its, n, r, k _ _ (.inl rfl) e⟩
  | tup xs => obtain ⟨z, its, r, ob, e, c⟩ := x; exact ⟨z, its, r, ob, k _ _ (.inl rfl) e, c⟩
  | dK kvs => obtain ⟨z, y, vs, r, ob, es, ep, e, c⟩ := x; exact ⟨z, y, vs, r, ob, es, ep, k _ _ (.inl rfl) e, c⟩
  | dT kvs =>
    obtain ⟨z, y, xs, r, ob, es, ep, e, c⟩ := x
    exact ⟨z, y, xs, Paired.mapP r fun p q z => ⟨z.1, ht _ _ z.2.1, z.2.2⟩, ob, es, ep, k _ _ (.inl rfl) e, c⟩
  | set S n => obtain ⟨ob, es, ep, t, e, c⟩ := x; exact ⟨ob, es, ep, t, k _ _ (.inl rfl) e, c⟩
  | ins C dx fs =>
    obtain ⟨d, z, ne, e, mA, ⟨od, es, ep, e2, c⟩, r⟩ := x
    exact ⟨ho _ d, z, ne, k _ _ (.inl rfl) e, mA, ⟨od, es, ep, k _ _ (.inr d) e2, c⟩, r⟩
  | own y => obtain ⟨ob, e⟩ := x; exact ⟨ob, k _ _ (.inl rfl) e⟩
  | xd fs => obtain ⟨mA, ⟨od, es, ep, e, c⟩, r⟩ := x; exact ⟨mA, ⟨od, es, ep, k _ _ (.inl rfl) e, c⟩, r⟩
  | rng lo hi => obtain ⟨t, u, v, e⟩ := x; exact ⟨t, u, v, k _ _ (.inl rfl) e⟩
  | frz ob u ih => obtain ⟨e, q⟩ := x; exact ⟨k _ _ (.inl rfl) e, ih q⟩
  | tbl ps =>
    have e : h.get? a = some { cls := .none, data := .fields ps } := x
    show h'.get? a = some { cls := .none, data := .fields ps }
    exact k a _ (.inl rfl) e
  | met f y =>
    have e : h.get? a = some (PySem.W.methodObj (.ref f) (.ref y)) := x
    show h'.get? a = some (PySem.W.methodObj (.ref f) (.ref y))
    exact k a _ (.inl rfl) e
  | ext φ => obtain ⟨p, ⟨o, e⟩, st⟩ := x; exact ⟨st _ _ p fun o q => k _ _ (.inl rfl) q, ⟨o, k _ _ (.inl rfl) e⟩, st⟩
theorem HOk.lt (x : HOk P w H h) (e : H a = some o) : a < h.objs.size := (x a o e).lt
theorem HOk.fresh (x : HOk P w H h) (e : h.objs.size ≤ a) : H a = none := by
  cases q : H a with
  | none => rfl
  | some u => exact absurd (Nat.lt_of_lt_of_le (x.lt q) e) (Nat.lt_irrefl _)
theorem HOk.kept (x : HOk P w H h) (k : ∀ b u, h.get? b = some u → h'.get? b = some u) : HOk P w H h' := fun a o e =>
  (x a o e).stay (fun b u _ q => k b u q) (fun _ q => q) fun _ _ q => q
theorem HOk.laid (x : HOk P w H h) (k : ∀ b u, h.get? b = some u → h'.get? b = some u) (hp : h.objs.size ≤ a) (new : ObjOk P w (upd H a o) h' a o) : HOk P w (upd H a o) h' := fun b u e => by
  have hn := x.fresh hp
  by_cases hb : b = a
  · subst hb; rw [upd_same] at e; cases e; exact new
  · rw [upd_ne hb] at e
    exact (x b u e).stay (fun c v _ q => k c v q) (fun c q => by rw [upd_ne (ne_of_none q hn)]; exact q) fun c xs q => by rw [upd_ne (ne_of_none q hn)]; exact q
end
def Rd (H : Hp) (a : Addr) (u : HO) : Prop := H a = some u ∨ ∃ o, H a = some (.frz o u)
theorem Rd.ok {P : Program} {w : World} {H : Hp} {h : Heap} {a : Addr} {u : HO} (r : Rd H a u) (x : HOk P w H h) : ObjOk P w H h a u := by
  rcases r with r | ⟨o, r⟩
  · exact x a u r
  · obtain ⟨_, q⟩ := x a _ r
    exact q
def Mut : Option HO → Prop
  | some (.lst _) => True
  | some (.dK _) => True
  | some (.dT _) => True
  | some (.set _ _) => True
  | some (.ins _ _ _) => True
  | some (.ext _) => True
  | _ => False
section
variable {P : Program} {w : World} {H : Hp} {h h' : Heap} {x e : Addr} {o' : HO}
theorem HOk.write (ok : HOk P w H h) (mu : Mut (H x)) (he : e = x ∨ H e = some (.own x)) (k : ∀ b u, b ≠ e → h.get? b = some u → h'.get? b = some u) (heo : ∃ u, h'.get? e = some u)
    (new : ObjOk P w (upd H x o') h' x o') : HOk P w (upd H x o') h' := fun b u q => by
  have nown : ∀ c y, H c = some (.own y) → c ≠ x := fun c y r z => by subst z; rw [r] at mu; exact mu
  have ntup : ∀ c xs, H c = some (.tup xs) → c ≠ x := fun c xs r z => by subst z; rw [r] at mu; exact mu
  by_cases hb : b = x
  · subst hb; rw [upd_same] at q; cases q; exact new
  · rw [upd_ne hb] at q
    by_cases hbe : b = e
    · have q' : H b = some (.own x) := by
        rcases he with z | z
        · exact absurd (hbe.trans z) hb
        · rw [hbe]; exact z
      rw [q] at q'; cases q'
      obtain ⟨v, hv⟩ := heo
      exact ⟨v, by rw [hbe]; exact hv⟩
    · refine (ok b u q).stay (fun c v hc r => k c v ?_ r) (fun c r => by rw [upd_ne (nown c b r)]; exact r) fun c xs r => by rw [upd_ne (ntup c xs r)]; exact r
      rcases hc with rfl | hc
      · exact hbe
      · rintro rfl
        rcases he with z | z
        · exact nown c b hc z
        · rw [hc] at z; cases z; exact hb rfl
end
structure Un (fs ex : List Addr) (H H' : Hp) (h h' : Heap) : Prop where
  keep : ∀ b o, h.get? b = some o → H b = none → b ∉ fs → b ∉ ex → h'.get? b = some o
  slot : ∀ b o, h.get? b = some o → H b = none → b ∈ fs → b ∉ ex → ∃ sl, h'.get? b = some { o with slots := sl }
  free : ∀ b o, h.get? b = some o → H b = none → b ∉ ex → H' b = none
  there : ∀ b o, h.get? b = some o → b ∉ ex → ∃ o', h'.get? b = some o'
  tups : ∀ b xs, H b = some (.tup xs) → H' b = some (.tup xs)
  frzs : ∀ b o u, H b = some (.frz o u) → H' b = some (.frz o u)
  tbls : ∀ b ps, H b = some (.tbl ps) → ∃ more, H' b = some (.tbl (ps ++ more))
section
variable {fs fs' ex ex' : List Addr} {H H1 H2 : Hp} {h h1 h2 h' : Heap} {a x e : Addr} {o : HO}
theorem Un.any (u : Un fs ex H H1 h h1) {b : Addr} {ob : Obj} (q : h.get? b = some ob) (n : H b = none) (hx : b ∉ ex) : ∃ sl, h1.get? b = some { ob with slots := sl } := by
  by_cases hb : b ∈ fs
  · exact u.slot b ob q n hb hx
  · exact ⟨ob.slots, u.keep b ob q n hb hx⟩
theorem Un.kept (k : ∀ b u, h.get? b = some u → h'.get? b = some u) : Un fs ex H H h h' :=
  ⟨fun b ob q _ _ _ => k b ob q, fun b ob q _ _ _ => ⟨ob.slots, k b ob q⟩, fun _ _ _ n _ => n, fun b ob q _ => ⟨ob, k b ob q⟩, fun _ _ q => q, fun _ _ _ q => q, fun _ ps q => ⟨#[], by rw [q]; simp⟩⟩
theorem Un.refl : Un fs ex H H h h := Un.kept fun _ _ q => q
theorem Un.laid (k : ∀ b u, h.get? b = some u → h'.get? b = some u) (hp : h.objs.size ≤ a) (hn : H a = none) : Un fs ex H (upd H a o) h h' where
  keep := fun b u q _ _ _ => k b u q
  slot := fun b u q _ _ _ => ⟨u.slots, k b u q⟩
  free := fun b u q n _ => by rw [upd_ne (Nat.ne_of_lt (Nat.lt_of_lt_of_le (Heap.lt_size q) hp))]; exact n
  there := fun b u q _ => ⟨u, k b u q⟩
  tups := fun b xs q => by rw [upd_ne (ne_of_none q hn)]; exact q
  frzs := fun b u xs q => by rw [upd_ne (ne_of_none q hn)]; exact q
  tbls := fun b ps q => ⟨#[], by rw [upd_ne (ne_of_none q hn), q]; simp⟩
theorem Un.write (mu : Mut (H x)) (he : e = x ∨ H e = some (.own x)) (k : ∀ b u, b ≠ e → h.get? b = some u → h'.get? b = some u) (heo : ∃ u, h'.get? e = some u) : Un fs ex H (upd H x o) h h' := by
  have hx : ∀ b, H b = none → b ≠ x := fun b n z => by subst z; rw [n] at mu; exact mu
  have hb : ∀ b, H b = none → b ≠ e := fun b n z => by
    subst z
    rcases he with r | r
    · exact hx b n r
    · rw [n] at r; cases r
  have hm : ∀ b u, H b = some u → ¬ Mut (some u) → b ≠ x := fun b u q nm z => by subst z; rw [q] at mu; exact nm mu
  refine ⟨fun b u q n _ _ => k b u (hb b n) q, fun b u q n _ _ => ⟨u.slots, k b u (hb b n) q⟩, fun b u q n _ => by rw [upd_ne (hx b n)]; exact n, fun b u q _ => ?_,
    fun b xs q => by rw [upd_ne (hm b _ q fun z => z)]; exact q, fun b u xs q => by rw [upd_ne (hm b _ q fun z => z)]; exact q, fun b ps q => ⟨#[], by rw [upd_ne (hm b _ q fun z => z), q]; simp⟩⟩
  by_cases hbe : b = e
  · subst hbe; exact heo
  · exact ⟨u, k b u hbe q⟩
end
def trk (h : Heap) (H : Hp) : List Addr := (List.range h.objs.size).filter fun a => (H a).isSome
def hidT (h : Heap) (H : Hp) : Heap := PySem.W.hideAll h (trk h H)
theorem hidT_size (h : Heap) (H : Hp) : (hidT h H).objs.size = h.objs.size := PySem.W.hideAll_size _ _
theorem hidT_get {h : Heap} {H : Hp} {b : Addr} {o : Obj} (e : h.get? b = some o) (n : H b = none) : (hidT h H).get? b = some o :=
  PySem.W.hideAll_get _ e fun hm => by
    have q : (H b).isSome = true := (List.mem_filter.mp hm).2
    rw [n] at q; simp at q
theorem of_hidT {h : Heap} {H : Hp} {b : Addr} {o : Obj} (e : (hidT h H).get? b = some o) : h.get? b = some o ∧ H b = none := by
  have e' : h.get? b = some o := PySem.W.of_hideAll (trk h H) e
  refine ⟨e', ?_⟩
  cases q : H b with
  | none => rfl
  | some x =>
    have hm : b ∈ trk h H := List.mem_filter.mpr ⟨List.mem_range.mpr (Heap.lt_size e'), by simp [q]⟩
    have z : (hidT h H).get? b = none := PySem.W.hideAll_none (trk h H) hm
    rw [z] at e; cases e
def allNews (g h : Heap) (L : Addr) : List (Addr × Obj) := (List.range h.objs.size).filterMap fun a => if a = L ∨ (g.get? a).isSome = true then none else (h.get? a).map fun o => (a, o)
def rest (g h : Heap) (L d : Addr) : List (Addr × Obj) := (allNews g h L).filter fun p => decide (p.1 ≠ d)
end L2
namespace L2
open PySem PySem.Spec PyProof.Rows
structure Mod (K : PySem.W.Frag) (mg : Str → Option Value) (base : Heap) : Prop where
  kin : K.In base
  glob : base.Ns mainGlobals mg
  blt : ∃ mb, base.Ns builtinsNs mb ∧ ∀ x : Str, x ≠ "__name__" → mb x = bootBuiltins x
  nolimit : base.NoLimit
structure Cx where
  prog : Program
  w : World
  K : PySem.W.Frag
  mg : Str → Option Value
  base : Heap
  A : Around
  N : List Str
  s₀ : Shared
  H₀ : Hp
  env : Env
  outer : List Env
  stack : List Env
  ex : List Addr
  fn : Str → Bool
  calm : Bool
  pn : List (Addr × Obj)
  xe : Value → Shared → Prop
def frs (l : List Env) : List Addr := l.filterMap (·.frame)
abbrev Cx.fs (X : Cx) : List Addr := frs X.outer
def Vis (sc : Scope) (x : Str) : Prop := sc.names.lookup x = some .local ∨ sc.names.lookup x = some .cell ∨ sc.names.lookup x = some .free
def Loc (sc : Scope) (x : Str) : Prop := sc.names.lookup x = some .local ∨ sc.names.lookup x = some .cell
def Look (env : Env) (h : Heap) (m : Str → Option Value) (x : Str) (u : Value) : Prop :=
  (env.kindOf x = some .local ∧ m x = some u) ∨ ((env.kindOf x = some .cell ∨ env.kindOf x = some .free) ∧ ∃ c, env.cells.lookup x = some c ∧ h.IsCell c (some u))
structure Cx.Ok (X : Cx) : Prop where
  mod : Mod X.K X.mg X.base
  kind : X.env.scope.kind = .function
  glob : X.env.globals = mainGlobals
  blt : X.env.builtins = builtinsNs
  above : X.s₀.heap.objs.size ≤ X.env.locals
  inj : ∀ x y c, X.env.cells.lookup x = some c → X.env.cells.lookup y = some c → x = y
  has : ∀ x, (X.env.kindOf x = some .cell ∨ X.env.kindOf x = some .free) → ∃ c, X.env.cells.lookup x = some c
  cab : ∀ x c, X.fn x = true → X.env.cells.lookup x = some c → X.s₀.heap.objs.size ≤ c
  hd : X.calm = true → X.A.handled = none
  frames : X.A.frames = some X.stack
  stk : X.stack = X.outer ∨ (X.stack = X.env :: X.outer ∧ X.env.frame = some X.env.locals)
  exf : ∀ b ∈ X.ex, b ≠ X.env.locals ∧ ∀ x c, X.env.cells.lookup x = some c → c ≠ b
  bs : ∀ b o, X.base.get? b = some o → X.s₀.heap.get? b = some o ∧ X.H₀ b = none
  bsz : X.base.objs.size ≤ X.s₀.heap.objs.size
  noex : ∀ b o, X.base.get? b = some o → b ∉ X.ex
  exfs : ∀ b ∈ X.ex, b ∉ X.fs
  funs : X.s₀.heap.FunFrames X.base X.outer
  frf : ∀ b ∈ X.fs, X.H₀ b = none
structure Inv (X : Cx) (pins : List (Addr × Obj)) (σ : List (Option V)) (H : Hp) (s : Shared) : Prop where
  ok : X.Ok
  os : s.os = X.s₀.os
  bare : AllBare s.gens
  base : Un X.fs X.ex X.H₀ H X.s₀.heap s.heap
  loc : ∃ m, s.heap.Ns X.env.locals m ∧ ∀ (i : Nat) (x : Str) (v : V), X.N[i]? = some x → σ[i]? = some (some v) → Vis X.env.scope x → ∃ u, RelV v u ∧ Look X.env s.heap m x u
  cell : ∀ x c, X.env.cells.lookup x = some c → ∃ v, s.heap.IsCell c v
  free : H X.env.locals = none
  freeC : ∀ x c, X.env.cells.lookup x = some c → H c = none
  pin : ∀ p ∈ X.pn ++ pins, s.heap.get? p.1 = some p.2 ∧ H p.1 = none ∧ p.1 ≠ X.env.locals ∧ p.1 ∉ X.fs ∧ ∀ v, p.2.data ≠ .cell v
  hok : HOk X.prog X.w H s.heap
  len : σ.length = X.N.length
section
variable {X : Cx} {pins : List (Addr × Obj)} {σ : List (Option V)} {H H' : Hp} {s : Shared} {h' : Heap}
theorem Cx.Ok.nofr (ok : X.Ok) {b : Addr} {o : Obj} (e : X.base.get? b = some o) : b ∉ X.fs := fun hb => by
  have := (ok.funs.mem hb).1
  rw [e] at this; cases this
theorem Inv.bs (I : Inv X pins σ H s) : ∀ b o, X.base.get? b = some o → s.heap.get? b = some o ∧ H b = none := fun b o e =>
  ⟨I.base.keep b o (I.ok.bs b o e).1 (I.ok.bs b o e).2 (I.ok.nofr e) (I.ok.noex b o e), I.base.free b o (I.ok.bs b o e).1 (I.ok.bs b o e).2 (I.ok.noex b o e)⟩
theorem Inv.bk (I : Inv X pins σ H s) : ∀ b o, X.base.get? b = some o → s.heap.get? b = some o := fun b o e => (I.bs b o e).1
theorem Inv.mod (I : Inv X pins σ H s) : Mod X.K X.mg X.base := I.ok.mod
theorem Inv.kIn (I : Inv X pins σ H s) : X.K.In s.heap := I.ok.mod.kin.keeps I.bk
theorem Inv.lt (I : Inv X pins σ H s) : X.env.locals < s.heap.objs.size := let ⟨_, hn, _⟩ := I.loc; hn.lt
theorem Inv.sz (I : Inv X pins σ H s) : X.s₀.heap.objs.size ≤ s.heap.objs.size := Nat.le_trans I.ok.above (Nat.le_of_lt I.lt)
theorem Inv.nofs (I : Inv X pins σ H s) {a : Addr} (h : s.heap.objs.size ≤ a) : a ∉ X.fs := fun hb => by
  obtain ⟨_, o, ho, _⟩ := I.ok.funs.mem hb
  exact absurd (Nat.lt_of_lt_of_le (Heap.lt_size ho) (Nat.le_trans I.sz h)) (Nat.lt_irrefl _)
theorem Inv.cne (I : Inv X pins σ H s) : ∀ x c, X.env.cells.lookup x = some c → c ≠ X.env.locals := fun x c e z => by
  obtain ⟨v, o, ho, hd⟩ := I.cell x c e
  obtain ⟨m, ⟨o', es, ep, ho', hd', _⟩, _⟩ := I.loc
  rw [z, ho'] at ho; cases ho; rw [hd'] at hd; cases hd
theorem Inv.funs (I : Inv X pins σ H s) : s.heap.FunFrames X.base X.outer := by
  have all : ∀ (l : List Env), (∀ b ∈ frs l, b ∈ X.fs) → X.s₀.heap.FunFrames X.base l → s.heap.FunFrames X.base l := by
    intro l
    induction l with
    | nil => intro _ _; trivial
    | cons env r ih =>
      intro hs hl
      obtain ⟨hk, ⟨L, o, hf, hn, ho, hd⟩, hr⟩ := hl
      have hL : L ∈ X.fs := hs L (by unfold frs; rw [List.filterMap_cons, hf]; exact List.mem_cons_self)
      obtain ⟨sl, e⟩ := I.base.slot L o ho (I.ok.frf L hL) hL fun z => I.ok.exfs L z hL
      exact ⟨hk, ⟨L, _, hf, hn, e, hd⟩, ih (fun b hb => hs b (by unfold frs; rw [List.filterMap_cons, hf]; exact List.mem_cons_of_mem _ hb)) hr⟩
  exact all X.outer (fun _ hb => hb) I.ok.funs
theorem Inv.stack (I : Inv X pins σ H s) : s.heap.FunFrames X.base X.stack := by
  rcases I.ok.stk with e | ⟨e, hf⟩
  · rw [e]; exact I.funs
  · rw [e]
    obtain ⟨m, hn, _⟩ := I.loc
    refine .cons (by rw [I.ok.kind]; decide) hf hn ?_ I.funs
    exact Heap.get?_none_of_le (Nat.le_trans I.ok.bsz I.ok.above)
theorem Inv.stkSub (I : Inv X pins σ H s) : ∀ b ∈ frs X.stack, b ∈ X.env.locals :: X.fs := fun b hb => by
  rcases I.ok.stk with e | ⟨e, hf⟩
  · rw [e] at hb; exact List.mem_cons_of_mem _ hb
  · rw [e] at hb
    unfold frs at hb
    rw [List.filterMap_cons, hf] at hb
    exact hb
theorem Inv.stkFree (I : Inv X pins σ H s) : ∀ b ∈ frs X.stack, H b = none := fun b hb => by
  rcases List.mem_cons.mp (I.stkSub b hb) with e | hb
  · rw [e]; exact I.free
  · obtain ⟨_, o, ho, _⟩ := I.ok.funs.mem hb
    exact I.base.free b o ho (I.ok.frf b hb) fun z => I.ok.exfs b z hb
theorem Inv.step {g' : Array GenState} {t' : Nat} {d' : Drawn} {ch : List Addr} (I : Inv X pins σ H s)
    (hch : ∀ b ∈ ch, (b ∈ X.ex ∨ X.s₀.heap.objs.size ≤ b) ∧ b ≠ X.env.locals ∧ (∀ x c, X.env.cells.lookup x = some c → c ≠ b) ∧ ∀ p ∈ X.pn ++ pins, p.1 ≠ b)
    (keep : ∀ b o, b ≠ X.env.locals → b ∉ X.fs → b ∉ ch → s.heap.get? b = some o → H b = none → h'.get? b = some o)
    (slot : ∀ b o, b ≠ X.env.locals → b ∈ X.fs → b ∉ ch → s.heap.get? b = some o → H b = none → ∃ sl, h'.get? b = some { o with slots := sl }) (free : ∀ b o, b ∉ ch → s.heap.get? b = some o → H b = none → H' b = none)
    (there : ∀ b o, b ∉ ch → s.heap.get? b = some o → ∃ o', h'.get? b = some o')
    (tups : ∀ b xs, H b = some (.tup xs) → H' b = some (.tup xs)) (frzs : ∀ b o u, H b = some (.frz o u) → H' b = some (.frz o u)) (tbls : ∀ b ps, H b = some (.tbl ps) → ∃ more, H' b = some (.tbl (ps ++ more)))
    (ns : ∀ m, s.heap.Ns X.env.locals m → h'.Ns X.env.locals m) (hok : HOk X.prog X.w H' h') (hg : AllBare g') :
    Inv X pins σ H' { s with heap := h', gens := g', drawn := d', toks := t' } := by
  have neL : ∀ b o, X.s₀.heap.get? b = some o → b ≠ X.env.locals := fun b o e => Nat.ne_of_lt (Nat.lt_of_lt_of_le (Heap.lt_size e) I.ok.above)
  have neC : ∀ b o, X.s₀.heap.get? b = some o → b ∉ X.ex → b ∉ ch := fun b o e hx hb => by
    rcases (hch b hb).1 with z | z
    · exact hx z
    · exact absurd (Nat.lt_of_lt_of_le (Heap.lt_size e) z) (Nat.lt_irrefl _)
  have cellK : ∀ x c, X.env.cells.lookup x = some c → ∀ v, s.heap.IsCell c v → h'.IsCell c v := fun x c e v ⟨o, ho, hd⟩ => by
    have nch : c ∉ ch := fun z => (hch c z).2.2.1 x c e rfl
    by_cases hc : c ∈ X.fs
    · obtain ⟨sl, q⟩ := slot c o (I.cne x c e) hc nch ho (I.freeC x c e)
      exact ⟨_, q, hd⟩
    · exact ⟨o, keep c o (I.cne x c e) hc nch ho (I.freeC x c e), hd⟩
  refine ⟨I.ok, I.os, hg, ⟨fun b o e n hb hx => ?_, fun b o e n hb hx => ?_, fun b o e n hx => ?_, fun b o e hx => ?_, fun b xs e => tups b xs (I.base.tups b xs e), fun b o xs e => frzs b o xs (I.base.frzs b o xs e), fun b ps e => ?_⟩, ?_, fun x c e => ?_, ?_, fun x c e => ?_, fun p hp => ?_, hok, I.len⟩
  · exact keep b o (neL b o e) hb (neC b o e hx) (I.base.keep b o e n hb hx) (I.base.free b o e n hx)
  · obtain ⟨sl, e1⟩ := I.base.slot b o e n hb hx
    obtain ⟨sl', e2⟩ := slot b _ (neL b o e) hb (neC b o e hx) e1 (I.base.free b o e n hx)
    exact ⟨sl', e2⟩
  · obtain ⟨o', e1⟩ := I.base.there b o e hx
    exact free b o' (neC b o e hx) e1 (I.base.free b o e n hx)
  · obtain ⟨o', e1⟩ := I.base.there b o e hx
    exact there b o' (neC b o e hx) e1
  · obtain ⟨m1, e1⟩ := I.base.tbls b ps e
    obtain ⟨m2, e2⟩ := tbls b _ e1
    exact ⟨m1 ++ m2, by rw [e2, Array.append_assoc]⟩
  · obtain ⟨m, hn, hl⟩ := I.loc
    refine ⟨m, ns m hn, fun i x v e1 e2 e3 => ?_⟩
    obtain ⟨u, r, l⟩ := hl i x v e1 e2 e3
    refine ⟨u, r, ?_⟩
    rcases l with l | ⟨k, c, e, z⟩
    · exact .inl l
    · exact .inr ⟨k, c, e, cellK x c e _ z⟩
  · obtain ⟨v, z⟩ := I.cell x c e
    exact ⟨v, cellK x c e v z⟩
  · obtain ⟨m, ⟨o, _, _, ho, _⟩, _⟩ := I.loc
    exact free _ o (fun z => (hch _ z).2.1 rfl) ho I.free
  · obtain ⟨v, o, ho, hd⟩ := I.cell x c e
    exact free c o (fun z => (hch c z).2.2.1 x c e rfl) ho (I.freeC x c e)
  · obtain ⟨e, n, ne, nf, d⟩ := I.pin p hp
    have nch : p.1 ∉ ch := fun z => (hch p.1 z).2.2.2 p hp rfl
    exact ⟨keep p.1 p.2 ne nf nch e n, free p.1 p.2 nch e n, ne, nf, d⟩
theorem Inv.un {t' : Nat} (I : Inv X pins σ H s) (u : Un X.fs [] H H' s.heap h') (hok : HOk X.prog X.w H' h') : Inv X pins σ H' { s with heap := h', toks := t' } := by
  obtain ⟨m, ⟨o, es, ep, ho, r⟩, _⟩ := id I.loc
  obtain ⟨sl, hL⟩ := u.any ho I.free (by simp)
  exact I.step (g' := s.gens) (d' := s.drawn) (ch := []) (fun _ z => nomatch z) (fun b o _ hb _ e n => u.keep b o e n hb (by simp)) (fun b o _ hb _ e n => u.slot b o e n hb (by simp)) (fun b o _ e n => u.free b o e n (by simp)) (fun b o _ e => u.there b o e (by simp)) u.tups u.frzs u.tbls (fun m' hm => by
    obtain ⟨o', es', ep', ho', r'⟩ := hm
    rw [ho] at ho'; cases ho'
    exact ⟨_, es', ep', hL, r'⟩) hok I.bare
theorem Inv.call {g' : Array GenState} {t' : Nat} {d' : Drawn} {ch : List Addr} (I : Inv X pins σ H s) (u : Un (frs X.stack) ch H H' s.heap h') (hok : HOk X.prog X.w H' h') (hg : AllBare g')
    (hch : ∀ b ∈ ch, (b ∈ X.ex ∨ X.s₀.heap.objs.size ≤ b) ∧ b ≠ X.env.locals ∧ (∀ x c, X.env.cells.lookup x = some c → c ≠ b) ∧ ∀ p ∈ X.pn ++ pins, p.1 ≠ b) :
    Inv X pins σ H' { s with heap := h', gens := g', drawn := d', toks := t' } := by
  obtain ⟨m, ⟨o, es, ep, ho, r⟩, _⟩ := id I.loc
  obtain ⟨sl, hL⟩ := u.any ho I.free fun z => (hch _ z).2.1 rfl
  exact I.step (ch := ch) hch (fun b o hL hb hc e n => u.keep b o e n (fun z => (List.mem_cons.mp (I.stkSub b z)).elim hL hb) hc) (fun b o _ _ hc e n => u.any e n hc) (fun b o hc e n => u.free b o e n hc) (fun b o hc e => u.there b o e hc) u.tups u.frzs u.tbls (fun m' hm => by
    obtain ⟨o', es', ep', ho', r'⟩ := hm
    rw [ho] at ho'; cases ho'
    exact ⟨_, es', ep', hL, r'⟩) hok hg
theorem Inv.turned {t' : Nat} {it : Addr} (I : Inv X pins σ H s) (k : ∀ b o, b ≠ it → s.heap.get? b = some o → h'.get? b = some o) (hn : H it = none) (hL : it ≠ X.env.locals)
    (h1 : it ∈ X.ex ∨ X.s₀.heap.objs.size ≤ it) (h2 : ∀ x c, X.env.cells.lookup x = some c → c ≠ it) (h3 : ∀ p ∈ X.pn ++ pins, p.1 ≠ it) : Inv X pins σ H { s with heap := h', toks := t' } := by
  have nit : ∀ b u, H b = some u → b ≠ it := fun b u e z => by rw [z, hn] at e; cases e
  refine I.step (g' := s.gens) (d' := s.drawn) (ch := [it]) (fun b hb => ?_) (fun b o _ _ hc e _ => k b o (fun z => hc (by simp [z])) e) (fun b o _ _ hc e _ => ⟨o.slots, k b o (fun z => hc (by simp [z])) e⟩) (fun _ _ _ _ n => n)
    (fun b o hc e => ⟨o, k b o (fun z => hc (by simp [z])) e⟩) (fun _ _ e => e) (fun _ _ _ e => e) (fun b ps e => ⟨#[], by rw [e]; simp⟩) (fun m hm => ?_) (fun b u e => ?_) I.bare
  · have e : b = it := by simpa using hb
    subst e
    exact ⟨h1, hL, h2, h3⟩
  · obtain ⟨o, es, ep, ho, r⟩ := hm
    exact ⟨o, es, ep, k _ o (Ne.symm hL) ho, r⟩
  · refine (I.hok b u e).stay (fun c v hc q => k c v ?_ q) (fun _ q => q) fun _ _ q => q
    rcases hc with z | z
    · rw [z]; exact nit b u e
    · exact nit c _ z
theorem Inv.tok (I : Inv X pins σ H s) (t : Nat) : Inv X pins σ H { s with toks := t } := I.un (h' := s.heap) (t' := t) Un.refl I.hok
theorem Inv.kept {t' : Nat} (I : Inv X pins σ H s) (k : ∀ b u, s.heap.get? b = some u → h'.get? b = some u) : Inv X pins σ H { s with heap := h', toks := t' } := I.un (Un.kept k) (I.hok.kept k)
theorem Inv.laid {a : Addr} {o : HO} {t' : Nat} (I : Inv X pins σ H s) (k : ∀ b u, s.heap.get? b = some u → h'.get? b = some u) (hp : s.heap.objs.size ≤ a) (new : ObjOk X.prog X.w (upd H a o) h' a o) :
    Inv X pins σ (upd H a o) { s with heap := h', toks := t' } := I.un (Un.laid k hp (I.hok.fresh hp)) (I.hok.laid k hp new)
theorem Inv.write {x e : Addr} {o : HO} {t' : Nat} (I : Inv X pins σ H s) (mu : Mut (H x)) (he : e = x ∨ H e = some (.own x)) (k : ∀ b u, b ≠ e → s.heap.get? b = some u → h'.get? b = some u) (heo : ∃ u, h'.get? e = some u)
    (new : ObjOk X.prog X.w (upd H x o) h' x o) : Inv X pins σ (upd H x o) { s with heap := h', toks := t' } := I.un (Un.write mu he k heo) (I.hok.write mu he k heo new)
theorem Inv.pins_of {pins' : List (Addr × Obj)} (I : Inv X pins σ H s) (h : ∀ p ∈ pins', s.heap.get? p.1 = some p.2 ∧ H p.1 = none ∧ p.1 ≠ X.env.locals ∧ p.1 ∉ X.fs ∧ ∀ v, p.2.data ≠ .cell v) : Inv X pins' σ H s :=
  ⟨I.ok, I.os, I.bare, I.base, I.loc, I.cell, I.free, I.freeC, fun p hp => (List.mem_append.mp hp).elim (fun z => I.pin p (List.mem_append_left _ z)) (h p), I.hok, I.len⟩
theorem nodup_ix {N : List Str} (hN : N.Nodup) {i j : Nat} {x : Str} (a : N[i]? = some x) (b : N[j]? = some x) : i = j := by
  obtain ⟨h1, e1⟩ := List.getElem?_eq_some_iff.mp a
  obtain ⟨h2, e2⟩ := List.getElem?_eq_some_iff.mp b
  exact (List.getElem_inj hN).mp (e1.trans e2.symm)
theorem store_ok2 {M : Model} {A : Around} {E : Value → Shared → Prop} {i : Nat} {x : Str} {v : V} {u : Value} {Q : Unit → Shared → Prop} (I : Inv X pins σ H s) (hN : X.N.Nodup) (hi : X.N[i]? = some x) (hx : Loc X.env.scope x) (r : RelV v u)
    (h : ∀ s', Inv X pins (σ.set i (some v)) H s' → (∃ a, Heap.SameBut a s.heap s'.heap ∧ (a = X.env.locals ∨ X.env.cells.lookup x = some a)) → Q () s') (hf : X.fn x = true ∨ X.env.scope.names.lookup x = some .local := by first | exact .inl rfl | exact .inr rfl | assumption) : wpAny M A (storeName X.env x u) Q E s := by
  obtain ⟨m, hn, hl⟩ := id I.loc
  have hcls : (X.env.scope.kind == .class || (X.env.scope.kind == .module && X.env.locals != X.env.globals)) = false := by rw [I.ok.kind]; rfl
  have hiσ : i < σ.length := by rw [I.len]; exact (List.getElem?_eq_some_iff.mp hi).1
  have cne := I.cne
  have tracked : ∀ {a : Addr} {h' : Heap}, (∃ o, s.heap.get? a = some o ∧ H a = none) → Heap.SameBut a s.heap h' → HOk X.prog X.w H h' := fun {a h'} ha hs b ob e => by
    obtain ⟨_, _, hfree⟩ := ha
    refine (I.hok b ob e).stay (fun c w' hc q => (hs.2 c ?_).trans q) (fun _ q => q) fun _ _ q => q
    rintro rfl
    rcases hc with rfl | hc
    · rw [hfree] at e; cases e
    · rw [hfree] at hc; cases hc
  rcases hx with hk | hk
  · refine wpAny_storeName_local hk hn (fun h' hn' hs => ?_) hcls
    obtain ⟨oL, _, _, hoL, _⟩ := id hn
    refine h _ ⟨I.ok, I.os, I.bare, ⟨fun b o e n hb hx => ?_, fun b o e n hb hx => ?_, I.base.free, fun b o e hx => ?_, I.base.tups, I.base.frzs, I.base.tbls⟩, ⟨_, hn', fun j y v' e1 e2 e3 => ?_⟩, fun y c e => ?_, I.free, I.freeC, fun p hp => ?_, tracked ⟨oL, hoL, I.free⟩ hs, by simpa using I.len⟩ ⟨_, hs, .inl rfl⟩
    · exact (hs.2 b (Nat.ne_of_lt (Nat.lt_of_lt_of_le (Heap.lt_size e) I.ok.above))).trans (I.base.keep b o e n hb hx)
    · obtain ⟨sl, e1⟩ := I.base.slot b o e n hb hx
      exact ⟨sl, (hs.2 b (Nat.ne_of_lt (Nat.lt_of_lt_of_le (Heap.lt_size e) I.ok.above))).trans e1⟩
    · obtain ⟨o', e1⟩ := I.base.there b o e hx
      exact ⟨o', (hs.2 b (Nat.ne_of_lt (Nat.lt_of_lt_of_le (Heap.lt_size e) I.ok.above))).trans e1⟩
    · by_cases hj : j = i
      · subst hj
        rw [hi] at e1; cases e1
        rw [List.getElem?_set_self hiσ] at e2
        cases e2
        exact ⟨u, r, .inl ⟨hk, by simp⟩⟩
      · rw [List.getElem?_set_ne (Ne.symm hj)] at e2
        obtain ⟨u', r', q⟩ := hl j y v' e1 e2 e3
        refine ⟨u', r', ?_⟩
        rcases q with ⟨k, e⟩ | ⟨k, c, e, z⟩
        · refine .inl ⟨k, ?_⟩
          have : y ≠ x := fun e => hj (nodup_ix hN e1 (e ▸ hi))
          simp [this, e]
        · exact .inr ⟨k, c, e, z.sameBut hs (cne y c e)⟩
    · obtain ⟨w', z⟩ := I.cell y c e
      exact ⟨w', z.sameBut hs (cne y c e)⟩
    · obtain ⟨e, n, ne, nf, d⟩ := I.pin p hp
      exact ⟨(hs.2 p.1 ne).trans e, n, ne, nf, d⟩
  · have hfn : X.fn x = true := by
      rcases hf with z | z
      · exact z
      · rw [z] at hk; cases hk
    obtain ⟨c, hc⟩ := I.ok.has x (.inl hk)
    obtain ⟨w', z⟩ := I.cell x c hc
    refine wpAny_storeName_cell I.ok.kind hk hc z (fun h' hc' hs => ?_)
    obtain ⟨oc, hoc, hocd⟩ := id z
    refine h { s with heap := h' } ⟨I.ok, I.os, I.bare, ⟨fun b o e n hb hx => ?_, fun b o e n hb hx => ?_, I.base.free, fun b o e hx => ?_, I.base.tups, I.base.frzs, I.base.tbls⟩, ⟨m, hn.sameBut hs (Ne.symm (cne x c hc)), fun j y v' e1 e2 e3 => ?_⟩, fun y c' e => ?_, I.free, I.freeC, fun p hp => ?_, tracked ⟨oc, hoc, I.freeC x c hc⟩ hs, by simpa using I.len⟩ ⟨c, hs, .inr hc⟩
    · exact (hs.2 b (Nat.ne_of_lt (Nat.lt_of_lt_of_le (Heap.lt_size e) (I.ok.cab x c hfn hc)))).trans (I.base.keep b o e n hb hx)
    · obtain ⟨sl, e1⟩ := I.base.slot b o e n hb hx
      exact ⟨sl, (hs.2 b (Nat.ne_of_lt (Nat.lt_of_lt_of_le (Heap.lt_size e) (I.ok.cab x c hfn hc)))).trans e1⟩
    · obtain ⟨o', e1⟩ := I.base.there b o e hx
      exact ⟨o', (hs.2 b (Nat.ne_of_lt (Nat.lt_of_lt_of_le (Heap.lt_size e) (I.ok.cab x c hfn hc)))).trans e1⟩
    · by_cases hj : j = i
      · subst hj
        rw [hi] at e1; cases e1
        rw [List.getElem?_set_self hiσ] at e2
        cases e2
        exact ⟨u, r, .inr ⟨.inl hk, c, hc, hc'⟩⟩
      · rw [List.getElem?_set_ne (Ne.symm hj)] at e2
        obtain ⟨u', r', q⟩ := hl j y v' e1 e2 e3
        refine ⟨u', r', ?_⟩
        rcases q with q | ⟨k, c', e, z'⟩
        · exact .inl q
        · refine .inr ⟨k, c', e, z'.sameBut hs ?_⟩
          rintro rfl
          exact hj (nodup_ix hN e1 (I.ok.inj _ _ _ e hc ▸ hi))
    · by_cases hcc : c' = c
      · subst hcc; exact ⟨_, hc'⟩
      · obtain ⟨w2, z2⟩ := I.cell y c' e
        exact ⟨w2, z2.sameBut hs hcc⟩
    · obtain ⟨e, n, ne, nf, d⟩ := I.pin p hp
      refine ⟨(hs.2 p.1 ?_).trans e, n, ne, nf, d⟩
      intro q
      rw [q, hoc] at e
      have q' : oc = p.2 := Option.some.inj e
      exact d w' (by rw [← q']; exact hocd)
theorem store_ok {M : Model} {A : Around} {E : Value → Shared → Prop} {i : Nat} {x : Str} {v : V} {u : Value} {Q : Unit → Shared → Prop} (I : Inv X pins σ H s) (hN : X.N.Nodup) (hi : X.N[i]? = some x) (hx : Loc X.env.scope x) (r : RelV v u)
    (h : ∀ s', Inv X pins (σ.set i (some v)) H s' → Q () s') (hf : X.fn x = true ∨ X.env.scope.names.lookup x = some .local := by first | exact .inl rfl | exact .inr rfl | assumption) : wpAny M A (storeName X.env x u) Q E s :=
  store_ok2 I hN hi hx r (fun s' I' _ => h s' I') hf
theorem Inv.call' {s' : Shared} {ch : List Addr} (I : Inv X pins σ H s) (ho : s'.os = s.os) (u : Un (frs X.stack) ch H H' s.heap s'.heap) (hok : HOk X.prog X.w H' s'.heap) (hg : AllBare s'.gens)
    (hch : ∀ b ∈ ch, (b ∈ X.ex ∨ X.s₀.heap.objs.size ≤ b) ∧ b ≠ X.env.locals ∧ (∀ x c, X.env.cells.lookup x = some c → c ≠ b) ∧ ∀ p ∈ X.pn ++ pins, p.1 ≠ b) : Inv X pins σ H' s' := by
  obtain ⟨h', g', d', t', o'⟩ := s'
  have e : o' = s.os := ho
  subst e
  exact I.call (g' := g') (t' := t') (d' := d') u hok hg hch
end
abbrev XK := Value → Option Addr → Hp → Prop
abbrev St := List (Option V)
abbrev VK := V → Hp → Prop
abbrev TE := St → Hp → VK → Prop
abbrev TT := St → Hp → (Bool → Hp → Prop) → Prop
abbrev TA := St → Hp → (List V → Hp → Prop) → Prop
structure Ends where
  nx : St → Hp → Prop
  rt : VK
  bk : St → Hp → Prop := fun _ _ => False
  ct : St → Hp → Prop := fun _ _ => False
abbrev TS := Ends → St → Hp → Prop
def EP (X : Cx) (pins : List (Addr × Obj)) (σ : St) (Q : VK) (u : Value) (s' : Shared) : Prop := ∃ v H', Inv X pins σ H' s' ∧ RelV v u ∧ Q v H'
def TP (X : Cx) (pins : List (Addr × Obj)) (σ : St) (Q : Bool → Hp → Prop) (b : Bool) (s' : Shared) : Prop := ∃ H', Inv X pins σ H' s' ∧ Q b H'
def AP (X : Cx) (pins : List (Addr × Obj)) (σ : St) (Q : List V → Hp → Prop) (us : List Value) (s' : Shared) : Prop := ∃ vs H', Inv X pins σ H' s' ∧ Vals vs us ∧ Q vs H'
def SP (X : Cx) (pins : List (Addr × Obj)) (D : Ends) (f : Flow) (s' : Shared) : Prop :=
  match f with
  | .next => ∃ σ' H', Inv X pins σ' H' s' ∧ D.nx σ' H'
  | .brk => ∃ σ' H', Inv X pins σ' H' s' ∧ D.bk σ' H'
  | .cont => ∃ σ' H', Inv X pins σ' H' s' ∧ D.ct σ' H'
  | .ret u => ∃ v σ' H', Inv X pins σ' H' s' ∧ RelV v u ∧ D.rt v H'
def PE (X : Cx) (e : Expr) (t : TE) : Prop :=
  ∀ (pins : List (Addr × Obj)) (s : Shared) (σ : St) (H : Hp) (Q : VK), Inv X pins σ H s → t σ H Q → wpAny (model X.prog X.w) X.A (eval e X.env) (EP X pins σ Q) X.xe s
def PT (X : Cx) (e : Expr) (t : TT) : Prop :=
  ∀ (pins : List (Addr × Obj)) (s : Shared) (σ : St) (H : Hp) (Q : Bool → Hp → Prop), Inv X pins σ H s → t σ H Q → wpAny (model X.prog X.w) X.A (isTrue e X.env (eval e X.env)) (TP X pins σ Q) X.xe s
def PW (X : Cx) (e : Expr) (t : TT) : Prop :=
  ∀ (whole : Sem Value) (pins : List (Addr × Obj)) (s : Shared) (σ : St) (H : Hp) (Q : Bool → Hp → Prop), Inv X pins σ H s → t σ H Q → wpAny (model X.prog X.w) X.A (isTrue e X.env whole) (TP X pins σ Q) X.xe s
theorem PW.pt {X : Cx} {e : Expr} {t : TT} (h : PW X e t) : PT X e t := h _
def PA (X : Cx) (es : List Expr) (t : TA) : Prop :=
  ∀ (pos : Pos) (pins : List (Addr × Obj)) (s : Shared) (σ : St) (H : Hp) (Q : List V → Hp → Prop), Inv X pins σ H s → t σ H Q → wpAny (model X.prog X.w) X.A (spliced (backTo pos (starEach es X.env))) (AP X pins σ Q) X.xe s
def PS (X : Cx) (st : Stmt) (t : TS) : Prop :=
  ∀ (pins : List (Addr × Obj)) (s : Shared) (σ : St) (H : Hp) (D : Ends), Inv X pins σ H s → t D σ H → wpAny (model X.prog X.w) X.A (exec st X.env) (SP X pins D) X.xe s
def PSs (X : Cx) (st : List Stmt) (t : TS) : Prop :=
  ∀ (pins : List (Addr × Obj)) (s : Shared) (σ : St) (H : Hp) (D : Ends), Inv X pins σ H s → t D σ H → wpAny (model X.prog X.w) X.A (execs st X.env) (SP X pins D) X.xe s
theorem thn {α : Type} {t : Sem α} {Q Q' : α → Shared → Prop} {M : Model} {A : Around} {E : Value → Shared → Prop} {s : Shared} (h : wpAny M A t Q E s) (hQ : ∀ a s, Q a s → Q' a s) : wpAny M A t Q' E s := wpAny_mono h hQ fun _ _ x => x
end L2
namespace L2
open PySem PySem.Spec PyProof.Rows
section
variable {X : Cx}
theorem bin {a b : Expr} {ta tb : TE} (ha : PE X a ta) (hb : PE X b tb) {pins : List (Addr × Obj)} {s : Shared} {σ : St} {H : Hp} {R : V → V → Hp → Prop} (I : Inv X pins σ H s) (h : ta σ H fun x H1 => tb σ H1 fun y H2 => R x y H2)
    {α : Type} {Q : α → Shared → Prop} {f : Value → Value → Sem α}
    (hf : ∀ v u s2 x y H2, Inv X pins σ H2 s2 → RelV x v → RelV y u → R x y H2 → wpAny (model X.prog X.w) X.A (f v u) Q X.xe s2) :
    wpAny (model X.prog X.w) X.A (eval a X.env) (fun v s₁ => wpAny (model X.prog X.w) X.A (eval b X.env) (fun u s₂ => wpAny (model X.prog X.w) X.A (f v u) Q X.xe s₂) X.xe s₁) X.xe s := by
  refine thn (ha pins s σ H _ I h) fun v s1 ⟨x, H1, I1, r1, q1⟩ => ?_
  refine thn (hb pins s1 σ H1 _ I1 q1) fun u s2 ⟨y, H2, I2, r2, q2⟩ => ?_
  exact hf v u s2 x y H2 I2 r1 r2 q2
def tVar (i : Nat) : TE := fun σ H Q => ∃ v, σ[i]? = some (some v) ∧ Q v H
def tC (v : V) : TE := fun _ H Q => Q v H
theorem pe_var {i : Nat} {x : Str} {pos : Pos} (hN : X.N[i]? = some x) (hv : Vis X.env.scope x) (hd : (x == ("__debug__" : Str)) = false := by decide) (hcd : (x == ("__classdict__" : Str)) = false := by decide) : PE X (.Name x pos) (tVar i) := by
  intro pins s σ H Q I h
  obtain ⟨v, e, h⟩ := h
  obtain ⟨m, hn, hl⟩ := I.loc
  obtain ⟨u, r, l⟩ := hl i x v hN e hv
  have fin : EP X pins σ Q u s := ⟨v, H, I, r, h⟩
  rcases l with ⟨hk, hm⟩ | ⟨hk, c, hc, hcell⟩
  · exact wpAny_Name (wpAny_loadName_local I.ok.kind hk hn hm fin) hd
  · rcases hk with hk | hk
    · exact wpAny_Name (wpAny_loadName_cell I.ok.kind hk hc hcell fin) hd
    · exact wpAny_Name (wpAny_loadName_free I.ok.kind hk hc hcell fin hcd) hd
theorem pe_int {i j pos} : PE X (.Constant (.int i) j pos) (tC (.int i)) := fun _ _ _ H _ I h => wpAny_Constant_int ⟨.int i, H, I.tok _, ⟨_, rfl⟩, h⟩
theorem pe_bl {b j pos} : PE X (.Constant (.bool b) j pos) (tC (.bl b)) := fun _ _ _ H _ I h => Constant_bool ⟨.bl b, H, I, rfl, h⟩
theorem pe_non {j pos} : PE X (.Constant .none j pos) (tC .non) := fun _ _ _ H _ I h => Constant_none ⟨.non, H, I, rfl, h⟩
theorem pe_str {x j pos} : PE X (.Constant (.str x) j pos) (tC (.str x)) := fun _ _ _ H _ I h => Calls.Constant_str ⟨.str x, H, I.tok _, ⟨_, rfl⟩, h⟩
def Gl (X : Cx) (x : Str) : Prop := X.env.kindOf x = some .globalImplicit
theorem ld_glob {E : Value → Shared → Prop} {pins : List (Addr × Obj)} {s : Shared} {σ : St} {H : Hp} {x : Str} {u : Value} {pos : Pos} {Q : Value → Shared → Prop} (I : Inv X pins σ H s) (hg : Gl X x) (hm : X.mg x = some u) (h : Q u s)
    (hd : (x == ("__debug__" : Str)) = false := by decide) : wpAny (model X.prog X.w) X.A (eval (.Name x pos) X.env) Q E s :=
  Calls.Name_function_global I.ok.kind hg (Calls.loadGlobal_global (by rw [I.ok.glob]; exact I.mod.glob.keeps I.bk) hm h) hd
theorem ld_blt {E : Value → Shared → Prop} {pins : List (Addr × Obj)} {s : Shared} {σ : St} {H : Hp} {x : Str} {u : Value} {pos : Pos} {Q : Value → Shared → Prop} (I : Inv X pins σ H s) (hg : Gl X x) (hm : X.mg x = none) (hv : bootBuiltins x = some u) (h : Q u s)
    (hn : x ≠ "__name__" := by decide) (hd : (x == ("__debug__" : Str)) = false := by decide) : wpAny (model X.prog X.w) X.A (eval (.Name x pos) X.env) Q E s := by
  obtain ⟨mb, h1, h2⟩ := I.mod.blt
  exact Calls.Name_function_global I.ok.kind hg (Calls.loadGlobal_builtin (by rw [I.ok.glob]; exact I.mod.glob.keeps I.bk) hm (by rw [I.ok.blt]; exact h1.keeps I.bk) ((h2 x hn).trans hv) h) hd
theorem pe_glob {x : Str} {v : V} {u : Value} {pos : Pos} (hg : Gl X x) (hm : X.mg x = some u) (r : RelV v u) (hd : (x == ("__debug__" : Str)) = false := by decide) : PE X (.Name x pos) (tC v) :=
  fun _ _ _ H _ I h => ld_glob I hg hm ⟨v, H, I, r, h⟩ hd
theorem pe_bltn {x : Str} {v : V} {u : Value} {pos : Pos} (hg : Gl X x) (hm : X.mg x = none) (hv : bootBuiltins x = some u) (r : RelV v u) (hn : x ≠ "__name__" := by decide) (hd : (x == ("__debug__" : Str)) = false := by decide) : PE X (.Name x pos) (tC v) :=
  fun _ _ _ H _ I h => ld_blt I hg hm hv ⟨v, H, I, r, h⟩ hn hd
variable {a b : Expr} {ta tb : TE} {pos : Pos}
def PC (X : Cx) (op : CmpOp) (a b : Expr) (t : TE) : Prop :=
  ∀ (pins : List (Addr × Obj)) (s : Shared) (σ : St) (H : Hp) (Q : VK), Inv X pins σ H s → t σ H Q →
    wpAny (model X.prog X.w) X.A (eval a X.env) (fun v s₁ => wpAny (model X.prog X.w) X.A (eval b X.env) (fun u s₂ => wpAny (model X.prog X.w) X.A (compareOp op v u) (EP X pins σ Q) X.xe s₂) X.xe s₁) X.xe s
def tB (t : TE) : TT := fun σ H Q => t σ H fun x H1 => ∃ c, x = .bl c ∧ Q c H1
theorem pt_cmp {op : CmpOp} {t : TE} (h : PC X op a b t) (h1 : behindInMarks op b = false := by first | exact nobehind _ (by decide) (by decide) | rfl) : PT X (.Compare a [op] [b] pos) (tB t) := by
  intro pins s σ H Q I hw
  refine wpAny_isTrue_Compare1 (thn (h pins s σ H _ I hw) fun v s1 h1 => thn h1 fun u s2 h2 => thn h2 fun c s3 ⟨x, H1, I1, r1, q1⟩ => ?_) h1
  obtain ⟨d, rfl, q⟩ := q1
  cases r1
  exact wpAny_truthy_bool ⟨H1, I1, q⟩
theorem pt_val {e : Expr} {t : TE} (h : PE X e t) (he : ∀ whole, isTrue e X.env whole = (do let v ← whole; standAt e.pos; holding [v] (truthy v)) := by intro _; rfl) : PT X e (tB t) := by
  intro pins s σ H Q I hw
  refine isTrue_plain (thn (h pins s σ H _ I hw) fun v s1 ⟨x, H1, I1, r1, q1⟩ => ?_) (he _)
  obtain ⟨d, rfl, q⟩ := q1
  cases r1
  exact wpAny_truthy_bool ⟨H1, I1, q⟩
variable {tA tB' : TT} {rest : List Expr}
def tAnd (t u : TT) : TT := fun σ H Q => t σ H fun c H1 => if c = true then u σ H1 Q else Q false H1
def tOr (t u : TT) : TT := fun σ H Q => t σ H fun c H1 => if c = true then Q true H1 else u σ H1 Q
def tNot (t : TT) : TT := fun σ H Q => t σ H fun c H1 => Q (!c) H1
theorem pw_and1 (ha : PT X a tA) : PW X (.BoolOp .And [a] pos) tA := by
  intro wh pins s σ H Q I h
  refine isTrue_and (thn (ha pins s σ H Q I h) fun c s1 e => ?_)
  cases c with
  | true => exact isTrue_and_nil e
  | false => exact e
theorem pw_or1 (ha : PT X a tA) : PW X (.BoolOp .Or [a] pos) tA := by
  intro wh pins s σ H Q I h
  refine isTrue_or (thn (ha pins s σ H Q I h) fun c s1 e => ?_)
  cases c with
  | false => exact isTrue_or_nil e
  | true => exact e
theorem pw_and (ha : PT X a tA) (hb : PW X (.BoolOp .And (b :: rest) pos) tB') : PW X (.BoolOp .And (a :: b :: rest) pos) (tAnd tA tB') := by
  intro wh pins s σ H Q I h
  refine isTrue_and (thn (ha pins s σ H _ I h) fun c s1 ⟨H1, I1, q1⟩ => ?_)
  cases c with
  | true => exact hb wh pins s1 σ H1 Q I1 q1
  | false => exact ⟨H1, I1, q1⟩
theorem pw_or (ha : PT X a tA) (hb : PW X (.BoolOp .Or (b :: rest) pos) tB') : PW X (.BoolOp .Or (a :: b :: rest) pos) (tOr tA tB') := by
  intro wh pins s σ H Q I h
  refine isTrue_or (thn (ha pins s σ H _ I h) fun c s1 ⟨H1, I1, q1⟩ => ?_)
  cases c with
  | true => exact ⟨H1, I1, q1⟩
  | false => exact hb wh pins s1 σ H1 Q I1 q1
theorem pt_not (ha : PT X a tA) : PT X (.UnaryOp .Not a pos) (tNot tA) := by
  intro pins s σ H Q I h
  exact isTrue_not (ha pins s σ H (fun c H1 => Q (!c) H1) I h)
def tAndV (ta tb : TE) : TE := fun σ H Q => ta σ H fun x H1 => ∃ c, x = .bl c ∧ if c = true then tb σ H1 Q else Q (.bl false) H1
def tNotV (ta : TE) : TE := fun σ H Q => ta σ H fun x H1 => ∃ c, x = .bl c ∧ Q (.bl (!c)) H1
theorem pe_one {op} {t : TE} (h : PE X a t) : PE X (.BoolOp op [a] pos) t := fun pins s σ H Q I hw => BoolOp_one (h pins s σ H Q I hw)
theorem pe_and (ha : PE X a ta) (hb : PE X (.BoolOp .And (b :: rest) pos) tb) : PE X (.BoolOp .And (a :: b :: rest) pos) (tAndV ta tb) := by
  intro pins s σ H Q I h
  refine BoolOp_and (thn (ha pins s σ H _ I h) fun v s1 ⟨x, H1, I1, r1, q1⟩ => ?_)
  obtain ⟨c, rfl, q1⟩ := q1
  cases r1
  refine wpAny_truthy_bool ?_
  cases c with
  | true => exact hb pins s1 σ H1 Q I1 q1
  | false => exact ⟨.bl false, H1, I1, rfl, q1⟩
theorem pe_not (ha : PE X a ta) : PE X (.UnaryOp .Not a pos) (tNotV ta) := by
  intro pins s σ H Q I h
  refine UnaryOp_ (thn (ha pins s σ H _ I h) fun v s1 ⟨x, H1, I1, r1, q1⟩ => ?_)
  obtain ⟨c, rfl, q1⟩ := q1
  cases r1
  exact not_of (wpAny_truthy_bool ⟨.bl (!c), H1, I1, rfl, q1⟩)
end
end L2
namespace L2
open PySem PySem.Spec PyProof.Rows
def SqL (K : PySem.W.Frag) (H : Hp) (a : Addr) (xs : List V) : Prop :=
  Rd H a (.lst xs) ∨
    ∃ (o : Obj) (its : Array Value) (n : Nat), K.lookup a = some o ∧ o.cls = .type "list" ∧ o.dict = none ∧ o.data = .seq its n ∧ its.size ≤ sizeLine ∧ Vals xs its.toList
def SqT (K : PySem.W.Frag) (H : Hp) (a : Addr) (xs : List V) : Prop :=
  Rd H a (.tup xs) ∨
    ∃ (o : Obj) (its : Array Value) (n : Nat), K.lookup a = some o ∧ o.cls = .type "tuple" ∧ o.data = .seq its n ∧ its.size ≤ sizeLine ∧ Vals xs its.toList
def absV : Value → Option V
  | .none => some .non
  | .bool b => some (.bl b)
  | .int i _ => some (.int i)
  | .str x _ => some (.str x)
  | .bytes b _ => some (.byt b)
  | .float b _ => some (.flt b)
  | .ref a => some (.ref a)
  | .type n => some (.ty n)
  | _ => none
theorem RelV.abs {x : V} {u : Value} (r : RelV x u) : absV u = some x := by
  cases x with
  | non => cases r; rfl
  | bl _ => cases r; rfl
  | int _ => obtain ⟨t, rfl⟩ := r; rfl
  | str _ => obtain ⟨t, rfl⟩ := r; rfl
  | byt _ => obtain ⟨t, rfl⟩ := r; rfl
  | flt _ => obtain ⟨t, rfl⟩ := r; rfl
  | ref _ => cases r; rfl
  | ty _ => cases r; rfl
theorem RelV.inj {x y : V} {u : Value} (r : RelV x u) (q : RelV y u) : x = y := Option.some.inj (r.abs.symm.trans q.abs)
theorem Vals.inj : ∀ {xs ys : List V} {us : List Value}, Vals xs us → Vals ys us → xs = ys
  | _, _, _, .nil, .nil => rfl
  | _, _, _, .cons r t, .cons r' t' => by rw [r.inj r', Vals.inj t t']
section
variable {X : Cx} {pins : List (Addr × Obj)} {σ : St} {H : Hp} {s : Shared} {a : Addr} {xs ys : List V}
theorem SqL.of {K : PySem.W.Frag} (h : H a = some (.lst xs)) : SqL K H a xs := .inl (.inl h)
theorem SqT.of {K : PySem.W.Frag} (h : H a = some (.tup xs)) : SqT K H a xs := .inl (.inl h)
theorem Inv.list (I : Inv X pins σ H s) (h : SqL X.K H a xs) : ∃ its : List Value, Vals xs its ∧ PlainL s.heap a its.toArray ∧ xs.length ≤ sizeLine := by
  rcases h with h | ⟨o, its, n, hk, hc, hd, hs, hz, r⟩
  · obtain ⟨z, its, n, r, e⟩ := h.ok I.hok
    exact ⟨its, r, ⟨_, n, e, rfl, rfl, rfl⟩, z⟩
  · refine ⟨its.toList, r, ⟨o, n, I.kIn a o hk, hc, hd, by simpa using hs⟩, ?_⟩
    have e := r.length
    simp only [Array.length_toList] at e
    omega
theorem Inv.tuple (I : Inv X pins σ H s) (h : SqT X.K H a xs) : ∃ its : List Value, Vals xs its ∧ IsTup s.heap a its.toArray ∧ xs.length ≤ sizeLine := by
  rcases h with h | ⟨o, its, n, hk, hc, hs, hz, r⟩
  · obtain ⟨z, its, r, p⟩ := h.ok I.hok
    exact ⟨its, r, p, z⟩
  · refine ⟨its.toList, r, ⟨o, I.kIn a o hk, hc, n, by simpa using hs⟩, ?_⟩
    have e := r.length
    simp only [Array.length_toList] at e
    omega
theorem Inv.list_inj (I : Inv X pins σ H s) (h : SqL X.K H a xs) (h' : SqL X.K H a ys) : xs = ys := by
  obtain ⟨its, r, ⟨o, n, e, _, _, d⟩, _⟩ := I.list h
  obtain ⟨its', r', ⟨o', n', e', _, _, d'⟩, _⟩ := I.list h'
  rw [e] at e'; cases e'
  rw [d] at d'
  injection d' with d1 _
  have : its = its' := by simpa using congrArg Array.toList d1
  subst this
  exact r.inj r'
theorem Inv.tuple_inj (I : Inv X pins σ H s) (h : SqT X.K H a xs) (h' : SqT X.K H a ys) : xs = ys := by
  obtain ⟨its, r, ⟨o, e, _, n, d⟩, _⟩ := I.tuple h
  obtain ⟨its', r', ⟨o', e', _, n', d'⟩, _⟩ := I.tuple h'
  rw [e] at e'; cases e'
  rw [d] at d'
  injection d' with d1 _
  have : its = its' := by simpa using congrArg Array.toList d1
  subst this
  exact r.inj r'
end
abbrev Cx.wish (X : Cx) (E : Value → Shared → Prop) : Cx := { X with xe := E }
abbrev Cx.nox (X : Cx) : Cx := X.wish fun _ _ => False
theorem Cx.Ok.wish {X : Cx} (ok : X.Ok) (E : Value → Shared → Prop) : (X.wish E).Ok :=
  ⟨ok.mod, ok.kind, ok.glob, ok.blt, ok.above, ok.inj, ok.has, ok.cab, ok.hd, ok.frames, ok.stk, ok.exf, ok.bs, ok.bsz, ok.noex, ok.exfs, ok.funs, ok.frf⟩
theorem Cx.Ok.unwish {X : Cx} {E : Value → Shared → Prop} (ok : (X.wish E).Ok) : X.Ok :=
  ⟨ok.mod, ok.kind, ok.glob, ok.blt, ok.above, ok.inj, ok.has, ok.cab, ok.hd, ok.frames, ok.stk, ok.exf, ok.bs, ok.bsz, ok.noex, ok.exfs, ok.funs, ok.frf⟩
section
variable {X : Cx} {pins : List (Addr × Obj)} {σ : St} {H : Hp} {s : Shared} {E : Value → Shared → Prop}
theorem Inv.wish (I : Inv X pins σ H s) (E : Value → Shared → Prop) : Inv (X.wish E) pins σ H s := ⟨I.ok.wish E, I.os, I.bare, I.base, I.loc, I.cell, I.free, I.freeC, I.pin, I.hok, I.len⟩
theorem Inv.unwish (I : Inv (X.wish E) pins σ H s) : Inv X pins σ H s := ⟨I.ok.unwish, I.os, I.bare, I.base, I.loc, I.cell, I.free, I.freeC, I.pin, I.hok, I.len⟩
theorem SP.unwish {D : Ends} {f : Flow} {s' : Shared} (h : SP (X.wish E) pins D f s') : SP X pins D f s' := by
  cases f with
  | next => obtain ⟨σ', H', I, q⟩ := h; exact ⟨σ', H', I.unwish, q⟩
  | brk => obtain ⟨σ', H', I, q⟩ := h; exact ⟨σ', H', I.unwish, q⟩
  | cont => obtain ⟨σ', H', I, q⟩ := h; exact ⟨σ', H', I.unwish, q⟩
  | ret u => obtain ⟨v, σ', H', I, r, q⟩ := h; exact ⟨v, σ', H', I.unwish, r, q⟩
theorem PSs.nox {st : List Stmt} {t : TS} (h : PSs X.nox st t) : PSs X st t := fun pins s σ H D I hw =>
  wpAny_mono (h pins s σ H D (I.wish _) hw) (fun _ _ q => q.unwish) fun _ _ z => False.elim z
end
section
variable {X : Cx} {st : Stmt} {rest : List Stmt} {t u : TS} {e : Expr} {te : TE} {pos : Pos}
def tNext : TS := fun D σ H => D.nx σ H
def tSeq (t u : TS) : TS := fun D σ H => t { D with nx := u D } σ H
theorem pss_nil : PSs X [] tNext := fun _ _ σ H _ I h => wpAny_execs_nil ⟨σ, H, I, h⟩
theorem pss_cons (h1 : PS X st t) (h2 : PSs X rest u) : PSs X (st :: rest) (tSeq t u) := by
  intro pins s σ H D I h
  refine wpAny_execs_cons (thn (h1 pins s σ H { D with nx := u D } I h) fun f s1 q => ?_)
  cases f with
  | next =>
    obtain ⟨σ', H', I', q⟩ := q
    exact h2 pins s1 σ' H' D I' q
  | ret v => exact q
  | brk => exact q
  | cont => exact q
theorem pss_one (h1 : PS X st t) : PSs X [st] t := by
  intro pins s σ H D I h
  refine wpAny_execs_cons (thn (h1 pins s σ H D I h) fun f s1 q => ?_)
  cases f with
  | next => exact wpAny_execs_nil q
  | ret v => exact q
  | brk => exact q
  | cont => exact q
theorem Inv.quiet {pins : List (Addr × Obj)} {σ : St} {H : Hp} {s : Shared} (I : Inv X pins σ H s) : interactive X.env = false := by simp [interactive, I.ok.kind]
def tDrop (te : TE) : TS := fun D σ H => te σ H fun _ H1 => D.nx σ H1
theorem ps_expr (he : PE X e te) (hs : swapsWith e none pos.line X.env = pure false := by rfl) : PS X (.Expr e pos) (tDrop te) := by
  intro pins s σ H D I h
  exact wpAny_Expr_any (thn (he pins s σ H _ I h) fun v s1 ⟨x, H1, I1, r1, q1⟩ => ⟨σ, H1, I1, q1⟩) I.quiet hs
def tRet (te : TE) : TS := fun D σ H => te σ H D.rt
theorem ps_ret (he : PE X e te) : PS X (.Return (some e) pos) (tRet te) := by
  intro pins s σ H D I h
  exact wpAny_Return_some (thn (he pins s σ H _ I h) fun v s1 ⟨x, H1, I1, r1, q1⟩ => ⟨x, σ, H1, I1, r1, q1⟩)
def tIfS (c : TT) (t u : TS) : TS := fun D σ H => c σ H fun b H1 => if b = true then t D σ H1 else u D σ H1
theorem ps_if {c : Expr} {a b : List Stmt} {tc : TT} (hc : PT X c tc) (ha : PSs X a t) (hb : PSs X b u) : PS X (.If c a b pos) (tIfS tc t u) := by
  intro pins s σ H D I h
  refine wpAny_If (thn (hc pins s σ H _ I h) fun d s1 ⟨H1, I1, q1⟩ => ?_)
  cases d with
  | true => exact ha pins s1 σ H1 D I1 q1
  | false => exact hb pins s1 σ H1 D I1 q1
def tNever : TS := fun _ _ _ => False
theorem ps_never : PS X st tNever := fun _ _ _ _ _ _ h => h.elim
end
abbrev TG := V → St → Hp → (St → Hp → Prop) → Prop
abbrev TGs := List V → St → Hp → (St → Hp → Prop) → Prop
def PG (X : Cx) (target : Expr) (t : TG) : Prop :=
  ∀ (pins : List (Addr × Obj)) (s : Shared) (σ : St) (H : Hp) (v : V) (u : Value) (Q : St → Hp → Prop), Inv X pins σ H s → RelV v u → t v σ H Q →
    wpAny (model X.prog X.w) X.A (assign target X.env u) (fun _ s' => ∃ σ' H', Inv X pins σ' H' s' ∧ Q σ' H') X.xe s
def PGs (X : Cx) (ts : List Expr) (t : TGs) : Prop :=
  ∀ (pins : List (Addr × Obj)) (s : Shared) (σ : St) (H : Hp) (vs : List V) (us : List Value) (Q : St → Hp → Prop), Inv X pins σ H s → Vals vs us → t vs σ H Q →
    wpAny (model X.prog X.w) X.A (assignInOrder ((assignEach ts X.env).map (·.2)) us) (fun _ s' => ∃ σ' H', Inv X pins σ' H' s' ∧ Q σ' H') X.xe s
abbrev TSet := V → V → V → Hp → (Hp → Prop) → Prop
def PSet (X : Cx) (t : TSet) : Prop :=
  ∀ (pins : List (Addr × Obj)) (s : Shared) (σ : St) (H : Hp) (o i v : V) (ov iv u : Value) (Q : Hp → Prop), Inv X pins σ H s → RelV o ov → RelV i iv → RelV v u → t o i v H Q →
    wpAny (model X.prog X.w) X.A (setItem ov iv u) (fun _ s' => ∃ H', Inv X pins σ H' s' ∧ Q H') X.xe s
section
variable {X : Cx} {pos : Pos}
def gName (i : Nat) : TG := fun v σ H Q => Q (σ.set i (some v)) H
theorem pg_name {i : Nat} {x : Str} (hN : X.N.Nodup) (hi : X.N[i]? = some x) (hx : Loc X.env.scope x) (hf : X.fn x = true ∨ X.env.scope.names.lookup x = some .local := by first | exact .inl rfl | exact .inr rfl | assumption) : PG X (.Name x pos) (gName i) := by
  intro pins s σ H v u Q I r h
  exact wpAny_assign_Name (store_ok I hN hi hx r (fun s' I' => ⟨_, H, I', h⟩) hf)
def gNil : TGs := fun vs σ H Q => vs = [] ∧ Q σ H
def gCons (t : TG) (u : TGs) : TGs := fun vs σ H Q => ∃ v r, vs = v :: r ∧ t v σ H fun σ' H' => u r σ' H' Q
theorem pgs_nil : PGs X [] gNil := by
  intro pins s σ H vs us Q I r h
  obtain ⟨e, h⟩ := h
  subst e
  cases r
  exact assignInOrder_nil ⟨σ, H, I, h⟩
theorem pgs_cons {e : Expr} {es : List Expr} {t : TG} {u : TGs} (h1 : PG X e t) (h2 : PGs X es u)
    (hs : (assignEach (e :: es) X.env).map (·.2) = assign e X.env :: (assignEach es X.env).map (·.2) := by rfl) : PGs X (e :: es) (gCons t u) := by
  intro pins s σ H vs us Q I r h
  obtain ⟨v, vr, e1, h⟩ := h
  subst e1
  cases r with
  | cons r rr =>
    rw [hs]
    refine assignInOrder_cons (thn (h1 pins s σ H _ _ _ I r h) fun _ s1 ⟨σ1, H1, I1, q1⟩ => ?_)
    exact h2 pins s1 σ1 H1 _ _ Q I1 rr q1
def gTup (K : PySem.W.Frag) (n : Nat) (t : TGs) : TG := fun v σ H Q => ∃ a xs, v = .ref a ∧ SqT K H a xs ∧ xs.length = n ∧ t xs σ H Q
theorem pg_tup {es : List Expr} {k : Nat} {t : TGs} {n : Nat} (hc : X.calm = true) (h : PGs X es t)
    (hn : (assignEach es X.env).length = n := by rfl) (hst : (assignEach es X.env).findIdx? (·.1) = none := by rfl) : PG X (.Tuple es k pos) (gTup X.K n t) := by
  intro pins s σ H v u Q I r hw
  obtain ⟨a, xs, e1, hq, hl, hw⟩ := hw
  subst e1
  cases r
  obtain ⟨its, rv, ht, hz⟩ := I.tuple hq
  refine assign_Tuple_tuple (I.ok.hd hc) ht (by simp [hn, ← hl, rv.length]) hst fun h' hx => ?_
  have I1 : Inv X pins σ H { s with heap := h' } := I.kept (t' := s.toks) fun b o e => hx b o (Nat.ne_of_lt (Heap.lt_size e)) e
  exact h pins _ σ H xs _ Q I1 (by simpa using rv) hw
def gSub (to ti : TE) (t : TSet) : TG := fun v σ H Q => to σ H fun o H1 => ti σ H1 fun i H2 => t o i v H2 fun H3 => Q σ H3
theorem pg_sub {o i : Expr} {to ti : TE} {t : TSet} (ho : PE X o to) (hi : PE X i ti) (hs : PSet X t)
    (ha : ∀ v, assign (.Subscript o i pos) X.env v = (do
      let ov ← holding [v] (eval o X.env)
      let iv ← holding [v, ov] (eval i X.env)
      standAt pos
      holding [v, ov, iv] (setItem ov iv v)
      release [v, ov, iv] []) := by intro _; rfl) : PG X (.Subscript o i pos) (gSub to ti t) := by
  intro pins s σ H v u Q I r h
  rw [ha]
  refine wpAny_bind (wpAny_holding (thn (ho pins s σ H _ I h) fun ov s1 ⟨x, H1, I1, r1, q1⟩ => ?_))
  refine wpAny_bind (wpAny_holding (thn (hi pins s1 σ H1 _ I1 q1) fun iv s2 ⟨y, H2, I2, r2, q2⟩ => ?_))
  refine wpAny_bind (wpAny_standAt (wpAny_bind (wpAny_holding (thn (hs pins s2 σ H2 x y v ov iv u _ I2 r1 r2 r q2) fun _ s3 ⟨H3, I3, q3⟩ => ?_))))
  exact wpAny_release ⟨σ, H3, I3, q3⟩
def tAsg (te : TE) (g : TG) : TS := fun D σ H => te σ H fun x H1 => g x σ H1 D.nx
theorem ps_asg {tg e : Expr} {te : TE} {g : TG} (he : PE X e te) (hg : PG X tg g) (hs : swapsWithSole [tg] e pos.line X.env = pure false := by rfl) (hw : swappedStores [tg] e X.env = pure none := by rfl)
    (h1 : (assignEach [tg] X.env).map (·.2) = [assign tg X.env] := by rfl) : PS X (.Assign [tg] e pos) (tAsg te g) := by
  intro pins s σ H D I h
  refine wpAny_Assign_stores (thn (he pins s σ H _ I h) fun v s1 ⟨x, H1, I1, r1, q1⟩ => ?_) hs hw
  rw [h1]
  exact thn (hg pins s1 σ H1 x v _ I1 r1 q1) fun _ s2 q => q
theorem ps_set {i : Nat} {x : Str} {e : Expr} {te : TE} {pos' : Pos} (hN : X.N.Nodup) (hi : X.N[i]? = some x) (hx : Loc X.env.scope x) (he : PE X e te) (hs : swapsWith e (some (.Name x pos')) pos.line X.env = pure false := by rfl) (hf : X.fn x = true ∨ X.env.scope.names.lookup x = some .local := by first | exact .inl rfl | exact .inr rfl | assumption) :
    PS X (.Assign [.Name x pos'] e pos) (tAsg te (gName i)) := by
  intro pins s σ H D I h
  refine wpAny_Assign_Name (thn (he pins s σ H _ I h) fun v s1 ⟨y, H1, I1, r1, q1⟩ => ?_) hs
  exact store_ok I1 hN hi hx r1 (fun s2 I2 => ⟨_, H1, I2, q1⟩) hf
end
structure It where
  go : Nat → Hp → Prop
  yld : Nat → Hp → V → Hp → Prop
  stop : Nat → Hp → Prop
def FpOk (X : Cx) (pins : List (Addr × Obj)) (H : Hp) (b : Addr) : Prop :=
  H b = none ∧ b ≠ X.env.locals ∧ b ∉ X.fs ∧ (b ∈ X.ex ∨ X.s₀.heap.objs.size ≤ b) ∧ (∀ x c, X.env.cells.lookup x = some c → c ≠ b) ∧ ∀ p ∈ X.pn ++ pins, p.1 ≠ b
theorem Inv.fpOk {X : Cx} {pins : List (Addr × Obj)} {σ : St} {H H' : Hp} {s : Shared} {b : Addr} (I : Inv X pins σ H s) (hb : s.heap.objs.size ≤ b) (hn : H' b = none) : FpOk X pins H' b := by
  refine ⟨hn, Nat.ne_of_gt (Nat.lt_of_lt_of_le I.lt hb), I.nofs hb, .inr (Nat.le_trans I.sz hb), fun x c e z => ?_, fun p hp z => ?_⟩
  · obtain ⟨v, q⟩ := I.cell x c e
    exact absurd (Nat.lt_of_lt_of_le q.lt (by rw [z]; exact hb)) (Nat.lt_irrefl _)
  · exact absurd (Nat.lt_of_lt_of_le (Heap.lt_size (I.pin p hp).1) (by rw [z]; exact hb)) (Nat.lt_irrefl _)
structure Turn (P : Program) (w : World) (K : PySem.W.Frag) (tg : Expr) (J : It) (fp : List Addr) (it : Addr) (tn : Nat → Heap → Prop) : Prop where
  mem : it ∈ fp
  obj : ∀ i h, tn i h → ∀ b ∈ fp, ∃ o, h.get? b = some o ∧ ∀ v, o.data ≠ .cell v
  keep : ∀ i h h', tn i h → (∀ b ∈ fp, ∀ o, h.get? b = some o → h'.get? b = some o) → tn i h'
  item : ∀ (X : Cx), X.prog = P → X.w = w → X.K = K → X.calm = true → ∀ (i : Nat) (pins : List (Addr × Obj)) (s : Shared) (σ : St) (H : Hp) (E : Value → Shared → Prop), Inv X pins σ H s → (∀ b ∈ fp, FpOk X pins H b) → tn i s.heap → J.go i H →
    wpAny (model P w) X.A (pyNext (.ref it)) (fun r s1 => ∃ u, r = some u ∧
      wpAny (model P w) X.A (letOwnedTupleGo tg (.ref it) u) (fun _ s2 => ∃ x H', Inv X pins σ H' s2 ∧ RelV x u ∧ J.yld i H x H' ∧ tn (i + 1) s2.heap ∧ ∀ b ∈ fp, H' b = none) E s1) E s
  done : ∀ (X : Cx), X.prog = P → X.w = w → X.K = K → X.calm = true → ∀ (i : Nat) (pins : List (Addr × Obj)) (s : Shared) (σ : St) (H : Hp) (E : Value → Shared → Prop), Inv X pins σ H s → (∀ b ∈ fp, FpOk X pins H b) → tn i s.heap → J.stop i H →
    wpAny (model P w) X.A (pyNext (.ref it)) (fun r s1 => r = none ∧ Inv X pins σ H s1) E s
  self : ∀ (A : Around) (i : Nat) (s : Shared) (Q : Value → Shared → Prop) (E : Value → Shared → Prop), tn i s.heap → Q (.ref it) s → wpAny (model P w) A (pyIter (.ref it)) Q E s
abbrev TI := St → Hp → (It → Hp → Prop) → Prop
def PIE (X : Cx) (pins : List (Addr × Obj)) (σ : St) (tg : Expr) (R : It → Hp → Prop) (itv : Value) (s2 : Shared) : Prop :=
  ∃ (it : Addr) (fp : List Addr) (tn : Nat → Heap → Prop) (J : It) (H' : Hp), itv = .ref it ∧ Inv X pins σ H' s2 ∧ Turn X.prog X.w X.K tg J fp it tn ∧ tn 0 s2.heap ∧ (∀ b ∈ fp, FpOk X pins H' b) ∧ R J H'
def PI (X : Cx) (tg iter : Expr) (wi : TI) : Prop :=
  ∀ (pins : List (Addr × Obj)) (s : Shared) (σ : St) (H : Hp) (R : It → Hp → Prop), Inv X pins σ H s → wi σ H R →
    wpAny (model X.prog X.w) X.A (eval iter X.env) (fun v s1 => wpAny (model X.prog X.w) X.A (pyIter v) (PIE X pins σ tg R) X.xe s1) X.xe s
theorem go_of {M : Model} {A : Around} {E : Value → Shared → Prop} {s : Shared} {tg : Expr} {it : Addr} {u : Value} {o : Obj} {n : String} {vs : Array Value} {Q : Unit → Shared → Prop} (ho : s.heap.get? it = some o) (hc : o.cls = .type n) (hd : o.data = .fields vs)
    (hn : ["enumerate", "zip", "dict_itemiterator", "dict_reverseitemiterator", "odict_iterator", "itertools.zip_longest", "itertools.pairwise"].contains n = false) (hQ : Q () s) : wpAny M A (letOwnedTupleGo tg (.ref it) u) Q E s := by
  unfold letOwnedTupleGo
  cases tg <;> first
    | exact wpAny_pure hQ
    | (cases u <;> first
        | exact wpAny_pure hQ
        | (refine wpAny_bind (wpAny_load ho ?_)
           rw [hc, hd]
           show wpAny M A (if (["enumerate", "zip", "dict_itemiterator", "dict_reverseitemiterator", "odict_iterator", "itertools.zip_longest", "itertools.pairwise"].contains n && vs[0]? == some (rawInt _)) = true then _ else _) Q E s
           rw [if_neg (by intro h; rw [hn, Bool.false_and] at h; cases h)]
           exact wpAny_pure hQ))
def Itl (K : PySem.W.Frag) (a : Addr) : It :=
  ⟨fun i H => ∃ xs x, SqL K H a xs ∧ xs[i]? = some x, fun i H x H' => H' = H ∧ ∀ xs, SqL K H a xs → xs[i]? = some x, fun i H => ∃ xs, SqL K H a xs ∧ xs.length ≤ i⟩
def Itt (K : PySem.W.Frag) (a : Addr) : It :=
  ⟨fun i H => ∃ xs x, SqT K H a xs ∧ xs[i]? = some x, fun i H x H' => H' = H ∧ ∀ xs, SqT K H a xs → xs[i]? = some x, fun i H => ∃ xs, SqT K H a xs ∧ xs.length ≤ i⟩
def Itr (lo : Int) (n : Nat) : It := ⟨fun i _ => i < n, fun i H x H' => H' = H ∧ x = .int (lo + i), fun i _ => n ≤ i⟩
theorem turn_list {P : Program} {w : World} {K : PySem.W.Frag} {tg : Expr} (a it : Addr) : Turn P w K tg (Itl K a) [it] it (fun i h => h.IsListIter it a i) where
  mem := by simp
  obj := fun i h st b hb => by
    have e : b = it := by simpa using hb
    subst e
    obtain ⟨o, e, c, d⟩ := st
    exact ⟨o, e, fun v z => by rw [d] at z; cases z⟩
  keep := fun i h h' st k => st.at fun o e => k it (by simp) o e
  item := by
    intro X hP hw hK hc i pins s σ H E I hf st hg
    subst hP hw hK
    obtain ⟨xs, x, hq, hx⟩ := hg
    obtain ⟨its, rv, p, hz⟩ := I.list hq
    obtain ⟨u, hu, ru⟩ := rv.get hx
    obtain ⟨f0, f1, f2, f3, f4, f5⟩ := hf it (by simp)
    refine wpAny_pyNext_list_item st p.isList (x := u) (by simpa using hu) fun h' st' sb => ?_
    have I1 : Inv X pins σ H { s with heap := h' } := I.turned (t' := s.toks) (fun b o hb e => (sb.2 b hb).trans e) f0 f1 f3 f4 f5
    obtain ⟨o, e, c, d⟩ := id st'
    exact ⟨u, rfl, go_of (s := { s with heap := h' }) e c d (by decide) ⟨x, H, I1, ru, ⟨rfl, fun ys hy => by rw [I.list_inj hy hq]; exact hx⟩, st', fun b hb => (hf b hb).1⟩⟩
  done := by
    intro X hP hw hK hc i pins s σ H E I hf st hg
    subst hP hw hK
    obtain ⟨xs, hq, hx⟩ := hg
    obtain ⟨its, rv, p, hz⟩ := I.list hq
    obtain ⟨f0, f1, f2, f3, f4, f5⟩ := hf it (by simp)
    have hl := rv.length
    exact wpAny_pyNext_list_end (I.ok.hd hc) st p.isList (by simp; omega) fun h' eb => ⟨rfl, I.turned (t' := s.toks) (fun b o hb e => eb b o hb e) f0 f1 f3 f4 f5⟩
  self := fun _ _ _ _ _ st h => wpAny_pyIter_listiter st h
theorem turn_tuple {P : Program} {w : World} {K : PySem.W.Frag} {tg : Expr} (a it : Addr) : Turn P w K tg (Itt K a) [it] it (fun i h => h.IsTupleIter it a i) where
  mem := by simp
  obj := fun i h st b hb => by
    have e : b = it := by simpa using hb
    subst e
    obtain ⟨o, e, c, d⟩ := st
    exact ⟨o, e, fun v z => by rw [d] at z; cases z⟩
  keep := fun i h h' st k => st.at fun o e => k it (by simp) o e
  item := by
    intro X hP hw hK hc i pins s σ H E I hf st hg
    subst hP hw hK
    obtain ⟨xs, x, hq, hx⟩ := hg
    obtain ⟨its, rv, p, hz⟩ := I.tuple hq
    obtain ⟨u, hu, ru⟩ := rv.get hx
    obtain ⟨f0, f1, f2, f3, f4, f5⟩ := hf it (by simp)
    refine wpAny_pyNext_tuple_item st (show s.heap.IsTuple a its.toArray from p) (x := u) (by simpa using hu) fun h' st' sb => ?_
    have I1 : Inv X pins σ H { s with heap := h' } := I.turned (t' := s.toks) (fun b o hb e => (sb.2 b hb).trans e) f0 f1 f3 f4 f5
    obtain ⟨o, e, c, d⟩ := id st'
    exact ⟨u, rfl, go_of (s := { s with heap := h' }) e c d (by decide) ⟨x, H, I1, ru, ⟨rfl, fun ys hy => by rw [I.tuple_inj hy hq]; exact hx⟩, st', fun b hb => (hf b hb).1⟩⟩
  done := by
    intro X hP hw hK hc i pins s σ H E I hf st hg
    subst hP hw hK
    obtain ⟨xs, hq, hx⟩ := hg
    obtain ⟨its, rv, p, hz⟩ := I.tuple hq
    obtain ⟨f0, f1, f2, f3, f4, f5⟩ := hf it (by simp)
    have hl := rv.length
    exact wpAny_pyNext_tuple_end (I.ok.hd hc) st (show s.heap.IsTuple a its.toArray from p) (by simp; omega) fun h' eb => ⟨rfl, I.turned (t' := s.toks) (fun b o hb e => eb b o hb e) f0 f1 f3 f4 f5⟩
  self := fun _ _ _ _ _ st h => wpAny_pyIter_tupleiter st h
theorem turn_range {P : Program} {w : World} {K : PySem.W.Frag} {tg : Expr} (it : Addr) (lo : Int) (n : Nat) : Turn P w K tg (Itr lo n) [it] it (fun i h => IsRangeIter h it (lo + (i : Nat) * 1) ((n : Int) - (i : Nat)) 1) where
  mem := by simp
  obj := fun i h st b hb => by
    have e : b = it := by simpa using hb
    subst e
    exact ⟨_, st, fun v z => by
      have z' : Data.fields _ = Data.cell v := z
      cases z'⟩
  keep := fun i h h' st k => k it (by simp) _ st
  item := by
    intro X hP hw hK hc i pins s σ H E I hf st hg
    subst hP hw hK
    obtain ⟨f0, f1, f2, f3, f4, f5⟩ := hf it (by simp)
    have W := Walks.range (prog := X.prog) (w := X.w) (I.ok.hd hc) it lo 1 n
    refine W.item i s _ _ hg st fun v h' tk hv st' kk => ?_
    obtain ⟨t, rfl⟩ := hv
    have I1 : Inv X pins σ H { s with heap := h', toks := tk } := I.turned (fun b o hb e => kk b o (by simpa using hb) e) f0 f1 f3 f4 f5
    refine ⟨_, rfl, go_of (s := { s with heap := h', toks := tk }) (n := "range_iterator") st' rfl rfl (by decide) ⟨.int (lo + i), H, I1, ⟨t, ?_⟩, ⟨rfl, rfl⟩, st', fun b hb => (hf b hb).1⟩⟩
    rw [Int.mul_one]
  done := by
    intro X hP hw hK hc i pins s σ H E I hf st hg
    subst hP hw hK
    obtain ⟨f0, f1, f2, f3, f4, f5⟩ := hf it (by simp)
    exact wpAny_pyNext_range_end (I.ok.hd hc) st (by have : n ≤ i := hg; omega) fun h' eb => ⟨rfl, I.turned (t' := s.toks) (fun b o hb e => eb b o hb e) f0 f1 f3 f4 f5⟩
  self := fun _ _ _ _ _ st h => wpAny_pyIter_rangeiter st h
end L2
namespace L2
open PySem PySem.Spec PyProof.Rows
section
variable {X : Cx} {tg : Expr}
def iList (K : PySem.W.Frag) (tl : TE) : TI := fun σ H R => tl σ H fun x H1 => ∃ a, x = .ref a ∧ (∃ xs, SqL K H1 a xs) ∧ R (Itl K a) H1
def iTup (K : PySem.W.Frag) (tl : TE) : TI := fun σ H R => tl σ H fun x H1 => ∃ a, x = .ref a ∧ (∃ xs, SqT K H1 a xs) ∧ R (Itt K a) H1
theorem pi_list {l : Expr} {tl : TE} (hl : PE X l tl) : PI X tg l (iList X.K tl) := by
  intro pins s σ H R I h
  refine thn (hl pins s σ H _ I h) fun v s1 ⟨x, H1, I1, r1, q1⟩ => ?_
  obtain ⟨a, e, ⟨xs, hq⟩, q⟩ := q1
  subst e
  cases r1
  obtain ⟨its, rv, p, hz⟩ := I1.list hq
  refine wpAny_pyIter_list p.isList ?_
  refine ⟨s1.heap.objs.size, [s1.heap.objs.size], _, _, H1, rfl, I1.kept (t' := s1.toks) fun b o e => Heap.get?_push_of_some _ e, turn_list a _, ⟨_, Heap.get?_push_size _ rfl, rfl, rfl⟩, fun b hb => ?_, q⟩
  have e : b = s1.heap.objs.size := by simpa using hb
  subst e
  exact I1.fpOk (Nat.le_refl _) (I1.hok.fresh (Nat.le_refl _))
theorem pi_tup {l : Expr} {tl : TE} (hl : PE X l tl) : PI X tg l (iTup X.K tl) := by
  intro pins s σ H R I h
  refine thn (hl pins s σ H _ I h) fun v s1 ⟨x, H1, I1, r1, q1⟩ => ?_
  obtain ⟨a, e, ⟨xs, hq⟩, q⟩ := q1
  subst e
  cases r1
  obtain ⟨its, rv, p, hz⟩ := I1.tuple hq
  refine wpAny_pyIter_tuple (show s1.heap.IsTuple a its.toArray from p) ?_
  refine ⟨s1.heap.objs.size, [s1.heap.objs.size], _, _, H1, rfl, I1.kept (t' := s1.toks) fun b o e => Heap.get?_push_of_some _ e, turn_tuple a _, ⟨_, Heap.get?_push_size _ rfl, rfl, rfl⟩, fun b hb => ?_, q⟩
  have e : b = s1.heap.objs.size := by simpa using hb
  subst e
  exact I1.fpOk (Nat.le_refl _) (I1.hok.fresh (Nat.le_refl _))
theorem range_it {pins : List (Addr × Obj)} {σ : St} {H : Hp} {s : Shared} {R : It → Hp → Prop} {E : Value → Shared → Prop} {lo hi : Int} {t u v : Tok} {tk : Nat} (I : Inv X pins σ H s) (h1 : -(2 ^ 62) ≤ lo) (h2 : lo < 2 ^ 62) (h3 : -(2 ^ 62) ≤ hi) (h4 : hi < 2 ^ 62)
    (q : R (Itr lo (hi - lo).toNat) H) : wpAny (model X.prog X.w) X.A (pyIter (.ref s.heap.objs.size)) (PIE X pins σ tg R) E { s with heap := s.heap.push { cls := .type "range", data := .fields #[.int lo t, .int hi u, .int 1 v] }, toks := tk } := by
  refine wpAny_pyIter_range (IsRange.new ..) (small_one h1 h2 h3 h4) ?_
  have I1 : Inv X pins σ H { s with heap := s.heap.push { cls := .type "range", data := .fields #[.int lo t, .int hi u, .int 1 v] }, toks := tk } := I.kept fun b o e => Heap.get?_push_of_some _ e
  refine ⟨(s.heap.push { cls := .type "range", data := .fields #[.int lo t, .int hi u, .int 1 v] }).objs.size, [(s.heap.push { cls := .type "range", data := .fields #[.int lo t, .int hi u, .int 1 v] }).objs.size], _, _, H, rfl,
    I1.kept (t' := tk) fun b o e => Heap.get?_push_of_some _ e, turn_range _ lo (hi - lo).toNat, ?_, fun b hb => ?_, q⟩
  · have e1 : lo + ((0 : Nat) : Int) * 1 = lo := by simp
    have e2 : (((hi - lo).toNat : Nat) : Int) - ((0 : Nat) : Int) = Builtin.Range.rangeSize lo hi 1 := by rw [rangeSize_one]; split <;> omega
    show IsRangeIter _ _ (lo + ((0 : Nat) : Int) * 1) ((((hi - lo).toNat : Nat) : Int) - ((0 : Nat) : Int)) 1
    rw [e1, e2]
    exact Heap.get?_push_size _ rfl
  · have e : b = (s.heap.push { cls := .type "range", data := .fields #[.int lo t, .int hi u, .int 1 v] }).objs.size := by simpa using hb
    subst e
    exact I1.fpOk (Nat.le_refl _) (I1.hok.fresh (Nat.le_refl _))
def iRng1 (ta : TA) : TI := fun σ H R => ta σ H fun vs H1 => ∃ j : Int, vs = [.int j] ∧ -(2 ^ 62) ≤ j ∧ j < 2 ^ 62 ∧ R (Itr 0 j.toNat) H1
def iRng2 (ta : TA) : TI := fun σ H R => ta σ H fun vs H1 => ∃ i j : Int, vs = [.int i, .int j] ∧ (-(2 ^ 62) ≤ i ∧ i < 2 ^ 62 ∧ -(2 ^ 62) ≤ j ∧ j < 2 ^ 62) ∧ R (Itr i (j - i).toNat) H1
theorem pi_range1 {a : Expr} {ta : TA} {p pos : Pos} (hg : Gl X "range") (hm : X.mg "range" = none) (ha : PA X [a] ta) (hs : starEach [a] X.env = [(false, eval a X.env)] := by rfl) : PI X tg (.Call (.Name "range" p) [a] [] pos) (iRng1 ta) := by
  intro pins s σ H R I h
  refine Call_ (ld_blt I hg hm boot_range (PyProof.Rows.callWith_type1 (thn (ha pos pins s σ H _ I h) fun us s1 ⟨vs, H1, I1, r1, q1⟩ => ?_) hs rfl))
  obtain ⟨j, e, q1, q2, q⟩ := q1
  subst e
  cases r1 with
  | cons r rr =>
    cases rr
    obtain ⟨t, rfl⟩ := r
    exact call_range_1 (range_it I1 (by omega) (by omega) q1 q2 (by simpa using q))
theorem pi_range2 {a b : Expr} {ta : TA} {p pos : Pos} (hg : Gl X "range") (hm : X.mg "range" = none) (ha : PA X [a, b] ta) (hs : starEach [a, b] X.env = [(false, eval a X.env), (false, eval b X.env)] := by rfl) (hs2 : starEach [b] X.env = [(false, eval b X.env)] := by rfl) :
    PI X tg (.Call (.Name "range" p) [a, b] [] pos) (iRng2 ta) := by
  intro pins s σ H R I h
  refine Call_ (ld_blt I hg hm boot_range (PyProof.Rows.callWith_type1 (thn (ha pos pins s σ H _ I h) fun us s1 ⟨vs, H1, I1, r1, q1⟩ => ?_) (by rw [hs, hs2]) (by rw [hs2]; rfl)))
  obtain ⟨i, j, e, ⟨q1, q2, q3, q4⟩, q⟩ := q1
  subst e
  cases r1 with
  | cons r rr =>
    cases rr with
    | cons r' rr =>
      cases rr
      obtain ⟨t, rfl⟩ := r
      obtain ⟨t', rfl⟩ := r'
      exact call_range_2 (range_it I1 q1 q2 q3 q4 q)
def tFor (wi : TI) (g : TG) (tb : TS) : TS := fun D σ H => wi σ H fun J H1 => ∃ W : Nat → Nat → St → Hp → Prop, (∃ m, W 0 m σ H1) ∧ ∀ i m σ H, W i m σ H →
  (J.stop i H ∧ D.nx σ H) ∨ (J.go i H ∧ ∃ N : St → Hp → Prop, (∀ σ' H', N σ' H' → ∃ m', m' < m ∧ W (i + 1) m' σ' H') ∧ ∀ x H', J.yld i H x H' → g x σ H' fun σ2 H2 => tb { D with nx := N, ct := N, bk := D.nx } σ2 H2)
def pinsAt (fp : List Addr) (h : Heap) : List (Addr × Obj) := fp.filterMap fun b => (h.get? b).map fun o => (b, o)
theorem mem_pinsAt {fp : List Addr} {h : Heap} {b : Addr} {o : Obj} (hb : b ∈ fp) (e : h.get? b = some o) : (b, o) ∈ pinsAt fp h := List.mem_filterMap.mpr ⟨b, hb, by rw [e]; rfl⟩
theorem of_pinsAt {fp : List Addr} {h : Heap} {p : Addr × Obj} (hp : p ∈ pinsAt fp h) : p.1 ∈ fp ∧ h.get? p.1 = some p.2 := by
  obtain ⟨b, hb, e⟩ := List.mem_filterMap.mp hp
  cases q : h.get? b with
  | none => rw [q] at e; cases e
  | some o =>
    rw [q] at e
    have e' : (b, o) = p := Option.some.inj e
    subst e'
    exact ⟨hb, q⟩
theorem Inv.pinned {pins : List (Addr × Obj)} {σ : St} {H : Hp} {s : Shared} {fp : List Addr} (I : Inv X pins σ H s) (hf : ∀ b ∈ fp, FpOk X pins H b) (ho : ∀ b ∈ fp, ∃ o, s.heap.get? b = some o ∧ ∀ v, o.data ≠ .cell v) : Inv X (pins ++ pinsAt fp s.heap) σ H s :=
  I.pins_of fun p hp => (List.mem_append.mp hp).elim (fun z => I.pin p (List.mem_append_right _ z)) fun z => by
    obtain ⟨hb, e⟩ := of_pinsAt z
    obtain ⟨f0, f1, f2, _⟩ := hf p.1 hb
    obtain ⟨o, e', d⟩ := ho p.1 hb
    rw [e] at e'; cases e'
    exact ⟨e, f0, f1, f2, d⟩
theorem Inv.unpinned {pins pl : List (Addr × Obj)} {σ : St} {H : Hp} {s : Shared} (I : Inv X (pins ++ pl) σ H s) : Inv X pins σ H s := I.pins_of fun p hp => I.pin p (List.mem_append_right _ (List.mem_append_left _ hp))
theorem ps_for {iter : Expr} {body : List Stmt} {wi : TI} {g : TG} {tb : TS} {pos : Pos} (hp : PassesOwn (model X.prog X.w) X.A X.env X.xe) (hc : X.calm = true) (hi : PI X tg iter wi) (hg : PG X tg g) (hb : PSs X body tb)
    (hs : ∀ x, foldedSetIterable iter X.env x = pure x := by intro _; rfl) : PS X (.For tg iter body [] pos) (tFor wi g tb) := by
  intro pins s σ H D I h
  refine wpAny_For (thn (hi pins s σ H _ I h) fun v s1 h1 => thn h1 fun itv s2 h2 => ?_) hs
  obtain ⟨it, fp, tn, J, H2, e, I2, T, st2, f2, W, ⟨m0, w0⟩, turn⟩ := h2
  subst e
  -- what stays true of the iterator's objects through the loop
  have stat : ∀ {H' : Hp}, (∀ b ∈ fp, H' b = none) → ∀ b ∈ fp, FpOk X pins H' b := fun hn b hb => ⟨hn b hb, (f2 b hb).2⟩
  refine codeAny_forLoop_any (fun n s' => ∃ i σ' H', Inv X pins σ' H' s' ∧ tn i s'.heap ∧ (∀ b ∈ fp, H' b = none) ∧ W i n σ' H') ?_ m0 ⟨0, σ, H2, I2, st2, fun b hb => (f2 b hb).1, w0⟩
  rintro n s3 ⟨i, σ3, H3, I3, st3, fr3, w3⟩
  rcases turn i n σ3 H3 w3 with ⟨stop, qn⟩ | ⟨go, N, hN, step⟩
  · refine wpAny_passesOwn hp (thn (T.done X rfl rfl rfl hc i pins s3 σ3 H3 X.xe I3 (stat fr3) st3 stop) fun r s4 ⟨hr, I4⟩ => ?_)
    subst hr
    exact wpAny_execs_nil ⟨σ3, H3, I4, qn⟩
  · refine wpAny_passesOwn hp (thn (T.item X rfl rfl rfl hc i pins s3 σ3 H3 X.xe I3 (stat fr3) st3 go) fun r s4 ⟨u, hr, h4⟩ => ?_)
    subst hr
    refine wpAny_passesOwn hp (thn h4 fun _ s5 ⟨x, H5, I5, r5, y5, st5, fr5⟩ => ?_)
    have I5' := I5.pinned (stat fr5) (T.obj _ _ st5)
    refine wpAny_passesOwn hp (thn (hg _ s5 σ3 H5 x u _ I5' r5 (step x H5 y5)) fun _ s6 ⟨σ6, H6, I6, q6⟩ => ?_)
    refine wpAny_passesOwn hp (thn (hb _ s6 σ6 H6 _ I6 q6) fun f s7 q7 => ?_)
    have again : ∀ {σ7 : St} {H7 : Hp}, Inv X (pins ++ pinsAt fp s5.heap) σ7 H7 s7 → N σ7 H7 → ∃ m, m < n ∧ ∃ i σ' H', Inv X pins σ' H' s7 ∧ tn i s7.heap ∧ (∀ b ∈ fp, H' b = none) ∧ W i m σ' H' := fun {σ7 H7} I7 n7 => by
      obtain ⟨m', hm, w7⟩ := hN σ7 H7 n7
      refine ⟨m', hm, i + 1, σ7, H7, I7.unpinned, T.keep _ _ _ st5 fun b hb o e => (I7.pin (b, o) (List.mem_append_right _ (List.mem_append_right _ (mem_pinsAt hb e)))).1, fun b hb => ?_, w7⟩
      obtain ⟨o, e, d⟩ := T.obj _ _ st5 b hb
      exact (I7.pin (b, o) (List.mem_append_right _ (List.mem_append_right _ (mem_pinsAt hb e)))).2.1
    cases f with
    | next => obtain ⟨σ7, H7, I7, n7⟩ := q7; exact again I7 n7
    | cont => obtain ⟨σ7, H7, I7, n7⟩ := q7; exact again I7 n7
    | brk => obtain ⟨σ7, H7, I7, q7⟩ := q7; exact ⟨σ7, H7, I7.unpinned, q7⟩
    | ret v => obtain ⟨x7, σ7, H7, I7, r7, q7⟩ := q7; exact ⟨x7, σ7, H7, I7.unpinned, r7, q7⟩
end
theorem for_list {K : PySem.W.Frag} {a : Addr} {xs : List V} {g : TG} {tb : TS} {D : Ends} {σ : St} {H : Hp} (Pv : Nat → St → Hp → Prop) (h0 : Pv 0 σ H) (hl : ∀ i σ H, i ≤ xs.length → Pv i σ H → SqL K H a xs)
    (hs : ∀ i x σ H, xs[i]? = some x → Pv i σ H → g x σ H fun σ2 H2 => tb { D with nx := Pv (i + 1), ct := Pv (i + 1), bk := D.nx } σ2 H2) (hd : ∀ σ H, Pv xs.length σ H → D.nx σ H) :
    ∃ W : Nat → Nat → St → Hp → Prop, (∃ m, W 0 m σ H) ∧ ∀ i m σ H, W i m σ H →
      ((Itl K a).stop i H ∧ D.nx σ H) ∨ ((Itl K a).go i H ∧ ∃ N : St → Hp → Prop, (∀ σ' H', N σ' H' → ∃ m', m' < m ∧ W (i + 1) m' σ' H') ∧ ∀ x H', (Itl K a).yld i H x H' → g x σ H' fun σ2 H2 => tb { D with nx := N, ct := N, bk := D.nx } σ2 H2) := by
  refine ⟨fun i m σ H => m = xs.length - i ∧ i ≤ xs.length ∧ Pv i σ H, ⟨xs.length, by simp, Nat.zero_le _, h0⟩, ?_⟩
  rintro i m σ H ⟨rfl, hi, p⟩
  have q := hl i σ H hi p
  by_cases hlt : i < xs.length
  · refine .inr ⟨⟨xs, xs[i], q, by simp [hlt]⟩, Pv (i + 1), fun σ' H' p' => ⟨xs.length - (i + 1), by omega, rfl, hlt, p'⟩, fun x H' y => ?_⟩
    obtain ⟨e, y⟩ := y
    subst e
    exact hs i x σ _ (y xs q) p
  · have e : i = xs.length := by omega
    subst e
    exact .inl ⟨⟨xs, q, Nat.le_refl _⟩, hd σ H p⟩
theorem for_range {lo : Int} {n : Nat} {g : TG} {tb : TS} {D : Ends} {σ : St} {H : Hp} (Pv : Nat → St → Hp → Prop) (h0 : Pv 0 σ H)
    (hs : ∀ i σ H, i < n → Pv i σ H → g (.int (lo + i)) σ H fun σ2 H2 => tb { D with nx := Pv (i + 1), ct := Pv (i + 1), bk := D.nx } σ2 H2) (hd : ∀ σ H, Pv n σ H → D.nx σ H) :
    ∃ W : Nat → Nat → St → Hp → Prop, (∃ m, W 0 m σ H) ∧ ∀ i m σ H, W i m σ H →
      ((Itr lo n).stop i H ∧ D.nx σ H) ∨ ((Itr lo n).go i H ∧ ∃ N : St → Hp → Prop, (∀ σ' H', N σ' H' → ∃ m', m' < m ∧ W (i + 1) m' σ' H') ∧ ∀ x H', (Itr lo n).yld i H x H' → g x σ H' fun σ2 H2 => tb { D with nx := N, ct := N, bk := D.nx } σ2 H2) := by
  refine ⟨fun i m σ H => m = n - i ∧ i ≤ n ∧ Pv i σ H, ⟨n, by simp, Nat.zero_le _, h0⟩, ?_⟩
  rintro i m σ H ⟨rfl, hi, p⟩
  by_cases hlt : i < n
  · refine .inr ⟨hlt, Pv (i + 1), fun σ' H' p' => ⟨n - (i + 1), by omega, rfl, hlt, p'⟩, fun x H' y => ?_⟩
    obtain ⟨e, y⟩ := y
    subst e y
    exact hs i σ _ hlt p
  · have e : i = n := by omega
    subst e
    exact .inl ⟨Nat.le_refl _, hd σ H p⟩
end L2
namespace L2
open PySem PySem.Spec PyProof.Rows
abbrev R2 := V → V → Hp → VK → Prop
def OpR (X : Cx) (f : Value → Value → Sem Value) (r : R2) : Prop :=
  ∀ (pins : List (Addr × Obj)) (s : Shared) (σ : St) (H : Hp) (x y : V) (v u : Value) (Q : VK), Inv X pins σ H s → RelV x v → RelV y u → r x y H Q →
    wpAny (model X.prog X.w) X.A (f v u) (EP X pins σ Q) X.xe s
def CallR (X : Cx) (f : Value) (r : List V → Hp → VK → Prop) : Prop :=
  ∀ (pins : List (Addr × Obj)) (s : Shared) (σ : St) (H : Hp) (xs : List V) (us : List Value) (Q : VK), Inv X pins σ H s → Vals xs us → r xs H Q →
    wpAny (model X.prog X.w) X.A (call f us) (EP X pins σ Q) X.xe s
def tOp (r : R2) (ta tb : TE) : TE := fun σ H Q => ta σ H fun x H1 => tb σ H1 fun y H2 => r x y H2 Q
def rI (C : Int → Int → Prop) (g : Int → Int → V) : R2 := fun x y H Q => ∃ i j, x = .int i ∧ y = .int j ∧ C i j ∧ Q (g i j) H
def rI0 (g : Int → Int → V) : R2 := fun x y H Q => ∃ i j, x = .int i ∧ y = .int j ∧ Q (g i j) H
section
variable {X : Cx} {a b c : Expr} {ta tb tc : TE} {pos : Pos}
theorem binT (ha : PE X a ta) (hb : PE X b tb) {pins : List (Addr × Obj)} {s : Shared} {σ : St} {H : Hp} {R : V → V → Hp → Prop} (I : Inv X pins σ H s)
    (h : ta σ H fun x H1 => tb σ H1 fun y H2 => R x y H2) {Q : Value → Shared → Prop} {f : Value → Value → Sem Value}
    (hf : ∀ v u s2 x y H2, Inv X pins σ H2 s2 → RelV x v → RelV y u → R x y H2 → wpAny (model X.prog X.w) X.A (f v u) Q X.xe s2) :
    wpAny (model X.prog X.w) X.A (eval a X.env) (fun v s₁ => wpAny (model X.prog X.w) X.A (eval b X.env) (fun u s₂ => wpAny (model X.prog X.w) X.A (f v u) Q X.xe s₂) X.xe s₁) X.xe s := by
  refine thn (ha pins s σ H _ I h) fun v s1 ⟨x, H1, I1, r1, q1⟩ => ?_
  refine thn (hb pins s1 σ H1 _ I1 q1) fun u s2 ⟨y, H2, I2, r2, q2⟩ => ?_
  exact hf v u s2 x y H2 I2 r1 r2 q2
theorem pe_op {op : Operator} {r : R2} (ho : OpR X (binaryOp op) r) (ha : PE X a ta) (hb : PE X b tb) : PE X (.BinOp a op b pos) (tOp r ta tb) := by
  intro pins s σ H Q I h
  exact wpAny_BinOp (binT ha hb I h fun v u s2 x y H2 I2 rx ry q => ho pins s2 σ H2 x y v u Q I2 rx ry q)
theorem opI {f : Value → Value → Sem Value} {C : Int → Int → Prop} {g : Int → Int → Int}
    (rule : ∀ (i j : Int) (t u : Tok) (s : Shared) (Q : Value → Shared → Prop) (E : Value → Shared → Prop), C i j → Q (.int (g i j) s.toks) { s with toks := s.toks + 1 } → wpAny (model X.prog X.w) X.A (f (.int i t) (.int j u)) Q E s) :
    OpR X f (rI C fun i j => .int (g i j)) := by
  intro pins s σ H x y v u Q I rx ry h
  obtain ⟨i, j, rfl, rfl, hc, q⟩ := h
  obtain ⟨t, rfl⟩ := rx
  obtain ⟨t', rfl⟩ := ry
  exact rule i j t t' s _ _ hc ⟨.int (g i j), H, I.tok _, ⟨_, rfl⟩, q⟩
theorem opI0 {f : Value → Value → Sem Value} {g : Int → Int → Int}
    (rule : ∀ (i j : Int) (t u : Tok) (s : Shared) (Q : Value → Shared → Prop) (E : Value → Shared → Prop), Q (.int (g i j) s.toks) { s with toks := s.toks + 1 } → wpAny (model X.prog X.w) X.A (f (.int i t) (.int j u)) Q E s) :
    OpR X f (rI0 fun i j => .int (g i j)) := by
  intro pins s σ H x y v u Q I rx ry h
  obtain ⟨i, j, rfl, rfl, q⟩ := h
  obtain ⟨t, rfl⟩ := rx
  obtain ⟨t', rfl⟩ := ry
  exact rule i j t t' s _ _ ⟨.int (g i j), H, I.tok _, ⟨_, rfl⟩, q⟩
theorem opB0 {f : Value → Value → Sem Value} {g : Int → Int → Bool}
    (rule : ∀ (i j : Int) (t u : Tok) (s : Shared) (Q : Value → Shared → Prop) (E : Value → Shared → Prop), Q (.bool (g i j)) s → wpAny (model X.prog X.w) X.A (f (.int i t) (.int j u)) Q E s) :
    OpR X f (rI0 fun i j => .bl (g i j)) := by
  intro pins s σ H x y v u Q I rx ry h
  obtain ⟨i, j, rfl, rfl, q⟩ := h
  obtain ⟨t, rfl⟩ := rx
  obtain ⟨t', rfl⟩ := ry
  exact rule i j t t' s _ _ ⟨.bl (g i j), H, I, rfl, q⟩
def CPow (i j : Int) : Prop := 0 ≤ j ∧ j ≤ 1000000 ∧ i.natAbs < 2 ^ 64
def CMul (i j : Int) : Prop := (-(2 ^ 64) < i ∧ i < 2 ^ 64) ∨ (-(2 ^ 64) < j ∧ j < 2 ^ 64)
theorem CMul.ok {i j : Int} (h : CMul i j) : IntMulOk i j := by
  rcases h with ⟨h1, h2⟩ | ⟨h1, h2⟩
  · exact .of_left (intBits_le_64 h1 h2)
  · exact .of_right (intBits_le_64 h1 h2)
theorem op_add : OpR X (binaryOp .Add) (rI0 fun i j => .int (i + j)) := opI0 fun _ _ _ _ _ _ _ q => add_int q
theorem op_sub : OpR X (binaryOp .Sub) (rI0 fun i j => .int (i - j)) := opI0 fun _ _ _ _ _ _ _ q => sub_int q
theorem op_mul : OpR X (binaryOp .Mult) (rI CMul fun i j => .int (i * j)) := opI fun _ _ _ _ _ _ _ hc q => mul_int q hc.ok
theorem op_mod : OpR X (binaryOp .Mod) (rI (fun _ j => 0 < j) fun i j => .int (i % j)) := opI fun i j _ _ _ _ _ hc q => by
  have h1 : (0 : Int) < j := hc
  exact mod_int' (by omega) (by rw [Int.fmod_eq_emod_of_nonneg i (by omega)]; exact q)
theorem op_pow : OpR X (binaryOp .Pow) (rI CPow fun i j => .int (i ^ j.toNat)) := opI fun _ _ _ _ _ _ _ hc q => pow_int_small hc.1 hc.2.1 hc.2.2 q
end
def scal : V → V → Bool
  | .non, .non => true | .non, .int _ => true | .int _, .non => true | .non, .bl _ => true | .bl _, .non => true | .non, .str _ => true | .str _, .non => true
  | .int _, .int _ => true | .bl _, .bl _ => true | .str _, .str _ => true | .byt _, .byt _ => true
  | .int _, .str _ => true | .str _, .int _ => true | .bl _, .str _ => true | .str _, .bl _ => true
  | _, _ => false
def rEq : R2 := fun x y H Q => scal x y = true ∧ Q (.bl (decide (x = y))) H
def rNe : R2 := fun x y H Q => scal x y = true ∧ Q (.bl (!decide (x = y))) H
theorem dec_int {i j : Int} : decide (V.int i = V.int j) = (i == j) := by
  rw [Bool.eq_iff_iff]
  simp
theorem dec_bl {i j : Bool} : decide (V.bl i = V.bl j) = (i == j) := by
  rw [Bool.eq_iff_iff]
  simp
theorem dec_str {i j : Str} : decide (V.str i = V.str j) = (i == j) := by
  rw [Bool.eq_iff_iff]
  simp
theorem dec_byt {i j : Array UInt8} : decide (V.byt i = V.byt j) = (i.toList == j.toList) := by
  rw [Bool.eq_iff_iff]
  cases i
  cases j
  simp
section
variable {X : Cx} {a b c : Expr} {ta tb tc : TE} {pos : Pos}
theorem fin_bl {pins : List (Addr × Obj)} {σ : St} {H : Hp} {s : Shared} {Q : VK} {k k' : Bool} (I : Inv X pins σ H s) (q : Q (.bl k) H) (e : k = k') : EP X pins σ Q (.bool k') s := by
  subst e
  exact ⟨.bl k, H, I, rfl, q⟩
theorem op_eq : OpR X (compareOp .Eq) rEq := by
  intro pins s σ H x y v u Q I rx ry h
  obtain ⟨hs, q⟩ := h
  cases x with
  | non =>
    cases rx
    cases y with
    | non => cases ry; exact PySem.EqNone.eq_none_none (fin_bl I q (by simp))
    | bl j => cases ry; exact PySem.EqNone.eq_none_bool (fin_bl I q (by simp))
    | int j => obtain ⟨t', rfl⟩ := ry; exact PySem.EqNone.eq_none_int (fin_bl I q (by simp))
    | str j => obtain ⟨t', rfl⟩ := ry; exact PySem.EqNone.eq_none_str (fin_bl I q (by simp))
    | _ => exact absurd (show false = true from hs) Bool.false_ne_true
  | bl i =>
    cases rx
    cases y with
    | non => cases ry; exact PySem.EqNone.eq_bool_none (fin_bl I q (by simp))
    | bl j => cases ry; exact eq_bool (fin_bl I q dec_bl)
    | str j => obtain ⟨t', rfl⟩ := ry; exact PySem.EqMixed.eq_bool_str (fin_bl I q (by simp))
    | _ => exact absurd (show false = true from hs) Bool.false_ne_true
  | int i =>
    obtain ⟨t, rfl⟩ := rx
    cases y with
    | non => cases ry; exact PySem.EqNone.eq_int_none (fin_bl I q (by simp))
    | int j => obtain ⟨t', rfl⟩ := ry; exact eq_int (fin_bl I q dec_int)
    | str j => obtain ⟨t', rfl⟩ := ry; exact PySem.EqMixed.eq_int_str (fin_bl I q (by simp))
    | _ => exact absurd (show false = true from hs) Bool.false_ne_true
  | str i =>
    obtain ⟨t, rfl⟩ := rx
    cases y with
    | non => cases ry; exact PySem.EqNone.eq_str_none (fin_bl I q (by simp))
    | bl j => cases ry; exact PySem.EqMixed.eq_str_bool (fin_bl I q (by simp))
    | int j => obtain ⟨t', rfl⟩ := ry; exact PySem.EqMixed.eq_str_int (fin_bl I q (by simp))
    | str j => obtain ⟨t', rfl⟩ := ry; exact eq_str (fin_bl I q dec_str)
    | _ => exact absurd (show false = true from hs) Bool.false_ne_true
  | byt i =>
    obtain ⟨t, rfl⟩ := rx
    cases y with
    | byt j => obtain ⟨t', rfl⟩ := ry; exact PySem.W.eq_bytes (fin_bl I q dec_byt)
    | _ => exact absurd (show false = true from hs) Bool.false_ne_true
  | _ => cases y <;> exact absurd (show false = true from hs) Bool.false_ne_true
theorem op_ne : OpR X (compareOp .NotEq) rNe := by
  intro pins s σ H x y v u Q I rx ry h
  obtain ⟨hs, q⟩ := h
  cases x with
  | non =>
    cases rx
    cases y with
    | non => cases ry; exact PySem.EqNone.ne_none_none (fin_bl I q (by simp))
    | bl j => cases ry; exact PySem.EqNone.ne_none_bool (fin_bl I q (by simp))
    | int j => obtain ⟨t', rfl⟩ := ry; exact PySem.EqNone.ne_none_int (fin_bl I q (by simp))
    | str j => obtain ⟨t', rfl⟩ := ry; exact PySem.EqNone.ne_none_str (fin_bl I q (by simp))
    | _ => exact absurd (show false = true from hs) Bool.false_ne_true
  | bl i =>
    cases rx
    cases y with
    | non => cases ry; exact PySem.EqNone.ne_bool_none (fin_bl I q (by simp))
    | bl j => cases ry; exact ne_bool (fin_bl I q (congrArg not dec_bl))
    | str j => obtain ⟨t', rfl⟩ := ry; exact PySem.EqMixed.ne_bool_str (fin_bl I q (by simp))
    | _ => exact absurd (show false = true from hs) Bool.false_ne_true
  | int i =>
    obtain ⟨t, rfl⟩ := rx
    cases y with
    | non => cases ry; exact PySem.EqNone.ne_int_none (fin_bl I q (by simp))
    | int j => obtain ⟨t', rfl⟩ := ry; exact ne_int (fin_bl I q (congrArg not dec_int))
    | str j => obtain ⟨t', rfl⟩ := ry; exact PySem.EqMixed.ne_int_str (fin_bl I q (by simp))
    | _ => exact absurd (show false = true from hs) Bool.false_ne_true
  | str i =>
    obtain ⟨t, rfl⟩ := rx
    cases y with
    | non => cases ry; exact PySem.EqNone.ne_str_none (fin_bl I q (by simp))
    | bl j => cases ry; exact PySem.EqMixed.ne_str_bool (fin_bl I q (by simp))
    | int j => obtain ⟨t', rfl⟩ := ry; exact PySem.EqMixed.ne_str_int (fin_bl I q (by simp))
    | str j => obtain ⟨t', rfl⟩ := ry; exact ne_str (fin_bl I q (congrArg not dec_str))
    | _ => exact absurd (show false = true from hs) Bool.false_ne_true
  | byt i =>
    obtain ⟨t, rfl⟩ := rx
    cases y with
    | byt j => obtain ⟨t', rfl⟩ := ry; exact PySem.W.ne_bytes (fin_bl I q (congrArg not dec_byt))
    | _ => exact absurd (show false = true from hs) Bool.false_ne_true
  | _ => cases y <;> exact absurd (show false = true from hs) Bool.false_ne_true
theorem op_lt : OpR X (compareOp .Lt) (rI0 fun i j => .bl (decide (i < j))) := opB0 fun _ _ _ _ _ _ _ q => lt_int q
theorem op_le : OpR X (compareOp .LtE) (rI0 fun i j => .bl (decide (i ≤ j))) := opB0 fun _ _ _ _ _ _ _ q => le_int q
theorem op_gt : OpR X (compareOp .Gt) (rI0 fun i j => .bl (decide (j < i))) := opB0 fun _ _ _ _ _ _ _ q => gt_int q
theorem op_ge : OpR X (compareOp .GtE) (rI0 fun i j => .bl (decide (j ≤ i))) := opB0 fun _ _ _ _ _ _ _ q => ge_int q
theorem OpR.or {f : Value → Value → Sem Value} {r r' : R2} (h : OpR X f r) (h' : OpR X f r') : OpR X f (fun x y H Q => r x y H Q ∨ r' x y H Q) := by
  intro pins s σ H x y v u Q I rx ry q
  rcases q with q | q
  · exact h pins s σ H x y v u Q I rx ry q
  · exact h' pins s σ H x y v u Q I rx ry q
theorem nomark (b : Expr) {op : CmpOp} (h : op ≠ .In := by decide) (h2 : op ≠ .NotIn := by decide) : behindInMarks op b = false := by
  have e1 : (op == CmpOp.In) = false := by cases op <;> first | rfl | exact absurd rfl h
  have e2 : (op == CmpOp.NotIn) = false := by cases op <;> first | rfl | exact absurd rfl h2
  cases b <;> simp [behindInMarks, e1, e2]
theorem pe_cmpR {op : CmpOp} {r : R2} (ho : OpR X (compareOp op) r) (ha : PE X a ta) (hb : PE X b tb) (hm : behindInMarks op b = false) : PE X (.Compare a [op] [b] pos) (tOp r ta tb) := by
  intro pins s σ H Q I h
  exact wpAny_Compare1 (binT ha hb I h fun v u s2 x y H2 I2 rx ry q => ho pins s2 σ H2 x y v u Q I2 rx ry q) hm
def tTest (t : TE) : TT := fun σ H Q => t σ H fun x H' => ∃ k, x = .bl k ∧ Q k H'
theorem pt_cmpR {op : CmpOp} {r : R2} (ho : OpR X (compareOp op) r) (ha : PE X a ta) (hb : PE X b tb) (hm : behindInMarks op b = false) : PT X (.Compare a [op] [b] pos) (tTest (tOp r ta tb)) := by
  intro pins s σ H Q I h
  refine wpAny_isTrue_Compare1 (thn (ha pins s σ H _ I h) fun v s1 ⟨x, H1, I1, r1, q1⟩ => thn (hb pins s1 σ H1 _ I1 q1) fun u s2 ⟨y, H2, I2, r2, q2⟩ =>
    thn (ho pins s2 σ H2 x y v u _ I2 r1 r2 q2) fun c s3 ⟨z, H3, I3, r3, k, e, q3⟩ => ?_) hm
  subst e
  cases r3
  exact wpAny_truthy_bool ⟨H3, I3, q3⟩
def tChain (r r' : R2) (ta tb tc : TE) : TE := fun σ H Q => ta σ H fun x H1 => tb σ H1 fun y H2 => r x y H2 fun z H3 => ∃ k, z = .bl k ∧
  (if k = true then tc σ H3 fun w' H4 => r' y w' H4 Q else Q (.bl false) H3)
theorem pe_chain {op op' : CmpOp} {r r' : R2} (ho : OpR X (compareOp op) r) (ho' : OpR X (compareOp op') r') (ha : PE X a ta) (hb : PE X b tb) (hc : PE X c tc)
    (hm : lastMarks [op, op'] [b, c] = false := by with_unfolding_all rfl) : PE X (.Compare a [op, op'] [b, c] pos) (tChain r r' ta tb tc) := by
  intro pins s σ H Q I h
  refine Compare_chain (thn (ha pins s σ H _ I h) fun v s1 ⟨x, H1, I1, r1, q1⟩ => chain_link (thn (hb pins s1 σ H1 _ I1 q1) fun u s2 ⟨y, H2, I2, r2, q2⟩ =>
    thn (ho pins s2 σ H2 x y v u _ I2 r1 r2 q2) fun d s3 ⟨z, H3, I3, r3, k, e, q3⟩ => ?_)) hm
  subst e
  cases r3
  refine wpAny_truthy_bool ?_
  cases k with
  | false => exact ite_ff ⟨.bl false, H3, I3, rfl, q3⟩
  | true => exact ite_tt (chain_last (thn (hc pins s3 σ H3 _ I3 q3) fun w' s4 ⟨z', H4, I4, r4, q4⟩ => ho' pins s4 σ H4 y z' u w' Q I4 r2 r4 q4))
theorem line63 : (sizeLine : Nat) < 2 ^ 63 := by rw [sizeLine_eq]; decide
theorem op_add_str : OpR X (binaryOp .Add) (fun x y H Q => ∃ i j, x = .str i ∧ y = .str j ∧ i.length + j.length ≤ sizeLine ∧ Q (.str (i ++ j)) H) := by
  intro pins s σ H x y v u Q I rx ry h
  obtain ⟨i, j, rfl, rfl, hz, q⟩ := h
  obtain ⟨t, rfl⟩ := rx
  obtain ⟨t', rfl⟩ := ry
  exact add_str (fun t' tk => ⟨.str (i ++ j), H, I.tok _, ⟨_, rfl⟩, q⟩) hz
theorem vals1 {x : V} {us : List Value} (r : Vals [x] us) : ∃ u, us = [u] ∧ RelV x u := by
  cases r with
  | cons r1 r2 => cases r2; exact ⟨_, rfl, r1⟩
theorem vals2 {x y : V} {us : List Value} (r : Vals [x, y] us) : ∃ u w', us = [u, w'] ∧ RelV x u ∧ RelV y w' := by
  cases r with
  | cons r1 r2 =>
    cases r2 with
    | cons r3 r4 => cases r4; exact ⟨_, _, rfl, r1, r3⟩
theorem call_abs : CallR X (.builtin "abs") (fun xs H Q => ∃ i, xs = [.int i] ∧ Q (.int (if i < 0 then -i else i)) H) := by
  intro pins s σ H xs us Q I r h
  obtain ⟨i, rfl, q⟩ := h
  obtain ⟨u, rfl, t, rfl⟩ := vals1 r
  exact call_abs_int fun u tk => ⟨.int (if i < 0 then -i else i), H, I.tok _, ⟨_, rfl⟩, q⟩
theorem call_max2 (hc : X.calm = true) : CallR X (.builtin "max") (fun xs H Q => ∃ i j, xs = [.int i, .int j] ∧ Q (.int (if j > i then j else i)) H) := by
  intro pins s σ H xs us Q I r h
  obtain ⟨i, j, rfl, q⟩ := h
  obtain ⟨u, w', rfl, ⟨t, rfl⟩, ⟨t', rfl⟩⟩ := vals2 r
  refine max_two_ints (I.ok.hd hc) fun h' tk k => ⟨_, H, I.kept k, ?_, q⟩
  by_cases hj : j > i
  · rw [if_pos hj, if_pos hj]; exact ⟨_, rfl⟩
  · rw [if_neg hj, if_neg hj]; exact ⟨_, rfl⟩
theorem call_min2 (hc : X.calm = true) : CallR X (.builtin "min") (fun xs H Q => ∃ i j, xs = [.int i, .int j] ∧ Q (.int (if j < i then j else i)) H) := by
  intro pins s σ H xs us Q I r h
  obtain ⟨i, j, rfl, q⟩ := h
  obtain ⟨u, w', rfl, ⟨t, rfl⟩, ⟨t', rfl⟩⟩ := vals2 r
  refine min_two_ints (I.ok.hd hc) fun h' tk k => ⟨_, H, I.kept k, ?_, q⟩
  by_cases hj : j < i
  · rw [if_pos hj, if_pos hj]; exact ⟨_, rfl⟩
  · rw [if_neg hj, if_neg hj]; exact ⟨_, rfl⟩
theorem call_int1 : CallR X (.type "int") (fun xs H Q => (∃ i, xs = [.int i] ∧ Q (.int i) H) ∨ ∃ k, xs = [.bl k] ∧ Q (.int (if k then 1 else 0)) H) := by
  intro pins s σ H xs us Q I r h
  rcases h with ⟨i, rfl, q⟩ | ⟨k, rfl, q⟩
  · obtain ⟨u, rfl, t, rfl⟩ := vals1 r
    exact call_int_int ⟨.int i, H, I, ⟨_, rfl⟩, q⟩
  · obtain ⟨u, rfl, r1⟩ := vals1 r
    cases r1
    exact call_int_bool ⟨.int (if k then 1 else 0), H, I.tok _, ⟨_, rfl⟩, q⟩
theorem call_str_int : CallR X (.type "str") (fun xs H Q => ∃ i, xs = [.int i] ∧ i.natAbs.log2 < 1920 ∧ Q (.str (toString i)) H) := by
  intro pins s σ H xs us Q I r h
  obtain ⟨i, rfl, hz, q⟩ := h
  obtain ⟨u, rfl, t, rfl⟩ := vals1 r
  exact PySem.P.str_of_int hz ⟨.str _, H, I.tok _, ⟨_, rfl⟩, q⟩
end
end L2
namespace L2
open PySem PySem.Spec PyProof.Rows
structure ObjM (h : Heap) (x dx C : Addr) (mA : Str → Option Value) : Prop where
  obj : h.get? x = some (PySem.W.instObj C dx)
  ns : h.Ns1 dx mA
  ne : dx ≠ x
theorem lookIn_ns {h : Heap} {dx : Addr} {mA : Str → Option Value} (n : h.Ns1 dx mA) : ∃ od, h.get? dx = some od ∧ ∀ name, PySem.W.lookIn name od = some (mA name) := by
  obtain ⟨o, es, ep, ho, hd, hk, _, hm⟩ := n
  refine ⟨o, ho, fun name => ?_⟩
  have e := hm name
  unfold nsFind findBy at e
  rw [← Array.find?_toList] at e
  unfold PySem.W.lookIn
  rw [hd]
  dsimp only
  split
  · rename_i y q
    rw [q] at e
    exact congrArg some e
  · rename_i q
    rw [q] at e
    have a : es.toList.any (·.refKey) = false := by
      rw [List.any_eq_false]
      intro y hy
      obtain ⟨z, t, hkey⟩ := hk y (Array.mem_toList_iff.mp hy)
      simp [DictEntry.refKey, hkey]
    have a' : ¬ es.toList.any (·.refKey) = true := by rw [a]; exact Bool.false_ne_true
    rw [if_neg a']
    exact congrArg some e
theorem ObjM.look {h : Heap} {x dx C : Addr} {mA : Str → Option Value} (I : ObjM h x dx C mA) : ∃ od, PySem.W.InstAt h x (PySem.W.instObj C dx) C (some od) ∧ ∀ name, PySem.W.lookIn name od = some (mA name) :=
  let ⟨od, ho, hl⟩ := lookIn_ns I.ns
  ⟨od, ⟨I.obj, rfl, rfl, ho⟩, hl⟩
section
variable {P : Program} {w : World} {H H' : Hp} {h h' : Heap} {a C dx : Addr} {fs fs' : List (Str × V)}
theorem ins_get (hok : HOk P w H h) (e : H a = some (.ins C dx fs)) : ∃ mA, ObjM h a dx C mA ∧ (∀ f, RelO (fs.lookup f) (mA f)) ∧ PySem.Within mA (fs.map (·.1)) ∧ fs.length ≤ 1000 ∧ H dx = some (.own a) := by
  obtain ⟨d, z, ne, ob, mA, n, r, q⟩ := (show ObjOk P w H h a (.ins C dx fs) from hok a _ e)
  exact ⟨mA, ⟨ob, n, ne⟩, r, q, z, d⟩
end
structure Cls (K : PySem.W.Frag) (C : Addr) : Prop where
  pg : PySem.W.plainGet K C Str.empty = true
  hd : PySem.W.hasDictIn K C = true
  po : PySem.W.plainOver K C = true
  sa : PySem.W.findIn K (.ref C) "__setattr__" = some (some (.builtin "object.__setattr__"))
theorem Cls.get {K : PySem.W.Frag} {C : Addr} (c : Cls K C) (f : Str) : PySem.W.plainGet K C f = true := c.pg
structure Con (K : PySem.W.Frag) (C : Addr) (f : Str) (v : V) (u : Value) : Prop where
  at_ : PySem.W.findIn K (.ref C) f = some (some u)
  rel : RelV v u
  get : PySem.W.specialIn K u "__get__" = some none
  cp : PySem.W.copiedNames.contains f = false
structure Meth (K : PySem.W.Frag) (C : Addr) (m : Str) (f : Addr) : Prop where
  at_ : PySem.W.findIn K (.ref C) m = some (some (.ref f))
  fn : PySem.W.isFn K (.ref f) = true
  kp : PySem.W.keepIn K (.ref f) = true
section
variable {X : Cx} {pins : List (Addr × Obj)} {σ : St} {H : Hp} {s : Shared} {A : Around} {E : Value → Shared → Prop} {Q : Value → Shared → Prop} {c : Value} {b : Bool}
inductive TyOf (K : PySem.W.Frag) (H : Hp) : V → Value → Prop where
  | non : TyOf K H .non (.type "NoneType")
  | bl (x : Bool) : TyOf K H (.bl x) (.type "bool")
  | int (i : Int) : TyOf K H (.int i) (.type "int")
  | str (x : Str) : TyOf K H (.str x) (.type "str")
  | flt (x : UInt64) : TyOf K H (.flt x) (.type "float")
  | lst {a : Addr} {xs : List V} (e : H a = some (.lst xs)) : TyOf K H (.ref a) (.type "list")
  | frz {a : Addr} {o : Obj} {xs : List V} (e : H a = some (.frz o (.lst xs))) : TyOf K H (.ref a) (.type "list")
  | tup {a : Addr} {xs : List V} (e : H a = some (.tup xs)) : TyOf K H (.ref a) (.type "tuple")
  | dK {a : Addr} {kvs : List (Key × V)} (e : H a = some (.dK kvs)) : TyOf K H (.ref a) (.type "dict")
  | dT {a : Addr} {kvs : List (List Key × V)} (e : H a = some (.dT kvs)) : TyOf K H (.ref a) (.type "dict")
  | ins {a C dx : Addr} {fs : List (Str × V)} (e : H a = some (.ins C dx fs)) (cl : Cls K C) (ha : PySem.W.findIn K (.ref C) "__class__" = some (some (.builtin "object.__class__")))
      (hn : PySem.W.specialIn K (.builtin "object.__class__") "__get__" = some (some (.builtin "getset_descriptor.__get__"))) (htk : PySem.W.takesIn K (.builtin "object.__class__") = some true)
      (hm : PySem.W.mroIn K C (.type "object") = some true) : TyOf K H (.ref a) (.ref C)
theorem isinst_ok {x : V} {u t : Value} (I : Inv X pins σ H s) (rx : RelV x u) (ty : TyOf X.K H x t) (e : PySem.W.kitOne X.K t c = some b) (h : ∀ tk, Q (.bool b) { s with toks := tk }) :
    wpAny (model X.prog X.w) A (call (.builtin "isinstance") [u, c]) Q E s := by
  cases ty with
  | non => cases (show u = Value.none from rx); exact PySem.W.kia_one PySem.W.kitx_none I.kIn True.intro e (fun z => nomatch z) h
  | bl y => cases (show u = Value.bool y from rx); exact PySem.W.kia_one PySem.W.kitx_bool I.kIn True.intro e (fun z => nomatch z) h
  | int i => obtain ⟨t, q⟩ := (show ∃ t, u = Value.int i t from rx); cases q; exact PySem.W.kia_one PySem.W.kitx_int I.kIn True.intro e (fun z => nomatch z) h
  | str y => obtain ⟨t, q⟩ := (show ∃ t, u = Value.str y t from rx); cases q; exact PySem.W.kia_one PySem.W.kitx_str I.kIn True.intro e (fun z => nomatch z) h
  | flt y => obtain ⟨t, q⟩ := (show ∃ t, u = Value.float y t from rx); cases q; exact PySem.W.kia_one PySem.W.kitx_float I.kIn True.intro e (fun z => nomatch z) h
  | @lst a xs ea =>
    cases (show u = Value.ref a from rx)
    obtain ⟨_, _, n, _, h1⟩ := (show ObjOk X.prog X.w H s.heap a (.lst xs) from I.hok a _ ea)
    exact PySem.W.kia_one PySem.W.kitx_list I.kIn ⟨_, h1, rfl⟩ e (fun z => nomatch z) h
  | @frz a ob xs ea =>
    cases (show u = Value.ref a from rx)
    obtain ⟨_, _, _, n, _, h1⟩ := (show ObjOk X.prog X.w H s.heap a (.frz ob (.lst xs)) from I.hok a _ ea)
    exact PySem.W.kia_one PySem.W.kitx_list I.kIn ⟨_, h1, rfl⟩ e (fun z => nomatch z) h
  | @tup a xs ea =>
    cases (show u = Value.ref a from rx)
    obtain ⟨_, _, _, p⟩ := (show ObjOk X.prog X.w H s.heap a (.tup xs) from I.hok a _ ea)
    obtain ⟨o, h1, h2, _⟩ := p
    exact PySem.W.kia_one PySem.W.kitx_tuple I.kIn ⟨o, h1, h2⟩ e (fun z => nomatch z) h
  | @dK a kvs ea =>
    cases (show u = Value.ref a from rx)
    obtain ⟨_, _, vs, _, p⟩ := (show ObjOk X.prog X.w H s.heap a (.dK kvs) from I.hok a _ ea)
    obtain ⟨o, es, ep, h1, h2, _⟩ := p
    exact PySem.W.kia_one PySem.W.kitx_dict I.kIn ⟨o, h1, h2.1⟩ e (fun z => nomatch z) h
  | @dT a kvs ea =>
    cases (show u = Value.ref a from rx)
    obtain ⟨_, _, xs, _, o, es, ep, h1, h2, _⟩ := (show ObjOk X.prog X.w H s.heap a (.dT kvs) from I.hok a _ ea)
    exact PySem.W.kia_one PySem.W.kitx_dict I.kIn ⟨o, h1, h2.1⟩ e (fun z => nomatch z) h
  | @ins a C dx fs ea cl ha hn htk hm =>
    cases (show u = Value.ref a from rx)
    obtain ⟨mA, O, _⟩ := ins_get I.hok ea
    obtain ⟨od, J, _⟩ := O.look
    exact PySem.W.kia_one (PySem.W.kitx_own (cl.get _) cl.hd ha hn htk hm) I.kIn J e (fun z => nomatch z) h
end
end L2
namespace L2
open PySem PySem.Spec PyProof.Rows
structure Room (k : Nat) (A : Around) : Prop where
  hd : A.handled = none
  gd : A.guards = some []
  dp : A.depth + 3 * k + 5 < recursionLimit
  un : A.units + 16 * k + 200 < cLine
theorem Room.mono {j k : Nat} {A : Around} (r : Room k A) (h : j ≤ k) : Room j A := ⟨r.hd, r.gd, by have := r.dp; omega, by have := r.un; omega⟩
theorem Room.deeper {k : Nat} {A : Around} (r : Room (k + 1) A) (env : Env) : Room k (A.deeper env) :=
  ⟨r.hd, r.gd, by have := r.dp; show A.depth + 1 + 3 * k + 5 < _; omega, by have := r.un; show A.units + 3 + 16 * k + 200 < _; omega⟩
theorem Room.depth {k : Nat} {A : Around} (r : Room k A) : A.depth < recursionLimit := by have := r.dp; omega
theorem Room.units {k : Nat} {A : Around} (r : Room k A) : A.units + 64 < cLine := by have := r.un; omega
def tNil : TA := fun _ H Q => Q [] H
def tCons (ta : TE) (tr : TA) : TA := fun σ H Q => ta σ H fun x H1 => tr σ H1 fun xs H2 => Q (x :: xs) H2
section
variable {X : Cx} {e : Expr} {es : List Expr} {te : TE} {t : TA} {pos : Pos}
theorem pa_nil : PA X [] tNil := fun _ _ _ _ H Q I h => Calls.spliced_nil ⟨[], H, I, .nil, h⟩
theorem pa_cons (ha : PE X e te) (hr : PA X es t) (hs : starEach (e :: es) X.env = (false, eval e X.env) :: starEach es X.env := by rfl) : PA X (e :: es) (tCons te t) := by
  intro pos pins s σ H Q I h
  rw [hs]
  show wpAny _ _ (spliced ((false, eval e X.env) :: backTo pos (starEach es X.env))) _ _ s
  refine Calls.spliced_cons (thn (ha pins s σ H _ I h) fun u s1 ⟨x, H1, I1, r1, q1⟩ => ?_)
  exact thn (hr pos pins s1 σ H1 _ I1 q1) fun us s2 ⟨xs, H2, I2, r2, q2⟩ => ⟨x :: xs, H2, I2, .cons r1 r2, q2⟩
def tTup (t : TA) : TE := fun σ H Q => t σ H fun xs H1 => xs.length ≤ sizeLine ∧ ∀ p, H1 p = none → Q (.ref p) (upd H1 p (.tup xs))
def tLst (t : TA) : TE := fun σ H Q => t σ H fun xs H1 => xs.length ≤ sizeLine ∧ ∀ p, H1 p = none → Q (.ref p) (upd H1 p (.lst xs))
theorem pe_tup {x1} (h : PA X es t) : PE X (.Tuple es x1 pos) (tTup t) := by
  intro pins s σ H Q I hq
  refine wpAny_Tuple_spliced (thn (h pos pins s σ H _ I hq) fun us s1 ⟨xs, H1, I1, r, z, q⟩ => ⟨by rw [← r.length]; exact z, ?_⟩)
  have hf : H1 s1.heap.objs.size = none := I1.hok.fresh (Nat.le_refl _)
  refine ⟨.ref s1.heap.objs.size, upd H1 s1.heap.objs.size (.tup xs), I1.laid (t' := s1.toks) (fun b u e => Heap.get?_push_of_some _ e) (Nat.le_refl _) ?_, rfl, q _ hf⟩
  exact ⟨z, us, r, ⟨_, Heap.get?_push_size _ rfl, rfl, _, rfl⟩⟩
theorem pe_lst (h : PA X es t) : PE X (.List es pos) (tLst t) := by
  intro pins s σ H Q I hq
  refine wpAny_List_spliced (thn (h pos pins s σ H _ I hq) fun us s1 ⟨xs, H1, I1, r, z, q⟩ => ⟨by rw [← r.length]; exact z, ?_⟩)
  have hf : H1 s1.heap.objs.size = none := I1.hok.fresh (Nat.le_refl _)
  refine ⟨.ref s1.heap.objs.size, upd H1 s1.heap.objs.size (.lst xs), I1.laid (t' := s1.toks) (fun b u e => Heap.get?_push_of_some _ e) (Nat.le_refl _) ?_, rfl, q _ hf⟩
  exact ⟨z, us, 0, r, Heap.get?_push_size _ rfl⟩
end
abbrev Sp := List V → Hp → VK → XK → Prop
abbrev CXT := List Env → Hp → Shared → XK → Value → Shared → Prop
structure Env0 (P : Program) (w : World) (K : PySem.W.Frag) (mg : Str → Option Value) (base : Heap) (A : Around) (outer : List Env) (s : Shared) (H : Hp) : Prop where
  frames : A.frames = some outer
  mod : Mod K mg base
  bs : ∀ b o, base.get? b = some o → s.heap.get? b = some o ∧ H b = none
  bsz : base.objs.size ≤ s.heap.objs.size
  funs : s.heap.FunFrames base outer
  frf : ∀ b ∈ frs outer, H b = none
  hok : HOk P w H s.heap
  bare : AllBare s.gens
def CE (outer : List Env) (P : Program) (w : World) (H : Hp) (s : Shared) (Q : VK) (u : Value) (s' : Shared) : Prop :=
  ∃ v H', s'.os = s.os ∧ AllBare s'.gens ∧ Un (frs outer) [] H H' s.heap s'.heap ∧ HOk P w H' s'.heap ∧ RelV v u ∧ Q v H'
def CR (CX : CXT) (outer : List Env) (P : Program) (w : World) (H : Hp) (s : Shared) (Q : VK) (E : XK) (r : Result) (s' : Shared) : Prop :=
  match r with
  | .ok (.ret u) => CE outer P w H s Q u s'
  | .ok _ => False
  | .error e => CX outer H s E e s'
structure FnOk (P : Program) (w : World) (K : PySem.W.Frag) (mg : Str → Option Value) (base : Heap) (CX : CXT) (k : Nat) (f : Addr) (fd : FuncData) (ps : List Str) (sp : Sp) : Prop where
  len : ∀ vs H Q E, sp vs H Q E → vs.length = ps.length
  run : ∀ (A : Around) (outer : List Env) (s : Shared) (H : Hp) (args : Args) (us : List Value) (vs : List V) (Q : VK) (E : XK), Room k A → Env0 P w K mg base A outer s H → BindsTo s fd args (ps.zip us) → Vals vs us → sp vs H Q E →
    codeAny (model P w) A (.call (.ref f) args) (CR CX outer P w H s Q E) s
section
variable {X : Cx} {pins : List (Addr × Obj)} {σ : St} {H : Hp} {s s' : Shared}
theorem Inv.env0 (I : Inv X pins σ H s) : Env0 X.prog X.w X.K X.mg X.base X.A X.stack s H :=
  ⟨I.ok.frames, I.ok.mod, I.bs, Nat.le_trans I.ok.bsz I.sz, I.stack, I.stkFree, I.hok, I.bare⟩
theorem Inv.after {Q : VK} {u : Value} (I : Inv X pins σ H s) (h : CE X.stack X.prog X.w H s Q u s') : EP X pins σ Q u s' := by
  obtain ⟨v, H', os, bare, un, hok, r, q⟩ := h
  obtain ⟨hh, g, d, t, os'⟩ := s'
  obtain rfl : os' = s.os := os
  exact ⟨v, H', I.call (h' := hh) (g' := g) (d' := d) (t' := t) (ch := []) un hok bare (fun b z => absurd z (by simp)), r, q⟩
end
def tCall (sp : Sp) (dvs : List V) (E : XK) (t : TA) : TE := fun σ H Q => t σ H fun vs H1 => sp (vs ++ dvs) H1 Q E
def Binds (K : PySem.W.Frag) (fd : FuncData) (ps : List Str) (ds : List Value) : Prop :=
  ∀ (s : Shared) (us : List Value), K.In s.heap → (us ++ ds).length = ps.length → BindsTo s fd ⟨us, []⟩ (ps.zip (us ++ ds))
theorem Binds.all {K : PySem.W.Frag} {fd : FuncData} {ps : List Str} (h : ∀ us : List Value, us.length = ps.length → bindArgs fd ⟨us, []⟩ = pure (ps.zip us)) : Binds K fd ps [] := fun s us _ hl => by
  rw [List.append_nil] at hl ⊢
  exact .of_eq (h us hl)
def Passes (CX : CXT) (X : Cx) (E : XK) : Prop := ∀ (pins : List (Addr × Obj)) (σ : St) (H : Hp) (s : Shared) (e : Value) (s' : Shared), Inv X pins σ H s → CX X.stack H s E e s' → X.xe e s'
section
variable {X : Cx} {CX : CXT} {k : Nat} {f C : Addr} {fd : FuncData} {ps : List Str} {sp : Sp} {dvs : List V} {ds : List Value} {E : XK} {x m : Str} {p pos apos : Pos} {e o : Expr} {es : List Expr} {ta : TE} {t : TA}
theorem run_fn {pins : List (Addr × Obj)} {σ : St} {H : Hp} {s : Shared} {Q : VK} {us : List Value} {vs : List V} (F : FnOk X.prog X.w X.K X.mg X.base CX k f fd ps sp) (hr : Room k X.A) (hb : Binds X.K fd ps ds) (hd : Vals dvs ds) (hx : Passes CX X E)
    (I : Inv X pins σ H s) (r : Vals vs us) (h : sp (vs ++ dvs) H Q E) : wpAny (model X.prog X.w) X.A (call (.ref f) us) (EP X pins σ Q) X.xe s := by
  have r2 : Vals (vs ++ dvs) (us ++ ds) := r.append hd
  have hl : (us ++ ds).length = ps.length := by rw [← r2.length]; exact F.len _ _ _ _ h
  refine wpAny_call (codeAny_mono (F.run X.A X.stack s H ⟨us, []⟩ (us ++ ds) (vs ++ dvs) Q E hr I.env0 (hb s us I.kIn hl) r2 h) fun r s' hq => ?_)
  cases r with
  | error e => exact hx pins σ H s e s' I hq
  | ok fl =>
    cases fl with
    | ret u => exact I.after hq
    | next => exact False.elim hq
    | brk => exact False.elim hq
    | cont => exact False.elim hq
theorem pe_call (F : FnOk X.prog X.w X.K X.mg X.base CX k f fd ps sp) (hr : Room k X.A) (hg : Gl X x) (hm : X.mg x = some (.ref f)) (hk : PySem.W.keepIn X.K (.ref f) = true) (hb : Binds X.K fd ps ds) (hd : Vals dvs ds) (hx : Passes CX X E)
    (ha : PA X (e :: es) t) (hdb : (x == ("__debug__" : Str)) = false := by decide) (he : starEach (e :: es) X.env = (false, eval e X.env) :: starEach es X.env := by rfl) (hpl : (backTo pos (starEach es X.env)).any (·.1) = false := by rfl) :
    PE X (.Call (.Name x p) (e :: es) [] pos) (tCall sp dvs E t) := by
  intro pins s σ H Q I h
  refine wpAny_Call_Name_kw (ld_glob I hg hm ?_ hdb)
  refine PySem.W.callWith_K (h₀ := X.base) I.ok.mod.kin hk (thn (ha pos pins s σ H _ I h) fun us s1 ⟨vs, H1, I1, r, q⟩ => ⟨I1.kIn, ?_⟩) he hpl
  exact run_fn F hr hb hd hx I1 r q
structure Mk (K : PySem.W.Frag) (C f : Addr) : Prop where
  makes : PySem.W.makesIn K C = true
  init : PySem.W.findIn K (.ref C) "__init__" = some (some (.ref f))
  fn : PySem.W.isFn K (.ref f) = true
  kp : PySem.W.keepIn K (.ref C) = true
end
def PK (X : Cx) (kws : List Keyword) (t : TA) : Prop :=
  ∀ (pos : Pos) (pins : List (Addr × Obj)) (s : Shared) (σ : St) (H : Hp) (Q : List V → Hp → Prop), Inv X pins σ H s → t σ H Q → wpAny (model X.prog X.w) X.A (evalAll ((backToKw pos (keywordEach kws X.env)).map (·.2))) (AP X pins σ Q) X.xe s
section
variable {X : Cx} {CX : CXT} {k : Nat} {f C : Addr} {fd : FuncData} {ps ks : List Str} {sp : Sp} {E : XK} {x m : Str} {p pos apos kpos : Pos} {e o : Expr} {es : List Expr} {kws : List Keyword} {te ta : TE} {t tk : TA} {nm : Option Str}
structure KBinds (K : PySem.W.Frag) (fd : FuncData) (ps ks : List Str) (g : List Value → List Value → List Value) (gV : List V → List V → List V) : Prop where
  to : ∀ (s : Shared) (us ws : List Value), K.In s.heap → (g us ws).length = ps.length → BindsTo s fd ⟨us, ks.zip ws⟩ (ps.zip (g us ws))
  rel : ∀ {vs : List V} {us : List Value} {zs : List V} {ws : List Value}, Vals vs us → Vals zs ws → Vals (gV vs zs) (g us ws)
variable {g : List Value → List Value → List Value} {gV : List V → List V → List V}
end
structure FnScope (N P : List Str) (sc : Scope) : Prop where
  kind : sc.kind = .function
  co : sc.isCoroutine = false
  gen : sc.isGenerator = false
  nd : N.Nodup
  pre : N.take P.length = P
  par : ∀ x ∈ P, sc.names.lookup x = some .local ∨ sc.names.lookup x = some .cell
  nofree : ∀ y ∈ sc.names, y.2 ≠ .free
theorem bindL_out {kindOf : Str → Option NameKind} {x : Str} : ∀ {binds : List (Str × Value)} {m : Str → Option Value}, (∀ v, (x, v) ∉ binds) → bindL kindOf binds m x = m x
  | [], _, _ => rfl
  | (n, v) :: r, m, h => by
    unfold bindL
    rw [bindL_out fun w hw => h w (List.mem_cons_of_mem _ hw)]
    split
    · have : x ≠ n := by rintro rfl; exact h v List.mem_cons_self
      simp [this]
    · rfl
theorem bindC_out {kindOf : Str → Option NameKind} {x : Str} : ∀ {binds : List (Str × Value)} {m : Str → Option Value}, (∀ v, (x, v) ∉ binds) → bindC kindOf binds m x = m x
  | [], _, _ => rfl
  | (n, v) :: r, m, h => by
    unfold bindC
    rw [bindC_out fun w hw => h w (List.mem_cons_of_mem _ hw)]
    split
    · rfl
    · have : x ≠ n := by rintro rfl; exact h v List.mem_cons_self
      simp [this]
theorem bindL_get {kindOf : Str → Option NameKind} {x : Str} {v : Value} : ∀ {P : List Str} {vs : List Value} {i : Nat} {m : Str → Option Value}, P.Nodup → P[i]? = some x → vs[i]? = some v → kindOf x = some .local →
    bindL kindOf (P.zip vs) m x = some v
  | [], _, _, _, _, h, _, _ => by simp at h
  | _ :: _, [], _, _, _, _, h, _ => by simp at h
  | p :: P, w :: vs, 0, m, nd, h1, h2, hk => by
    simp at h1 h2; subst h1; subst h2
    show bindL kindOf ((p, w) :: P.zip vs) m p = _
    unfold bindL
    rw [bindL_out fun v hv => (List.nodup_cons.mp nd).1 (List.of_mem_zip hv).1, if_pos hk]
    simp
  | p :: P, w :: vs, i + 1, m, nd, h1, h2, hk => by
    show bindL kindOf ((p, w) :: P.zip vs) m x = _
    unfold bindL
    exact bindL_get (i := i) (List.nodup_cons.mp nd).2 (by simpa using h1) (by simpa using h2) hk
theorem bindC_get {kindOf : Str → Option NameKind} {x : Str} {v : Value} : ∀ {P : List Str} {vs : List Value} {i : Nat} {m : Str → Option Value}, P.Nodup → P[i]? = some x → vs[i]? = some v → kindOf x ≠ some .local →
    bindC kindOf (P.zip vs) m x = some v
  | [], _, _, _, _, h, _, _ => by simp at h
  | _ :: _, [], _, _, _, _, h, _ => by simp at h
  | p :: P, w :: vs, 0, m, nd, h1, h2, hk => by
    simp at h1 h2; subst h1; subst h2
    show bindC kindOf ((p, w) :: P.zip vs) m p = _
    unfold bindC
    rw [bindC_out fun v hv => (List.nodup_cons.mp nd).1 (List.of_mem_zip hv).1, if_neg hk]
    simp
  | p :: P, w :: vs, i + 1, m, nd, h1, h2, hk => by
    show bindC kindOf ((p, w) :: P.zip vs) m x = _
    unfold bindC
    exact bindC_get (i := i) (List.nodup_cons.mp nd).2 (by simpa using h1) (by simpa using h2) hk
def start (N : List Str) (vs : List V) : St := vs.map some ++ List.replicate (N.length - vs.length) none
def cxOf (CX : CXT) (P : Program) (w : World) (K : PySem.W.Frag) (mg : Str → Option Value) (base : Heap) (N : List Str) (qual : Str) (scope : Scope) (f : Addr) (cd : Value) (A : Around) (outer : List Env) (s : Shared) (H : Hp) (E : XK) : Cx where
  prog := P
  w := w
  K := K
  mg := mg
  base := base
  A := A.deeper (envOfC qual scope s.heap.objs.size f cd)
  N := N
  s₀ := s
  H₀ := H
  env := envOfC qual scope s.heap.objs.size f cd
  outer := outer
  stack := envOfC qual scope s.heap.objs.size f cd :: outer
  ex := []
  calm := true
  fn := fun _ => true
  pn := []
  xe := fun e s' => wpAny (model P w) (A.deeper (envOfC qual scope s.heap.objs.size f cd)) (leaving (envOfC qual scope s.heap.objs.size f cd) e) (fun _ s'' => CX outer H s E e s'') (fun e' s'' => CX outer H s E e' s'') s'
theorem cell_has {sc : Scope} {n : Nat} {x : Str} (h : sc.names.lookup x = some .cell) : ∃ c, (cellsFrom n sc.names []).lookup x = some c := by
  have q := PySem.W.cellsFrom_some sc.names n [] (.inl h)
  exact Option.isSome_iff_exists.mp q
theorem inv_start {CX : CXT} {P : Program} {w : World} {K : PySem.W.Frag} {mg : Str → Option Value} {base : Heap} {N ps : List Str} {qual : Str} {scope : Scope} {f : Addr} {cd : Value} {A : Around} {outer : List Env} {s s1 : Shared} {H : Hp} {E : XK} {us : List Value} {vs : List V}
    (S : FnScope N ps scope) (hd : A.handled = none) (e0 : Env0 P w K mg base A outer s H) (hl : vs.length = ps.length) (r : Vals vs us)
    (x : InCallC s s.heap.objs.size (bindL (envOfC qual scope s.heap.objs.size f cd).kindOf (ps.zip us) fun _ => none) (cellsFrom (s.heap.objs.size + 1) scope.names []) (bindC (envOfC qual scope s.heap.objs.size f cd).kindOf (ps.zip us) fun _ => none) s1) :
    Inv (cxOf CX P w K mg base N qual scope f cd A outer s H E) [] (start N vs) H s1 := by
  have hpl : ps.length ≤ N.length := by have := congrArg List.length S.pre; rw [List.length_take] at this; omega
  obtain ⟨h1, tk, rfl, hk⟩ := x.done
  have noA : ∀ b : Addr, b ∉ (cxOf CX P w K mg base N qual scope f cd A outer s H E).ex := fun b z => absurd (show b ∈ ([] : List Addr) from z) (by simp)
  refine ⟨⟨e0.mod, S.kind, rfl, rfl, Nat.le_refl _, fun y z c h1 h2 => ?_, fun y hy => ?_, fun y c _ h => ?_, fun _ => hd, Around.frames_deeper e0.frames, .inr ⟨rfl, rfl⟩, fun b z => absurd z (noA b), e0.bs, e0.bsz, fun b _ _ => noA b, fun b z => absurd z (noA b), e0.funs, e0.frf⟩,
    rfl, e0.bare, Un.kept hk, ⟨_, x.toInCall.ns, fun i y v h1 h2 h3 => ?_⟩, fun y c h => ⟨_, x.cell y c h⟩, e0.hok.fresh (Nat.le_refl _), fun y c h => ?_, fun p hp => absurd (show p ∈ ([] : List (Addr × Obj)) from hp) (by simp), e0.hok.kept hk, ?_⟩
  · exact name_of_addr x.apart (PySem.mem_of_lookup h1) (PySem.mem_of_lookup h2)
  · have hy : scope.names.lookup y = some .cell ∨ scope.names.lookup y = some .free := hy
    rcases hy with hy | hy
    · exact cell_has hy
    · exact absurd rfl (S.nofree _ (PySem.mem_of_lookup hy))
  · exact Nat.le_of_lt (x.above y c (PySem.mem_of_lookup h))
  · have hi : i < vs.length := by
      unfold start at h2
      by_cases hi : i < vs.length
      · exact hi
      · rw [List.getElem?_append_right (by simpa using hi)] at h2
        rw [List.getElem?_replicate] at h2
        split at h2 <;> cases h2
    have ha : vs[i]? = some v := by
      unfold start at h2
      rw [List.getElem?_append_left (by simpa using hi), List.getElem?_map] at h2
      cases e : vs[i]? with
      | none => rw [e] at h2; cases h2
      | some a => rw [e] at h2; cases h2; rfl
    obtain ⟨u, hu, rv⟩ := r.get ha
    have hp : ps[i]? = some y := by
      rw [← S.pre, List.getElem?_take_of_lt (by omega)]; exact h1
    have ndP : ps.Nodup := by rw [← S.pre]; exact S.nd.sublist (List.take_sublist _ _)
    refine ⟨u, rv, ?_⟩
    rcases S.par y (List.mem_of_getElem? hp) with k | k
    · exact .inl ⟨k, bindL_get ndP hp hu k⟩
    · obtain ⟨c, e⟩ := cell_has (n := s.heap.objs.size + 1) k
      refine .inr ⟨.inl k, c, e, ?_⟩
      have q := x.cell y c e
      rw [bindC_get ndP hp hu (by show scope.names.lookup y ≠ _; rw [k]; decide)] at q
      exact q
  · exact e0.hok.fresh (Nat.le_of_lt (x.above y c (PySem.mem_of_lookup h)))
  · unfold start
    show _ = N.length
    rw [List.length_append, List.length_map, List.length_replicate]
    omega
theorem fn_of {CX : CXT} {P : Program} {w : World} {K : PySem.W.Frag} {mg : Str → Option Value} {base : Heap} {k : Nat} {f : Addr} {name qual : Str} {params : Arguments} {body : List Stmt} {scope : Scope} {dV kV doc pm cdv ct oc : Value} {an od : Option Addr}
    {osl : Array (Option Value)} {N ps : List Str} {sp : Sp} (lk : K.lookup f = some ⟨oc, od, .func (PySem.W.fnOf name qual params body scope dV kV doc pm an cdv ct), osl⟩) (hcd : PySem.W.codeIn K cdv qual = true) (S : FnScope N ps scope)
    (len : ∀ vs H Q E, sp vs H Q E → vs.length = ps.length)
    (hbody : ∀ (A : Around) (outer : List Env) (s : Shared) (H : Hp) (vs : List V) (Q : VK) (E : XK), Room k (A.deeper (envOfC qual scope s.heap.objs.size f cdv)) → sp vs H Q E →
      ∃ t, PSs (cxOf CX P w K mg base N qual scope f cdv A outer s H E) body t ∧ t { nx := fun _ H' => Q .non H', rt := Q } (start N vs) H) :
    FnOk P w K mg base CX (k + 1) f (PySem.W.fnOf name qual params body scope dV kV doc pm an cdv ct) ps sp := by
  refine ⟨len, fun A outer s H args us vs Q E hr e0 hb r hsp => ?_⟩
  have hl := len _ _ _ _ hsp
  have KX : K.In s.heap := e0.mod.kin.keeps fun b o e => (e0.bs b o e).1
  have lim : s.heap.NoLimit := e0.mod.nolimit.keeps fun b o e => (e0.bs b o e).1
  have hkind : ∀ y ∈ ps.zip us, scope.names.lookup y.1 = some .local ∨ (scope.names.lookup y.1 = some .cell ∧ ((cellsFrom (s.heap.objs.size + 1) scope.names []).lookup y.1).isSome = true) := fun ⟨n, v⟩ hy => by
    rcases S.par n (List.of_mem_zip hy).1 with q | q
    · exact .inl q
    · exact .inr ⟨q, PySem.W.cellsFrom_some _ _ _ (.inl q)⟩
  refine codeAny_call_function hr.depth (KX _ _ lk) rfl S.co S.gen rfl (PySem.W.codeRec_of KX hcd) (hb _ _ _ _ ?_)
  refine wpAny_newFunctionEnv_cells S.kind hkind fun env he s1 x => ?_
  subst he
  refine ⟨lim.keeps x.toInCall.keep, codeAny_func ?_⟩
  obtain ⟨t, ht, hq⟩ := hbody A outer s H vs Q E (hr.deeper _) hsp
  have I : Inv (cxOf CX P w K mg base N qual scope f cdv A outer s H E) [] (start N vs) H s1 := inv_start S hr.hd e0 hl r x
  refine wpAny_mono (ht [] s1 (start N vs) H _ I hq) (fun fl s' hs => ?_) fun e s' hs => hs
  have fin : ∀ {σ' : St} {H' : Hp} {v : V} {u : Value}, Inv (cxOf CX P w K mg base N qual scope f cdv A outer s H E) [] σ' H' s' → RelV v u → Q v H' → CE outer P w H s Q u s' :=
    fun {σ' H' v u} J rv q => ⟨v, H', J.os, J.bare, J.base, J.hok, rv, q⟩
  cases fl with
  | ret u =>
    obtain ⟨v, σ', H', J, rv, q⟩ := hs
    exact fin J rv q
  | next =>
    obtain ⟨σ', H', J, q⟩ := hs
    exact fin (v := V.non) (u := Value.none) J rfl q
  | brk =>
    obtain ⟨_, _, _, q⟩ := hs
    exact False.elim q
  | cont =>
    obtain ⟨_, _, _, q⟩ := hs
    exact False.elim q
end L2
namespace L2
open PySem PySem.Spec PyProof.Rows
section
variable {X : Cx} {x : Str} {p pos : Pos} {e : Expr} {es : List Expr} {t : TA} {id T : String} {r : List V → Hp → VK → Prop}
def tCB (r : List V → Hp → VK → Prop) (t : TA) : TE := fun σ H Q => t σ H fun vs H1 => r vs H1 Q
theorem pe_callB (hc : CallR X (.builtin id) r) (hg : Gl X x) (hm : X.mg x = none) (hv : bootBuiltins x = some (.builtin id)) (ha : PA X (e :: es) t) (hn : x ≠ "__name__" := by decide) (hdb : (x == ("__debug__" : Str)) = false := by decide)
    (he : starEach (e :: es) X.env = (false, eval e X.env) :: starEach es X.env := by rfl) (hpl : (backTo pos (starEach es X.env)).any (·.1) = false := by rfl) : PE X (.Call (.Name x p) (e :: es) [] pos) (tCB r t) := by
  intro pins s σ H Q I h
  refine wpAny_Call_Name_kw (ld_blt I hg hm hv ?_ hn hdb)
  exact PyProof.Rows.callWith_builtin1 (thn (ha pos pins s σ H _ I h) fun us s1 ⟨vs, H1, I1, r1, q1⟩ => hc pins s1 σ H1 vs us Q I1 r1 q1) he hpl
theorem pe_callTy (hc : CallR X (.type T) r) (hg : Gl X x) (hm : X.mg x = none) (hv : bootBuiltins x = some (.type T)) (ha : PA X (e :: es) t) (hn : x ≠ "__name__" := by decide) (hdb : (x == ("__debug__" : Str)) = false := by decide)
    (he : starEach (e :: es) X.env = (false, eval e X.env) :: starEach es X.env := by rfl) (hpl : (backTo pos (starEach es X.env)).any (·.1) = false := by rfl) : PE X (.Call (.Name x p) (e :: es) [] pos) (tCB r t) := by
  intro pins s σ H Q I h
  refine wpAny_Call_Name_kw (ld_blt I hg hm hv ?_ hn hdb)
  exact PyProof.Rows.callWith_type1 (thn (ha pos pins s σ H _ I h) fun us s1 ⟨vs, H1, I1, r1, q1⟩ => hc pins s1 σ H1 vs us Q I1 r1 q1) he hpl
end
end L2
namespace HT
open PySem PyProof.Rows
section
variable {prog : Program} {w : World} {A : Around} {E : Value → Shared → Prop} {s : Shared}
def sIx (n d : Nat) : Option Int → Nat
  | none => d
  | some v => if v < 0 then (v + (n : Int)).toNat else min v.toNat n
end
end HT
namespace L2
open PySem PySem.Spec PyProof.Rows
abbrev TO := St → Hp → (Option Int → Hp → Prop) → Prop
def PO (X : Cx) (e : Option Expr) (t : TO) : Prop :=
  ∀ (pins : List (Addr × Obj)) (s : Shared) (σ : St) (H : Hp) (Q : Option Int → Hp → Prop), Inv X pins σ H s → t σ H Q →
    wpAny (model X.prog X.w) X.A (evalPart e X.env) (fun u s' => ∃ o H', Inv X pins σ H' s' ∧ IsPart u o ∧ Q o H') X.xe s
def tNoPart : TO := fun _ H Q => Q none H
def tPart (t : TE) : TO := fun σ H Q => t σ H fun x H1 => ∃ i, x = .int i ∧ Q (some i) H1
section
variable {X : Cx} {e : Expr} {te : TE} {lo hi : Option Expr} {tl th : TO} {pos p2 : Pos}
theorem po_none : PO X none tNoPart := by
  intro pins s σ H Q I h
  rw [evalPart_none]
  exact wpAny_pure ⟨none, H, I, .none, h⟩
theorem po_some (h : PE X e te) : PO X (some e) (tPart te) := by
  intro pins s σ H Q I hw
  rw [evalPart_some]
  refine thn (h pins s σ H _ I hw) fun u s1 ⟨x, H1, I1, r1, q1⟩ => ?_
  obtain ⟨i, rfl, q⟩ := q1
  obtain ⟨t, rfl⟩ := r1
  exact ⟨some i, H1, I1, .int i t, q⟩
def SlR (X : Cx) (r : V → Option Int → Option Int → Hp → VK → Prop) : Prop :=
  ∀ (pins : List (Addr × Obj)) (s : Shared) (σ : St) (H : Hp) (x : V) (v vl vu : Value) (lo hi : Option Int) (sl : Addr) (Q : VK), Inv X pins σ H s → RelV x v → s.heap.IsSliceOf sl vl vu .none → IsPart vl lo → IsPart vu hi → r x lo hi H Q →
    ∃ T id, typeLookup (.type T) "__getitem__" = pure (some (.builtin id)) ∧ s.TypeIs v T ∧ wpAny (model X.prog X.w) X.A (getItem v (.ref sl)) (EP X pins σ Q) X.xe s
def tSl (r : V → Option Int → Option Int → Hp → VK → Prop) (te : TE) (tl th : TO) : TE := fun σ H Q => te σ H fun x H1 => tl σ H1 fun l H2 => th σ H2 fun u H3 => r x l u H3 Q
theorem pe_slice {r : V → Option Int → Option Int → Hp → VK → Prop} (hr : SlR X r) (he : PE X e te) (hl : PO X lo tl) (hu : PO X hi th) : PE X (.Subscript e (.Slice lo hi none p2) pos) (tSl r te tl th) := by
  intro pins s σ H Q I h
  refine Subscript_ (thn (he pins s σ H _ I h) fun v s1 ⟨x, H1, I1, r1, q1⟩ => ?_)
  refine wpAny_Slice (thn (hl pins s1 σ H1 _ I1 q1) fun vl s2 ⟨l, H2, I2, pl, q2⟩ => thn (hu pins s2 σ H2 _ I2 q2) fun vu s3 ⟨u, H3, I3, pu, q3⟩ => ?_)
  rw [evalPart_none]
  refine wpAny_pure ?_
  have I4 : Inv X pins σ H3 { s3 with heap := s3.heap.push { cls := .type "slice", data := .fields #[vl, vu, .none] } } := I3.kept (t' := s3.toks) fun b ob q => Heap.get?_push_of_some _ q
  obtain ⟨T, id, hT, ht, hg⟩ := hr pins { s3 with heap := s3.heap.push { cls := .type "slice", data := .fields #[vl, vu, .none] } } σ H3 x v vl vu l u s3.heap.objs.size Q I4 r1 (Heap.IsSliceOf.new ..) pl pu q3
  show wpAny (model X.prog X.w) X.A (subscriptTail e (.Slice lo hi none p2) v (.ref s3.heap.objs.size)) (EP X pins σ Q) X.xe { s3 with heap := s3.heap.push { cls := .type "slice", data := .fields #[vl, vu, .none] } }
  exact tail_any (ops := [.ref s3.heap.objs.size, v]) ht hT hg (by with_unfolding_all rfl)
def cutV (xs : List V) (lo hi : Option Int) : List V := (xs.drop (HT.sIx xs.length 0 lo)).take (HT.sIx xs.length xs.length hi - HT.sIx xs.length 0 lo)
theorem cutV_length (xs : List V) (lo hi : Option Int) : (cutV xs lo hi).length ≤ xs.length := by
  unfold cutV
  rw [List.length_take, List.length_drop]
  omega
end
end L2
namespace L2
open PySem PySem.Spec PyProof.Rows
def ixN (n : Nat) (i : Int) : Option Nat := if 0 ≤ i then (if i < n then some i.toNat else none) else if -(n : Int) ≤ i then some (i + n).toNat else none
def atI {α : Type} (xs : List α) (i : Int) : Option α := (ixN xs.length i).bind fun j => xs[j]?
theorem ixN_seq {n : Nat} {i : Int} {j : Nat} (h : ixN n i = some j) : seqIndex? i n = some j ∧ j < n ∧ -(n : Int) ≤ i ∧ i < n := by
  unfold ixN at h
  by_cases h0 : 0 ≤ i
  · rw [if_pos h0] at h
    by_cases h1 : i < n
    · rw [if_pos h1] at h
      have e : i.toNat = j := Option.some.inj h
      exact ⟨by rw [seqIndex_of h0 h1, e], by omega, by omega, h1⟩
    · rw [if_neg h1] at h; cases h
  · rw [if_neg h0] at h
    by_cases h1 : -(n : Int) ≤ i
    · rw [if_pos h1] at h
      have e : (i + n).toNat = j := Option.some.inj h
      exact ⟨by rw [seqIndex_neg (by omega) h1, e], by omega, h1, by omega⟩
    · rw [if_neg h1] at h; cases h
theorem atI_get {α : Type} {xs : List α} {i : Int} {v : α} (h : atI xs i = some v) : ∃ j, seqIndex? i xs.length = some j ∧ xs[j]? = some v ∧ j < xs.length ∧ -(xs.length : Int) ≤ i ∧ i < xs.length := by
  unfold atI at h
  cases e : ixN xs.length i with
  | none => rw [e] at h; cases h
  | some j =>
    rw [e] at h
    obtain ⟨h1, h2, h3, h4⟩ := ixN_seq e
    exact ⟨j, h1, h, h2, h3, h4⟩
theorem atI_nat {α : Type} {xs : List α} {j : Nat} {v : α} (h : xs[j]? = some v) : atI xs (j : Int) = some v := by
  have hj : j < xs.length := (List.getElem?_eq_some_iff.mp h).1
  have e : ixN xs.length (j : Int) = some j := by
    unfold ixN
    rw [if_pos (by omega), if_pos (by omega)]; simp
  unfold atI; rw [e]; exact h
def PlainIx (b : Expr) : Prop := ∀ o i, subscripted b false o i = operate [o, i] (getItem o i)
def IxR (X : Cx) (r : R2) : Prop :=
  ∀ (value slice : Expr) (pins : List (Addr × Obj)) (s : Shared) (σ : St) (H : Hp) (x y : V) (v u : Value) (Q : VK), Inv X pins σ H s → RelV x v → RelV y u → r x y H Q →
    subscripted slice false v u = operate [v, u] (getItem v u) → wpAny (model X.prog X.w) X.A (subscriptTail value slice v u) (EP X pins σ Q) X.xe s
def MtR (X : Cx) (id : String) (r : V → List V → Hp → VK → Prop) : Prop :=
  ∀ (pins : List (Addr × Obj)) (s : Shared) (σ : St) (H : Hp) (x : V) (xs : List V) (v : Value) (us : List Value) (Q : VK), Inv X pins σ H s → RelV x v → Vals xs us → r x xs H Q →
    wpAny (model X.prog X.w) X.A (call (.builtin id) (v :: us)) (EP X pins σ Q) X.xe s
section
variable {X : Cx} {a b : Expr} {ta tb : TE} {pos : Pos}
theorem pe_ix {r : R2} (hr : IxR X r) (ha : PE X a ta) (hb : PE X b tb) (hs : PlainIx b) : PE X (.Subscript a b pos) (tOp r ta tb) := by
  intro pins s σ H Q I h
  exact Subscript_ (binT ha hb I h fun v u s2 x y H2 I2 rx ry q => hr a b pins s2 σ H2 x y v u Q I2 rx ry q (hs _ _))
def rIxL (K : PySem.W.Frag) : R2 := fun x y H Q => ∃ p xs i v, x = .ref p ∧ y = .int i ∧ SqL K H p xs ∧ atI xs i = some v ∧ Q v H
def rIxT (K : PySem.W.Frag) : R2 := fun x y H Q => ∃ p xs i v, x = .ref p ∧ y = .int i ∧ SqT K H p xs ∧ atI xs i = some v ∧ Q v H
def rIxS : R2 := fun x y H Q => ∃ z i c, x = .str z ∧ y = .int i ∧ z.length ≤ sizeLine ∧ atI z.cps.toList i = some c ∧ Q (.str ⟨#[c]⟩) H
theorem ix_list : IxR X (rIxL X.K) := by
  intro value slice pins s σ H x y v u Q I rx ry h hs
  obtain ⟨p, xs, i, z, rfl, rfl, hq, he, q⟩ := h
  cases rx
  obtain ⟨t, rfl⟩ := ry
  obtain ⟨its, r, pl, hz⟩ := I.list hq
  obtain ⟨j, h1, h2, h3, h4, h5⟩ := atI_get he
  obtain ⟨w, ew, rw'⟩ := r.get h2
  have hl := r.length
  have hn := line63
  have fin : EP X pins σ Q w s := ⟨z, H, I, rw', q⟩
  by_cases h0 : 0 ≤ i
  · have hj : i.toNat = j := by
      rw [seqIndex_of h0 h5] at h1
      exact Option.some.inj h1
    exact item_listR pl.isList h0 (by omega) (by rw [hj]; simpa using ew) fin hs
  · have hj : (i + (its.toArray.size : Int)).toNat = j := by
      rw [seqIndex_neg (by omega) h4] at h1
      rw [List.size_toArray, ← hl]
      exact Option.some.inj h1
    exact subscriptTail_builtinR (x := w) pl.isList.typeIs slot_list_getitem.lookup
      (wpAny_getItem_list_neg (Q := fun r s' => r = w ∧ EP X pins σ Q r s') pl.isList (by omega) (by rw [List.size_toArray] <;> omega) (by omega) (by rw [hj]; simpa using ew) ⟨rfl, fin⟩) hs
theorem ix_tup : IxR X (rIxT X.K) := by
  intro value slice pins s σ H x y v u Q I rx ry h hs
  obtain ⟨p, xs, i, z, rfl, rfl, hq, he, q⟩ := h
  cases rx
  obtain ⟨t, rfl⟩ := ry
  obtain ⟨its, r, pl, hz⟩ := I.tuple hq
  obtain ⟨j, h1, h2, h3, h4, h5⟩ := atI_get he
  obtain ⟨w, ew, rw'⟩ := r.get h2
  have hl := r.length
  have hn := line63
  have fin : EP X pins σ Q w s := ⟨z, H, I, rw', q⟩
  exact subscriptTail_builtinR (x := w) pl.typeIs slot_tuple_getitem.lookup
    (getItem_tuple (j := j) (Q := fun r s' => r = w ∧ EP X pins σ Q r s') pl (by omega) (by omega) (by rw [List.size_toArray, ← hl]; exact h1) (by simpa using ew) ⟨rfl, fin⟩) hs
theorem ix_str : IxR X rIxS := by
  intro value slice pins s σ H x y v u Q I rx ry h hs
  obtain ⟨z, i, c, rfl, rfl, hz, he, q⟩ := h
  obtain ⟨t, rfl⟩ := rx
  obtain ⟨t', rfl⟩ := ry
  obtain ⟨j, h1, h2, h3, h4, h5⟩ := atI_get he
  have hl : z.cps.toList.length = z.length := by simp [Str.length]
  rw [hl] at h1 h4 h5
  have hn := line63
  exact tail_any (typeIs_str s z t) slot_str_getitem.lookup (getItem_str (c := c) (by
    have e1 : decide (i < -(2 ^ 63 : Int)) = false := decide_eq_false (by omega)
    have e2 : decide (i ≥ 2 ^ 63) = false := decide_eq_false (by omega)
    rw [e1, e2, Bool.or_false]) (by rw [h1]; simpa using h2) ⟨.str ⟨#[c]⟩, H, I.tok _, ⟨_, rfl⟩, q⟩) hs
theorem mapSeq_set (its : List Value) (n j : Nat) (u : Value) : Obj.mapSeq (·.setIfInBounds j u) { cls := .type "list", data := .seq its.toArray n } = { cls := .type "list", data := .seq (its.set j u).toArray n } := by
  simp [Obj.mapSeq]
theorem Inv.lst {pins : List (Addr × Obj)} {σ : St} {H : Hp} {s : Shared} {p : Addr} {xs : List V} (I : Inv X pins σ H s) (h : H p = some (.lst xs)) :
    ∃ (its : List Value) (n : Nat), Vals xs its ∧ s.heap.get? p = some { cls := .type "list", data := .seq its.toArray n } ∧ xs.length ≤ sizeLine := by
  obtain ⟨z, its, n, r, e⟩ := I.hok p _ h
  exact ⟨its, n, r, e, z⟩
theorem Inv.lstUpd {pins : List (Addr × Obj)} {σ : St} {H : Hp} {s : Shared} {p : Addr} {xs ys : List V} {its its' : List Value} {n n' : Nat} {f : Obj → Obj} (I : Inv X pins σ H s) (h : H p = some (.lst xs))
    (ho : s.heap.get? p = some { cls := .type "list", data := .seq its.toArray n }) (hf : f { cls := .type "list", data := .seq its.toArray n } = { cls := .type "list", data := .seq its'.toArray n' }) (r : Vals ys its') (hz : ys.length ≤ sizeLine) (t : Nat) :
    Inv X pins σ (upd H p (.lst ys)) { s with heap := s.heap.update p f, toks := t } := by
  have e : (s.heap.update p f).get? p = some { cls := .type "list", data := .seq its'.toArray n' } := by
    rw [Heap.get?_update_self f ho (by rw [hf] <;> rfl), hf]
  refine I.write (x := p) (e := p) (by rw [h]; trivial) (.inl rfl) (fun b u hb q => (Heap.get?_update_other _ _ (Ne.symm hb)).trans q) ⟨_, e⟩ ?_
  exact ⟨hz, its', n', r, e⟩
def rSetL : V → V → V → Hp → (Hp → Prop) → Prop := fun o i v H Q => ∃ p xs k j, o = .ref p ∧ i = .int k ∧ H p = some (.lst xs) ∧ ixN xs.length k = some j ∧ Q (upd H p (.lst (xs.set j v)))
theorem set_list : PSet X rSetL := by
  intro pins s σ H o i v ov iv u Q I ro ri rv h
  obtain ⟨p, xs, k, j, rfl, rfl, hp, hj, q⟩ := h
  cases ro
  obtain ⟨t, rfl⟩ := ri
  obtain ⟨its, n, r, ho, hz⟩ := I.lst hp
  obtain ⟨h1, h2, h3, h4⟩ := ixN_seq hj
  have hl := r.length
  have hn := line63
  have I' : Inv X pins σ (upd H p (.lst (xs.set j v))) { s with heap := s.heap.update p (Obj.mapSeq (·.setIfInBounds j u)) } :=
    I.lstUpd hp ho (mapSeq_set its n j u) (r.set rv j) (by rw [List.length_set]; exact hz) s.toks
  by_cases h0 : 0 ≤ k
  · have hk : k.toNat = j := by
      rw [seqIndex_of h0 h4] at h1
      exact Option.some.inj h1
    exact PySem.W.ki_setAt ho h0 (by omega) (by rw [List.size_toArray, ← hl]; exact h4) (by rw [hk]; exact ⟨_, I', q⟩)
  · have hk : (k + (its.toArray.size : Int)).toNat = j := by
      rw [seqIndex_neg (by omega) h3] at h1
      rw [List.size_toArray, ← hl]
      exact Option.some.inj h1
    exact PySem.W.ki_setBack ho (by omega) (by rw [List.size_toArray, ← hl]; exact h3) (by omega) (by rw [hk]; exact ⟨_, I', q⟩)
theorem slice_bounds (lo hi : Option Int) (n : Nat) : (sliceBounds lo hi none n).1 = ((HT.sIx n 0 lo : Nat) : Int) ∧ (sliceBounds lo hi none n).2.1 = ((HT.sIx n n hi : Nat) : Int) ∧ (sliceBounds lo hi none n).2.2 = 1 := by
  refine ⟨?_, ?_, rfl⟩
  · cases lo with
    | none => simp [sliceBounds, HT.sIx]
    | some i =>
      simp only [sliceBounds, HT.sIx, Option.getD_none, show (1 : Int) > 0 by decide, if_true]
      by_cases h : i < 0
      · simp only [h, if_true] <;> omega
      · simp only [h, if_false] <;> omega
  · cases hi with
    | none => simp [sliceBounds, HT.sIx]
    | some i =>
      simp only [sliceBounds, HT.sIx, Option.getD_none, show (1 : Int) > 0 by decide, if_true]
      by_cases h : i < 0
      · simp only [h, if_true] <;> omega
      · simp only [h, if_false] <;> omega
theorem slicePick_cut (its : List Value) (lo hi : Option Int) : slicePick its.toArray lo hi none = ((its.drop (HT.sIx its.length 0 lo)).take (HT.sIx its.length its.length hi - HT.sIx its.length 0 lo)).toArray := by
  obtain ⟨h1, h2, h3⟩ := slice_bounds lo hi its.toArray.size
  unfold slicePick
  rw [h1, h2, h3]
  simp only [sliceRange_one, pick_run, List.size_toArray] <;> rfl
def rSlL (K : PySem.W.Frag) : V → Option Int → Option Int → Hp → VK → Prop := fun x lo hi H Q => ∃ a xs, x = .ref a ∧ SqL K H a xs ∧ ∀ p, H p = none → Q (.ref p) (upd H p (.lst (cutV xs lo hi)))
theorem sl_list : SlR X (rSlL X.K) := by
  intro pins s σ H x v vl vu lo hi sl Q I rx hs pl pu h
  obtain ⟨a, xs, rfl, hx, q⟩ := h
  cases rx
  obtain ⟨its, r, ht, hz⟩ := I.list hx
  have hlen := r.length
  refine ⟨"list", _, slot_list_getitem.lookup, ht.isList.typeIs, ?_⟩
  refine wpAny_getItem_list_slice ht.isList hs pl pu .none (by simp) ?_ (by rw [List.size_toArray] <;> omega)
  rw [slicePick_cut, ← hlen]
  refine ⟨.ref s.heap.objs.size, _, I.laid (t' := s.toks) (o := .lst (cutV xs lo hi)) (fun b ob q => Heap.get?_push_of_some _ q) (Nat.le_refl _) ?_, rfl, q _ (I.hok.fresh (Nat.le_refl _))⟩
  exact ⟨Nat.le_trans (cutV_length xs lo hi) hz, _, 0, (r.drop (HT.sIx xs.length 0 lo)).take (HT.sIx xs.length xs.length hi - HT.sIx xs.length 0 lo), Heap.get?_push_size _ rfl⟩
def flatV : V → Bool
  | .non => true
  | .bl _ => true
  | .int _ => true
  | .str _ => true
  | _ => false
def eqV : V → V → Bool
  | .non, .non => true
  | .bl a, .bl b => a == b
  | .bl a, .int b => (if a then 1 else 0) == b
  | .int a, .bl b => a == (if b then 1 else 0)
  | .int a, .int b => a == b
  | .str a, .str b => a == b
  | _, _ => false
theorem eqAt_V {A : Around} {s : Shared} {y x : V} {u v : Value} (ry : RelV y u) (rx : RelV x v) (fy : flatV y = true) (fx : flatV x = true) : SeqAt.EqAt A s u v (eqV y x) := by
  cases y with
  | non =>
    cases ry
    cases x with
    | non => cases rx; exact SeqAt.EqAt.same _
    | bl b => cases rx; exact SeqAt.EqAt.none_bool b
    | int b => obtain ⟨t, rfl⟩ := rx; exact SeqAt.EqAt.none_int b t
    | str b => obtain ⟨t, rfl⟩ := rx; exact SeqAt.EqAt.none_str b t
    | _ => exact absurd (show false = true from fx) Bool.false_ne_true
  | bl a =>
    cases ry
    cases x with
    | non => cases rx; exact SeqAt.EqAt.bool_none a
    | bl b => cases rx; exact SeqAt.EqAt.bool_bool a b
    | int b => obtain ⟨t, rfl⟩ := rx; exact SeqAt.EqAt.bool_int a b t
    | str b => obtain ⟨t, rfl⟩ := rx; exact SeqAt.EqAt.bool_str a b t
    | _ => exact absurd (show false = true from fx) Bool.false_ne_true
  | int a =>
    obtain ⟨t', rfl⟩ := ry
    cases x with
    | non => cases rx; exact SeqAt.EqAt.int_none a t'
    | bl b => cases rx; exact SeqAt.EqAt.int_bool a t' b
    | int b => obtain ⟨t, rfl⟩ := rx; exact SeqAt.EqAt.int_int a t' b t
    | str b => obtain ⟨t, rfl⟩ := rx; exact SeqAt.EqAt.int_str a t' b t
    | _ => exact absurd (show false = true from fx) Bool.false_ne_true
  | str a =>
    obtain ⟨t', rfl⟩ := ry
    cases x with
    | non => cases rx; exact SeqAt.EqAt.str_none a t'
    | bl b => cases rx; exact SeqAt.EqAt.str_bool a t' b
    | int b => obtain ⟨t, rfl⟩ := rx; exact SeqAt.EqAt.str_int a t' b t
    | str b => obtain ⟨t, rfl⟩ := rx; exact SeqAt.EqAt.str_str a t' b t
    | _ => exact absurd (show false = true from fx) Bool.false_ne_true
  | _ => exact absurd (show false = true from fy) Bool.false_ne_true
def eqU (x : V) (u : Value) : Bool := match u with
  | .none => eqV .non x
  | .bool b => eqV (.bl b) x
  | .int i _ => eqV (.int i) x
  | .str z _ => eqV (.str z) x
  | _ => false
theorem eqU_of {x y : V} {u : Value} (r : RelV y u) (f : flatV y = true) : eqU x u = eqV y x := by
  cases y with
  | non => cases r; rfl
  | bl b => cases r; rfl
  | int i => obtain ⟨t, rfl⟩ := r; rfl
  | str z => obtain ⟨t, rfl⟩ := r; rfl
  | _ => exact absurd (show false = true from f) Bool.false_ne_true
theorem any_eqU {x : V} : ∀ {xs : List V} {us : List Value}, Vals xs us → xs.all flatV = true → us.any (eqU x) = xs.any fun y => eqV y x
  | _, _, .nil, _ => rfl
  | y :: xs, u :: us, .cons r t, f => by
    rw [List.all_cons, Bool.and_eq_true] at f
    rw [List.any_cons, List.any_cons, eqU_of r f.1, any_eqU t f.2]
theorem mem_eqAt {A : Around} {s : Shared} {x : V} {v : Value} (rx : RelV x v) (fx : flatV x = true) : ∀ {xs : List V} {us : List Value}, Vals xs us → xs.all flatV = true → ∀ u ∈ us, SeqAt.EqAt A s u v (eqU x u)
  | _, _, .nil, _ => fun u hu => by cases hu
  | y :: xs, u :: us, .cons r t, f => fun u' hu => by
    rw [List.all_cons, Bool.and_eq_true] at f
    rcases List.mem_cons.mp hu with rfl | hu
    · rw [eqU_of r f.1]; exact eqAt_V r rx f.1 fx
    · exact mem_eqAt rx fx t f.2 u' hu
def inV (x : V) (xs : List V) : Bool := xs.any fun y => eqV y x
def rIn (K : PySem.W.Frag) (neg : Bool) : R2 := fun x y H Q => ∃ p xs, y = .ref p ∧ (SqL K H p xs ∨ SqT K H p xs) ∧ flatV x = true ∧ xs.all flatV = true ∧ Q (.bl (if neg then !inV x xs else inV x xs)) H
theorem op_notIn_seq : OpR X (compareOp .NotIn) (rIn X.K true) := by
  intro pins s σ H x y v u Q I rx ry h
  obtain ⟨p, xs, rfl, hq, fx, fs, q⟩ := h
  cases ry
  rcases hq with hq | hq
  · obtain ⟨its, r, pl, hz⟩ := I.list hq
    refine SeqAt.notIn_listAt (eqU x) pl.isList (fun w hw => mem_eqAt rx fx r fs w (by simpa using hw)) ⟨.bl _, H, I, rfl, ?_⟩
    rw [show its.toArray.any (eqU x) = its.any (eqU x) by simp, any_eqU r fs]
    exact q
  · obtain ⟨its, r, pl, hz⟩ := I.tuple hq
    refine SeqAt.notIn_tupleAt (eqU x) pl (fun w hw => mem_eqAt rx fx r fs w (by simpa using hw)) ⟨.bl _, H, I, rfl, ?_⟩
    rw [show its.toArray.any (eqU x) = its.any (eqU x) by simp, any_eqU r fs]
    exact q
theorem call_len_seq : CallR X (.builtin "len") (fun xs H Q => ∃ p ys, xs = [.ref p] ∧ (SqL X.K H p ys ∨ SqT X.K H p ys) ∧ Q (.int ys.length) H) := by
  intro pins s σ H xs us Q I r h
  obtain ⟨p, ys, rfl, hq, q⟩ := h
  obtain ⟨u, rfl, rx⟩ := vals1 r
  cases rx
  have hn := line63
  rcases hq with hq | hq
  · obtain ⟨its, r', pl, hz⟩ := I.list hq
    have hlen := r'.length
    exact Calls.call_len_list pl.isList (by simp only [List.size_toArray] <;> omega) ⟨.int ys.length, H, I.tok _, ⟨s.toks + 1, by rw [List.size_toArray, hlen]⟩, q⟩
  · obtain ⟨its, r', pl, hz⟩ := I.tuple hq
    have hlen := r'.length
    exact len_tuple pl (by simp only [List.size_toArray] <;> omega) ⟨.int ys.length, H, I.tok _, ⟨s.toks + 1, by rw [List.size_toArray, hlen]⟩, q⟩
theorem call_len_str : CallR X (.builtin "len") (fun xs H Q => ∃ z, xs = [.str z] ∧ z.length ≤ sizeLine ∧ Q (.int z.length) H) := by
  intro pins s σ H xs us Q I r h
  obtain ⟨z, rfl, hz, q⟩ := h
  obtain ⟨u, rfl, t, rfl⟩ := vals1 r
  have hn := line63
  exact len_str (by omega) ⟨.int z.length, H, I.tok _, ⟨_, rfl⟩, q⟩
theorem call_tuple_of : CallR X (.type "tuple") (fun xs H Q => ∃ p ys, xs = [.ref p] ∧ ((SqL X.K H p ys ∧ ∀ l, H l = none → Q (.ref l) (upd H l (.tup ys))) ∨ (SqT X.K H p ys ∧ Q (.ref p) H))) := by
  intro pins s σ H xs us Q I r h
  obtain ⟨p, ys, rfl, h⟩ := h
  obtain ⟨u, rfl, rx⟩ := vals1 r
  cases rx
  rcases h with ⟨hq, q⟩ | ⟨hq, q⟩
  · obtain ⟨its, r', pl, hz⟩ := I.list hq
    have hlen := r'.length
    refine call_tuple_list pl.isList (fun h' kp => ?_) (by simp only [List.size_toArray] <;> omega)
    have I1 : Inv X pins σ H { s with heap := h' } := I.kept (t' := s.toks) kp
    have I2 : Inv X pins σ (upd H h'.objs.size (.tup ys)) { s with heap := h'.push { cls := .type "tuple", data := .seq its.toArray } } :=
      I1.laid (t' := s.toks) (fun b o e => Heap.get?_push_of_some _ e) (Nat.le_refl _) (show ObjOk X.prog X.w _ _ _ (.tup ys) from ⟨hz, its, r', IsTup.new _ _⟩)
    exact ⟨.ref h'.objs.size, _, I2, rfl, q _ (I1.hok.fresh (Nat.le_refl _))⟩
  · obtain ⟨its, r', pl, hz⟩ := I.tuple hq
    exact call_tuple_same pl ⟨.ref p, H, I, rfl, q⟩
def tyV (K : PySem.W.Frag) (T : String) (x : V) (H : Hp) : Prop := match x with
  | .str _ => T = "str"
  | .int _ => T = "int"
  | .ref p => (T = "list" ∧ ∃ xs, SqL K H p xs) ∨ (T = "tuple" ∧ ((∃ o, K.lookup p = some o ∧ o.cls = .type "tuple" ∧ o.dict = none) ∨ ∃ o xs, H p = some (.frz o (.tup xs)) ∧ o.cls = .type "tuple" ∧ o.dict = none)) ∨
      (T = "dict" ∧ ((∃ kvs, H p = some (.dK kvs)) ∨ ∃ kvs, H p = some (.dT kvs))) ∨ (T = "set" ∧ ∃ S n, H p = some (.set S n))
  | _ => False
theorem tyV_is {pins : List (Addr × Obj)} {σ : St} {H : Hp} {s : Shared} {T : String} {x : V} {v : Value} (I : Inv X pins σ H s) (r : RelV x v) (ty : tyV X.K T x H) :
    s.TypeIs v T ∧ ∀ a, v = .ref a → ∃ ob, s.heap.get? a = some ob ∧ ob.dict = none := by
  cases x with
  | str z =>
    obtain ⟨t, rfl⟩ := r
    cases (show T = "str" from ty)
    exact ⟨typeIs_str s z t, fun _ e => nomatch e⟩
  | int i =>
    obtain ⟨t, rfl⟩ := r
    cases (show T = "int" from ty)
    exact ⟨typeIs_int s i t, fun _ e => nomatch e⟩
  | ref p =>
    cases r
    rcases ty with ⟨rfl, xs, hq⟩ | ⟨rfl, ⟨o, hk, hc, hd⟩ | ⟨o, xs, hk, hc, hd⟩⟩ | ⟨rfl, hk⟩ | ⟨rfl, S, n, hk⟩
    · obtain ⟨its, _, pl, _⟩ := I.list hq
      refine ⟨pl.isList.typeIs, fun a e => ?_⟩
      cases e
      obtain ⟨o, n, e, c, hd, _⟩ := pl
      exact ⟨o, e, hd⟩
    · refine ⟨⟨o, I.kIn p o hk, hc⟩, fun a e => ?_⟩
      cases e
      exact ⟨o, I.kIn _ o hk, hd⟩
    · obtain ⟨e, _⟩ := (show ObjOk X.prog X.w H s.heap p (.frz o (.tup xs)) from I.hok p _ hk)
      exact ⟨⟨o, e, hc⟩, fun a z => by cases z; exact ⟨o, e, hd⟩⟩
    · have z : ∃ o, s.heap.get? p = some o ∧ o.ExactDict := by
        rcases hk with ⟨kvs, hk⟩ | ⟨kvs, hk⟩
        · obtain ⟨_, _, _, _, o, _, _, e, ex, _⟩ := I.hok p _ hk
          exact ⟨o, e, ex⟩
        · obtain ⟨_, _, _, _, o, _, _, e, ex, _⟩ := I.hok p _ hk
          exact ⟨o, e, ex⟩
      obtain ⟨o, e, ex⟩ := z
      refine ⟨⟨o, e, ex.1⟩, fun a e2 => ?_⟩
      cases e2
      exact ⟨o, e, ex.2.1⟩
    · obtain ⟨o, _, _, _, e, ex, _⟩ := I.hok p _ hk
      refine ⟨⟨o, e, ex.1⟩, fun a e2 => ?_⟩
      cases e2
      exact ⟨o, e, ex.2.1⟩
  | _ => exact False.elim ty
def tBM0 (K : PySem.W.Frag) (T : String) (r : V → List V → Hp → VK → Prop) (to : TE) : TE := fun σ H Q => to σ H fun x H1 => tyV K T x H1 ∧ r x [] H1 Q
def tBM (K : PySem.W.Frag) (T : String) (r : V → List V → Hp → VK → Prop) (to : TE) (t : TA) : TE := fun σ H Q => to σ H fun x H1 => tyV K T x H1 ∧ t σ H1 fun xs H2 => r x xs H2 Q
variable {o e : Expr} {es : List Expr} {to : TE} {t : TA} {name : Str} {apos cpos : Pos} {T id : String} {r : V → List V → Hp → VK → Prop}
theorem pe_bm0 (pa : PlainAttrs T) (slot : Slot T name id) (hty : typeOf (.builtin id) = pure (.type "method_descriptor")) (hm : MtR X id r) (ho : PE X o to)
    (hbase : attributeBase o name X.env (eval o X.env) = eval o X.env := by rfl) (hline : (apos.endLine == cpos.line) = true := by rfl) : PE X (.Call (.Attribute o name apos) [] [] cpos) (tBM0 X.K T r to) := by
  intro pins s σ H Q I h
  refine wpAny_Call_method0_late hbase hline (thn (ho pins s σ H _ I h) fun v s1 ⟨x, H1, I1, r1, ty, q1⟩ => ?_)
  obtain ⟨h1, h2⟩ := tyV_is I1 r1 ty
  exact ⟨T, id, pa, slot, hty, h1, h2, Calls.callWith_builtin rfl (PySem.evalArgs_none (hm pins s1 σ H1 x [] v [] Q I1 r1 .nil q1))⟩
theorem pe_bm (pa : PlainAttrs T) (slot : Slot T name id) (hty : typeOf (.builtin id) = pure (.type "method_descriptor")) (hm : MtR X id r) (ho : PE X o to) (ha : PA X (e :: es) t)
    (hbase : attributeBase o name X.env (eval o X.env) = eval o X.env := by rfl)
    (hfew : ((backTo cpos (starEach (e :: es) X.env)).all (fun x => !x.1) && (backToKw cpos (keywordEach [] X.env)).all (fun x => x.1.isSome)
      && decide ((e :: es).length + ([] : List Keyword).length + (if ([] : List Keyword).isEmpty then 0 else 1) < 30)) = true := by rfl)
    (hline : (apos.endLine == cpos.line) = true := by rfl) (hs : starEach (e :: es) X.env = (false, eval e X.env) :: starEach es X.env := by rfl) (hplain : (backTo cpos (starEach es X.env)).any (·.1) = false := by rfl) :
    PE X (.Call (.Attribute o name apos) (e :: es) [] cpos) (tBM X.K T r to t) := by
  intro pins s σ H Q I h
  refine wpAny_Call_method_late hbase hfew hline rfl (thn (ho pins s σ H _ I h) fun v s1 ⟨x, H1, I1, r1, ty, q1⟩ => ?_)
  obtain ⟨h1, h2⟩ := tyV_is I1 r1 ty
  refine ⟨T, id, pa, slot, hty, h1, h2, ?_⟩
  have hA := ha cpos pins s1 σ H1 _ I1 q1
  rw [hs] at hA ⊢
  refine Calls.callWith_builtin (by show (false || (backTo cpos (starEach es X.env)).any (·.1)) = false; rw [hplain] <;> rfl) (Calls.evalArgs_plain ?_)
  exact thn hA fun us s2 ⟨vs, H2, I2, r2, q2⟩ => hm pins s2 σ H2 x vs v us Q I2 r1 r2 q2
/- xs.append(e), list.index on a module's tuple .. are MtR facts of 06m -/
end
end L2
namespace L2
open PySem PySem.Spec PyProof.Rows
def MtM (X : Cx) (id : String) (r : V → List V → Hp → VK → Prop) : Prop :=
  ∀ (pins : List (Addr × Obj)) (s : Shared) (σ : St) (H : Hp) (x : V) (xs : List V) (v : Value) (us : List Value) (Q : VK), Inv X pins σ H s → RelV x v → Vals xs us → r x xs H Q →
    wpAny (model X.prog X.w) X.A (call (.builtin id) (v :: us)) (EP X pins σ Q) X.xe s
theorem Vals.one : ∀ {x : V} {us : List Value}, Vals [x] us → ∃ u, us = [u] ∧ RelV x u
  | _, _, .cons r .nil => ⟨_, rfl, r⟩
theorem Vals.dropLast {xs : List V} {us : List Value} (h : Vals xs us) : Vals xs.dropLast us.dropLast := by
  induction h with
  | nil => exact .nil
  | cons r t ih =>
    cases t with
    | nil => exact .nil
    | cons q t' => exact .cons r ih
theorem Vals.eraseIdx : ∀ {xs : List V} {us : List Value} (i : Nat), Vals xs us → Vals (xs.eraseIdx i) (us.eraseIdx i)
  | _, _, _, .nil => .nil
  | _, _, 0, .cons _ t => t
  | _, _, i + 1, .cons r t => .cons r (Vals.eraseIdx i t)
theorem Vals.rep {xs : List V} {us : List Value} (h : Vals xs us) : ∀ k : Nat, Vals (List.replicate k xs).flatten (List.replicate k us).flatten
  | 0 => .nil
  | k + 1 => by
    rw [List.replicate_succ, List.replicate_succ, List.flatten_cons, List.flatten_cons]
    exact Vals.append h (Vals.rep h k)
theorem erase_last {α : Type} (l : List α) : l.eraseIdx (l.length - 1) = l.dropLast := by
  induction l with
  | nil => rfl
  | cons a r ih =>
    cases r with
    | nil => rfl
    | cons b r =>
      have e : (a :: b :: r).length - 1 = ((b :: r).length - 1) + 1 := by
        have h1 : (a :: b :: r).length = r.length + 2 := rfl
        have h2 : (b :: r).length = r.length + 1 := rfl
        omega
      rw [e, List.eraseIdx_cons_succ, ih]
      all_goals rfl
theorem len_erase {α : Type} : ∀ (l : List α) (i : Nat), (l.eraseIdx i).length ≤ l.length
  | [], _ => Nat.le_refl _
  | _ :: _, 0 => Nat.le_succ _
  | _ :: r, i + 1 => Nat.succ_le_succ (len_erase r i)
theorem foldl_rep (its : List Value) : ∀ (k : Nat) (acc : List Value),
    List.foldl (fun x1 x2 => x1 ++ x2) acc.toArray (List.replicate k its.toArray) = (acc ++ (List.replicate k its).flatten).toArray
  | 0, acc => by simp
  | k + 1, acc => by
    have e : acc.toArray ++ its.toArray = (acc ++ its).toArray := by simp
    have e2 : (acc ++ its) ++ (List.replicate k its).flatten = acc ++ (List.replicate (k + 1) its).flatten := by
      rw [List.replicate_succ, List.flatten_cons, List.append_assoc]
    rw [← e2, ← foldl_rep its k (acc ++ its), ← e, List.replicate_succ, List.foldl_cons]
section
variable {X : Cx} {pins : List (Addr × Obj)} {σ : St} {H : Hp} {s : Shared} {l b : Addr} {xs ys zs : List V}
theorem Inv.lset {its its' : List Value} {n : Nat} {f : Array Value → Array Value} {t' : Nat} (I : Inv X pins σ H s) (hH : H l = some (.lst xs))
    (e : s.heap.get? l = some { cls := .type "list", data := .seq its.toArray n }) (hf : f its.toArray = its'.toArray) (hv : Vals ys its') (hz : ys.length ≤ sizeLine) :
    Inv X pins σ (upd H l (.lst ys)) { s with heap := s.heap.update l (Obj.mapSeq f), toks := t' } := by
  have q := PySem.IsL.update e f
  rw [hf] at q
  refine I.write (x := l) (e := l) (by rw [hH]; exact trivial) (.inl rfl) (fun b' u hb hu => (Heap.get?_update_other s.heap (Obj.mapSeq f) (Ne.symm hb)).trans hu) ⟨_, q⟩ ?_
  exact ⟨hz, its', _, hv, q⟩
theorem Inv.lnew {its : List Value} {t' : Nat} (I : Inv X pins σ H s) (hv : Vals ys its) (hz : ys.length ≤ sizeLine) :
    Inv X pins σ (upd H s.heap.objs.size (.lst ys)) { s with heap := s.heap.push { cls := .type "list", data := .seq its.toArray }, toks := t' } :=
  I.laid (fun _ _ q => Heap.get?_push_of_some _ q) (Nat.le_refl _) ⟨hz, its, 0, hv, Heap.get?_push_size _ rfl⟩
theorem Inv.fresh (I : Inv X pins σ H s) : H s.heap.objs.size = none := I.hok.fresh (Nat.le_refl _)
theorem Inv.lstM (I : Inv X pins σ H s) (hH : H l = some (.lst xs)) : xs.length ≤ sizeLine ∧ ∃ (its : List Value) (n : Nat), Vals xs its ∧ xs.length = its.length ∧ s.heap.get? l = some { cls := .type "list", data := .seq its.toArray n } := by
  obtain ⟨z, its, n, r, e⟩ := I.hok l _ hH
  exact ⟨z, its, n, r, r.length, e⟩
theorem notLongL {n : Nat} (h : n ≤ sizeLine) : Builtin.List.listTooLong n = false := by
  unfold Builtin.List.listTooLong
  exact decide_eq_false (by omega)
end
section
variable {X : Cx}
def rAppend : V → List V → Hp → VK → Prop := fun x vs H Q => ∃ l xs y, x = .ref l ∧ vs = [y] ∧ H l = some (.lst xs) ∧ xs.length < sizeLine ∧ Q .non (upd H l (.lst (xs ++ [y])))
theorem mt_append : MtM X "list.append" rAppend := by
  intro pins s σ H x vs v us Q I rx rv h
  obtain ⟨l, xs, y, rfl, rfl, hH, hz, q⟩ := h
  cases rx
  obtain ⟨u, rfl, ru⟩ := rv.one
  obtain ⟨z, its, n, r, hl, e⟩ := I.lstM hH
  refine call_meets F.slot_list_append ⟨_, e, rfl⟩ F.entry_list_append (F.args_list_append_2 _ _) (PySem.list_append l its.toArray n u (by rw [List.size_toArray]; omega)) ⟨e, ?_⟩
  refine ⟨.non, _, I.lset (its' := its ++ [u]) hH e (by simp) (r.append (.cons ru .nil)) ?_, rfl, q⟩
  rw [List.length_append, List.length_singleton]
  omega
def rExtend : V → List V → Hp → VK → Prop := fun x vs H Q => ∃ l b xs zs, x = .ref l ∧ vs = [.ref b] ∧ H l = some (.lst xs) ∧ H b = some (.lst zs) ∧ xs.length + zs.length ≤ sizeLine ∧ Q .non (upd H l (.lst (xs ++ zs)))
theorem mt_extend : MtM X "list.extend" rExtend := by
  intro pins s σ H x vs v us Q I rx rv h
  obtain ⟨l, b, xs, zs, rfl, rfl, hH, hB, hz, q⟩ := h
  cases rx
  obtain ⟨u, rfl, ru⟩ := rv.one
  cases ru
  obtain ⟨z, its, n, r, hl, e⟩ := I.lstM hH
  obtain ⟨z2, its2, n2, r2, hl2, e2⟩ := I.lstM hB
  have hsz : its.toArray.size + its2.toArray.size ≤ sizeLine := by rw [List.size_toArray, List.size_toArray]; omega
  have hlong : ¬ (!its.toArray.isEmpty && Builtin.List.listTooLong (its.toArray.size + its2.toArray.size)) = true := by
    rw [notLongL hsz, Bool.and_false]
    exact Bool.false_ne_true
  refine call_meets F.slot_list_extend ⟨_, e, rfl⟩ F.entry_list_extend (F.args_list_extend_2 _ _)
    (AutoSeq1.list_extend_list_list_0 l its.toArray n b its2.toArray n2 hlong (by rw [List.size_toArray]; omega) (by omega)) ⟨e, e2, ?_⟩
  refine ⟨.non, _, I.lset (its' := its ++ its2) hH e (by simp) (r.append r2) ?_, rfl, q⟩
  rw [List.length_append]
  omega
def rCat : R2 := fun x y H Q => ∃ l b xs zs, x = .ref l ∧ y = .ref b ∧ H l = some (.lst xs) ∧ H b = some (.lst zs) ∧ xs.length + zs.length ≤ sizeLine ∧ ∀ p, H p = none → Q (.ref p) (upd H p (.lst (xs ++ zs)))
theorem op_cat : OpR X (binaryOp .Add) rCat := by
  intro pins s σ H x y v u Q I rx ry h
  obtain ⟨l, b, xs, zs, rfl, rfl, hH, hB, hz, q⟩ := h
  cases rx
  cases ry
  obtain ⟨z, its, n, r, hl, e⟩ := I.lstM hH
  obtain ⟨z2, its2, n2, r2, hl2, e2⟩ := I.lstM hB
  refine PySem.P.add_list e e2 ?_ (by rw [List.size_toArray, List.size_toArray]; omega)
  have ea : its.toArray ++ its2.toArray = (its ++ its2).toArray := by simp
  rw [ea]
  exact ⟨.ref _, _, I.lnew (t' := s.toks) (r.append r2) (by rw [List.length_append]; omega), rfl, q _ I.fresh⟩
def rRep : R2 := fun x y H Q => ∃ l k xs, x = .ref l ∧ y = .int k ∧ H l = some (.lst xs) ∧ -(2 ^ 63) ≤ k ∧ k < 2 ^ 63 ∧ xs.length * k.toNat ≤ sizeLine ∧
  ∀ p, H p = none → Q (.ref p) (upd H p (.lst (List.replicate k.toNat xs).flatten))
theorem len_rep {α : Type} (xs : List α) (k : Nat) : (List.replicate k xs).flatten.length = k * xs.length := by
  induction k with
  | zero => simp
  | succ k ih => rw [List.replicate_succ, List.flatten_cons, List.length_append, ih, Nat.succ_mul, Nat.add_comm]
theorem op_rep : OpR X (binaryOp .Mult) rRep := by
  intro pins s σ H x y v u Q I rx ry h
  obtain ⟨l, k, xs, rfl, rfl, hH, h1, h2, hz, q⟩ := h
  cases rx
  obtain ⟨t, rfl⟩ := ry
  obtain ⟨z, its, n, r, hl, e⟩ := I.lstM hH
  have hlen : its.toArray.size * k.toNat ≤ sizeLine := by rw [List.size_toArray, ← hl]; exact hz
  have hcap : ¬ its.toArray.size * k.toNat > (2 ^ 63 - 1) / 8 := by
    have : (sizeLine : Nat) ≤ (2 ^ 63 - 1) / 8 := by decide
    omega
  have hfit : ¬ (!Builtin.List.listFitsIndex k) = true := by
    rw [fitsIndex_both h1 h2]
    exact Bool.false_ne_true
  have hlong : ¬ Builtin.List.listTooLong (its.toArray.size * k.toNat) = true := by
    rw [notLongL hlen]
    exact Bool.false_ne_true
  have hnew : List.foldl (fun x1 x2 => x1 ++ x2) #[] (List.replicate (if its.toArray.isEmpty = true then 0 else k.toNat) its.toArray) = (List.replicate k.toNat its).flatten.toArray := by
    have f0 : ∀ m : Nat, List.foldl (fun x1 x2 => x1 ++ x2) #[] (List.replicate m its.toArray) = (List.replicate m its).flatten.toArray := fun m => by
      have := foldl_rep its m []
      rw [List.nil_append] at this
      exact this
    rw [f0]
    cases its with
    | nil => simp
    | cons a r' => rw [if_neg (by simp)]
  refine wpAny_binaryOp_repeat_ref (T := "list") (U := "int") (by decide) ⟨_, e, rfl⟩ (fun s' => typeIs_int s' k t) noFill_list_mul F.fills_int_mul F.slot_int_rmul repeat_list F.slot_int_index.lookup
    (call_meets F.slot_int_rmul (typeIs_int s k t) F.entry_int_rmul (F.args_int_rmul_2 _ _) (int___rmul___int_list k t l its.toArray n)
      ⟨e, rfl, ⟨_, e, rfl⟩, call_meets F.slot_list_mul ⟨_, e, rfl⟩ F.entry_list_mul (F.args_list_mul_2 _ _) (AutoListH.list___mul___list_int_3 l its.toArray n k t hfit hcap hlong) ⟨e, ?_⟩⟩)
  rw [hnew]
  exact ⟨.ref _, _, I.lnew (t' := s.toks) (r.rep k.toNat) (by rw [len_rep, Nat.mul_comm]; exact hz), rfl, q _ I.fresh⟩
end
end L2
namespace L2
open PySem PySem.Spec PyProof.Rows
section
variable {κ : Type} [DecidableEq κ]
theorem KV.length {kvs : List (κ × V)} {vs : List (κ × Value)} (r : KV kvs vs) : kvs.length = vs.length := Paired.length r
end
structure M1 (X : Cx) (o : Expr) (m : Str) (apos : Pos) (e : Expr) (cpos : Pos) : Prop where
  base : attributeBase o m X.env (eval o X.env) = eval o X.env
  few : ((backTo cpos (starEach [e] X.env)).all (fun x => !x.1) && (backToKw cpos (keywordEach [] X.env)).all (fun x => x.1.isSome)
    && decide (([e] : List Expr).length + ([] : List Keyword).length + (if ([] : List Keyword).isEmpty then 0 else 1) < 30)) = true
  line : (apos.endLine == cpos.line) = true
  trees : backTo cpos (starEach [e] X.env) = [(false, eval e X.env)]
structure M2 (X : Cx) (o : Expr) (m : Str) (apos : Pos) (e f : Expr) (cpos : Pos) : Prop where
  base : attributeBase o m X.env (eval o X.env) = eval o X.env
  few : ((backTo cpos (starEach [e, f] X.env)).all (fun x => !x.1) && (backToKw cpos (keywordEach [] X.env)).all (fun x => x.1.isSome)
    && decide (([e, f] : List Expr).length + ([] : List Keyword).length + (if ([] : List Keyword).isEmpty then 0 else 1) < 30)) = true
  line : (apos.endLine == cpos.line) = true
  trees : backTo cpos (starEach [e, f] X.env) = [(false, eval e X.env), (false, eval f X.env)]
end L2
namespace Att
open PySem PySem.W PySem.Calls PyProof.Rows
theorem ints_of_wellAll {P : Params} {h : Heap} : ∀ (ns : List Int) (vs : List Value), WellAll P h vs (ns.map WData.int) → IntsAre vs ns := by
  intro ns
  induction ns with
  | nil =>
    intro vs w
    rw [List.map_nil] at w
    cases w
    exact .nil
  | cons n ns ih =>
    intro vs w
    rw [List.map_cons] at w
    cases w with
    | cons a b =>
      cases a
      exact .cons _ _ (ih _ b)
theorem script_of {l : OpenLaw} {n : Nat} (hn : l.most = some n) {P : Params} {h : Heap} {args : List WData} {vals : List Value}
    (hpre : l.row.toRowW.claim.pre args = true) (hwl : WellAll P h vals args) :
    ∃ a vs ns, vals = [Value.ref a] ∧ args = [WData.list (ns.map WData.int)] ∧ h.get? a = some { cls := .type "list", data := .seq vs.toArray } ∧ IntsAre vs ns ∧ ns.length ≤ n := by
  have hsh : WShape.hasAll [] args [.list .int] = true := (pre_splitW hpre).1
  have hc : l.pre.holds [] { args := args } = true := (pre_splitW hpre).2
  obtain ⟨d, r, rfl, h1, h2⟩ := hasAllW_cons hsh
  obtain rfl := hasAllW_nil h2
  obtain ⟨xs, rfl, h3⟩ := hasW_list h1
  obtain ⟨ns, rfl⟩ := items_int h3
  have hlen : ns.length ≤ n := by
    unfold OpenLaw.pre at hc
    have h4 : (WTm.not (.lt (.lit (.int (n : Int))) (.len (.arg 0)))).holds [] { args := [.list (ns.map .int)] } = true := by
      have h4 := (holds_andW hc).1
      rw [hn] at h4
      exact h4
    have h5 := condW_of h4 (w_not (w_lt w_lit (w_len_list (w_arg rfl))))
    rw [List.length_map] at h5
    refine Nat.le_of_not_lt fun q => ?_
    have q' : (n : Int) < ((ns.length : Nat) : Int) := by omega
    first
      | (rw [decide_eq_true q'] at h5; exact absurd h5 (by decide))
      | (simp at h5; omega)
  cases hwl with
  | cons w1 w2 =>
    cases w2
    cases w1 with
    | list ho hall => exact ⟨_, _, ns, rfl, rfl, ho, ints_of_wellAll ns _ hall, hlen⟩
theorem post_true (l : OpenLaw) (args : List WData) : l.row.toRowW.claim.post args (.bool true) args = true :=
  postW_of (r := l.row.toRowW) (X := (true == true))
    (show WShape.has [] (.bool true) .bool = true by first | rfl | decide | simp [WShape.has, WShape.arms, WShape.armsAll])
    (show (WTm.eq .res (.lit (.bool true))).value [] { args := args, res := some (.bool true), after := args } = some (.bool (true == true)) from w_eq_bool (w_res rfl) w_lit) rfl
theorem attach_call {l : OpenLaw} {n : Nat} {q : Program} {loose : List Str} {XP : (Str → Option Value) → Heap → Prop} {YP : World → Heap → Prop} {d : DefRec}
    (hn : l.most = some n) (hdf : d.params.defaults = [])
    (call : ∀ (w : World) (s₀ s₁ : Shared) (mg mb : Str → Option Value) (fa : Addr) (o : Obj) (pm cd doc : Value) (a : Addr) (vs : List Value) (ns : List Int),
      Ground q loose [] XP w s₀ mg mb s₁.heap → YP w s₁.heap →
      s₁.heap.get? fa = some o → o.data = .func (docDef d.name d.params d.body d.scope pm cd doc) → s₁.heap.CodeRec cd d.name → mg d.name = some (.ref fa) →
      s₁.heap.get? a = some { cls := .type "list", data := .seq vs.toArray } → IntsAre vs ns → ns.length ≤ n → s₁.gens = #[] →
      codeAny (model l.prog w) callerA (.call (.ref fa) ⟨[.ref a], []⟩) (fun r s' => r = .ok (.ret (.bool true)) ∧ OldK s₁.heap s'.heap ∧ s'.os = s₁.os ∧ AllBare s'.gens) s₁) :
    WalkO q loose XP YP l.row.toRowW d [] (fun f vs => PySem.call f vs) := by
  intro w s₀ s₁ mg mb G Y fa o pm cd doc dV kV ho hd hcd hD hmg hg args vals as hpre hlay hrd hwl hlo
  obtain rfl : dV = .none := Dflts.none hD hdf
  obtain rfl : kV = .none := Dflts.noKw hD
  obtain ⟨a, vs, ns, rfl, rfl, hobj, hints, hlen⟩ := script_of hn hpre hwl
  refine enter_call (codeAny_mono (call w s₀ s₁ mg mb fa o pm cd doc a vs ns G Y ho (fd_plain hd) hcd hmg hobj hints hlen hg) fun r s' hq => ?_)
  obtain ⟨rfl, h2, h3, h4⟩ := hq
  exact ⟨.inl ⟨.bool true, .bool true, [], rfl, fun _ => rfl, .bool true, post_true l _, fun _ => ⟨List.Pairwise.nil, fun _ hm => (nomatch hm)⟩⟩, h2, h3, h4⟩
section
variable {prog : Program} {w : World} {A : Around} {E : Value → Shared → Prop} {s : Shared} {K : Frag}
def ledger (h : Heap) (L d : Addr) : List (Addr × Obj) := (List.range h.objs.size).filterMap fun a => if a = L ∨ a = d then none else (h.get? a).map fun o => (a, o)
end
end Att
namespace L2
open PySem PySem.Spec PyProof.Rows
theorem vals_ints : ∀ {vs : List Value} {ns : List Int}, IntsAre vs ns → Vals (ns.map V.int) vs
  | _, _, .nil => .nil
  | _, _, .cons n t h => .cons ⟨t, rfl⟩ (vals_ints h)
def Only (H : Hp) : Prop := ∀ b, H b = none ∨ ∃ o xs, H b = some (.frz o (.lst xs))
theorem law_call {P : Program} {w : World} {K : PySem.W.Frag} {mg mb : Str → Option Value} {CX : CXT} {k : Nat} {fa a : Addr} {fd : FuncData} {x : Str} {sp : Sp} {s₁ : Shared} {vs : List Value} {ns : List Int}
    (KX : K.In s₁.heap) (hns : s₁.heap.Ns mainGlobals mg) (hb : s₁.heap.Ns builtinsNs mb) (hbb : ∀ x : Str, x ≠ "__name__" → mb x = bootBuiltins x) (hlim : s₁.heap.NoLimit) (hg : s₁.gens = #[])
    (ha : s₁.heap.get? a = some { cls := .type "list", data := .seq vs.toArray }) (hi : IntsAre vs ns) (hl : ns.length ≤ sizeLine) (hr : Room k callerA)
    (F : ∀ base : Heap, K.In base → base.Ns mainGlobals mg → FnOk P w K mg base CX k fa fd [x] sp) (hbind : ∀ (s : Shared) (u : Value), BindsTo s fd ⟨[u], []⟩ [(x, u)])
    (hsp : ∀ H : Hp, Only H → SqL K H a (ns.map V.int) → sp [.ref a] H (fun v _ => v = .bl true) fun _ _ _ => False)
    (hCX : ∀ H e s', CX [] H s₁ (fun _ _ _ => False) e s' → False) :
    codeAny (model P w) callerA (.call (.ref fa) ⟨[.ref a], []⟩) (fun r s' => r = .ok (.ret (.bool true)) ∧ OldK s₁.heap s'.heap ∧ s'.os = s₁.os ∧ AllBare s'.gens) s₁ := by
  have rv := vals_ints hi
  have lenV := hi.length
  -- from an abstract heap in which nothing but the script may be tracked
  have core : ∀ H : Hp, Only H → SqL K H a (ns.map V.int) → HOk P w H s₁.heap → (∀ b, H b ≠ none → b = a) → (H a ≠ none → K.lookup a = none) →
      codeAny (model P w) callerA (.call (.ref fa) ⟨[.ref a], []⟩) (fun r s' => r = .ok (.ret (.bool true)) ∧ OldK s₁.heap s'.heap ∧ s'.os = s₁.os ∧ AllBare s'.gens) s₁ := by
    intro H hO hS hok hA hK
    have base_of : ∀ {b : Addr} {o : Obj}, s₁.heap.get? b = some o → H b = none → (hidT s₁.heap H).get? b = some o := fun e n => hidT_get e n
    have noA : ∀ {b : Addr} {o : Obj} {es : Array DictEntry} {ep : Nat}, s₁.heap.get? b = some o → o.data = .dict es ep → H b = none := fun {b o es ep} e d => by
      cases q : H b with
      | none => rfl
      | some u =>
        have e' : b = a := hA b (by rw [q]; simp)
        subst e'
        rw [ha] at e; cases e
        have d' : Data.seq vs.toArray _ = Data.dict es ep := d
        cases d'
    have nsK : ∀ {b : Addr} {m : Str → Option Value}, s₁.heap.Ns b m → (hidT s₁.heap H).Ns b m := fun {b m} ⟨o, es, ep, e, d, r⟩ => ⟨o, es, ep, base_of e (noA e d), d, r⟩
    have hKb : K.In (hidT s₁.heap H) := fun b o e => base_of (KX b o e) (by
      cases q : H b with
      | none => rfl
      | some u =>
        have e' : b = a := hA b (by rw [q]; simp)
        subst e'
        rw [hK (by rw [q]; simp)] at e; cases e)
    have hM : Mod K mg (hidT s₁.heap H) := ⟨hKb, nsK hns, ⟨mb, nsK hb, hbb⟩, let ⟨mc, h1, h2⟩ := hlim; ⟨mc, nsK h1, h2⟩⟩
    have e0 : Env0 P w K mg (hidT s₁.heap H) callerA [] s₁ H := ⟨rfl, hM, fun b o e => of_hidT e, Nat.le_of_eq (hidT_size _ _), trivial, fun b hb => absurd (show b ∈ ([] : List Addr) from hb) (by simp), hok, .of_eq hg⟩
    refine codeAny_mono ((F _ hKb (nsK hns)).run callerA [] s₁ H ⟨[.ref a], []⟩ [.ref a] [.ref a] _ _ hr e0 (hbind s₁ (.ref a)) (.cons rfl .nil) (hsp H hO hS)) fun r s' h => ?_
    cases r with
    | error e => exact (hCX H e s' h).elim
    | ok fl =>
      cases fl with
      | next => exact False.elim h
      | brk => exact False.elim h
      | cont => exact False.elim h
      | ret u =>
        obtain ⟨v, H', os, bare, un, hok', r', q⟩ := h
        have q' : v = .bl true := q
        subst q'
        obtain rfl : u = Value.bool true := r'
        refine ⟨rfl, OldK.of_keep fun b o e => ?_, os, bare⟩
        cases q : H b with
        | none => exact un.keep b o e q (by intro z; exact absurd (show b ∈ ([] : List Addr) from z) (by simp)) (by simp)
        | some u =>
          rcases hO b with z | ⟨ob, xs, z⟩
          · rw [q] at z; cases z
          · have z2 := un.frzs b ob _ z
            obtain ⟨e1, _⟩ := hok b _ z
            obtain ⟨e2, _⟩ := hok' b _ z2
            rw [e] at e1; cases e1
            exact e2
  cases hk : K.lookup a with
  | some o =>
    -- the script is one of the module's own objects
    have e := KX a o hk
    rw [ha] at e
    cases e
    refine core (fun _ => none) (fun _ => .inl rfl) (.inr ⟨_, vs.toArray, _, hk, rfl, rfl, rfl, by rw [List.size_toArray, lenV]; exact hl, by simpa using rv⟩) (fun b u z => by have z' : (none : Option HO) = some u := z; cases z') (fun b z => absurd rfl z) fun z => absurd rfl z
  | none =>
    refine core (fun b => if b = a then some (.frz { cls := .type "list", data := .seq vs.toArray } (.lst (ns.map V.int))) else none) (fun b => ?_) (.inl (.inr ⟨{ cls := .type "list", data := .seq vs.toArray }, if_pos rfl⟩)) (fun b u z => ?_) (fun b z => ?_) fun _ => hk
    · by_cases hb : b = a
      · exact .inr ⟨_, _, if_pos hb⟩
      · exact .inl (if_neg hb)
    · by_cases hb : b = a
      · have z' := (if_pos hb).symm.trans z
        cases z'
        subst hb
        exact ⟨ha, by rw [List.length_map]; exact hl, vs, _, rv, ha⟩
      · have z' := (if_neg hb).symm.trans z
        cases z'
    · by_cases hb : b = a
      · exact hb
      · exact absurd (if_neg hb) z
end L2
namespace L2
open PySem PySem.Spec PyProof.Rows
theorem walk_of {l : PySem.W.OpenLaw} {n k : Nat} {q : Program} {loose : List Str} {XP : (Str → Option Value) → Heap → Prop} {YP : World → Heap → Prop} {d : DefRec} {K : Params → PySem.W.Frag} {CX : World → CXT} {sp : World → Sp} {x : Str}
    (hn : l.most = some n) (hn2 : n ≤ sizeLine) (hdf : d.params.defaults = []) (hr : Room k callerA)
    (hY : ∀ (w : World) (h : Heap), YP w h → (K w.params).In h)
    (F : ∀ (w : World) (mg : Str → Option Value) (fa : Addr) (h : Heap), (K w.params).In h → h.Ns mainGlobals mg → mg d.name = some (.ref fa) →
      ∃ fd : FuncData, (∀ (s : Shared) (u : Value), BindsTo s fd ⟨[u], []⟩ [(x, u)]) ∧
        ∀ base : Heap, (K w.params).In base → base.Ns mainGlobals mg → FnOk l.prog w (K w.params) mg base (CX w) k fa fd [x] (sp w))
    (hsp : ∀ (w : World) (H : Hp) (a : Addr) (ns : List Int), ns.length ≤ n → Only H → SqL (K w.params) H a (ns.map V.int) → sp w [.ref a] H (fun v _ => v = .bl true) fun _ _ _ => False)
    (hCX : ∀ (w : World) (H : Hp) (s : Shared) (e : Value) (s' : Shared), CX w [] H s (fun _ _ _ => False) e s' → False) :
    PySem.W.WalkO q loose XP YP l.row.toRowW d [] (fun f vs => PySem.call f vs) := by
  refine Att.attach_call hn hdf fun w s₀ s₁ mg mb fa o pm cd doc a vs ns G Y ho hd hcd hmg hobj hints hlen hg => ?_
  have KX := hY w _ Y
  obtain ⟨fd, hb, hF⟩ := F w mg fa _ KX G.T.g hmg
  exact law_call KX G.T.g G.T.b G.T.builtins G.T.nolimit hg hobj hints (Nat.le_trans hlen hn2) hr hF hb (fun H hO hS => hsp w H a ns hlen hO hS) fun H e s' => hCX w H s₁ e s'
end L2
namespace L2
open PySem PySem.Spec PyProof.Rows
def defArgs (s : Stmt) : Arguments := match s with
  | .FunctionDef _ a _ _ _ _ _ _ _ _ => a
  | _ => { posonlyargs := [], args := [], vararg := none, kwonlyargs := [], kw_defaults := [], kwarg := none, defaults := [] }
def defBody (s : Stmt) : List Stmt := match s with
  | .FunctionDef _ _ b _ _ _ _ _ _ _ => b
  | _ => []
def defScope (s : Stmt) : Scope := match s with
  | .FunctionDef _ _ _ _ _ _ sc _ _ _ => sc
  | _ => { kind := .function, names := [], isGenerator := false, isCoroutine := false }
abbrev CX0 : CXT := fun _ _ _ _ _ _ => False
abbrev E0 : XK := fun _ _ _ => False
theorem pass0 {X : Cx} : Passes CX0 X E0 := fun _ _ _ _ _ _ _ h => h.elim
structure Fun (K : PySem.W.Frag) (x qual : Str) (st : Stmt) (f : Addr) (fd : FuncData) : Prop where
  ex : ∃ (oc : Value) (od : Option Addr) (kV doc pm : Value) (an : Option Addr) (cdv ct : Value) (osl : Array (Option Value)),
    fd = PySem.W.fnOf x qual (defArgs st) (defBody st) (defScope st) .none kV doc pm an cdv ct ∧ K.lookup f = some ⟨oc, od, .func fd, osl⟩ ∧ PySem.W.codeIn K cdv qual = true
  kp : PySem.W.keepIn K (.ref f) = true
section
variable {P : Program} {w : World} {K : PySem.W.Frag} {mg : Str → Option Value} {base : Heap}
theorem Fun.ok {x qual : Str} {st : Stmt} {f : Addr} {fd : FuncData} {N ps : List Str} {k : Nat} {sp : Sp} (F : Fun K x qual st f fd) (S : FnScope N ps (defScope st)) (len : ∀ vs H Q E, sp vs H Q E → vs.length = ps.length)
    (hbody : ∀ (cdv : Value) (A : Around) (outer : List Env) (s : Shared) (H : Hp) (vs : List V) (Q : VK) (E : XK), Room k (A.deeper (envOfC qual (defScope st) s.heap.objs.size f cdv)) → sp vs H Q E →
      ∃ t, PSs (cxOf CX0 P w K mg base N qual (defScope st) f cdv A outer s H E).nox (defBody st) t ∧ t { nx := fun _ H' => Q .non H', rt := Q } (start N vs) H) : FnOk P w K mg base CX0 (k + 1) f fd ps sp := by
  obtain ⟨oc, od, kV, doc, pm, an, cdv, ct, osl, rfl, lk, hcd⟩ := F.ex
  refine fn_of lk hcd S len fun A outer s H vs Q E hr hsp => ?_
  obtain ⟨t, h, q⟩ := hbody cdv A outer s H vs Q E hr hsp
  exact ⟨t, h.nox, q⟩
theorem Fun.binds {x qual : Str} {st : Stmt} {f : Addr} {fd : FuncData} {ps : List Str} (F : Fun K x qual st f fd)
    (h : ∀ (kV doc pm : Value) (an : Option Addr) (cdv ct : Value) (us : List Value), us.length = ps.length → bindArgs (PySem.W.fnOf x qual (defArgs st) (defBody st) (defScope st) .none kV doc pm an cdv ct) ⟨us, []⟩ = pure (ps.zip us)) : Binds K fd ps [] := by
  obtain ⟨oc, od, kV, doc, pm, an, cdv, ct, osl, rfl, lk, hcd⟩ := F.ex
  exact .all (h kV doc pm an cdv ct)
theorem fun_mk {x qual : Str} {st : Stmt} {f : Addr} {oc : Value} {od an : Option Addr} {osl : Array (Option Value)} {kV doc pm cdv ct : Value} (l : K.lookup f = some ⟨oc, od, .func (PySem.W.fnOf x qual (defArgs st) (defBody st) (defScope st) .none kV doc pm an cdv ct), osl⟩)
    (c : PySem.W.codeIn K cdv qual = true) (k : PySem.W.keepIn K (.ref f) = true) : Fun K x qual st f (PySem.W.fnOf x qual (defArgs st) (defBody st) (defScope st) .none kV doc pm an cdv ct) := ⟨⟨oc, od, kV, doc, pm, an, cdv, ct, osl, rfl, l, c⟩, k⟩
end
section
variable {X : Cx}
theorem pv (i : Nat) {x : Str} {pos : Pos} (hN : X.N[i]? = some x := by rfl) (hv : Vis X.env.scope x := by first | exact Or.inl rfl | exact Or.inr (Or.inl rfl) | exact Or.inr (Or.inr rfl)) (hd : (x == ("__debug__" : Str)) = false := by decide)
    (hcd : (x == ("__classdict__" : Str)) = false := by decide) : PE X (.Name x pos) (tVar i) := pe_var hN hv hd hcd
end
theorem iteF {A B : Prop} (h : B) : if false = true then A else B := by
  rw [if_neg Bool.false_ne_true]
  exact h
theorem iteT {A B : Prop} (h : A) : if true = true then A else B := by
  rw [if_pos rfl]
  exact h
theorem ite2 {c A B : Prop} [Decidable c] (h1 : c → A) (h2 : ¬ c → B) : if c then A else B := by
  by_cases h : c
  · rw [if_pos h]
    exact h1 h
  · rw [if_neg h]
    exact h2 h
def Same (H H' : Hp) : Prop := ∀ b o, H b = some o → H' b = some o
theorem Same.refl (H : Hp) : Same H H := fun _ _ h => h
theorem Same.trans {H H1 H2 : Hp} (a : Same H H1) (b : Same H1 H2) : Same H H2 := fun c o h => b c o (a c o h)
theorem Same.free {H H' : Hp} (e : Same H H') {l : Addr} (h : H' l = Option.none) : H l = Option.none := by
  cases q : H l with
  | none => rfl
  | some o =>
    rw [e l o q] at h
    cases h
theorem Same.seq {K : PySem.W.Frag} {H H' : Hp} {a : Addr} {xs : List V} (e : Same H H') (h : SqL K H a xs) : SqL K H' a xs := by
  rcases h with (h | ⟨o, h⟩) | h
  · exact .inl (.inl (e _ _ h))
  · exact .inl (.inr ⟨o, e _ _ h⟩)
  · exact .inr h
end L2
namespace L2
open PySem PySem.Spec PyProof.Rows
def closL (cells : List (Str × Addr)) : List (Str × NameKind) → List (Str × Addr) → List (Str × Addr)
  | [], acc => acc
  | (n, k) :: r, acc => if (k == NameKind.free) = true then (match cells.lookup n with | some c => closL cells r ((n, c) :: acc) | none => closL cells r acc) else closL cells r acc
theorem closL_run {env : Env} : ∀ (ns : List (Str × NameKind)) (acc : List (Str × Addr)), (∀ y ∈ ns, y.2 = .free → ∃ c, env.cells.lookup y.1 = some c) →
    (forIn ns acc (fun x cs => (match x with | (name, kind) => if (kind == NameKind.free) = true then (do let c ← cellOf env name; pure (ForInStep.yield ((name, c) :: cs))) else pure (ForInStep.yield cs))) : Sem (List (Str × Addr))) = pure (closL env.cells ns acc)
  | [], acc, _ => rfl
  | (n, k) :: r, acc, h => by
    rw [List.forIn_cons]
    by_cases hk : (k == NameKind.free) = true
    · obtain ⟨c, hc⟩ := h (n, k) List.mem_cons_self (by simpa using hk)
      have hc : env.cells.lookup n = some c := hc
      have e := closL_run (env := env) r ((n, c) :: acc) fun y hy => h y (List.mem_cons_of_mem _ hy)
      simp only [closL, hk, if_true, cellOf, hc, pure_bind]
      exact e
    · have e := closL_run (env := env) r acc fun y hy => h y (List.mem_cons_of_mem _ hy)
      have hk : (k == NameKind.free) = false := by simpa using hk
      simp only [closL, hk, Bool.false_eq_true, if_false, pure_bind]
      exact e
theorem closureFor_eq {scope : Scope} {env : Env} (h : ∀ y ∈ scope.names, y.2 = .free → ∃ c, env.cells.lookup y.1 = some c) : closureFor scope env = pure (closL env.cells scope.names []) := by
  have e := closL_run (env := env) scope.names [] h
  unfold closureFor
  simp only [bind_pure]
  first
    | exact e
    | (refine Eq.trans ?_ e; congr 1)
    | (simp only [bind_pure_comp] at e ⊢; exact e)
theorem closL_sub {cells : List (Str × Addr)} : ∀ {ns : List (Str × NameKind)} {acc : List (Str × Addr)} {x : Str} {c : Addr}, (closL cells ns acc).lookup x = some c → acc.lookup x = some c ∨ cells.lookup x = some c
  | [], acc, x, c, h => .inl h
  | (n, k) :: r, acc, x, c, h => by
    unfold closL at h
    split at h
    · split at h
      · rename_i q hq
        rcases closL_sub h with z | z
        · rw [List.lookup_cons] at z
          cases hx : x == n with
          | true =>
            rw [hx] at z
            cases z
            have : x = n := by simpa using hx
            subst this
            exact .inr hq
          | false =>
            rw [hx] at z
            exact .inl z
        · exact .inr z
      · exact closL_sub h
    · exact closL_sub h
theorem closL_has {cells : List (Str × Addr)} : ∀ {ns : List (Str × NameKind)} {acc : List (Str × Addr)} {x : Str} {c : Addr}, cells.lookup x = some c → ((x, NameKind.free) ∈ ns ∨ acc.lookup x = some c) → (closL cells ns acc).lookup x = some c
  | [], acc, x, c, hc, h => h.elim (fun z => nomatch z) fun z => z
  | (n, k) :: r, acc, x, c, hc, h => by
    unfold closL
    split
    · rename_i hk
      split
      · rename_i q hq
        refine closL_has hc ?_
        rcases h with h | h
        · rcases List.mem_cons.mp h with e | h
          · cases e
            rw [hc] at hq
            cases hq
            exact .inr (by simp)
          · exact .inl h
        · by_cases e : x = n
          · subst e
            rw [hc] at hq
            cases hq
            exact .inr (by simp)
          · exact .inr (by rw [List.lookup_cons, (by simpa using e : (x == n) = false)]; exact h)
      · rename_i hq
        refine closL_has hc ?_
        rcases h with h | h
        · rcases List.mem_cons.mp h with e | h
          · cases e
            rw [hc] at hq
            cases hq
          · exact .inl h
        · exact .inr h
    · rename_i hk
      refine closL_has hc ?_
      rcases h with h | h
      · rcases List.mem_cons.mp h with e | h
        · cases e
          exact absurd rfl hk
        · exact .inl h
      · exact .inr h
theorem lookup_relabel_free {env : Env} : ∀ {names : List (Str × NameKind)} {x : Str}, names.lookup x = some .free →
    (names.map fun (n, k) => if (k == NameKind.free && env.scope.kind == .function && env.kindOf n == some .cell) then (n, NameKind.cell) else (n, k)).lookup x = some .cell ∨
    (names.map fun (n, k) => if (k == NameKind.free && env.scope.kind == .function && env.kindOf n == some .cell) then (n, NameKind.cell) else (n, k)).lookup x = some .free
  | [], _, h => by simp at h
  | (n, k) :: r, x, h => by
    have ih := @lookup_relabel_free env r x
    show List.lookup x ((if (k == NameKind.free && env.scope.kind == .function && env.kindOf n == some .cell) = true then (n, NameKind.cell) else (n, k)) :: _) = _ ∨ List.lookup x ((if (k == NameKind.free && env.scope.kind == .function && env.kindOf n == some .cell) = true then (n, NameKind.cell) else (n, k)) :: _) = _
    cases hx : x == n with
    | true =>
      simp only [List.lookup_cons, hx] at h
      cases h
      by_cases hc : (NameKind.free == NameKind.free && env.scope.kind == .function && env.kindOf n == some .cell) = true
      · rw [if_pos hc]; simp [List.lookup_cons, hx]
      · rw [if_neg hc]; simp [List.lookup_cons, hx]
    | false =>
      simp only [List.lookup_cons, hx] at h
      by_cases hc : (k == NameKind.free && env.scope.kind == .function && env.kindOf n == some .cell) = true
      · rw [if_pos hc]; simp only [List.lookup_cons, hx]; exact ih h
      · rw [if_neg hc]; simp only [List.lookup_cons, hx]; exact ih h
theorem of_relabel {env : Env} : ∀ {names : List (Str × NameKind)} {x : Str} {q : NameKind}, (names.map fun (n, k) => if (k == NameKind.free && env.scope.kind == .function && env.kindOf n == some .cell) then (n, NameKind.cell) else (n, k)).lookup x = some q →
    (∀ y ∈ names, y.2 ≠ .cell) → q = .cell ∨ q = .free → (x, NameKind.free) ∈ names
  | [], _, _, h, _, _ => by simp at h
  | (n, k) :: r, x, q, h, hn, hq => by
    have ih := @of_relabel env r x q
    have h : List.lookup x ((if (k == NameKind.free && env.scope.kind == .function && env.kindOf n == some .cell) = true then (n, NameKind.cell) else (n, k)) :: r.map fun (n, k) => if (k == NameKind.free && env.scope.kind == .function && env.kindOf n == some .cell) then (n, NameKind.cell) else (n, k)) = some q := h
    have nk : k ≠ .cell := hn (n, k) List.mem_cons_self
    have hn' : ∀ y ∈ r, y.2 ≠ .cell := fun y hy => hn y (List.mem_cons_of_mem _ hy)
    cases hx : x == n with
    | true =>
      have e : x = n := by simpa using hx
      subst e
      by_cases hc : (k == NameKind.free && env.scope.kind == .function && env.kindOf x == some .cell) = true
      · have : k = .free := by
          simp only [Bool.and_eq_true] at hc
          simpa using hc.1.1
        subst this
        exact List.mem_cons_self
      · rw [if_neg hc] at h
        simp only [List.lookup_cons, hx] at h
        cases h
        rcases hq with z | z
        · exact absurd z nk
        · rw [z]; exact List.mem_cons_self
    | false =>
      by_cases hc : (k == NameKind.free && env.scope.kind == .function && env.kindOf n == some .cell) = true
      · rw [if_pos hc] at h; simp only [List.lookup_cons, hx] at h; exact List.mem_cons_of_mem _ (ih h hn' hq)
      · rw [if_neg hc] at h; simp only [List.lookup_cons, hx] at h; exact List.mem_cons_of_mem _ (ih h hn' hq)
end L2
namespace L2
open PySem PySem.Spec PyProof.Rows
def startC (ix : List (Option Nat)) (σ : St) : St := ix.map fun o => o.bind fun i => (σ[i]?).join
def cxC (X : Cx) (N : List Str) (scope : Scope) (C : Addr) (fp : List Addr) (s : Shared) (H : Hp) : Cx :=
  { X with N := N, s₀ := s, H₀ := H, env := compEnvC scope (closL X.env.cells scope.names []) C X.env, outer := X.stack, stack := X.stack, ex := fp, fn := fun _ => false, xe := fun _ _ => False }
structure CompOk (X : Cx) (scope : Scope) (N : List Str) (ix : List (Option Nat)) : Prop where
  kind : scope.kind = .function
  nocell : ∀ y ∈ scope.names, y.2 ≠ .cell
  len : ix.length = N.length
  names : ∀ y ∈ scope.names, y.2 = .local → scope.names.lookup y.1 = some .local
  fr : ∀ y ∈ scope.names, y.2 = .free → X.env.kindOf y.1 = some .cell ∨ X.env.kindOf y.1 = some .free
  cap : ∀ (j i : Nat), ix[j]? = some (some i) → ∃ x : Str, N[j]? = some x ∧ X.N[i]? = some x ∧ scope.names.lookup x = some .free ∧ (x, NameKind.free) ∈ scope.names
theorem mem_of_lookup {names : List (Str × NameKind)} {x : Str} {k : NameKind} (h : names.lookup x = some k) : (x, k) ∈ names := by
  induction names with
  | nil => simp at h
  | cons p r ih =>
    obtain ⟨n, q⟩ := p
    rw [List.lookup_cons] at h
    cases hx : x == n with
    | true =>
      rw [hx] at h; cases h; have : x = n := by simpa using hx
      subst this; exact List.mem_cons_self
    | false => rw [hx] at h; exact List.mem_cons_of_mem _ (ih h)
section
variable {X : Cx} {pins : List (Addr × Obj)} {σ : St} {H : Hp} {s : Shared} {scope : Scope} {N : List Str} {ix : List (Option Nat)} {fp : List Addr}
theorem CompOk.ok (c : CompOk X scope N ix) (I : Inv X pins σ H s) (hf : ∀ b ∈ fp, FpOk X pins H b) (hlt : ∀ b ∈ fp, b < s.heap.objs.size) {C : Nat} (hC : s.heap.objs.size ≤ C) : (cxC X N scope C fp s H).Ok where
  mod := I.ok.mod
  kind := c.kind
  glob := I.ok.glob
  blt := I.ok.blt
  above := hC
  inj := fun x y d h1 h2 => by
    have h1 : (closL X.env.cells scope.names []).lookup x = some d := h1
    have h2 : (closL X.env.cells scope.names []).lookup y = some d := h2
    rcases closL_sub h1 with z | z
    · simp at z
    · rcases closL_sub h2 with z' | z'
      · simp at z'
      · exact I.ok.inj x y d z z'
  has := fun x h => by
    have hm : (x, NameKind.free) ∈ scope.names := by
      rcases h with h | h
      · exact of_relabel h c.nocell (.inl rfl)
      · exact of_relabel h c.nocell (.inr rfl)
    obtain ⟨d, hd⟩ := I.ok.has x (c.fr _ hm rfl)
    exact ⟨d, closL_has hd (.inl hm)⟩
  cab := fun x d h => by cases h
  hd := I.ok.hd
  frames := I.ok.frames
  stk := .inl rfl
  exf := fun b hb => by
    refine ⟨fun z => ?_, fun x d e z => ?_⟩
    · have z : b = C := z
      have := hlt b hb
      rw [z] at this
      exact absurd (Nat.lt_of_lt_of_le this hC) (Nat.lt_irrefl _)
    · rcases closL_sub e with q | q
      · simp at q
      · exact (hf b hb).2.2.2.2.1 x d q z
  bs := fun b o e => I.bs b o e
  bsz := Nat.le_trans I.ok.bsz I.sz
  noex := fun b o e hb => by
    rcases (hf b hb).2.2.2.1 with z | z
    · exact I.ok.noex b o e z
    · exact absurd (Nat.lt_of_lt_of_le (Heap.lt_size (I.ok.bs b o e).1) z) (Nat.lt_irrefl _)
  exfs := fun b hb z => by
    rcases List.mem_cons.mp (I.stkSub b z) with e | e
    · exact (hf b hb).2.1 e
    · exact (hf b hb).2.2.1 e
  funs := I.stack
  frf := I.stkFree
theorem CompOk.enter (c : CompOk X scope N ix) (I : Inv X pins σ H s) (hf : ∀ b ∈ fp, FpOk X pins H b) (ho : ∀ b ∈ fp, ∃ o, s.heap.get? b = some o ∧ ∀ v, o.data ≠ .cell v) {C D : Nat} {h' : Heap} {t' : Nat} {m : Str → Option Value} {oD : Obj} (hC : C = s.heap.objs.size + 1) (hD : D = s.heap.objs.size)
    (k : ∀ b o, s.heap.get? b = some o → h'.get? b = some o) (hn : h'.Ns C m) (hoD : h'.get? D = some oD) (hdD : ∀ v, oD.data ≠ .cell v) :
    Inv (cxC X N scope C fp s H) (pins ++ [(D, oD)]) (startC ix σ) H { s with heap := h', toks := t' } := by
  have hlt : ∀ b ∈ fp, b < s.heap.objs.size := fun b hb => let ⟨o, e, _⟩ := ho b hb; Heap.lt_size e
  have sub : ∀ x d, (closL X.env.cells scope.names []).lookup x = some d → X.env.cells.lookup x = some d := fun x d e => by
    rcases closL_sub e with z | z
    · simp at z
    · exact z
  refine ⟨c.ok I hf hlt (by omega), rfl, I.bare, Un.kept k, ⟨m, hn, fun j x v e1 e2 e3 => ?_⟩, fun x d e => ?_, I.hok.fresh (by show s.heap.objs.size ≤ C; omega), fun x d e => I.freeC x d (sub x d e), fun p hp => ?_, I.hok.kept k, ?_⟩
  · have e2 : (ix.map fun o => o.bind fun i => (σ[i]?).join)[j]? = some (some v) := e2
    rw [List.getElem?_map] at e2
    cases hj : ix[j]? with
    | none => rw [hj] at e2; cases e2
    | some o =>
      rw [hj] at e2
      cases o with
      | none => cases e2
      | some i =>
        have e2 : some ((σ[i]?).join) = some (some v) := e2
        obtain ⟨x', a1, a2, a3, a4⟩ := c.cap j i hj
        have e1 : N[j]? = some x := e1
        rw [e1] at a1
        cases a1
        have hs : σ[i]? = some (some v) := by
          have z := Option.some.inj e2
          cases q : σ[i]? with
          | none => rw [q] at z; cases z
          | some w => rw [q] at z; have z : w = some v := z; rw [z]
        have kx := c.fr _ a4 rfl
        obtain ⟨m0, hn0, hl0⟩ := I.loc
        obtain ⟨u, r, l⟩ := hl0 i x v a2 hs (kx.elim (fun z => .inr (.inl z)) fun z => .inr (.inr z))
        refine ⟨u, r, .inr ⟨?_, ?_⟩⟩
        · exact lookup_relabel_free (env := X.env) a3
        · rcases l with ⟨z, _⟩ | ⟨_, d, hd, hcell⟩
          · rcases kx with q | q <;> rw [q] at z <;> cases z
          · refine ⟨d, closL_has hd (.inl a4), ?_⟩
            obtain ⟨o, ho, hdt⟩ := hcell
            exact ⟨o, k d o ho, hdt⟩
  · obtain ⟨v, o, ho, hdt⟩ := I.cell x d (sub x d e)
    exact ⟨v, o, k d o ho, hdt⟩
  · have nstk : ∀ b, b ≠ X.env.locals → b ∉ X.fs → b ∉ frs X.stack := fun b h1 h2 z => by
      rcases List.mem_cons.mp (I.stkSub b z) with e | e
      · exact h1 e
      · exact h2 e
    have old : ∀ p ∈ X.pn ++ pins, h'.get? p.1 = some p.2 ∧ H p.1 = none ∧ p.1 ≠ C ∧ p.1 ∉ frs X.stack ∧ ∀ v, p.2.data ≠ .cell v := fun p hp => by
      obtain ⟨a1, a2, a3, a4, a5⟩ := I.pin p hp
      have : @LT.lt Nat _ p.1 s.heap.objs.size := Heap.lt_size a1
      exact ⟨k _ _ a1, a2, Nat.ne_of_lt (by rw [hC]; exact Nat.lt_succ_of_lt this), nstk _ a3 a4, a5⟩
    have hp : p ∈ X.pn ++ (pins ++ [(D, oD)]) := hp
    rcases List.mem_append.mp hp with z | z
    · exact old p (List.mem_append_left _ z)
    · rcases List.mem_append.mp z with z | z
      · exact old p (List.mem_append_right _ z)
      · have e : p = (D, oD) := by simpa using z
        subst e
        have lt : @LT.lt Nat _ X.env.locals s.heap.objs.size := I.lt
        refine ⟨hoD, I.hok.fresh (by show s.heap.objs.size ≤ D; omega), (by show (D : Nat) ≠ C; omega), nstk D (Nat.ne_of_gt (by rw [hD]; exact lt)) (I.nofs (by omega)), hdD⟩
  · show (ix.map _).length = N.length
    rw [List.length_map, c.len]
theorem CompOk.leave (c : CompOk X scope N ix) (I : Inv X pins σ H s) (hf : ∀ b ∈ fp, FpOk X pins H b) {C D : Nat} {σ' : St} {H' : Hp} {s' : Shared} {ys : List V} {its : List Value} {n : Nat} {pl : List (Addr × Obj)} (hC : C = s.heap.objs.size + 1) (hD : D = s.heap.objs.size)
    (I' : Inv (cxC X N scope C fp s H) (pl ++ [(D, { cls := .type "list", data := .seq its.toArray n })]) σ' H' s') (rv : Vals ys its) (hz : ys.length ≤ sizeLine) :
    Inv X pins σ (upd H' D (.lst ys)) s' := by
  have pD := I'.pin (D, _) (List.mem_append_right _ (List.mem_append_right _ List.mem_cons_self))
  have hDn : H' D = none := pD.2.1
  have u : Un (frs X.stack) fp H H' s.heap s'.heap := I'.base
  have hlt : ∀ b o, s.heap.get? b = some o → b ≠ D := fun b o e => Nat.ne_of_lt (by have : @LT.lt Nat _ b s.heap.objs.size := Heap.lt_size e; rw [hD]; exact this)
  refine I.call' (ch := fp) I'.os ?_ ?_ I'.bare fun b hb => ?_
  · refine ⟨u.keep, u.slot, fun b o e n hx => by rw [upd_ne (hlt b o e)]; exact u.free b o e n hx, u.there, fun b xs e => ?_, fun b o w e => ?_, fun b ps e => ?_⟩
    · have e' := u.tups b xs e
      rw [upd_ne (ne_of_none e' hDn)]; exact e'
    · have e' := u.frzs b o w e
      rw [upd_ne (ne_of_none e' hDn)]; exact e'
    · obtain ⟨more, e'⟩ := u.tbls b ps e
      exact ⟨more, by rw [upd_ne (ne_of_none e' hDn)]; exact e'⟩
  · intro b o e
    by_cases hb : b = D
    · subst hb
      rw [upd_same] at e
      cases e
      exact ⟨hz, its, n, rv, pD.1⟩
    · rw [upd_ne hb] at e
      refine (I'.hok b o e).stay (fun _ _ _ q => q) (fun a q => ?_) fun a xs q => ?_
      · rw [upd_ne (ne_of_none q hDn)]; exact q
      · rw [upd_ne (ne_of_none q hDn)]; exact q
  · obtain ⟨f0, f1, f2, f3, f4, f5⟩ := hf b hb
    exact ⟨f3, f1, f4, f5⟩
end
end L2
namespace L2
open PySem PySem.Spec PyProof.Rows
section
variable {prog : Program} {w : World} {A : Around} {R : Result → Shared → Prop} {s : Shared}
theorem compLoop_any {elt target iter : Expr} {ifs : List Expr} {scope : Scope} {pos : Pos} {it acc : Value} {env : Env} (I : Nat → Shared → Prop)
    (turn : ∀ n s, I n s → wpAny (model prog w) A (pyNext it) (fun r s₁ => match r with
      | none => R (.ok .next) s₁
      | some v => wpAny (model prog w) A (letOwnedTupleGo target it v) (fun _ s₁ => wpAny (model prog w) A (assign target env v) (fun _ s₂ =>
          wpAny (model prog w) A (forIn ifs true fun c r => if r = true then do let ok ← isTrue c env (eval c env); pure (ForInStep.yield ok) else pure (ForInStep.yield r)) (fun ok s₃ =>
            if ok = true then wpAny (model prog w) A (eval elt env) (fun x s₄ =>
              wpAny (model prog w) A (call (.builtin "list.append") [acc, x]) (fun _ s₅ => ∃ m, m < n ∧ I m s₅) (fun _ _ => False) s₄) (fun _ _ => False) s₃
            else ∃ m, m < n ∧ I m s₃) (fun _ _ => False) s₂) (fun _ _ => False) s₁) (fun _ _ => False) s₁) (fun _ _ => False) s)
    (n : Nat) (h : I n s) :
    codeAny (model prog w) A (.compLoop (.ListComp elt [⟨target, iter, ifs, 0⟩] scope pos) 0 it acc env) R s := by
  refine codeAny_loop rfl I (fun n s hI => ?_) n h
  show wpAny _ A ((compTurn (.ListComp elt [⟨target, iter, ifs, 0⟩] scope pos) 0 it acc env).onRaise (fun x => do noteFrame x env; theTreesLotGoes x)) _ _ s
  refine wpAny_noted ?_
  rw [compTurn_list]
  refine wpAny_bind (wpAny_standAt (wpAny_bind (wpAny_mono (turn n s hI) (fun r s₁ h₁ => ?_) fun _ _ h' => h'.elim)))
  cases r with
  | none => exact wpAny_pure h₁
  | some v =>
    refine wpAny_bind (wpAny_mono h₁ (fun _ s₁ h₁ => ?_) fun _ _ h' => h'.elim)
    refine wpAny_bind (wpAny_mono h₁ (fun _ s₂ h₂ => wpAny_bind (wpAny_mono h₂ (fun ok s₃ h₃ => ?_) fun _ _ h' => h'.elim)) fun _ _ h' => h'.elim)
    cases ok with
    | false => exact wpAny_pure ⟨rfl, h₃⟩
    | true =>
      refine wpAny_bind (wpAny_bind (wpAny_mono h₃ (fun x s₄ h₄ => wpAny_bind (wpAny_mono h₄ (fun _ s₅ h₅ => ?_) fun _ _ h' => h'.elim)) fun _ _ h' => h'.elim))
      exact wpAny_pure (wpAny_pure ⟨rfl, h₅⟩)
end
def PIf (X : Cx) (cs : List Expr) (t : TT) : Prop :=
  ∀ (pins : List (Addr × Obj)) (s : Shared) (σ : St) (H : Hp) (Q : Bool → Hp → Prop), Inv X pins σ H s → t σ H Q →
    wpAny (model X.prog X.w) X.A (forIn cs true fun c r => if r = true then do let ok ← isTrue c X.env (eval c X.env); pure (ForInStep.yield ok) else pure (ForInStep.yield r)) (TP X pins σ Q) X.xe s
def tTrue : TT := fun _ H Q => Q true H
theorem pif_nil {X : Cx} : PIf X [] tTrue := fun _ _ _ H _ I h => wpAny_tests_nil ⟨H, I, h⟩
abbrev WC := Nat → Nat → List V → St → Hp → Prop
def rComp (ix : List (Option Nat)) (g : TG) (tc : TT) (te : TE) (σ : St) (Q : VK) (J : It) (H1 : Hp) : Prop :=
  ∃ W : WC, (∃ m, W 0 m [] (startC ix σ) H1) ∧ ∀ i m ys σ' H', W i m ys σ' H' →
    (J.stop i H' ∧ ys.length ≤ sizeLine ∧ ∀ p, H' p = none → Q (.ref p) (upd H' p (.lst ys))) ∨
    (J.go i H' ∧ ys.length < sizeLine ∧ ∀ x H2, J.yld i H' x H2 → g x σ' H2 fun σ2 H3 => tc σ2 H3 fun b H4 =>
      if b = true then te σ2 H4 fun v H5 => ∃ m', m' < m ∧ W (i + 1) m' (ys ++ [v]) σ2 H5 else ∃ m', m' < m ∧ W (i + 1) m' ys σ2 H4)
def tComp (ix : List (Option Nat)) (wi : TI) (g : TG) (tc : TT) (te : TE) : TE := fun σ H Q => wi σ H (rComp ix g tc te σ Q)
section
variable {X : Cx} {scope : Scope} {N : List Str} {ix : List (Option Nat)} {elt tg iter : Expr} {ifs : List Expr} {g : TG} {tc : TT} {te : TE} {pos : Pos}
theorem comp_block {pins : List (Addr × Obj)} {σ : St} {s2 : Shared} {Q : VK} {itv : Value} {RR : Value → Addr → Result → Shared → Prop} {E : Value → Shared → Prop} (c : CompOk X scope N ix) (hc : X.calm = true)
    (hg : ∀ C fp s H, PG (cxC X N scope C fp s H) tg g) (ht : ∀ C fp s H, PIf (cxC X N scope C fp s H) ifs tc) (he : ∀ C fp s H, PE (cxC X N scope C fp s H) elt te)
    (h2 : PIE X pins σ tg (rComp ix g tc te σ Q) itv s2)
    (hR : ∀ (D C : Addr) (s' : Shared) (H' : Hp) (m : Str → Option Value), Inv X pins σ H' s' → s'.heap.Ns C m → H' C = none → X.s₀.heap.objs.size ≤ C → (∀ p ∈ X.pn ++ pins, p.1 ≠ C) → C ≠ X.env.locals → (∀ x c, X.env.cells.lookup x = some c → c ≠ C) → Q (.ref D) H' → RR (.ref D) C (.ok .next) s') :
    wpAny (model X.prog X.w) X.A (newList []) (fun acc s₃ => wpAny (model X.prog X.w) X.A (newFunctionEnv scope X.env.globals (closL X.env.cells scope.names []) [] X.env.qual none .none (some X.env)) (fun cenv s₄ =>
      codeAny (model X.prog X.w) X.A (.compStart (.ListComp elt [⟨tg, iter, ifs, 0⟩] scope pos) 0 itv acc { cenv with scope := relabel scope X.env }) (RR acc cenv.locals) s₄) E s₃) E s2 := by
  obtain ⟨it, fp, tn, J, H2, rfl, I2, T, st2, f2, W, ⟨m0, w0⟩, turn⟩ := h2
  refine wpAny_newObj_type (wpAny_newFunctionEnv c.nocell (by intro y hy; simp at hy) (fun h₁ hns₁ hsb₁ => ?_) c.kind)
  dsimp only at hns₁ hsb₁ ⊢
  generalize hH2 : s2.heap.push { cls := .type "list", dict := none, data := .seq ([] : List Value).toArray } = G2 at hns₁ hsb₁ ⊢
  have hCs : G2.objs.size = s2.heap.objs.size + 1 := by rw [← hH2, Heap.size_push]
  generalize hCe : G2.objs.size = C at hns₁ hsb₁ hCs ⊢
  generalize hDe : s2.heap.objs.size = D at hCs ⊢
  have ltC : ∀ b, @LT.lt Nat _ b D → b ≠ C := fun b hb => Nat.ne_of_lt (by rw [hCs]; exact Nat.lt_succ_of_lt hb)
  have ltS : ∀ b o, s2.heap.get? b = some o → @LT.lt Nat _ b D := fun b o e => by rw [← hDe]; exact Heap.lt_size e
  have hDC : D ≠ C := Nat.ne_of_lt (by rw [hCs]; exact Nat.lt_succ_self _)
  have old : ∀ b o, s2.heap.get? b = some o → h₁.get? b = some o := fun b o e => hsb₁.extBut b o (ltC b (ltS b o e)) (Heap.get?_push_of_some _ (hH2 ▸ Heap.get?_push_of_some _ e))
  have hoD : h₁.get? D = some { cls := .type "list", dict := none, data := .seq ([] : List Value).toArray } := by
    refine hsb₁.extBut _ _ hDC (Heap.get?_push_of_some _ ?_)
    rw [← hH2, ← hDe]
    exact Heap.get?_push_size _ rfl
  have I4 : Inv (cxC X N scope C fp s2 H2) (pins ++ [(D, { cls := .type "list", data := .seq ([] : List Value).toArray })]) (startC ix σ) H2 { s2 with heap := h₁, toks := s2.toks + ([] : List (Str × Value)).length } :=
    c.enter I2 f2 (T.obj _ _ st2) (by rw [hCs, hDe]) hDe.symm old hns₁ hoD fun v z => by cases z
  have st4 : tn 0 h₁ := T.keep _ _ _ st2 fun b _ o e => old b o e
  have pinD : ∀ p ∈ X.pn ++ pins, p.1 ≠ D := fun p hp => Nat.ne_of_lt (ltS _ _ (I2.pin p hp).1)
  have pinC : ∀ p ∈ X.pn ++ pins, p.1 ≠ C := fun p hp => ltC _ (ltS _ _ (I2.pin p hp).1)
  have celD : ∀ x d, X.env.cells.lookup x = some d → @LT.lt Nat _ d D := fun x d e => by
    obtain ⟨v, o, ho, _⟩ := I2.cell x d e
    exact ltS d o ho
  have fpD : ∀ b ∈ fp, @LT.lt Nat _ b D := fun b hb => by
    obtain ⟨o, e, _⟩ := T.obj _ _ st2 b hb
    exact ltS b o e
  have sub : ∀ x d, (closL X.env.cells scope.names []).lookup x = some d → X.env.cells.lookup x = some d := fun x d e => by
    rcases closL_sub e with z | z
    · simp at z
    · exact z
  have stat : ∀ {H' : Hp} {oD : Obj}, (∀ b ∈ fp, H' b = none) → ∀ b ∈ fp, FpOk (cxC X N scope C fp s2 H2) (pins ++ [(D, oD)]) H' b := fun {H' oD} hn b hb => by
    obtain ⟨f0, f1, f2, f3, f4, f5⟩ := f2 b hb
    refine ⟨hn b hb, ltC b (fpD b hb), fun z => ?_, .inl hb, fun x d e => f4 x d (sub x d e), fun p hp => ?_⟩
    · rcases List.mem_cons.mp (I2.stkSub b z) with e | e
      · exact f1 e
      · exact f2 e
    · have hp : p ∈ X.pn ++ (pins ++ [(D, oD)]) := hp
      rw [← List.append_assoc] at hp
      rcases List.mem_append.mp hp with z | z
      · exact f5 p z
      · have e : p = (D, oD) := by simpa using z
        subst e
        exact Nat.ne_of_gt (fpD b hb)
  have loop : ∀ s3 : Shared, s3 = { s2 with heap := h₁, toks := s2.toks + ([] : List (Str × Value)).length } →
      codeAny (model X.prog X.w) X.A (.compLoop (.ListComp elt [⟨tg, iter, ifs, 0⟩] scope pos) 0 (.ref it) (.ref D) (cxC X N scope C fp s2 H2).env) (RR (.ref D) C) s3 := by
    rintro s3 rfl
    refine compLoop_any (fun n s' => ∃ i σ' H' ys its k, Inv (cxC X N scope C fp s2 H2) (pins ++ [(D, { cls := .type "list", data := .seq (List.toArray its) k })]) σ' H' s' ∧ tn i s'.heap ∧ (∀ b ∈ fp, H' b = none) ∧ Vals ys its ∧ W i n ys σ' H') ?_ m0
      ⟨0, _, H2, [], [], _, I4, st4, fun b hb => (f2 b hb).1, .nil, w0⟩
    rintro n s3 ⟨i, σ3, H3, ys, its, k, I3, st3, fr3, rv, w3⟩
    rcases turn i n ys σ3 H3 w3 with ⟨stop, hz, qn⟩ | ⟨go, hz, step⟩
    · refine thn (T.done (cxC X N scope C fp s2 H2) rfl rfl rfl hc i _ s3 σ3 H3 _ I3 (stat fr3) st3 stop) fun r s4 ⟨hr, I4⟩ => ?_
      subst hr
      have hDn : H3 D = none := (I3.pin (D, _) (List.mem_append_right _ (List.mem_append_right _ List.mem_cons_self))).2.1
      obtain ⟨m4, hn4, _⟩ := id I4.loc
      refine hR D C s4 _ m4 (c.leave I2 f2 (by rw [hCs, hDe]) hDe.symm I4 rv hz) hn4 ?_ ?_ pinC ?_ (fun x d e => ltC d (celD x d e)) (qn D hDn)
      · rw [upd_ne hDC.symm]; exact I4.free
      · refine Nat.le_trans I2.sz ?_
        rw [hDe, hCs]; exact Nat.le_succ _
      · refine Nat.ne_of_gt (Nat.lt_of_lt_of_le I2.lt ?_)
        rw [hDe, hCs]; exact Nat.le_succ _
    · refine thn (T.item (cxC X N scope C fp s2 H2) rfl rfl rfl hc i _ s3 σ3 H3 _ I3 (stat fr3) st3 go) fun r s4 ⟨u, hr, h4⟩ => ?_
      subst hr
      refine thn h4 fun _ s5 ⟨x, H5, I5, r5, y5, st5, fr5⟩ => ?_
      have I5' := I5.pinned (stat fr5) (T.obj _ _ st5)
      refine thn (hg C fp s2 H2 _ s5 σ3 H5 x u _ I5' r5 (step x H5 y5)) fun _ s6 ⟨σ6, H6, I6, q6⟩ => ?_
      refine thn (ht C fp s2 H2 _ s6 σ6 H6 _ I6 q6) fun ok s7 ⟨H7, I7, q7⟩ => ?_
      have keep : ∀ {s' : Shared} {σ' : St} {H' : Hp}, Inv (cxC X N scope C fp s2 H2) ((pins ++ [(D, { cls := .type "list", data := .seq its.toArray k })]) ++ pinsAt fp s5.heap) σ' H' s' → tn (i + 1) s'.heap ∧ ∀ b ∈ fp, H' b = none := fun {s' σ' H'} I' => by
        refine ⟨T.keep _ _ _ st5 fun b hb o e => (I'.pin (b, o) (List.mem_append_right _ (List.mem_append_right _ (mem_pinsAt hb e)))).1, fun b hb => ?_⟩
        obtain ⟨o, e, d⟩ := T.obj _ _ st5 b hb
        exact (I'.pin (b, o) (List.mem_append_right _ (List.mem_append_right _ (mem_pinsAt hb e)))).2.1
      cases ok with
      | false =>
        rw [if_neg Bool.false_ne_true]
        rw [if_neg Bool.false_ne_true] at q7
        obtain ⟨m', hm, w7⟩ := q7
        obtain ⟨k1, k2⟩ := keep I7
        exact ⟨m', hm, i + 1, σ6, H7, ys, its, k, I7.unpinned, k1, k2, rv, w7⟩
      | true =>
        rw [if_pos rfl]
        rw [if_pos rfl] at q7
        refine thn (he C fp s2 H2 _ s7 σ6 H7 _ I7 q7) fun y s8 ⟨v, H8, I8, r8, m', hm, w8⟩ => ?_
        obtain ⟨k1, k2⟩ := keep I8
        have pD := I8.pin (D, _) (List.mem_append_right _ (List.mem_append_left _ (List.mem_append_right _ List.mem_cons_self)))
        have I8u := I8.unpinned
        have I8v : Inv (cxC X N scope C fp s2 H2) pins σ6 H8 s8 := I8u.unpinned
        have len := rv.length
        refine wpAny_list_append_plain (items := its.toArray) (hsz := by simp; omega) ⟨k, pD.1⟩ fun h9 hl9 hs9 => ?_
        obtain ⟨k9, e9⟩ := hl9
        have I9 : Inv (cxC X N scope C fp s2 H2) pins σ6 H8 { s8 with heap := h9 } := by
          refine I8v.turned (t' := s8.toks) (it := D) (fun b o hb e => hs9.extBut b o hb e) pD.2.1 hDC (.inr ?_) (fun x d e => Nat.ne_of_lt (celD x d (sub x d e))) fun p hp => ?_
          · show s2.heap.objs.size ≤ D
            rw [hDe]; exact Nat.le_refl _
          · exact pinD p hp
        have e9' : h9.get? D = some { cls := .type "list", data := .seq (its ++ [y]).toArray k9 } := by
          rw [e9]; simp
        refine ⟨m', hm, i + 1, σ6, H8, ys ++ [v], its ++ [y], k9, I9.pins_of fun p hp => ?_, T.keep _ _ _ k1 fun b hb o e => hs9.extBut b o (Nat.ne_of_lt (fpD b hb)) e, k2, rv.append (.cons r8 .nil), w8⟩
        rcases List.mem_append.mp hp with z | z
        · exact I9.pin p (List.mem_append_right _ z)
        · have e : p = (D, { cls := .type "list", data := .seq (its ++ [y]).toArray k9 }) := by simpa using z
          subst e
          exact ⟨e9', pD.2.1, pD.2.2.1, pD.2.2.2.1, fun v z => by cases z⟩
  exact codeAny_compStart_list (loop _ rfl) (T.self _ 0 _ _ _ st4 (loop _ rfl))
variable {wi : TI}
theorem pe_comp (c : CompOk X scope N ix) (hc : X.calm = true) (hi : PI X tg iter wi) (hg : ∀ C fp s H, PG (cxC X N scope C fp s H) tg g) (ht : ∀ C fp s H, PIf (cxC X N scope C fp s H) ifs tc) (he : ∀ C fp s H, PE (cxC X N scope C fp s H) elt te)
    (hs : ∀ x, foldedSetIterable iter X.env x = pure x := by intro _; rfl) : PE X (.ListComp elt [⟨tg, iter, ifs, 0⟩] scope pos) (tComp ix wi g tc te) := by
  intro pins s σ H Q I h
  rw [eval_ListComp]
  have hcl : ∀ y ∈ scope.names, y.2 = NameKind.free → ∃ d, X.env.cells.lookup y.1 = some d := fun y hy e => I.ok.has _ (c.fr y hy e)
  refine wpAny_comprehension_free (use := none) rfl hs (closureFor_eq hcl) c.kind c.names (thn (hi pins s σ H _ I h) fun v s1 h1 => thn h1 fun itv s2 h2 => ?_)
  refine comp_block (RR := fun acc C => compPost (model X.prog X.w) X.A X.xe none (EP X pins σ Q) acc C) c hc hg ht he h2 ?_
  intro D C s' H' m I' hn hC hz hp hL hcells q
  exact ⟨m, hn, fun h' hs' => ⟨.ref D, H', I'.turned (t' := s'.toks) (fun b o hb e => hs'.extBut b o hb e) hC hL (.inr hz) hcells hp, rfl, q⟩⟩
theorem ps_comp {i : Nat} {x : Str} {px spos : Pos} (hN : X.N.Nodup) (hx0 : X.N[i]? = some x) (hx : X.env.scope.names.lookup x = some .local) (c : CompOk X scope N ix) (hc : X.calm = true) (hi : PI X tg iter wi) (hg : ∀ C fp s H, PG (cxC X N scope C fp s H) tg g) (ht : ∀ C fp s H, PIf (cxC X N scope C fp s H) ifs tc) (he : ∀ C fp s H, PE (cxC X N scope C fp s H) elt te)
    (hsw : swapsWith (.ListComp elt [⟨tg, iter, ifs, 0⟩] scope pos) (some (.Name x px)) spos.line X.env = pure true := by rfl)
    (hs : ∀ x, foldedSetIterable iter X.env x = pure x := by intro _; rfl) : PS X (.Assign [.Name x px] (.ListComp elt [⟨tg, iter, ifs, 0⟩] scope pos) spos) (tAsg (tComp ix wi g tc te) (gName i)) := by
  intro pins s σ H D0 I h
  rw [exec_Assign_Name_used _ _ _ _ hsw]
  refine wpAny_bind (wpAny_standAt (wpAny_bind ?_))
  show wpAny _ _ (do let _ ← comprehension (.ListComp elt [⟨tg, iter, ifs, 0⟩] scope pos) scope X.env _ (newList []) false (eval iter X.env) (some (assign (.Name x px) X.env))) _ _ s
  have hcl : ∀ y ∈ scope.names, y.2 = NameKind.free → ∃ d, X.env.cells.lookup y.1 = some d := fun y hy e => I.ok.has _ (c.fr y hy e)
  refine wpAny_bind (wpAny_mono (wpAny_comprehension_free (use := some (assign (.Name x px) X.env)) (Q := fun _ s' => SP X pins D0 .next s') rfl hs (closureFor_eq hcl) c.kind c.names
    (thn (hi pins s σ H _ I h) fun v s1 h1 => thn h1 fun itv s2 h2 => ?_)) (fun _ s' hq => wpAny_pure (wpAny_pure hq)) fun _ _ e => e)
  refine comp_block (RR := fun acc C => compPost (model X.prog X.w) X.A X.xe (some (assign (.Name x px) X.env)) (fun _ s' => SP X pins D0 .next s') acc C) c hc hg ht he h2 ?_
  intro D C s' H' m I' hn hC hz hp hL hcells q
  show wpAny _ _ (assign (.Name x px) X.env (.ref D)) _ _ _
  refine wpAny_assign_Name (store_ok2 (v := .ref D) I' hN hx0 (.inl hx) rfl (fun s'' I'' hsb => ?_) (.inr hx))
  obtain ⟨a, sb, ha⟩ := hsb
  have haC : a ≠ C := by
    rcases ha with e | e
    · rw [e]; exact hL.symm
    · exact hcells x a e
  refine ⟨m, hn.sameBut sb haC.symm, fun h' hs' => ⟨_, H', I''.turned (t' := s''.toks) (fun b o hb e => hs'.extBut b o hb e) hC hL (.inr hz) hcells hp, q⟩⟩
end
end L2
namespace L2
open PySem PySem.Spec PyProof.Rows
mutual
inductive Dat (K : PySem.W.Frag) (H : Hp) (P : Addr → Prop) : V → PyData → Prop
  | non : Dat K H P .non .none
  | bl (b : Bool) : Dat K H P (.bl b) (.bool b)
  | int (i : Int) : Dat K H P (.int i) (.int i)
  | str (x : Str) : Dat K H P (.str x) (.str x)
  | lst {a : Addr} {vs : List V} {ds : List PyData} : SqL K H a vs → P a → DatAll K H P vs ds → Dat K H P (.ref a) (.list ds)
  | tup {a : Addr} {vs : List V} {ds : List PyData} : SqT K H a vs → P a → DatAll K H P vs ds → Dat K H P (.ref a) (.tuple ds)
inductive DatAll (K : PySem.W.Frag) (H : Hp) (P : Addr → Prop) : List V → List PyData → Prop
  | nil : DatAll K H P [] []
  | cons {v : V} {d : PyData} {vs : List V} {ds : List PyData} : Dat K H P v d → DatAll K H P vs ds → DatAll K H P (v :: vs) (d :: ds)
end
def Keep (P : Addr → Prop) (H H' : Hp) : Prop := ∀ b o, P b → H b = some o → H' b = some o
theorem Keep.sqL {P : Addr → Prop} {H H' : Hp} {K : PySem.W.Frag} {a : Addr} {xs : List V} (k : Keep P H H') (p : P a) (h : SqL K H a xs) : SqL K H' a xs := by
  rcases h with (h | ⟨o, h⟩) | h
  · exact .inl (.inl (k _ _ p h))
  · exact .inl (.inr ⟨o, k _ _ p h⟩)
  · exact .inr h
theorem Keep.sqT {P : Addr → Prop} {H H' : Hp} {K : PySem.W.Frag} {a : Addr} {xs : List V} (k : Keep P H H') (p : P a) (h : SqT K H a xs) : SqT K H' a xs := by
  rcases h with (h | ⟨o, h⟩) | h
  · exact .inl (.inl (k _ _ p h))
  · exact .inl (.inr ⟨o, k _ _ p h⟩)
  · exact .inr h
mutual
theorem Dat.keep {K : PySem.W.Frag} {H H' : Hp} {P : Addr → Prop} (k : Keep P H H') : ∀ {v : V} {d : PyData}, Dat K H P v d → Dat K H' P v d
  | _, _, .non => .non
  | _, _, .bl b => .bl b
  | _, _, .int i => .int i
  | _, _, .str x => .str x
  | _, _, .lst h p r => .lst (k.sqL p h) p (r.keep k)
  | _, _, .tup h p r => .tup (k.sqT p h) p (r.keep k)
theorem DatAll.keep {K : PySem.W.Frag} {H H' : Hp} {P : Addr → Prop} (k : Keep P H H') : ∀ {vs : List V} {ds : List PyData}, DatAll K H P vs ds → DatAll K H' P vs ds
  | _, _, .nil => .nil
  | _, _, .cons h r => .cons (h.keep k) (r.keep k)
end
mutual
theorem Dat.imp {K : PySem.W.Frag} {H : Hp} {P P' : Addr → Prop} (k : ∀ a, P a → P' a) : ∀ {v : V} {d : PyData}, Dat K H P v d → Dat K H P' v d
  | _, _, .non => .non
  | _, _, .bl b => .bl b
  | _, _, .int i => .int i
  | _, _, .str x => .str x
  | _, _, .lst h p r => .lst h (k _ p) (r.imp k)
  | _, _, .tup h p r => .tup h (k _ p) (r.imp k)
theorem DatAll.imp {K : PySem.W.Frag} {H : Hp} {P P' : Addr → Prop} (k : ∀ a, P a → P' a) : ∀ {vs : List V} {ds : List PyData}, DatAll K H P vs ds → DatAll K H P' vs ds
  | _, _, .nil => .nil
  | _, _, .cons h r => .cons (h.imp k) (r.imp k)
end
section
variable {X : Cx} {pins : List (Addr × Obj)} {σ : St} {H : Hp} {s : Shared}
mutual
theorem Inv.reads {P : Addr → Prop} (I : Inv X pins σ H s) : ∀ {v : V} {d : PyData} {u : Value}, Dat X.K H P v d → RelV v u → ∃ as, Reads s.heap u d as
  | _, _, u, .non, r => by cases (show u = Value.none from r); exact ⟨_, .none⟩
  | _, _, u, .bl b, r => by cases (show u = Value.bool b from r); exact ⟨_, .bool b⟩
  | _, _, u, .int i, r => by obtain ⟨t, rfl⟩ := (show ∃ t, u = Value.int i t from r); exact ⟨_, .int i t⟩
  | _, _, u, .str x, r => by obtain ⟨t, rfl⟩ := (show ∃ t, u = Value.str x t from r); exact ⟨_, .str x t⟩
  | .ref a, _, u, .lst h p rs, r => by
    cases (show u = Value.ref a from r)
    obtain ⟨its, rv, ⟨o, n, e, c, _, d⟩, _⟩ := I.list h
    obtain ⟨as, q⟩ := Inv.readsAll I rs rv
    exact ⟨_, .list e c d (by simpa using q)⟩
  | .ref a, _, u, .tup h p rs, r => by
    cases (show u = Value.ref a from r)
    obtain ⟨its, rv, ⟨o, e, c, n, d⟩, _⟩ := I.tuple h
    obtain ⟨as, q⟩ := Inv.readsAll I rs rv
    exact ⟨_, .tuple e c d (by simpa using q)⟩
theorem Inv.readsAll {P : Addr → Prop} (I : Inv X pins σ H s) : ∀ {vs : List V} {ds : List PyData} {us : List Value}, DatAll X.K H P vs ds → Vals vs us → ∃ as, ReadsAll s.heap us ds as
  | _, _, _, .nil, r => by cases r; exact ⟨_, .nil⟩
  | _, _, _, .cons h rs, r => by
    cases r with
    | cons r1 r2 =>
      obtain ⟨as, q⟩ := Inv.reads I h r1
      obtain ⟨bs, q'⟩ := Inv.readsAll I rs r2
      exact ⟨_, .cons q q'⟩
end
def rEqD (K : PySem.W.Frag) : R2 := fun x y H Q => ∃ P dx dy, Dat K H P x dx ∧ Dat K H P y dy ∧ dx.canLay0 = true ∧ dy.canLay0 = true ∧ dx.depth ≤ 60 ∧ Q (.bl (PyData.eqv dx dy)) H
def rNeD (K : PySem.W.Frag) : R2 := fun x y H Q => ∃ P dx dy, Dat K H P x dx ∧ Dat K H P y dy ∧ dx.canLay0 = true ∧ dy.canLay0 = true ∧ dx.depth ≤ 60 ∧ Q (.bl (!PyData.eqv dx dy)) H
theorem op_eqD (hu : X.A.units + 64 < cLine) : OpR X (compareOp .Eq) (rEqD X.K) := by
  intro pins s σ H x y v u Q I rx ry h
  obtain ⟨P, dx, dy, hx, hy, lx, ly, dd, q⟩ := h
  obtain ⟨as, qa⟩ := I.reads hx rx
  obtain ⟨bs, qb⟩ := I.reads hy ry
  exact SeqAt.compareEq_reads qa qb lx ly (by omega) ⟨.bl _, H, I, rfl, q⟩
theorem op_neD (hu : X.A.units + 64 < cLine) : OpR X (compareOp .NotEq) (rNeD X.K) := by
  intro pins s σ H x y v u Q I rx ry h
  obtain ⟨P, dx, dy, hx, hy, lx, ly, dd, q⟩ := h
  obtain ⟨as, qa⟩ := I.reads hx rx
  obtain ⟨bs, qb⟩ := I.reads hy ry
  exact SeqAt.compareNe_reads qa qb lx ly (by omega) ⟨.bl _, H, I, rfl, q⟩
def ivl (lo hi : Int) : List Int := (List.range (hi - lo).toNat).map fun (i : Nat) => lo + (i : Int)
theorem ivl_length (lo hi : Int) : (ivl lo hi).length = (hi - lo).toNat := by simp [ivl]
end
end L2
namespace L2
open PySem PySem.Spec PyProof.Rows
section
variable {X : Cx}
def tyOfV (K : PySem.W.Frag) (x : V) (H : Hp) (T : String) : Prop := TyOf K H x (.type T)
def rIsi (K : PySem.W.Frag) : List V → Hp → VK → Prop := fun xs H Q => ∃ x T C b, xs = [x, .ty C] ∧ tyOfV K x H T ∧ PySem.W.kitOne K (.type T) (.type C) = some b ∧ Q (.bl b) H
theorem call_isi : CallR X (.builtin "isinstance") (rIsi X.K) := by
  intro pins s σ H xs us Q I r h
  obtain ⟨x, T, C, b, rfl, ty, e, q⟩ := h
  obtain ⟨u, w', rfl, rx, ry⟩ := vals2 r
  cases (show w' = Value.type C from ry)
  exact isinst_ok I rx ty e fun tk => ⟨.bl b, H, I.tok _, rfl, q⟩
theorem kit_self (K : PySem.W.Frag) (T : String) : PySem.W.kitOne K (.type T) (.type T) = some true := by
  unfold PySem.W.kitOne
  rw [if_pos (beq_self_eq_true _)]
def rAll (K : PySem.W.Frag) : List V → Hp → VK → Prop := fun xs H Q => ∃ (p : Addr) (bs : List Bool), xs = [.ref p] ∧ SqL K H p (bs.map V.bl) ∧ Q (.bl (bs.all id)) H
theorem vals_bools : ∀ {bs : List Bool} {us : List Value}, Vals (bs.map V.bl) us → us = bs.map Value.bool
  | [], us, r => by cases r; rfl
  | b :: r, us, h => by
    cases h with
    | cons h1 h2 =>
      rw [List.map_cons, ← vals_bools h2]
      rw [show _ = Value.bool b from h1]
theorem call_all (hc : X.calm = true) : CallR X (.builtin "all") (rAll X.K) := by
  intro pins s σ H xs us Q I r h
  obtain ⟨p, bs, rfl, hl, q⟩ := h
  obtain ⟨u, rfl, rx⟩ := vals1 r
  cases rx
  obtain ⟨its, rv, pl, hz⟩ := I.list hl
  have e := vals_bools rv
  subst e
  refine call_all_walk (wpAny_pyIter_list pl.isList ?_)
  have lt : p < s.heap.objs.size := by obtain ⟨o, n, e, _⟩ := pl; exact Heap.lt_size e
  refine ⟨s.heap.objs.size, _, _, _, _, _, fun i => bs.getD i true, rfl, Walks.list (A := X.A.in1) (show X.A.in1.handled = none from I.ok.hd hc) s.heap.objs.size p (Nat.ne_of_lt lt) (bs.map Value.bool).toArray, ?_, ?_, ?_⟩
  · refine ⟨⟨_, Heap.get?_push_size _ rfl, rfl, rfl⟩, pl.isList.at fun o e => Heap.get?_push_of_some _ e⟩
  · intro i v s' Q' E' hP hQ'
    have hP : (bs.map Value.bool).toArray[i]? = some v := hP
    have : (bs.map Value.bool)[i]? = some v := by simpa using hP
    rw [List.getElem?_map] at this
    cases hb : bs[i]? with
    | none => rw [hb] at this; cases this
    | some b =>
      rw [hb] at this
      cases this
      have hg : bs.getD i true = b := by rw [List.getD_eq_getElem?_getD, hb]; rfl
      have hQ' : Q' (bs.getD i true) s' := hQ'
      rw [hg] at hQ'
      exact wpAny_truthy_bool hQ'
  · intro h' tk hk
    have e : (List.range (bs.map Value.bool).toArray.size).all (fun i => bs.getD i true) = bs.all id := by
      have : ∀ (l : List Bool), (List.range l.length).all (fun i => l.getD i true) = l.all id := by
        intro l
        induction l with
        | nil => rfl
        | cons b r ih =>
          rw [List.length_cons, List.range_succ_eq_map, List.all_cons, List.all_cons, List.all_map]
          rw [← ih]
          rfl
      simpa using this bs
    rw [e]
    refine ⟨.bl (bs.all id), H, ?_, rfl, q⟩
    refine (I.kept (t' := s.toks) (h' := h') fun b o e => hk b o ?_ (Heap.get?_push_of_some _ e)).tok tk
    intro z
    have z : b = s.heap.objs.size := by simpa using z
    exact absurd (Heap.lt_size e) (by rw [z]; exact Nat.lt_irrefl _)
end
end L2
namespace L2
open PySem PySem.Spec PyProof.Rows
structure FnAt (P : Program) (w : World) (K : PySem.W.Frag) (mg : Str → Option Value) (base : Heap) (x : Str) (k : Nat) (ps : List Str) (sp : Sp) : Prop where
  ex : ∃ (f : Addr) (fd : FuncData), FnOk P w K mg base CX0 k f fd ps sp ∧ mg x = some (.ref f) ∧ PySem.W.keepIn K (.ref f) = true ∧ Binds K fd ps []
section
variable {X : Cx} {x : Str} {k : Nat} {ps : List Str} {sp : Sp} {e : Expr} {es : List Expr} {t : TA} {p pos : Pos}
theorem pe_callF (F : FnAt X.prog X.w X.K X.mg X.base x k ps sp) (hr : Room k X.A) (hg : Gl X x) (ha : PA X (e :: es) t) (hdb : (x == ("__debug__" : Str)) = false := by decide +kernel) (he : starEach (e :: es) X.env = (false, eval e X.env) :: starEach es X.env := by rfl) (hpl : (backTo pos (starEach es X.env)).any (·.1) = false := by rfl) :
    PE X (.Call (.Name x p) (e :: es) [] pos) (tCall sp [] E0 t) := by
  obtain ⟨f, fd, F, hm, hk, hb⟩ := F.ex
  exact pe_call F hr hg hm hk hb .nil pass0 ha hdb he hpl
def CDivL (i j : Int) : Prop := 0 < j ∧ j < 2 ^ 200
theorem log2_lt {j : Int} (h : 0 < j) (h2 : j < 2 ^ 200) : j.natAbs.log2 < 9000 := by
  have h3 : j.natAbs < 2 ^ 200 := by
    have e : ((j.natAbs : Nat) : Int) = j := Int.natAbs_of_nonneg (Int.le_of_lt h)
    have : ((j.natAbs : Nat) : Int) < ((2 ^ 200 : Nat) : Int) := by rw [e]; simpa using h2
    exact Int.ofNat_lt.mp this
  have h0 : j.natAbs ≠ 0 := by omega
  have := (Nat.log2_lt h0).mpr h3
  omega
theorem op_fdivL : OpR X (binaryOp .FloorDiv) (rI CDivL fun i j => .int (i / j)) := opI fun i j _ _ _ _ _ hc q => by
  refine floordiv_int (by have := hc.1; omega) ?_ (.inl (PyProof.noPylong_of_log2 (log2_lt hc.1 hc.2)))
  rw [Int.fdiv_eq_ediv_of_nonneg _ (Int.le_of_lt hc.1)]
  exact q
end
def capB (XN N : List Str) (ix : List (Option Nat)) (names : List (Str × NameKind)) : Bool :=
  (List.range ix.length).all fun j => match ix[j]? with
    | some (some i) => match N[j]? with
      | some x => XN[i]? == some x && names.lookup x == some .free
      | none => false
    | _ => true
theorem cap_ok {XN N : List Str} {ix : List (Option Nat)} {names : List (Str × NameKind)} (h : capB XN N ix names = true) :
    ∀ (j i : Nat), ix[j]? = some (some i) → ∃ x : Str, N[j]? = some x ∧ XN[i]? = some x ∧ names.lookup x = some .free ∧ (x, NameKind.free) ∈ names := by
  intro j i e
  have hj : j < ix.length := (List.getElem?_eq_some_iff.mp e).1
  have q := List.all_eq_true.mp h j (List.mem_range.mpr hj)
  rw [e] at q
  dsimp only at q
  cases hn : N[j]? with
  | none => rw [hn] at q; cases q
  | some x =>
    rw [hn] at q
    dsimp only at q
    obtain ⟨q1, q2⟩ := Bool.and_eq_true_iff.mp q
    have q1 : XN[i]? = some x := by simpa using q1
    have q2 : names.lookup x = some NameKind.free := by
      cases hl : names.lookup x with
      | none => rw [hl] at q2; cases q2
      | some k => rw [hl] at q2; cases k <;> first | rfl | cases q2
    exact ⟨x, rfl, q1, q2, mem_of_lookup q2⟩
def SameX (p : Addr) (H H' : Hp) : Prop := ∀ b o, b ≠ p → H b = some o → H' b = some o
theorem SameX.refl (p : Addr) (H : Hp) : SameX p H H := fun _ _ _ h => h
theorem SameX.trans {p : Addr} {H H1 H2 : Hp} (a : SameX p H H1) (b : SameX p H1 H2) : SameX p H H2 := fun c o n h => b c o n (a c o n h)
theorem Same.x {p : Addr} {H H' : Hp} (a : Same H H') : SameX p H H' := fun c o _ h => a c o h
theorem SameX.upd {p : Addr} {H : Hp} {o : HO} : SameX p H (upd H p o) := fun c o n h => by rw [upd_ne n]; exact h
theorem Same.new {p : Addr} {H : Hp} {o : HO} (h : H p = none) : Same H (upd H p o) := fun c o e => by rw [upd_ne (ne_of_none e h)]; exact e
theorem SameX.new {p q : Addr} {H : Hp} {o : HO} (h : H q = none) : SameX p H (L2.upd H q o) := (Same.new h).x
end L2
namespace L2
open PySem PySem.Spec PyProof.Rows
def compB (XS : List (Str × NameKind)) (XN : List Str) (names : List (Str × NameKind)) (N : List Str) (ix : List (Option Nat)) : Bool :=
  names.all (fun y => match y.2 with
    | .cell => false
    | .local => (match names.lookup y.1 with | some .local => true | _ => false)
    | .free => (match XS.lookup y.1 with | some .cell => true | some .free => true | _ => false)
    | _ => true) && decide (ix.length = N.length) && capB XN N ix names
theorem comp_ok {X : Cx} {scope : Scope} {N : List Str} {ix : List (Option Nat)} (hk : scope.kind = .function) (h : compB X.env.scope.names X.N scope.names N ix = true) : CompOk X scope N ix := by
  unfold compB at h
  obtain ⟨h, h3⟩ := Bool.and_eq_true_iff.mp h
  obtain ⟨h1, h2⟩ := Bool.and_eq_true_iff.mp h
  have all : ∀ y ∈ scope.names, _ := fun y hy => List.all_eq_true.mp h1 y hy
  refine ⟨hk, fun y hy e => ?_, of_decide_eq_true h2, fun y hy e => ?_, fun y hy e => ?_, cap_ok h3⟩
  · have q := all y hy
    rw [e] at q
    cases q
  · have q := all y hy
    rw [e] at q
    dsimp only at q
    cases hl : scope.names.lookup y.1 with
    | none => rw [hl] at q; cases q
    | some k => rw [hl] at q; cases k <;> first | rfl | cases q
  · have q := all y hy
    rw [e] at q
    dsimp only at q
    show X.env.scope.names.lookup y.1 = _ ∨ X.env.scope.names.lookup y.1 = _
    cases hl : X.env.scope.names.lookup y.1 with
    | none => rw [hl] at q; cases q
    | some k => rw [hl] at q; cases k <;> first | exact .inl rfl | exact .inr rfl | cases q
section
variable {X : Cx} {K : PySem.W.Frag}
theorem call_isiK (h : X.K = K) : CallR X (.builtin "isinstance") (rIsi K) := by subst h; exact call_isi
theorem ix_listK (h : X.K = K) : IxR X (rIxL K) := by subst h; exact ix_list
theorem ix_tupK (h : X.K = K) : IxR X (rIxT K) := by subst h; exact ix_tup
theorem call_lenK (h : X.K = K) : CallR X (.builtin "len") (fun xs H Q => ∃ p ys, xs = [.ref p] ∧ (SqL K H p ys ∨ SqT K H p ys) ∧ Q (.int ys.length) H) := by subst h; exact call_len_seq
theorem call_allK (h : X.K = K) (hc : X.calm = true) : CallR X (.builtin "all") (rAll K) := by subst h; exact call_all hc
theorem op_notInK (h : X.K = K) : OpR X (compareOp .NotIn) (rIn K true) := by subst h; exact op_notIn_seq
theorem pi_listK {tg l : Expr} {tl : TE} (h : X.K = K) (hl : PE X l tl) : PI X tg l (iList K tl) := by subst h; exact pi_list hl
theorem pi_tupK {tg l : Expr} {tl : TE} (h : X.K = K) (hl : PE X l tl) : PI X tg l (iTup K tl) := by subst h; exact pi_tup hl
theorem pg_tupK {es : List Expr} {k : Nat} {t : TGs} {n : Nat} {pos : Pos} (hk : X.K = K) (hc : X.calm = true) (h : PGs X es t)
    (hn : (assignEach es X.env).length = n := by rfl) (hst : (assignEach es X.env).findIdx? (·.1) = none := by rfl) : PG X (.Tuple es k pos) (gTup K n t) := by subst hk; exact pg_tup hc h hn hst
end
end L2
namespace Sw
open PySem L2
inductive Exs (H : Hp) : List V → List (Int × Int) → Prop
  | nil : Exs H [] []
  | cons {t : Addr} {a b : Int} {vs : List V} {r : List (Int × Int)} : H t = some (.tup [.int a, .int b]) → Exs H vs r → Exs H (.ref t :: vs) ((a, b) :: r)
theorem Exs.length {H : Hp} : ∀ {vs : List V} {r : List (Int × Int)}, Exs H vs r → vs.length = r.length
  | _, _, .nil => rfl
  | _, _, .cons _ x => by rw [List.length_cons, List.length_cons, x.length]
theorem Exs.keep {H H' : Hp} (k : ∀ b xs, H b = some (.tup xs) → H' b = some (.tup xs)) : ∀ {vs : List V} {r : List (Int × Int)}, Exs H vs r → Exs H' vs r
  | _, _, .nil => .nil
  | _, _, .cons h x => .cons (k _ _ h) (x.keep k)
theorem Exs.append {H : Hp} : ∀ {vs ws : List V} {r q : List (Int × Int)}, Exs H vs r → Exs H ws q → Exs H (vs ++ ws) (r ++ q)
  | _, _, _, _, .nil, y => y
  | _, _, _, _, .cons h x, y => .cons h (x.append y)
theorem Exs.snoc {H : Hp} {vs : List V} {r : List (Int × Int)} {t : Addr} {a b : Int} (x : Exs H vs r) (h : H t = some (.tup [.int a, .int b])) : Exs H (vs ++ [.ref t]) (r ++ [(a, b)]) := x.append (.cons h .nil)
theorem Exs.get {H : Hp} : ∀ {vs : List V} {r : List (Int × Int)} {i : Nat} {x : V}, Exs H vs r → vs[i]? = some x → ∃ t a b, x = .ref t ∧ H t = some (.tup [.int a, .int b]) ∧ r[i]? = some (a, b)
  | _, _, _, _, .nil, e => by simp at e
  | _, _, 0, _, .cons h x, e => by simp at e; subst e; exact ⟨_, _, _, rfl, h, rfl⟩
  | _, _, i + 1, _, .cons h x, e => by
    obtain ⟨t, a, b, e1, e2, e3⟩ := x.get (i := i) (by simpa using e)
    exact ⟨t, a, b, e1, e2, by simpa using e3⟩
theorem Exs.dat {K : PySem.W.Frag} {H : Hp} : ∀ {vs : List V} {r : List (Int × Int)}, Exs H vs r → DatAll K H (fun _ => True) vs (r.map fun p => .tuple [.int p.1, .int p.2])
  | _, _, .nil => .nil
  | _, _, .cons h x => .cons (.tup (SqT.of h) True.intro (.cons (.int _) (.cons (.int _) .nil))) x.dat
theorem Same.tups {H H' : Hp} (s : Same H H') : ∀ b xs, H b = some (.tup xs) → H' b = some (.tup xs) := fun b xs e => s b _ e
theorem SameX.tups {p : Addr} {H H' : Hp} {ys : List V} (s : SameX p H H') (hp : H p = some (.lst ys)) : ∀ b xs, H b = some (.tup xs) → H' b = some (.tup xs) := fun b xs e => s b _ (ne_of e hp (by intro z; cases z)) e
theorem lay_row : ∀ (r : List (Int × Int)), PyData.canLayAll0 (r.map fun p => PyData.tuple [.int p.1, .int p.2]) = true
  | [] => rfl
  | p :: r => by rw [List.map_cons]; unfold PyData.canLayAll0; rw [lay_row r]; rfl
theorem depth_row : ∀ (r : List (Int × Int)), PyData.depthAll (r.map fun p => PyData.tuple [.int p.1, .int p.2]) ≤ 1
  | [] => by simp [PyData.depthAll]
  | p :: r => by
    rw [List.map_cons]; unfold PyData.depthAll
    have := depth_row r
    simp [PyData.depth, PyData.depthAll]; omega
theorem eqv_row : ∀ (r q : List (Int × Int)), PyData.eqvAll (r.map fun p => PyData.tuple [.int p.1, .int p.2]) (q.map fun p => PyData.tuple [.int p.1, .int p.2]) = decide (r = q)
  | [], [] => by simp [PyData.eqvAll]
  | [], m :: r => by simp [PyData.eqvAll]
  | n :: r, [] => by simp [PyData.eqvAll]
  | (a, b) :: r, (c, d) :: q => by
    rw [List.map_cons, List.map_cons]; unfold PyData.eqvAll; rw [eqv_row r q]
    simp [PyData.eqv, PyData.eqvAll]
    by_cases h1 : a = c <;> by_cases h2 : b = d <;> by_cases h3 : r = q <;> simp [h1, h2, h3]
theorem eqR {K : PySem.W.Frag} {H : Hp} {l m : Addr} {vs ws : List V} {r q : List (Int × Int)} {Q : VK} (h1 : H l = some (.lst vs)) (x1 : Exs H vs r) (h2 : H m = some (.lst ws)) (x2 : Exs H ws q) (hq : Q (.bl (!decide (r = q))) H) : rNeD K (.ref l) (.ref m) H Q := by
  refine ⟨fun _ => True, .list (r.map fun p => PyData.tuple [.int p.1, .int p.2]), .list (q.map fun p => PyData.tuple [.int p.1, .int p.2]), .lst (SqL.of h1) True.intro x1.dat, .lst (SqL.of h2) True.intro x2.dat, ?_, ?_, ?_, ?_⟩
  · unfold PyData.canLay0; exact lay_row r
  · unfold PyData.canLay0; exact lay_row q
  · unfold PyData.depth; have := depth_row r; omega
  · have e : PyData.eqv (.list (r.map fun p => PyData.tuple [.int p.1, .int p.2])) (.list (q.map fun p => PyData.tuple [.int p.1, .int p.2])) = decide (r = q) := by unfold PyData.eqv; exact eqv_row r q
    rw [e]; exact hq
def swp (x : Int) (e : Int × Int) : Int := if x = e.1 then e.2 else if x = e.2 then e.1 else x
def go (row : List (Int × Int)) (x : Int) : Int := row.foldl swp x
def Good (n : Int) (row : List (Int × Int)) : Prop := ∀ e ∈ row, 1 ≤ e.1 ∧ e.1 < e.2 ∧ e.2 ≤ n
theorem Good.append {n : Int} {r q : List (Int × Int)} (a : Good n r) (b : Good n q) : Good n (r ++ q) := fun e h => (List.mem_append.mp h).elim (a e) (b e)
theorem mem_ivl {lo hi x : Int} : x ∈ ivl lo hi ↔ lo ≤ x ∧ x < hi := by
  unfold ivl
  rw [List.mem_map]
  constructor
  · rintro ⟨i, h, rfl⟩
    have := List.mem_range.mp h
    omega
  · intro h
    exact ⟨(x - lo).toNat, List.mem_range.mpr (by omega), by omega⟩
theorem get_ivl {lo hi : Int} {i : Nat} (h : i < (hi - lo).toNat) : (ivl lo hi)[i]? = some (lo + i) := by
  unfold ivl
  rw [List.getElem?_map, List.getElem?_range h]
  rfl
end Sw
namespace L2
open PySem PySem.Spec PyProof.Rows
theorem comp_by {ix : List (Option Nat)} {g : TG} {tc : TT} {te : TE} {σ : St} {Q : VK} {J : It} {H : Hp} {n : Nat} (Pv : Nat → List V → St → Hp → Prop) (hn : n ≤ 1000000) (h0 : Pv 0 [] (startC ix σ) H)
    (hgo : ∀ i ys σ H, i < n → Pv i ys σ H → J.go i H) (hst : ∀ ys σ H, Pv n ys σ H → J.stop n H) (hlen : ∀ i ys σ H, Pv i ys σ H → ys.length ≤ i)
    (hs : ∀ i ys σ H x H2 (R : St → List V → Hp → Prop), i < n → Pv i ys σ H → J.yld i H x H2 → (∀ σ2 ys2 H5, Pv (i + 1) ys2 σ2 H5 → R σ2 ys2 H5) →
      g x σ H2 fun σ2 H3 => tc σ2 H3 fun b H4 => if b = true then te σ2 H4 fun v H5 => R σ2 (ys ++ [v]) H5 else R σ2 ys H4)
    (hd : ∀ ys σ' H' p, Pv n ys σ' H' → H' p = none → Q (.ref p) (upd H' p (.lst ys))) : rComp ix g tc te σ Q J H := by
  have big : (1000000 : Nat) < sizeLine := by decide
  refine ⟨fun i m ys σ' H' => m = n - i ∧ i ≤ n ∧ Pv i ys σ' H', ⟨n, by simp, Nat.zero_le _, h0⟩, ?_⟩
  rintro i m ys σ' H' ⟨rfl, hi, p⟩
  have hl := hlen i ys σ' H' p
  by_cases hlt : i < n
  · refine .inr ⟨hgo i ys σ' H' hlt p, by omega, fun x H2 y => ?_⟩
    exact hs i ys σ' H' x H2 (fun σ2 ys2 H5 => ∃ m', m' < n - i ∧ (m' = n - (i + 1) ∧ i + 1 ≤ n ∧ Pv (i + 1) ys2 σ2 H5)) hlt p y fun σ2 ys2 H5 q => ⟨n - (i + 1), by omega, rfl, hlt, q⟩
  · have e : i = n := by omega
    subst e
    exact .inl ⟨hst ys σ' H' p, by omega, fun q hq => hd ys σ' H' q p hq⟩
theorem compL {K : PySem.W.Frag} {ix : List (Option Nat)} {te : TE} {σ : St} {Q : VK} {H : Hp} {a : Addr} {xs : List V} {k : Nat} (Pv : Nat → List V → St → Hp → Prop) (hn : xs.length ≤ 1000000) (h0 : Pv 0 [] (startC ix σ) H)
    (hl : ∀ i ys σ H, i ≤ xs.length → Pv i ys σ H → SqL K H a xs) (hlen : ∀ i ys σ H, Pv i ys σ H → ys.length ≤ i)
    (hs : ∀ i ys σ H x (R : St → List V → Hp → Prop), xs[i]? = some x → Pv i ys σ H → (∀ σ2 ys2 H5, Pv (i + 1) ys2 σ2 H5 → R σ2 ys2 H5) → te (σ.set k (some x)) H fun v H5 => R (σ.set k (some x)) (ys ++ [v]) H5)
    (hd : ∀ ys σ' H' p, Pv xs.length ys σ' H' → H' p = none → Q (.ref p) (upd H' p (.lst ys))) : rComp ix (gName k) tTrue te σ Q (Itl K a) H := by
  refine comp_by Pv hn h0 (fun i ys σ H hi p => ⟨xs, xs[i], hl i ys σ H (Nat.le_of_lt hi) p, by simp [hi]⟩) (fun ys σ H p => ⟨xs, hl _ ys σ H (Nat.le_refl _) p, Nat.le_refl _⟩) hlen (fun i ys σ H x H2 R hi p y r => ?_) hd
  obtain ⟨rfl, y⟩ := y
  unfold gName tTrue
  simp only [if_true]
  exact hs i ys σ _ x R (y xs (hl i ys σ _ (Nat.le_of_lt hi) p)) p r
theorem compT {K : PySem.W.Frag} {ix : List (Option Nat)} {te : TE} {σ : St} {Q : VK} {H : Hp} {a : Addr} {xs : List V} {k : Nat} (Pv : Nat → List V → St → Hp → Prop) (hn : xs.length ≤ 1000000) (h0 : Pv 0 [] (startC ix σ) H)
    (hl : ∀ i ys σ H, i ≤ xs.length → Pv i ys σ H → SqT K H a xs) (hlen : ∀ i ys σ H, Pv i ys σ H → ys.length ≤ i)
    (hs : ∀ i ys σ H x (R : St → List V → Hp → Prop), xs[i]? = some x → Pv i ys σ H → (∀ σ2 ys2 H5, Pv (i + 1) ys2 σ2 H5 → R σ2 ys2 H5) → te (σ.set k (some x)) H fun v H5 => R (σ.set k (some x)) (ys ++ [v]) H5)
    (hd : ∀ ys σ' H' p, Pv xs.length ys σ' H' → H' p = none → Q (.ref p) (upd H' p (.lst ys))) : rComp ix (gName k) tTrue te σ Q (Itt K a) H := by
  refine comp_by Pv hn h0 (fun i ys σ H hi p => ⟨xs, xs[i], hl i ys σ H (Nat.le_of_lt hi) p, by simp [hi]⟩) (fun ys σ H p => ⟨xs, hl _ ys σ H (Nat.le_refl _) p, Nat.le_refl _⟩) hlen (fun i ys σ H x H2 R hi p y r => ?_) hd
  obtain ⟨rfl, y⟩ := y
  unfold gName tTrue
  simp only [if_true]
  exact hs i ys σ _ x R (y xs (hl i ys σ _ (Nat.le_of_lt hi) p)) p r
theorem compR {ix : List (Option Nat)} {te : TE} {σ : St} {Q : VK} {H : Hp} {lo : Int} {n : Nat} {k : Nat} (Pv : Nat → List V → St → Hp → Prop) (hn : n ≤ 1000000) (h0 : Pv 0 [] (startC ix σ) H) (hlen : ∀ i ys σ H, Pv i ys σ H → ys.length ≤ i)
    (hs : ∀ i ys σ H (R : St → List V → Hp → Prop), i < n → Pv i ys σ H → (∀ σ2 ys2 H5, Pv (i + 1) ys2 σ2 H5 → R σ2 ys2 H5) → te (σ.set k (some (.int (lo + i)))) H fun v H5 => R (σ.set k (some (.int (lo + i)))) (ys ++ [v]) H5)
    (hd : ∀ ys σ' H' p, Pv n ys σ' H' → H' p = none → Q (.ref p) (upd H' p (.lst ys))) : rComp ix (gName k) tTrue te σ Q (Itr lo n) H := by
  refine comp_by Pv hn h0 (fun i ys σ H hi p => hi) (fun ys σ H p => Nat.le_refl _) hlen (fun i ys σ H x H2 R hi p y r => ?_) hd
  obtain ⟨rfl, rfl⟩ := y
  unfold gName tTrue
  simp only [if_true]
  exact hs i ys σ _ R hi p r
section
variable {X : Cx} {K : PySem.W.Frag} {o e : Expr} {es : List Expr} {to : TE} {t : TA} {name : Str} {apos cpos : Pos} {T id : String} {r : V → List V → Hp → VK → Prop}
theorem pe_bm0K (h : X.K = K) (pa : PlainAttrs T) (slot : Slot T name id) (hty : typeOf (.builtin id) = pure (.type "method_descriptor")) (hm : MtR X id r) (ho : PE X o to)
    (hbase : attributeBase o name X.env (eval o X.env) = eval o X.env := by rfl) (hline : (apos.endLine == cpos.line) = true := by rfl) : PE X (.Call (.Attribute o name apos) [] [] cpos) (tBM0 K T r to) := by
  subst h; exact pe_bm0 pa slot hty hm ho hbase hline
theorem pe_bmK (h : X.K = K) (pa : PlainAttrs T) (slot : Slot T name id) (hty : typeOf (.builtin id) = pure (.type "method_descriptor")) (hm : MtR X id r) (ho : PE X o to) (ha : PA X (e :: es) t)
    (hbase : attributeBase o name X.env (eval o X.env) = eval o X.env := by rfl)
    (hfew : ((backTo cpos (starEach (e :: es) X.env)).all (fun x => !x.1) && (backToKw cpos (keywordEach [] X.env)).all (fun x => x.1.isSome)
      && decide ((e :: es).length + ([] : List Keyword).length + (if ([] : List Keyword).isEmpty then 0 else 1) < 30)) = true := by rfl)
    (hline : (apos.endLine == cpos.line) = true := by rfl) (hs : starEach (e :: es) X.env = (false, eval e X.env) :: starEach es X.env := by rfl) (hplain : (backTo cpos (starEach es X.env)).any (·.1) = false := by rfl) :
    PE X (.Call (.Attribute o name apos) (e :: es) [] cpos) (tBM K T r to t) := by
  subst h; exact pe_bm pa slot hty hm ho ha hbase hfew hline hs hplain
theorem sl_listK (h : X.K = K) : SlR X (rSlL K) := by subst h; exact sl_list
end
end L2
namespace Sw
open PySem L2
def Ord (n : Int) (xs : List Int) : Prop := xs.Perm (ivl 1 (n + 1))
theorem Ord.length {n : Int} {xs : List Int} (o : Ord n xs) : xs.length = n.toNat := by
  rw [List.Perm.length_eq o, ivl_length]; congr 1; omega
end Sw
namespace L2
open PySem PySem.Spec PyProof.Rows
def kitB (T C : String) : Option Bool := if (Value.type T == Value.type C) = true then some true else if PySem.W.kitMeta C = true then (fastBuiltinMro T).map (·.contains (Value.type C)) else none
theorem kit_type (K : PySem.W.Frag) {T C : String} {b : Bool} (h : kitB T C = some b) : PySem.W.kitOne K (.type T) (.type C) = some b := h
theorem kit_int_bool (K : PySem.W.Frag) : PySem.W.kitOne K (.type "int") (.type "bool") = some false := kit_type K (by decide +kernel)
end L2
namespace Sw
open PySem L2
def ld (xs : List Int) (x : Int) : Int := xs.getD (x - 1).toNat 0
def itn (f : Int → Int) : Nat → Int → Int
  | 0, x => x
  | k + 1, x => f (itn f k x)
def per (xs : List Int) (x : Int) : Nat := (List.range xs.length).findIdx (fun k => itn (ld xs) (k + 1) x == x) + 1
def orb (xs : List Int) (x : Int) : List Int := (List.range (per xs x)).map fun k => itn (ld xs) k x
def least (xs : List Int) (x : Int) : Bool := (orb xs x).all fun y => decide (x ≤ y)
end Sw
namespace Sw
open PySem L2
inductive Rise : Int → List (Int × Int) → Prop
  | nil {m : Int} : Rise m []
  | snoc {m a b : Int} {r : List (Int × Int)} : Rise (b - 1) r → 1 ≤ a → a < b → b ≤ m → Rise m (r ++ [(a, b)])
end Sw
namespace Sw
open PySem L2
def Cyc (n : Int) (xs r : List Int) : Prop := r ≠ [] ∧ ∀ (i : Nat) (x : Int), r[i]? = some x → 1 ≤ x ∧ x ≤ n ∧ r[(i + 1) % r.length]? = some (ld xs x)
structure Rnds (n : Int) (xs : List Int) (rs : List (List Int)) : Prop where
  cyc : ∀ r ∈ rs, Cyc n xs r
  nd : rs.flatten.Nodup
  rest : ∀ x, 1 ≤ x → x ≤ n → x ∉ rs.flatten → ld xs x = x
structure Part (n : Int) (xs : List Int) (rf rl : List (List Int)) : Prop where
  cf : ∀ r ∈ rf, Cyc n xs r
  cl : ∀ r ∈ rl, Cyc n xs r
  nd : (rf.flatten ++ rl.flatten).Nodup
  rest : ∀ x, 1 ≤ x → x ≤ n → x ∉ rf.flatten → x ∉ rl.flatten → ld xs x = x
end Sw
namespace L2
open PySem PySem.Spec PyProof.Rows
mutual
inductive DT (H : Hp) (P : Addr → Prop) : V → PyData → Prop
  | non : DT H P .non .none
  | bl (b : Bool) : DT H P (.bl b) (.bool b)
  | int (i : Int) : DT H P (.int i) (.int i)
  | str (x : Str) : DT H P (.str x) (.str x)
  | lst {a : Addr} {vs : List V} {ds : List PyData} : H a = some (.lst vs) → P a → DTs H P vs ds → DT H P (.ref a) (.list ds)
  | tup {a : Addr} {vs : List V} {ds : List PyData} : H a = some (.tup vs) → P a → DTs H P vs ds → DT H P (.ref a) (.tuple ds)
inductive DTs (H : Hp) (P : Addr → Prop) : List V → List PyData → Prop
  | nil : DTs H P [] []
  | cons {v : V} {d : PyData} {vs : List V} {ds : List PyData} : DT H P v d → DTs H P vs ds → DTs H P (v :: vs) (d :: ds)
end
mutual
theorem DT.keep {H H' : Hp} {P : Addr → Prop} (k : Keep P H H') : ∀ {v : V} {d : PyData}, DT H P v d → DT H' P v d
  | _, _, .non => .non
  | _, _, .bl b => .bl b
  | _, _, .int i => .int i
  | _, _, .str x => .str x
  | _, _, .lst h p r => .lst (k _ _ p h) p (r.keep k)
  | _, _, .tup h p r => .tup (k _ _ p h) p (r.keep k)
theorem DTs.keep {H H' : Hp} {P : Addr → Prop} (k : Keep P H H') : ∀ {vs : List V} {ds : List PyData}, DTs H P vs ds → DTs H' P vs ds
  | _, _, .nil => .nil
  | _, _, .cons h r => .cons (h.keep k) (r.keep k)
end
mutual
theorem DT.dat {K : PySem.W.Frag} {H : Hp} {P : Addr → Prop} : ∀ {v : V} {d : PyData}, DT H P v d → Dat K H P v d
  | _, _, .non => .non
  | _, _, .bl b => .bl b
  | _, _, .int i => .int i
  | _, _, .str x => .str x
  | _, _, .lst h p r => .lst (SqL.of h) p r.dat
  | _, _, .tup h p r => .tup (SqT.of h) p r.dat
theorem DTs.dat {K : PySem.W.Frag} {H : Hp} {P : Addr → Prop} : ∀ {vs : List V} {ds : List PyData}, DTs H P vs ds → DatAll K H P vs ds
  | _, _, .nil => .nil
  | _, _, .cons h r => .cons h.dat r.dat
end
theorem DTs.length {H : Hp} {P : Addr → Prop} : ∀ {vs : List V} {ds : List PyData}, DTs H P vs ds → vs.length = ds.length
  | _, _, .nil => rfl
  | _, _, .cons h r => by rw [List.length_cons, List.length_cons, r.length]
theorem DTs.append {H : Hp} {P : Addr → Prop} : ∀ {vs ws : List V} {ds es : List PyData}, DTs H P vs ds → DTs H P ws es → DTs H P (vs ++ ws) (ds ++ es)
  | _, _, _, _, .nil, y => y
  | _, _, _, _, .cons h x, y => .cons h (x.append y)
theorem DTs.snoc {H : Hp} {P : Addr → Prop} {vs : List V} {ds : List PyData} {v : V} {d : PyData} (x : DTs H P vs ds) (h : DT H P v d) : DTs H P (vs ++ [v]) (ds ++ [d]) := x.append (.cons h .nil)
theorem DTs.get {H : Hp} {P : Addr → Prop} : ∀ {vs : List V} {ds : List PyData} {i : Nat} {x : V}, DTs H P vs ds → vs[i]? = some x → ∃ d, ds[i]? = some d ∧ DT H P x d
  | _, _, _, _, .nil, e => by simp at e
  | _, _, 0, _, .cons h x, e => by simp at e; subst e; exact ⟨_, rfl, h⟩
  | _, _, i + 1, _, .cons h x, e => by
    obtain ⟨d, e1, e2⟩ := x.get (i := i) (by simpa using e)
    exact ⟨d, by simpa using e1, e2⟩
theorem DTs.ints {H : Hp} {P : Addr → Prop} : ∀ (ns : List Int), DTs H P (ns.map V.int) (ns.map PyData.int)
  | [] => .nil
  | n :: r => .cons (.int n) (DTs.ints r)
def tyD : PyData → String
  | .none => "NoneType"
  | .bool _ => "bool"
  | .int _ => "int"
  | .str _ => "str"
  | .list _ => "list"
  | .tuple _ => "tuple"
  | .dict _ => "dict"
theorem DT.ty {K : PySem.W.Frag} {H : Hp} {P : Addr → Prop} {v : V} {d : PyData} (h : DT H P v d) : TyOf K H v (.type (tyD d)) := by
  cases h with
  | non => exact .non
  | bl b => exact .bl b
  | int i => exact .int i
  | str x => exact .str x
  | lst h p r => exact .lst h
  | tup h p r => exact .tup h
def isL : PyData → Bool
  | .list _ => true
  | _ => false
theorem kit_list (K : PySem.W.Frag) {H : Hp} {P : Addr → Prop} {v : V} {d : PyData} (h : DT H P v d) : PySem.W.kitOne K (.type (tyD d)) (.type "list") = some (isL d) := by
  cases h with
  | non => exact kit_type K (show kitB "NoneType" "list" = some false by decide +kernel)
  | bl b => exact kit_type K (show kitB "bool" "list" = some false by decide +kernel)
  | int i => exact kit_type K (show kitB "int" "list" = some false by decide +kernel)
  | str x => exact kit_type K (show kitB "str" "list" = some false by decide +kernel)
  | lst h p r => exact kit_type K (show kitB "list" "list" = some true by decide +kernel)
  | tup h p r => exact kit_type K (show kitB "tuple" "list" = some false by decide +kernel)
def isT : PyData → Bool
  | .tuple _ => true
  | _ => false
theorem kit_tuple (K : PySem.W.Frag) {H : Hp} {P : Addr → Prop} {v : V} {d : PyData} (h : DT H P v d) : PySem.W.kitOne K (.type (tyD d)) (.type "tuple") = some (isT d) := by
  cases h with
  | non => exact kit_type K (show kitB "NoneType" "tuple" = some false by decide +kernel)
  | bl b => exact kit_type K (show kitB "bool" "tuple" = some false by decide +kernel)
  | int i => exact kit_type K (show kitB "int" "tuple" = some false by decide +kernel)
  | str x => exact kit_type K (show kitB "str" "tuple" = some false by decide +kernel)
  | lst h p r => exact kit_type K (show kitB "list" "tuple" = some false by decide +kernel)
  | tup h p r => exact kit_type K (show kitB "tuple" "tuple" = some true by decide +kernel)
def isI : PyData → Bool
  | .int _ => true
  | .bool _ => true
  | _ => false
theorem kit_int (K : PySem.W.Frag) {H : Hp} {P : Addr → Prop} {v : V} {d : PyData} (h : DT H P v d) : PySem.W.kitOne K (.type (tyD d)) (.type "int") = some (isI d) := by
  cases h with
  | non => exact kit_type K (show kitB "NoneType" "int" = some false by decide +kernel)
  | bl b => exact kit_type K (show kitB "bool" "int" = some true by decide +kernel)
  | int i => exact kit_type K (show kitB "int" "int" = some true by decide +kernel)
  | str x => exact kit_type K (show kitB "str" "int" = some false by decide +kernel)
  | lst h p r => exact kit_type K (show kitB "list" "int" = some false by decide +kernel)
  | tup h p r => exact kit_type K (show kitB "tuple" "int" = some false by decide +kernel)
def isB : PyData → Bool
  | .bool _ => true
  | _ => false
theorem kit_bool (K : PySem.W.Frag) {H : Hp} {P : Addr → Prop} {v : V} {d : PyData} (h : DT H P v d) : PySem.W.kitOne K (.type (tyD d)) (.type "bool") = some (isB d) := by
  cases h with
  | non => exact kit_type K (show kitB "NoneType" "bool" = some false by decide +kernel)
  | bl b => exact kit_type K (show kitB "bool" "bool" = some true by decide +kernel)
  | int i => exact kit_type K (show kitB "int" "bool" = some false by decide +kernel)
  | str x => exact kit_type K (show kitB "str" "bool" = some false by decide +kernel)
  | lst h p r => exact kit_type K (show kitB "list" "bool" = some false by decide +kernel)
  | tup h p r => exact kit_type K (show kitB "tuple" "bool" = some false by decide +kernel)
structure Fit (B : Nat) (d : PyData) : Prop where
  sh : d.showable = true
  nd : d.hasDict = false
  dp : d.depth ≤ 20
  ls : PyData.leavesShort 40 d = true
  wt : d.weight ≤ B
structure Fits (B k : Nat) (ds : List PyData) : Prop where
  sh : PyData.showableAll ds = true
  nd : PyData.hasDictAll ds = false
  dp : PyData.depthAll ds ≤ k
  ls : PyData.leavesShortAll 40 ds = true
  wt : PyData.weightAll ds ≤ B * ds.length
end L2
namespace L2
open PySem PySem.Spec PyProof.Rows
def Lone (h : Heap) (e : Addr) : Prop := ∃ o vs, h.get? e = some o ∧ o.data = .fields vs ∧ vs[2]? = some .none
section
variable {M : Model} {A : Around} {E : Value → Shared → Prop} {s : Shared} {B : Heap} {env : Env} {outer : List Env} {L e : Addr} {cls a0 : Value}
abbrev tbObj (head : Value) (L : Addr) (pl : List Value) : Obj := { cls := .type "traceback", dict := none, data := .fields ([head, .ref L, .none, rawInt L, .none] ++ (if pl.isEmpty then List.replicate 6 Value.none else pl)).toArray }
theorem entry_lone {o : Obj} {vs : Array Value} {head : Value} {hadNext : Bool} {Q : Unit → Shared → Prop}
    (fr : A.frames = some (env :: outer)) (ff : s.heap.FunFrames B (env :: outer)) (ef : env.frame = some L) (eo : s.heap.get? e = some o) (kb : B.StaysIn s.heap) (en : B.get? e = none) (ed : o.data = .fields vs) (z0 : vs[0]? = some a0) (z2 : vs[2]? = some .none)
    (k : ∀ h', Heap.NotedW B (env :: outer) e o.cls a0 (rawInt L) s.heap h' → Lone h' e → Q () { s with heap := h' }) :
    wpAny M A (do let a ← frameOf env; let pl ← entryPlaceOf L hadNext; let b ← EntryCells.newEntry head a .none (rawInt L) .none pl; setField (.ref e) 1 b) Q E s := by
  have n2 : 2 < vs.size := (Array.getElem?_eq_some_iff.mp z2).1
  have n1 : 1 < vs.size := by omega
  have eno : e ∉ (env :: outer).filterMap (·.frame) := fun hm => by
    obtain ⟨_, o', ho, hnf⟩ := ff.mem hm
    rw [eo] at ho
    cases ho
    exact hnf vs ed
  refine wpAny_bind (wpAny_frameOf_fun fr ff ef fun g hs => wpAny_bind (wpAny_entryPlaceOf fun pl hpl => ?_))
  unfold EntryCells.newEntry newFields
  refine wpAny_bind (wpAny_newObj_type ?_ (hpl.sizeOk5 _ _ _ _ _))
  have eo1 : g.get? e = some o := (hs.2.1 e eno).trans eo
  have kb1 : B.StaysIn g := fun b u hb => (hs.2.1 b fun hm => by rw [(ff.mem hm).1] at hb; cases hb).trans (kb b u hb)
  have eo2 := Heap.get?_push_of_some (h := g) (tbObj head L pl) eo1
  have nT : g.objs.size ≠ e := Nat.ne_of_gt (Heap.lt_size eo1)
  have d3 := Obj.data_mapFields ed (·.setIfInBounds 1 (Value.ref g.objs.size))
  have eo3 := Heap.get?_update_self (Obj.mapFields (·.setIfInBounds 1 (Value.ref g.objs.size))) eo2 (Obj.isFreed_of_fields d3)
  have tb3 := (Heap.get?_update_other (g.push (tbObj head L pl)) (Obj.mapFields (·.setIfInBounds 1 (Value.ref g.objs.size))) (Ne.symm nT)).trans (Heap.get?_push_size g rfl)
  have stay : ∀ b u, b ≠ e → g.get? b = some u → ((g.push (tbObj head L pl)).update e (Obj.mapFields (·.setIfInBounds 1 (Value.ref g.objs.size)))).get? b = some u := fun b u hbe hb =>
    (Heap.get?_update_other _ _ (Ne.symm hbe)).trans (Heap.get?_push_of_some _ hb)
  have noE : ∀ b u, s.heap.get? b = some u → (∀ ws, u.data ≠ .fields ws) → b ≠ e := fun b u hb hnf q => by
    rw [q, eo] at hb
    cases hb
    exact hnf vs ed
  refine wpAny_setField eo2 ed n1 (k _ ⟨fun b u hb => stay b u (fun q => by rw [q, en] at hb; cases hb) (kb1 b u hb), ff.of_keeps fun b u hb hnf => ?_, ?_, fun b u hb hnf => ?_⟩ ⟨_, _, eo3, d3, ?_⟩)
  · obtain ⟨sl, hq⟩ := hs.2.2 b u hb
    exact ⟨_, stay b _ (noE b u hb hnf) hq, rfl⟩
  · refine ⟨_, _, g.objs.size, _, _, eo3, ⟨Obj.cls_mapFields _ _, ?_⟩, d3, by simp [n1], kb1.fresh, nT, tb3, rfl, ?_⟩
    · rw [Array.getElem?_setIfInBounds_ne (by decide)]; exact z0
    · rcases hpl with rfl | ⟨_, _, _, _, _, _, _, rfl⟩ <;> simp
  · obtain ⟨sl, hq⟩ := hs.2.2 b u hb
    exact ⟨sl, stay b _ (noE b u hb hnf) hq⟩
  · rw [Array.getElem?_setIfInBounds_ne (by decide)]; exact z2
theorem Lone.sees {h : Heap} (l : Lone h e) (t : h.TracedW B e cls a0) : ∃ oe vs T oT ts, h.get? e = some oe ∧ oe.cls = cls ∧ vs[0]? = some a0 ∧ vs[2]? = some .none ∧ oe.data = .fields vs ∧ vs[1]? = some (.ref T) ∧ B.get? T = none ∧ T ≠ e ∧ h.get? T = some oT ∧ oT.data = .fields ts ∧ ts[3]? = some .none := by
  obtain ⟨o, vs, h1, h2, h3⟩ := l
  obtain ⟨oe, ws, T, oT, ts, g1, ⟨g2, g3⟩, g4, g5, g6, g7, g8, g9, g10⟩ := t
  rw [h1] at g1
  cases g1
  rw [h2] at g4
  cases g4
  exact ⟨o, vs, T, oT, ts, h1, g2, g3, h3, h2, g5, g6, g7, g8, g9, g10⟩
theorem note_lone {Q : Unit → Shared → Prop} (fr : A.frames = some (env :: outer)) (ef : env.frame = some L) (fl : Heap.FlyingW B (env :: outer) e cls a0 s.heap) (l : Lone s.heap e)
    (k : ∀ h', Heap.HeldW B (env :: outer) e cls a0 L h' → s.heap.UpToSlots h' → Lone h' e → Q () { s with heap := h' }) : wpAny M A (noteFrame (.ref e) env) Q E s := by
  obtain ⟨kb, en, ff, t⟩ := fl
  obtain ⟨oe, vs, T, oT, ts, eo, rfl, z0, z2, ed, z1, tn, nT, et, dT, z3⟩ := l.sees t
  unfold noteFrame
  simp only [ef]
  refine wpAny_bind (wpAny_field eo ed z1 ?_)
  rw [if_pos (by simp)]
  refine wpAny_bind (wpAny_field et dT z3 ?_)
  rw [if_neg (by simp [rawInt])]
  refine wpAny_bind (wpAny_setField et dT (Array.getElem?_eq_some_iff.mp z3).1 ?_)
  have oth : ∀ b, b ≠ T → (s.heap.update T (Obj.mapFields (·.setIfInBounds 3 Value.none))).get? b = s.heap.get? b := fun b hb => Heap.get?_update_other _ _ (Ne.symm hb)
  have noT : ∀ b u, s.heap.get? b = some u → (∀ ws, u.data ≠ .fields ws) → b ≠ T := fun b u hb hnf q => by
    rw [q, et] at hb
    cases hb
    exact hnf ts dT
  refine entry_lone fr (ff.of_keeps fun b u hb hnf => ⟨u, (oth b (noT b u hb hnf)).trans hb, rfl⟩) ef ((oth e (Ne.symm nT)).trans eo) (fun b u hb => (oth b fun q => by rw [q, tn] at hb; cases hb).trans (kb b u hb)) en ed z0 z2 fun h' ⟨x1, x2, x3, x4⟩ l' => ?_
  exact k h' ⟨x1, en, x2, x3⟩ (fun b u hb hnf => x4 b u ((oth b (noT b u hb hnf)).trans hb) hnf) l'
theorem land_lone {fl : Value} {l : List Env} {Q : Unit → Shared → Prop} (kb : B.StaysIn s.heap) (en : B.get? e = none) (ff : s.heap.FunFrames B l) (t : s.heap.TracedAtW B e cls a0 fl) (lo : Lone s.heap e)
    (k : ∀ h', Heap.FlyingW B l e cls a0 h' → s.heap.UpToSlots h' → Lone h' e → Q () { s with heap := h' }) : wpAny M A (setFlight (.ref e) none) Q E s := by
  obtain ⟨o, vs, h1, h2, h3⟩ := lo
  obtain ⟨oe, ws, T, oT, ts, g1, g2, g4, g5, g6, g7, g8, g9, g10⟩ := t
  rw [h1] at g1
  cases g1
  rw [h2] at g4
  cases g4
  have sz : 3 < ts.size := (Array.getElem?_eq_some_iff.mp g10).1
  have oth : ∀ b, b ≠ T → (s.heap.update T (Obj.mapFields (·.setIfInBounds 3 ((none : Option Addr).elim Value.none fun f => rawInt f)))).get? b = s.heap.get? b := fun b hb => Heap.get?_update_other _ _ (Ne.symm hb)
  have noT : ∀ b u, s.heap.get? b = some u → (∀ ws, u.data ≠ .fields ws) → b ≠ T := fun b u hb hnf q => by
    rw [q, g8] at hb
    cases hb
    exact hnf ts g9
  have e' := (oth e (Ne.symm g7)).trans h1
  unfold setFlight
  refine wpAny_bind (wpAny_field h1 h2 g5 ?_)
  rw [if_pos (by simp)]
  refine wpAny_setField g8 g9 sz (k _ ⟨fun b u hb => (oth b fun q => by rw [q, g6] at hb; cases hb).trans (kb b u hb), en, ff.of_keeps fun b u hb hnf => ⟨u, (oth b (noT b u hb hnf)).trans hb, rfl⟩, ?_⟩ (fun b u hb hnf => ⟨u.slots, (oth b (noT b u hb hnf)).trans hb⟩) ⟨o, vs, e', h2, h3⟩)
  exact ⟨o, vs, T, _, _, e', g2, h2, g5, g6, g7, Heap.get?_update_self _ g8 (Obj.isFreed_of_fields (Obj.data_mapFields g9 _)), Obj.data_mapFields g9 _, by simp [sz]⟩
theorem leave_lone {Q : Unit → Shared → Prop} (fr : A.frames = some (env :: outer)) (ef : env.frame = some L) (fl : Heap.FlyingW B (env :: outer) e cls a0 s.heap) (l : Lone s.heap e)
    (k : ∀ h', Heap.FlyingW B (env :: outer) e cls a0 h' → s.heap.UpToSlots h' → Lone h' e → Q () { s with heap := h' }) : wpAny M A (leaving env (.ref e)) Q E s := by
  unfold leaving
  refine wpAny_bind (note_lone fr ef fl l fun g hh sm l' => ?_)
  obtain ⟨f1, f2, f3, f4⟩ := hh
  exact land_lone (s := { s with heap := g }) f1 f2 f3 f4 l' fun h' a1 a2 a3 => k h' a1 (sm.trans a2) a3
theorem leave_made {o : Obj} {vs : Array Value} {Q : Unit → Shared → Prop} (fr : A.frames = some (env :: outer)) (ff : s.heap.FunFrames B (env :: outer)) (ef : env.frame = some L) (eo : s.heap.get? e = some o) (kb : B.StaysIn s.heap) (en : B.get? e = none) (ed : o.data = .fields vs) (z0 : vs[0]? = some a0) (z1 : vs[1]? = some .none) (z2 : vs[2]? = some .none)
    (k : ∀ h', Heap.FlyingW B (env :: outer) e o.cls a0 h' → s.heap.UpToSlots h' → Lone h' e → Q () { s with heap := h' }) : wpAny M A (leaving env (.ref e)) Q E s := by
  unfold leaving noteFrame
  simp only [ef]
  refine wpAny_bind (wpAny_bind (wpAny_field eo ed z1 ?_))
  rw [if_neg (by decide)]
  refine entry_lone fr ff ef eo kb en ed z0 z2 fun g hn l' => ?_
  obtain ⟨f1, f3, f4, sm⟩ := hn
  exact land_lone (s := { s with heap := g }) f1 en f3 f4 l' fun h' a1 a2 a3 => k h' a1 (Heap.UpToSlots.trans sm a2) a3
end
end L2
namespace L2
open PySem PySem.Spec PyProof.Rows
theorem ObjOk.here {P : Program} {w : World} {H : Hp} {h : Heap} {a : Addr} {o : HO} (x : ObjOk P w H h a o) : ∃ ob, h.get? a = some ob := by
  cases o with
  | lst xs => obtain ⟨_, _, _, _, e⟩ := x; exact ⟨_, e⟩
  | tup xs => obtain ⟨_, _, _, ob, e, _⟩ := x; exact ⟨_, e⟩
  | dK kvs => obtain ⟨_, _, _, _, o, _, _, e, _⟩ := x; exact ⟨_, e⟩
  | dT kvs => obtain ⟨_, _, _, _, o, _, _, e, _⟩ := x; exact ⟨_, e⟩
  | set S n => obtain ⟨o, _, _, _, e, _⟩ := x; exact ⟨_, e⟩
  | ins C dx fs => obtain ⟨_, _, _, e, _⟩ := x; exact ⟨_, e⟩
  | own y => obtain ⟨_, e⟩ := x; exact ⟨_, e⟩
  | xd fs => obtain ⟨_, ⟨_, _, _, e, _⟩, _⟩ := x; exact ⟨_, e⟩
  | rng lo hi => obtain ⟨_, _, _, e⟩ := x; exact ⟨_, e⟩
  | frz ob u => obtain ⟨e, _⟩ := x; exact ⟨_, e⟩
  | tbl ps => exact ⟨_, (show h.get? a = some _ from x)⟩
  | met f y => exact ⟨_, (show h.get? a = some _ from x)⟩
  | ext φ => obtain ⟨_, ⟨_, e⟩, _⟩ := x; exact ⟨_, e⟩
structure Fly (P : Program) (w : World) (fr : List Env) (H : Hp) (h : Heap) (e : Addr) (cls a0 : Value) (B : Heap) (H' : Hp) (h' : Heap) : Prop where
  un : Un (frs fr) [] H H' h h'
  hok : HOk P w H' h'
  fl : Heap.FlyingW B fr e cls a0 h'
  old : ∀ b o o', h.get? b = some o → b ∉ frs fr → h'.get? b = some o' → B.get? b = some o'
  trk : ∀ b u o', H' b = some u → h'.get? b = some o' → B.get? b = some o'
  frf : ∀ b ∈ frs fr, H' b = none
  lo : Lone h' e
section
variable {P : Program} {w : World} {fr : List Env} {H H' : Hp} {h h' h'' : Heap} {e : Addr} {cls a0 : Value} {B : Heap}
theorem Fly.move0 (fun_ : Un (frs fr) [] H H' h h') (fhok : HOk P w H' h') (ff : h'.FunFrames B fr) (fold : ∀ b o o', h.get? b = some o → b ∉ frs fr → h'.get? b = some o' → B.get? b = some o')
    (ftrk : ∀ b u o', H' b = some u → h'.get? b = some o' → B.get? b = some o') (ffrf : ∀ b ∈ frs fr, H' b = none) (fl : Heap.FlyingW B fr e cls a0 h'') (sm : h'.UpToSlots h'') (lo : Lone h'' e) : Fly P w fr H h e cls a0 B H' h'' where
  un := by
    refine ⟨fun b o q n hb hx => ?_, fun b o q n hb hx => ?_, fun_.free, fun b o q hx => ?_, fun_.tups, fun_.frzs, fun_.tbls⟩
    · have e1 := fun_.keep b o q n hb hx
      exact fl.1 b o (fold b o o q hb e1)
    · obtain ⟨sl, e1⟩ := fun_.slot b o q n hb hx
      obtain ⟨_, o1, e2, nf⟩ := ff.mem hb
      rw [e1] at e2; cases e2
      obtain ⟨sl', e3⟩ := sm b _ e1 nf
      exact ⟨sl', e3⟩
    · obtain ⟨o1, e1⟩ := fun_.there b o q hx
      by_cases hb : b ∈ frs fr
      · obtain ⟨_, o2, e2, nf⟩ := ff.mem hb
        rw [e1] at e2; cases e2
        obtain ⟨sl', e3⟩ := sm b _ e1 nf
        exact ⟨_, e3⟩
      · exact ⟨o1, fl.1 b o1 (fold b o o1 q hb e1)⟩
  hok := fun a o q => (fhok a o q).stay (fun b u hb z => by
      rcases hb with rfl | hb
      · exact fl.1 b u (ftrk b _ u q z)
      · exact fl.1 b u (ftrk b _ u hb z)) (fun _ z => z) fun _ _ z => z
  fl := fl
  old := fun b o o' q hb z => by
    obtain ⟨o1, e1⟩ := fun_.there b o q (by simp)
    have e2 := fold b o o1 q hb e1
    have e3 := fl.1 b o1 e2
    rw [z] at e3; cases e3
    exact e2
  trk := fun b u o' q z => by
    obtain ⟨o1, e1⟩ := (fhok b u q).here
    have e2 := ftrk b u o1 q e1
    have e3 := fl.1 b o1 e2
    rw [z] at e3; cases e3
    exact e2
  frf := ffrf
  lo := lo
theorem Fly.move (F : Fly P w fr H h e cls a0 B H' h') (fl : Heap.FlyingW B fr e cls a0 h'') (sm : h'.UpToSlots h'') (lo : Lone h'' e) : Fly P w fr H h e cls a0 B H' h'' := Fly.move0 F.un F.hok F.fl.2.2.1 F.old F.trk F.frf fl sm lo
theorem Fly.out {X : Cx} {pins : List (Addr × Obj)} {σ : St} {s : Shared} (I : Inv X pins σ H s) (hst : X.stack = X.env :: X.outer) (hex : X.ex = []) (F : Fly P w X.stack H s.heap e cls a0 B H' h') : Fly P w X.outer X.H₀ X.s₀.heap e cls a0 B H' h' := by
  have nx : ∀ b : Addr, b ∉ X.ex := fun b z => by rw [hex] at z; cases z
  have ns : ∀ b o, X.s₀.heap.get? b = some o → b ∉ frs X.outer → b ∉ frs X.stack := fun b o q hb z => by
    rcases List.mem_cons.mp (I.stkSub b z) with r | r
    · subst r
      exact absurd (Nat.lt_of_lt_of_le (Heap.lt_size q) I.ok.above) (Nat.lt_irrefl _)
    · exact hb r
  have so : ∀ b ∈ frs X.outer, b ∈ frs X.stack := fun b z => by
    rw [hst]
    unfold frs at z ⊢
    rw [List.filterMap_cons]
    split
    · exact z
    · exact List.mem_cons_of_mem _ z
  refine ⟨⟨fun b o q n hb hx => ?_, fun b o q n hb hx => ?_, fun b o q n hx => ?_, fun b o q hx => ?_, fun b xs q => F.un.tups b xs (I.base.tups b xs q), fun b o u q => F.un.frzs b o u (I.base.frzs b o u q), fun b ps q => ?_⟩, F.hok, ?_, fun b o o' q hb z => ?_, F.trk, fun b hb => F.frf b (so b hb), F.lo⟩
  · exact F.un.keep b o (I.base.keep b o q n hb (nx b)) (I.base.free b o q n (nx b)) (ns b o q hb) (by simp)
  · obtain ⟨sl, e1⟩ := I.base.slot b o q n hb (nx b)
    obtain ⟨sl', e2⟩ := F.un.any e1 (I.base.free b o q n (nx b)) (by simp)
    exact ⟨sl', e2⟩
  · obtain ⟨o1, e1⟩ := I.base.there b o q (nx b)
    exact F.un.free b o1 e1 (I.base.free b o q n (nx b)) (by simp)
  · obtain ⟨o1, e1⟩ := I.base.there b o q (nx b)
    exact F.un.there b o1 e1 (by simp)
  · obtain ⟨m1, e1⟩ := I.base.tbls b ps q
    obtain ⟨m2, e2⟩ := F.un.tbls b _ e1
    exact ⟨m1 ++ m2, by rw [e2, Array.append_assoc]⟩
  · have f := F.fl
    rw [hst] at f
    exact ⟨f.1, f.2.1, f.2.2.1.2.2, f.2.2.2⟩
  · obtain ⟨o1, e1⟩ := I.base.there b o q (nx b)
    exact F.old b o1 o' e1 (ns b o q hb) z
end
def CX1 (P : Program) (w : World) : CXT := fun fr H s E ev s' => ∃ (e : Addr) (cls a0 : Value) (B : Heap) (H' : Hp), ev = .ref e ∧ s'.os = s.os ∧ AllBare s'.gens ∧ Fly P w fr H s.heap e cls a0 B H' s'.heap ∧ E cls none H'
section
variable {P : Program} {w : World} {K : PySem.W.Frag} {mg : Str → Option Value} {base : Heap} {N : List Str} {qual : Str} {scope : Scope} {f : Addr} {cdv : Value} {A : Around} {outer : List Env} {s : Shared} {H : Hp} {E : XK}
abbrev cx1 (P : Program) (w : World) (K : PySem.W.Frag) (mg : Str → Option Value) (base : Heap) (N : List Str) (qual : Str) (scope : Scope) (f : Addr) (cdv : Value) (A : Around) (outer : List Env) (s : Shared) (H : Hp) (E : XK) : Cx := cxOf (CX1 P w) P w K mg base N qual scope f cdv A outer s H E
theorem pass1 : Passes (CX1 P w) (cx1 P w K mg base N qual scope f cdv A outer s H E) E := by
  intro pins σ H₁ s₁ ev s' I h
  obtain ⟨e, cls, a0, B, H', rfl, os, bare, F, q⟩ := h
  show wpAny _ _ (leaving _ (.ref e)) _ _ s'
  refine leave_lone (B := B) I.ok.frames rfl F.fl F.lo fun h'' fl sm lo => ?_
  exact ⟨e, cls, a0, B, H', rfl, os.trans I.os, bare, Fly.out I rfl rfl (F.move fl sm lo), q⟩
theorem leaves1 {pins : List (Addr × Obj)} {σ : St} {H₁ : Hp} {s₁ : Shared} {h' : Heap} {e : Addr} {cls : Value} {args : List Value} (I : Inv (cx1 P w K mg base N qual scope f cdv A outer s H E) pins σ H₁ s₁)
    (M : Heap.MadeExcOf s₁.heap h' e cls args) (q : E cls none H₁) : (cx1 P w K mg base N qual scope f cdv A outer s H E).xe (.ref e) { s₁ with heap := h' } := by
  obtain ⟨t, he, htn, ht⟩ := M.there
  show wpAny _ _ (leaving _ (.ref e)) _ _ _
  have st := I.stack
  have ff := PySem.W.funFrames_hide (as := frs (cx1 P w K mg base N qual scope f cdv A outer s H E).stack) st fun env hm a ha => List.mem_filterMap.mpr ⟨env, hm, ha⟩
  have hen : (PySem.W.hideAll s₁.heap (frs (cx1 P w K mg base N qual scope f cdv A outer s H E).stack)).get? e = none := by
    cases z : (PySem.W.hideAll s₁.heap (frs (cx1 P w K mg base N qual scope f cdv A outer s H E).stack)).get? e with
    | none => rfl
    | some o => have := PySem.W.of_hideAll _ z; rw [M.new] at this; cases this
  refine leave_made (B := PySem.W.hideAll s₁.heap (frs (cx1 P w K mg base N qual scope f cdv A outer s H E).stack)) (a0 := .ref t) I.ok.frames (ff.of_keeps fun b o hb _ => ⟨o, M.keeps b o hb, rfl⟩) rfl he (fun b o z => M.keeps b o (PySem.W.of_hideAll _ z)) hen rfl rfl rfl rfl fun h'' fl k4 lo => ?_
  refine ⟨e, cls, .ref t, PySem.W.hideAll s₁.heap (frs (cx1 P w K mg base N qual scope f cdv A outer s H E).stack), H₁, rfl, I.os, I.bare, Fly.out I rfl rfl (Fly.move0 (h' := h') (Un.kept M.keeps) (I.hok.kept M.keeps) (ff.of_keeps fun b o hb _ => ⟨o, M.keeps b o hb, rfl⟩) (fun b o o' z hb zz => ?_) (fun b u o' z zz => ?_) I.stkFree fl k4 lo), q⟩
  · have := M.keeps b o z
    rw [zz] at this; cases this
    exact PySem.W.hideAll_get _ z hb
  · obtain ⟨o1, e1⟩ := (I.hok b u z).here
    have := M.keeps b o1 e1
    rw [zz] at this; cases this
    exact PySem.W.hideAll_get _ e1 fun hb => by rw [I.stkFree b hb] at z; cases z
end
end L2
namespace L2
open PySem PySem.Spec PyProof.Rows
abbrev bmV : List Value := [.type "ValueError", .type "Exception", .type "BaseException", .type "object"]
abbrev ExcC (K : PySem.W.Frag) (C : Addr) : Prop := PySem.W.excIn K C bmV "ValueError.__new__" = true
theorem own_in {K : PySem.W.Frag} {h : Heap} {mg : Str → Option Value} {x : Str} {C : Addr} {bmB : List Value} {newId : String} (X : K.In h) (hm : mg x = some (.ref C)) (q : PySem.W.excIn K C bmB newId = true) : OwnCls x C bmB newId mg h := by
  refine ⟨hm, ?_⟩
  unfold PySem.W.excIn at q
  split at q
  · rename_i dd cd sl ho
    split at q
    · rename_i C' bm k0 k1 k2 k3 n k5 hm hs
      simp only [Bool.and_eq_true, beq_iff_eq, Bool.not_eq_true'] at q
      obtain ⟨⟨⟨⟨⟨rfl, rfl⟩, hdel⟩, ht⟩, hok⟩, hni⟩ := q
      obtain ⟨nm, bs, mro, ns, qn, hd, sn, sub, ab, col, del⟩ := cd
      dsimp only at hm hdel hok hni
      subst hm hdel
      have hsl : sl = #[k0, k1, k2, k3, some (.builtin n), k5] := by
        obtain ⟨l⟩ := sl
        simp only at hs
        rw [hs]
      subst hsl
      exact ⟨bm, ns, nm, qn, bs, hd, sn, sub, ab, col, dd, k0, k1, k2, k3, k5, _, X _ _ ho, .of_isNs (PySem.W.isNs_of_in X hok), PySem.W.nsMap_none_of_in X hok hni, PySem.W.tail_of_in X ht⟩
    · cases q
  · cases q
def tRaise (E : XK) (cls : Value) (ta : TA) : TS := fun _ σ H => ta σ H fun vs H1 => vs.length ≤ sizeLine ∧ E cls none H1
section
variable {X : Cx} {E : XK} {C : Addr} {x : Str} {np cpos pos : Pos} {e₀ : Expr} {rest : List Expr} {ta : TA}
def Lvs (X : Cx) (E : XK) : Prop := ∀ (pins : List (Addr × Obj)) (σ : St) (H : Hp) (s : Shared) (h' : Heap) (e : Addr) (cls : Value) (args : List Value), Inv X pins σ H s → Heap.MadeExcOf s.heap h' e cls args → E cls none H → X.xe (.ref e) { s with heap := h' }
theorem ps_raise (L : Lvs X E) (O : ExcC X.K C) (hc : X.calm = true) (hg : Gl X x) (hm : X.mg x = some (.ref C)) (ha : PA X (e₀ :: rest) ta) (hdb : (x == ("__debug__" : Str)) = false := by decide)
    (he : starEach (e₀ :: rest) X.env = (false, eval e₀ X.env) :: starEach rest X.env := by rfl) (hpl : (backTo cpos (starEach rest X.env)).any (·.1) = false := by rfl) :
    PS X (.Raise (some (.Call (.Name x np) (e₀ :: rest) [] cpos)) none pos) (tRaise E (.ref C) ta) := by
  intro pins s σ H D I h
  obtain ⟨tl, N, nm, q, bs, hdct, sn, sub, ab, col, dd, k0, k1, k2, k3, k5, mN, hC, hN, hni, T⟩ := (own_in I.mod.kin hm O).obj
  refine wpAny_Raise_call_subT (C := C) (nm := nm) (q := q) (N := N) (bs := bs) (bm := tl) (hdct := hdct) (sn := sn) (sub := sub) (ab := ab) (col := col) (dd := dd) (k0 := k0) (k1 := k1) (k2 := k2) (k3 := k3) (k5 := k5)
    PySem.F.excBase_ValueError (mN := mN) (T.hasType (by decide)) (I.ok.hd hc) (by rw [he]; show (false || (backTo cpos (starEach rest X.env)).any (·.1)) = false; rw [hpl]; rfl) hni (ld_glob I hg hm ⟨rfl, ?_⟩ hdb)
  have hq := ha cpos pins s σ H _ I h
  rw [he] at hq ⊢
  refine Calls.evalArgs_plain (wpAny_mono hq (fun us s₂ h₂ => ?_) fun _ _ y => y)
  obtain ⟨vs, H2, I2, r, z, ez⟩ := h₂
  refine ⟨rfl, by rw [← r.length]; exact z, I2.bk _ _ hC, hN.keeps I2.bk, T.keeps I2.bk, fun h' e M => L pins σ H2 s₂ h' e _ _ I2 M ez⟩
end
section
variable {P : Program} {w : World} {K : PySem.W.Frag} {mg : Str → Option Value} {base : Heap} {N : List Str} {qual : Str} {scope : Scope} {f : Addr} {cdv : Value} {A : Around} {outer : List Env} {s : Shared} {H : Hp} {E : XK}
theorem lvs1 : Lvs (cx1 P w K mg base N qual scope f cdv A outer s H E) E := fun _ _ _ _ _ _ _ _ I M q => leaves1 I M q
theorem Fun.okX {x qual : Str} {st : Stmt} {f : Addr} {fd : FuncData} {N ps : List Str} {k : Nat} {sp : Sp} (F : Fun K x qual st f fd) (S : FnScope N ps (defScope st)) (len : ∀ vs H Q E, sp vs H Q E → vs.length = ps.length)
    (hbody : ∀ (cdv : Value) (A : Around) (outer : List Env) (s : Shared) (H : Hp) (vs : List V) (Q : VK) (E : XK), Room k (A.deeper (envOfC qual (defScope st) s.heap.objs.size f cdv)) → sp vs H Q E →
      ∃ t, PSs (cx1 P w K mg base N qual (defScope st) f cdv A outer s H E) (defBody st) t ∧ t { nx := fun _ H' => Q .non H', rt := Q } (start N vs) H) : FnOk P w K mg base (CX1 P w) (k + 1) f fd ps sp := by
  obtain ⟨oc, od, kV, doc, pm, an, cdv, ct, osl, rfl, lk, hcd⟩ := F.ex
  exact fn_of lk hcd S len fun A outer s H vs Q E hr hsp => hbody cdv A outer s H vs Q E hr hsp
end
end L2
namespace L2
open PySem PySem.Spec PyProof.Rows PySem.W PySem.Builtin PySem.Builtin.ObjectAttr PySem.Builtin.Getset_descriptor
structure ExcI (K : Frag) (C : Addr) : Prop where
  ga : findIn K (.ref C) "__getattribute__" = some (some (.builtin "BaseException.__getattribute__"))
  gt : findIn K (.ref C) "__getattr__" = some none
  fd : findIn K (.ref C) "__class__" = some (some (.builtin "object.__class__"))
  sp : specialIn K (.builtin "object.__class__") "__get__" = some (some (.builtin "getset_descriptor.__get__"))
  tk : takesIn K (.builtin "object.__class__") = some true
  mo : mroIn K C (.type "object") = some true
  mb : mroIn K C (.type "BaseException") = some true
  cl : (clsIn K C).isSome = true
def EAt (h : Heap) (x C : Addr) : Prop := ∃ ox, h.get? x = some ox ∧ ox.cls = .ref C ∧ ∃ vs, ox.data = .fields vs ∧ vs[2]? = some .none
theorem EAt.type {M : Model} {h : Heap} {x C : Addr} (I : EAt h x C) : Looks M h (typeOf (.ref x)) (.ref C) := by
  obtain ⟨ox, h1, h2, _⟩ := I
  exact h2 ▸ (Looks.ld h1).andThen .now
section
variable {prog : Program} {w : World} {A : Around} {E : Value → Shared → Prop} {s : Shared} {K : Frag} {x C : Addr}
theorem exc_find {M : Model} {h : Heap} (X : K.In h) (c : ExcI K C) : Looks M h (Builtin.ObjectAttr.find (.ref x) (.ref C) "__class__") (.bind (.builtin "getset_descriptor.__get__") (.builtin "object.__class__")) := by
  refine (looks_findIn X c.fd).andThen ((looks_specialIn X c.sp).andThen ?_)
  exact (show Looks M h (Builtin.ObjectAttr.dataDescriptor? (some (.builtin "object.__class__")) (some (.builtin "getset_descriptor.__get__"))) (some (.builtin "getset_descriptor.__get__", .builtin "object.__class__")) from (looks_takesIn X c.tk).andThen .now).andThen (Looks.tag .now)
theorem exc_class_get {R : Result → Shared → Prop} {tp : Value} (X : K.In s.heap) (I : EAt s.heap x C) (hm : mroIn K C (.type "object") = some true)
    (h : R (.ok (.ret (.ref C))) s) : codeAny (model prog w) A (.call (.builtin "getset_descriptor.__get__") ⟨[.builtin "object.__class__", .ref x, tp], []⟩) R s := by
  obtain ⟨hh, g, dr, t, os⟩ := s
  have L0 := I.type (M := model prog w)
  have L1 := looks_mroIn (M := model prog w) X hm
  refine codeAny_call_builtin KF.slot_gs.plain KF.entry_gs (KF.slot_gs.check _ _ _ _ _ _ _ _ KF.type_class (KF.args_gs _ _ _) ?_)
  unfold Builtin.«getset_descriptor.__get__» descrGet
  rw [dga_obj]
  refine wpAny_bind (wpAny_pure ?_)
  unfold descrGetter descrCheckInstance descrNameAndClass isInstance
  simp only [KF.owner_class]
  repeat lk
  refine ⟨Code.quiet_builtin _ (by decide +kernel), codeAny_builtin KF.entry_class ?_⟩
  unfold Builtin.«object.__class__» shownTypeOf
  repeat lk
  exact h
theorem exc_ga_check {M : Model} {nameV : Value} {Q : Unit → Shared → Prop} (c : ExcI K C) (X : K.In s.heap) (I : EAt s.heap x C) (hq : Q () s) : wpAny M A (checkBuiltinCall "BaseException.__getattribute__" ⟨[.ref x, nameV], []⟩) Q E s := by
  obtain ⟨h, g, d, t, os⟩ := s
  have hk : builtinKind "BaseException.__getattribute__" = some .slot := by decide +kernel
  have hsplit : splitId "BaseException.__getattribute__" = some ("BaseException", "__getattribute__") := by decide +kernel
  have L0 : Looks M h (isInstance (.ref x) (.type "BaseException")) true := I.type.andThen (looks_mroIn X c.mb)
  have ha := F.args_bexc_ga (.ref x) nameV
  simp only [checkBuiltinCall, hk, hsplit]
  refine wpAny_bind (L0.at ?_)
  repeat (any_goals (first | assumption | wp_step))
theorem exc_class_call {tk : Tok} {R : Result → Shared → Prop} (c : ExcI K C) (X : K.In s.heap) (I : EAt s.heap x C) (h : R (.ok (.ret (.ref C))) s) :
    codeAny (model prog w) A (.call (.builtin "BaseException.__getattribute__") ⟨[.ref x, .str "__class__" tk], []⟩) R s := by
  refine codeAny_call_builtin F.attrBase_ValueError.ga.plain F.entry_bexc_ga (exc_ga_check c X I ?_)
  have L0 := I.type (M := model prog w)
  have L1 := exc_find (x := x) (M := model prog w) X c
  obtain ⟨hh, gg, d, t, os⟩ := s
  unfold Builtin.«object.__getattribute__»
  repeat (any_goals (first | assumption | with_reducible refine wpAny_bind (L0.at ?_) | with_reducible refine wpAny_bind (L1.at ?_) | wp_step))
  exact exc_class_get X I c.mo (wpAny_pure h)
theorem exc_class {Q : Option Value → Shared → Prop} (c : ExcI K C) (X : K.In s.heap) (I : EAt s.heap x C) (h : Q (some (.ref C)) { s with toks := s.toks + 1 }) : wpAny (model prog w) A (getAttr? (.ref x) "__class__") Q E s := by
  obtain ⟨hh, g, d, t, os⟩ := s
  have L0 := I.type (M := model prog w)
  have L1 := looks_findIn (M := model prog w) X c.ga
  have L2 := looks_findIn (M := model prog w) X c.gt
  have f3 := F.attrBase_ValueError.ga.bind (.ref x)
  have hx2 : (Value.builtin "BaseException.__getattribute__" == Value.builtin "object.__getattribute__") = false := by decide +kernel
  have hx1 : (onTheHeap (Value.ref C) && Value.builtin "BaseException.__getattribute__" == Value.builtin "object.__getattribute__") = false := by rw [hx2]; rfl
  unfold getAttr? getAttrBy? getAttrBy
  refine wpAny_bind (wpAny_mkText (wpAny_bind (wpAny_attempt (wpAny_holding (wpAny_bind (L0.at (wpAny_bind (L1.at ?_))))))))
  dsimp only
  rw [hx1, if_neg Bool.false_ne_true]
  unfold getAttrByItsOwn hookBefore
  rw [if_pos (show onTheHeap (Value.ref C) = true from rfl)]
  refine wpAny_bind (L2.at ?_)
  refine wpAny_bind (wpAny_attempt (wpAny_holding ?_))
  unfold callGetattribute boundAndCalled
  rw [Bool.false_and, if_neg Bool.false_ne_true]
  refine wpAny_bind (wpAny_of_eq f3 ?_)
  refine wpAny_call (exc_class_call (s := ⟨hh, g, d, t + 1, os⟩) c X I ?_)
  exact handed_on rfl (wpAny_pure h)
theorem kitx_exc (c : ExcI K C) : KitX K (.ref x) (.ref C) (fun h => EAt h x C) where
  ty := fun _ _ _ I => I.type
  it := fun _ _ X _ => by
    obtain ⟨cdD, hcD⟩ := Option.isSome_iff_exists.mp c.cl
    unfold clsIn at hcD
    split at hcD
    · rename_i c' d' cd' sl' ho
      intro A' Q' E' s' k q
      unfold isType loadHead
      exact wpAny_bind (wpAny_loadPart (k _ _ (X _ _ ho)) (wpAny_pure q))
    · cases hcD
  ne := fun h tp dd its n sl X htp => by
    obtain ⟨cdD, hcD⟩ := Option.isSome_iff_exists.mp c.cl
    refine Bool.eq_false_iff.mpr fun q => ?_
    have e : C = tp := Value.ref.inj (beq_iff_eq.mp q)
    subst e
    unfold clsIn at hcD
    split at hcD
    · rename_i c' d' cd' sl' ho
      have z := (X _ _ ho).symm.trans htp
      cases z
    · cases hcD
  ca := fun X I k => exc_class c X I k
end
abbrev HO.exc (e C : Addr) : HO := .ext fun h => EAt h e C
theorem EAt.ok {P : Program} {w : World} {H : Hp} {e C : Addr} {h : Heap} (x : EAt h e C) : ObjOk P w H h e (.exc e C) := by
  obtain ⟨ox, h1, h2, _⟩ := id x
  refine ⟨x, ⟨ox, h1⟩, fun g1 g2 p k => ?_⟩
  obtain ⟨oy, a1, a2⟩ := p
  exact ⟨oy, k _ a1, a2⟩
def rIsiX (K : Frag) : List V → Hp → VK → Prop := fun xs H Q => ∃ (e C : Addr) (c : V) (cv : Value) (b : Bool), xs = [.ref e, c] ∧ H e = some (.exc e C) ∧ ExcI K C ∧ (∀ u, RelV c u → u = cv) ∧ kitOne K (.ref C) cv = some b ∧ Q (.bl b) H
theorem call_isiX {X : Cx} {K : Frag} (hK : X.K = K) : CallR X (.builtin "isinstance") (rIsiX K) := by
  subst hK
  intro pins s σ H xs us Q I r h
  obtain ⟨e, C, c, cv, b, rfl, he, ci, hc, hb, q⟩ := h
  match us, r with
  | [u1, u2], .cons r1 (.cons r2 .nil) =>
    obtain rfl : u1 = .ref e := r1
    obtain rfl := hc _ r2
    obtain ⟨x, _, _⟩ := I.hok e _ he
    exact kia_one (kitx_exc ci) I.kIn x hb (fun z => nomatch z) fun tk => ⟨.bl b, H, I.tok tk, rfl, q⟩
end L2
namespace L2
open PySem PySem.Spec PyProof.Rows PySem.W
structure ExcM (K : Frag) (C D : Addr) (b : Bool) : Prop where
  ty : typeIn K (.ref D) = some (.type "type")
  cd : (clsIn K D).isSome = true
  mb : mroIn K D (.type "BaseException") = some true
  mc : mroIn K C (.ref D) = some b
section
variable {M : Model} {A : Around} {E : Value → Shared → Prop} {s : Shared} {K : Frag} {e C D : Addr} {b : Bool}
theorem isType_in {h : Heap} (X : K.In h) (c : (clsIn K D).isSome = true) : Looks M h (isType (.ref D)) true := by
  obtain ⟨cdD, hcD⟩ := Option.isSome_iff_exists.mp c
  unfold clsIn at hcD
  split at hcD
  · rename_i c' d' cd' sl' ho
    intro A' Q' E' s' k q
    unfold isType loadHead
    exact wpAny_bind (wpAny_loadPart (k _ _ (X _ _ ho)) (wpAny_pure q))
  · cases hcD
theorem exc_matches {Q : Bool → Shared → Prop} (m : ExcM K C D b) (X : K.In s.heap) (I : EAt s.heap e C) (hq : Q b s) : wpAny M A (excMatches (.ref e) (.ref D)) Q E s := by
  obtain ⟨h, g, d, t, os⟩ := s
  have L1 : Looks M h (isInstance (.ref D) (.type "tuple")) false := (looks_typeIn X m.ty).andThen (Looks.of_pure tc_notTuple)
  have L2 := isType_in (M := M) X m.cd
  have L3 := looks_mroIn (M := M) X m.mb
  have L4 := I.type (M := M)
  have L5 := looks_mroIn (M := M) X m.mc
  have L6 : Looks M h (isExcClass (.ref D)) true := L2.andThen L3
  unfold excMatches
  refine wpAny_bind (L1.at ?_)
  rw [if_neg Bool.false_ne_true]
  refine wpAny_bind (wpAny_pure ?_)
  simp only [List.forIn_cons, List.forIn_nil]
  refine wpAny_bind (wpAny_bind (wpAny_bind (L6.at ?_)))
  simp only [Bool.not_true, Bool.false_eq_true, if_false]
  refine wpAny_pure (wpAny_pure (wpAny_bind (L4.at ?_)))
  refine wpAny_bind (wpAny_bind (wpAny_bind (L5.at ?_)))
  cases b
  · exact wpAny_pure (wpAny_pure (wpAny_pure hq))
  · exact wpAny_pure (wpAny_pure (wpAny_pure hq))
end
def Held (X : Cx) (pins : List (Addr × Obj)) (σ : St) (H : Hp) (s : Shared) (e : Addr) (cls : Value) : Prop :=
  ∃ (H₁ : Hp) (s₁ : Shared) (B : Heap) (a0 : Value), Inv X pins σ H₁ s₁ ∧ s.os = s₁.os ∧ AllBare s.gens ∧ Fly X.prog X.w X.stack H₁ s₁.heap e cls a0 B H s.heap
section
variable {X : Cx} {pins : List (Addr × Obj)} {σ : St} {H : Hp} {s : Shared} {e : Addr} {cls : Value}
theorem Held.inv (h : Held X pins σ H s e cls) : Inv X pins σ H s := by
  obtain ⟨H₁, s₁, B, a0, I, os, bare, F⟩ := h
  exact I.call' (ch := []) os F.un F.hok bare fun b z => absurd z (by simp)
theorem Held.eat {C : Addr} (h : Held X pins σ H s e (.ref C)) : EAt s.heap e C := by
  obtain ⟨H₁, s₁, B, a0, I, os, bare, F⟩ := h
  obtain ⟨o, h1, h2⟩ := F.fl.there
  obtain ⟨o', vs, g1, g2, g3⟩ := F.lo
  rw [h1] at g1
  cases g1
  exact ⟨o, h1, h2, vs, g2, g3⟩
theorem Held.free (h : Held X pins σ H s e cls) : H e = none := by
  obtain ⟨H₁, s₁, B, a0, I, os, bare, F⟩ := h
  cases q : H e with
  | none => rfl
  | some u =>
    obtain ⟨o, ho⟩ := (F.hok e u q).here
    have := F.trk e u o q ho
    rw [F.fl.2.1] at this; cases this
theorem Held.lands {M : Model} {A : Around} {E : Value → Shared → Prop} {Q : Unit → Shared → Prop} (h : Held X pins σ H s e cls) (k : ∀ h', Held X pins σ H { s with heap := h' } e cls → Q () { s with heap := h' }) : wpAny M A (setFlight (.ref e) none) Q E s := by
  obtain ⟨H₁, s₁, B, a0, I, os, bare, F⟩ := h
  exact land_lone F.fl.1 F.fl.2.1 F.fl.2.2.1 F.fl.2.2.2.at F.lo fun h' fl sm lo => k h' ⟨H₁, s₁, B, a0, I, os, bare, F.move fl sm lo⟩
theorem Held.track {C : Addr} (h : Held X pins σ H s e (.ref C)) : Inv X pins σ (upd H e (.exc e C)) s := by
  have hf := h.free
  have hx := h.eat
  obtain ⟨H₁, s₁, B, a0, I, os, bare, F⟩ := h
  have new : s₁.heap.get? e = none := by
    cases q : s₁.heap.get? e with
    | none => rfl
    | some o =>
      obtain ⟨o', ho'⟩ := F.un.there e o q (by simp)
      by_cases hb : e ∈ frs X.stack
      · obtain ⟨_, o2, e2, nf⟩ := F.fl.2.2.1.mem hb
        obtain ⟨oe, vs, T, oT, ts, he, _, hd, _⟩ := F.fl.2.2.2
        rw [he] at e2; cases e2
        exact absurd hd (nf vs)
      · have := F.old e o o' q hb ho'
        rw [F.fl.2.1] at this; cases this
  have ne : ∀ b o, s₁.heap.get? b = some o → b ≠ e := fun b o q z => by rw [z, new] at q; cases q
  have nt : ∀ b u, H b = some u → b ≠ e := fun b u q z => by rw [z, hf] at q; cases q
  refine I.call' (ch := []) os ⟨F.un.keep, F.un.slot, fun b o q n hx => ?_, F.un.there, fun b xs q => ?_, fun b o u q => ?_, fun b ps q => ?_⟩ (fun b u q => ?_) bare fun b z => absurd z (by simp)
  · rw [upd_ne (ne b o q)]; exact F.un.free b o q n hx
  · have := F.un.tups b xs q
    rw [upd_ne (nt b _ this)]; exact this
  · have := F.un.frzs b o u q
    rw [upd_ne (nt b _ this)]; exact this
  · obtain ⟨m, e1⟩ := F.un.tbls b ps q
    exact ⟨m, by rw [upd_ne (nt b _ e1)]; exact e1⟩
  · by_cases hb : b = e
    · subst hb
      rw [upd_same] at q; cases q
      exact hx.ok
    · rw [upd_ne hb] at q
      exact (F.hok b u q).stay (fun _ _ _ z => z) (fun c z => by rw [upd_ne (nt c _ z)]; exact z) fun c xs z => by rw [upd_ne (nt c _ z)]; exact z
end
abbrev Xh (X : Cx) (e : Addr) : Cx := { X with A := X.A.mark (some (.ref e)), calm := false, xe := fun _ _ => False }
section
variable {X : Cx} {pins : List (Addr × Obj)} {σ : St} {H : Hp} {s : Shared} {e : Addr} {D : Ends}
theorem Inv.toH (I : Inv X pins σ H s) (e : Addr) : Inv (Xh X e) pins σ H s :=
  ⟨⟨I.ok.mod, I.ok.kind, I.ok.glob, I.ok.blt, I.ok.above, I.ok.inj, I.ok.has, I.ok.cab, (fun h => Bool.noConfusion h), I.ok.frames, I.ok.stk, I.ok.exf, I.ok.bs, I.ok.bsz, I.ok.noex, I.ok.exfs, I.ok.funs, I.ok.frf⟩, I.os, I.bare, I.base, I.loc, I.cell, I.free, I.freeC, I.pin, I.hok, I.len⟩
theorem Inv.ofH (I : Inv (Xh X e) pins σ H s) (ok : X.Ok) : Inv X pins σ H s := ⟨ok, I.os, I.bare, I.base, I.loc, I.cell, I.free, I.freeC, I.pin, I.hok, I.len⟩
theorem SP.ofH {f : Flow} {s' : Shared} (h : SP (Xh X e) pins D f s') (ok : X.Ok) : SP X pins D f s' := by
  cases f with
  | next => obtain ⟨σ', H', I, q⟩ := h; exact ⟨σ', H', I.ofH ok, q⟩
  | brk => obtain ⟨σ', H', I, q⟩ := h; exact ⟨σ', H', I.ofH ok, q⟩
  | cont => obtain ⟨σ', H', I, q⟩ := h; exact ⟨σ', H', I.ofH ok, q⟩
  | ret u => obtain ⟨v, σ', H', I, r, q⟩ := h; exact ⟨v, σ', H', I.ofH ok, r, q⟩
theorem gone_ok {M : Model} {A : Around} {E : Value → Shared → Prop} {i : Nat} {x : Str} {pos : Pos} {Q : Unit → Shared → Prop} (I : Inv X pins σ H s) (hN : X.N.Nodup) (hi : X.N[i]? = some x) (hk : X.env.scope.names.lookup x = some .local)
    (h : ∀ s', Inv X pins (σ.set i none) H s' → Q () s') : wpAny M A (do bindName X.env x .none; unbindBehindTheSuite X.env x pos) Q E s := by
  obtain ⟨m, hn, hl⟩ := id I.loc
  have hcls : (X.env.scope.kind == .class || (X.env.scope.kind == .module && X.env.locals != X.env.globals)) = false := by rw [I.ok.kind]; rfl
  have hiσ : i < σ.length := by rw [I.len]; exact (List.getElem?_eq_some_iff.mp hi).1
  have cne := I.cne
  obtain ⟨oL, _, _, hoL, _⟩ := id hn
  refine wpAny_nameGoes_keeps hk hn hcls fun h' v hn' hs => ?_
  refine h _ ⟨I.ok, I.os, I.bare, ⟨fun b o e n hb hx => ?_, fun b o e n hb hx => ?_, I.base.free, fun b o e hx => ?_, I.base.tups, I.base.frzs, I.base.tbls⟩, ⟨_, hn', fun j y v' e1 e2 e3 => ?_⟩, fun y c e => ?_, I.free, I.freeC, fun p hp => ?_, fun b ob e => ?_, by simpa using I.len⟩
  · exact (hs.2 b (Nat.ne_of_lt (Nat.lt_of_lt_of_le (Heap.lt_size e) I.ok.above))).trans (I.base.keep b o e n hb hx)
  · obtain ⟨sl, e1⟩ := I.base.slot b o e n hb hx
    exact ⟨sl, (hs.2 b (Nat.ne_of_lt (Nat.lt_of_lt_of_le (Heap.lt_size e) I.ok.above))).trans e1⟩
  · obtain ⟨o', e1⟩ := I.base.there b o e hx
    exact ⟨o', (hs.2 b (Nat.ne_of_lt (Nat.lt_of_lt_of_le (Heap.lt_size e) I.ok.above))).trans e1⟩
  · by_cases hj : j = i
    · subst hj
      rw [List.getElem?_set_self hiσ] at e2
      cases e2
    · rw [List.getElem?_set_ne (Ne.symm hj)] at e2
      obtain ⟨u', r', q⟩ := hl j y v' e1 e2 e3
      refine ⟨u', r', ?_⟩
      rcases q with ⟨k, e⟩ | ⟨k, c, e, z⟩
      · refine .inl ⟨k, ?_⟩
        have : y ≠ x := fun e => hj (nodup_ix hN e1 (e ▸ hi))
        simp [this, e]
      · exact .inr ⟨k, c, e, z.sameBut hs (cne y c e)⟩
  · obtain ⟨w', z⟩ := I.cell y c e
    exact ⟨w', z.sameBut hs (cne y c e)⟩
  · obtain ⟨e, n, ne, nf, d⟩ := I.pin p hp
    exact ⟨(hs.2 p.1 ne).trans e, n, ne, nf, d⟩
  · refine (I.hok b ob e).stay (fun c w' hc q => (hs.2 c ?_).trans q) (fun _ q => q) fun _ _ q => q
    rintro rfl
    rcases hc with rfl | hc
    · rw [I.free] at e; cases e
    · rw [I.free] at hc; cases hc
end
abbrev TH := Ends → St → Value → Addr → Hp → Prop
def PH (X : Cx) (hs : List ExceptHandler) (th : TH) : Prop :=
  ∀ (pins : List (Addr × Obj)) (s : Shared) (σ : St) (H : Hp) (D : Ends) (e : Addr) (cls : Value), Held X pins σ H s e cls → th D σ cls e H → wpAny (model X.prog X.w) X.A (handleBy (.ref e) X.env hs) (SP X pins D) X.xe s
def thNil : TH := fun _ _ _ _ _ => False
def tHd (K : Frag) (D : Addr) (ts : TS) (th : TH) : TH := fun Dn σ cls e H => ∃ C b, cls = .ref C ∧ ExcM K C D b ∧ if b = true then ts Dn σ H else th Dn σ cls e H
def tHa (K : Frag) (D : Addr) (i : Nat) (ts : TS) (th : TH) : TH := fun Dn σ cls e H => ∃ C b, cls = .ref C ∧ ExcM K C D b ∧
  if b = true then ts { nx := fun σ' H' => Dn.nx (σ'.set i none) H', rt := Dn.rt, bk := fun σ' H' => Dn.bk (σ'.set i none) H', ct := fun σ' H' => Dn.ct (σ'.set i none) H' } (σ.set i (some (.ref e))) (upd H e (.exc e C)) else th Dn σ cls e H
section
variable {X : Cx} {hs : List ExceptHandler} {th : TH} {ts : TS} {D : Addr} {x n : Str} {np pos : Pos} {b₀ : Stmt} {suite : List Stmt} {i : Nat}
theorem ph_nil : PH X [] thNil := fun _ _ _ _ _ _ _ _ h => h.elim
theorem ph_cons (hg : Gl X x) (hm : X.mg x = some (.ref D)) (hb : ∀ e, PSs (Xh X e) (b₀ :: suite) ts) (hr : PH X hs th) (hdb : (x == ("__debug__" : Str)) = false := by decide) :
    PH X (.ExceptHandler (some (.Name x np)) none (b₀ :: suite) pos :: hs) (tHd X.K D ts th) := by
  intro pins s σ H Dn e cls hh h
  obtain ⟨C, b, rfl, m, h⟩ := h
  have I := hh.inv
  refine wpAny_handleBy_cons (codeAny_handlers_test (ld_glob (X := Xh X e) (I.toH e) hg hm ?_ hdb)) (by intro q; cases q)
  refine exc_matches m I.kIn hh.eat ?_
  cases b with
  | false => exact hr pins s σ H Dn e _ hh (by rw [if_neg Bool.false_ne_true] at h; exact h)
  | true =>
    rw [if_pos rfl] at h
    refine codeAny_handlers_suite (hh.lands fun h' hh' => ?_)
    exact wpAny_mono (hb e pins _ σ H Dn (hh'.inv.toH e) h) (fun f s₂ z => z.ofH I.ok) fun _ _ z => False.elim z
theorem ph_consA (hN : X.N.Nodup) (hi : X.N[i]? = some n) (hk : X.env.scope.names.lookup n = some .local) (hg : Gl X x) (hm : X.mg x = some (.ref D)) (hb : ∀ e, PSs (Xh X e) (b₀ :: suite) ts) (hr : PH X hs th) (hdb : (x == ("__debug__" : Str)) = false := by decide) :
    PH X (.ExceptHandler (some (.Name x np)) (some n) (b₀ :: suite) pos :: hs) (tHa X.K D i ts th) := by
  intro pins s σ H Dn e cls hh h
  obtain ⟨C, b, rfl, m, h⟩ := h
  have I := hh.inv
  refine wpAny_handleBy_cons (codeAny_handlers_test (ld_glob (X := Xh X e) (I.toH e) hg hm ?_ hdb)) (by intro q; cases q)
  refine exc_matches m I.kIn hh.eat ?_
  cases b with
  | false => exact hr pins s σ H Dn e _ hh (by rw [if_neg Bool.false_ne_true] at h; exact h)
  | true =>
    rw [if_pos rfl] at h
    refine codeAny_handlers_suite_as (hh.lands fun h' hh' => ?_)
    refine store_ok (X := X) (v := .ref e) hh'.track hN hi (.inl hk) rfl (fun s2 I2 => ?_) (.inr hk)
    refine wpAny_mono (hb e pins s2 _ _ _ (I2.toH e) h) (fun f s₃ z => ?_) fun _ _ z => False.elim z
    have z := z.ofH I.ok
    cases f with
    | next => obtain ⟨σ', H', J, q⟩ := z; exact gone_ok J hN hi hk fun s' J' => ⟨_, H', J', q⟩
    | brk => obtain ⟨σ', H', J, q⟩ := z; exact gone_ok J hN hi hk fun s' J' => ⟨_, H', J', q⟩
    | cont => obtain ⟨σ', H', J, q⟩ := z; exact gone_ok J hN hi hk fun s' J' => ⟨_, H', J', q⟩
    | ret u => obtain ⟨v, σ', H', J, r, q⟩ := z; exact gone_ok J hN hi hk fun s' J' => ⟨v, _, H', J', r, q⟩
end
def xeT (X : Cx) (pins : List (Addr × Obj)) (Es : St → XK) : Value → Shared → Prop := fun ev s' => ∃ (σ : St) (H₁ : Hp) (s₁ : Shared), Inv X pins σ H₁ s₁ ∧ CX1 X.prog X.w X.stack H₁ s₁ (Es σ) ev s'
abbrev Xt (X : Cx) (pins : List (Addr × Obj)) (Es : St → XK) : Cx := { X with pn := X.pn ++ pins, xe := xeT X pins Es }
def tTry (tb : (St → XK) → TS) (th : TH) : TS := fun D σ H => tb (fun σ' cls _ H' => ∀ e, H' e = none → th D σ' cls e H') D σ H
def tCallT (sp : Sp) (Es : St → XK) (t : TA) : TE := fun σ H Q => t σ H fun vs H1 => sp vs H1 Q (Es σ)
section
variable {X : Cx} {pins : List (Addr × Obj)} {Es : St → XK} {σ : St} {H : Hp} {s : Shared}
theorem Inv.toT (I : Inv X pins σ H s) : Inv (Xt X pins Es) [] σ H s :=
  ⟨⟨I.ok.mod, I.ok.kind, I.ok.glob, I.ok.blt, I.ok.above, I.ok.inj, I.ok.has, I.ok.cab, I.ok.hd, I.ok.frames, I.ok.stk, I.ok.exf, I.ok.bs, I.ok.bsz, I.ok.noex, I.ok.exfs, I.ok.funs, I.ok.frf⟩, I.os, I.bare, I.base, I.loc, I.cell, I.free, I.freeC, fun p hp => I.pin p (by simpa using hp), I.hok, I.len⟩
theorem Inv.ofT {ps' : List (Addr × Obj)} (I : Inv (Xt X pins Es) ps' σ H s) : Inv X pins σ H s :=
  ⟨⟨I.ok.mod, I.ok.kind, I.ok.glob, I.ok.blt, I.ok.above, I.ok.inj, I.ok.has, I.ok.cab, I.ok.hd, I.ok.frames, I.ok.stk, I.ok.exf, I.ok.bs, I.ok.bsz, I.ok.noex, I.ok.exfs, I.ok.funs, I.ok.frf⟩, I.os, I.bare, I.base, I.loc, I.cell, I.free, I.freeC, fun p hp => I.pin p (List.mem_append_left _ hp), I.hok, I.len⟩
theorem SP.ofT {D : Ends} {f : Flow} {s' : Shared} (h : SP (Xt X pins Es) [] D f s') : SP X pins D f s' := by
  cases f with
  | next => obtain ⟨σ', H', I, q⟩ := h; exact ⟨σ', H', I.ofT, q⟩
  | brk => obtain ⟨σ', H', I, q⟩ := h; exact ⟨σ', H', I.ofT, q⟩
  | cont => obtain ⟨σ', H', I, q⟩ := h; exact ⟨σ', H', I.ofT, q⟩
  | ret u => obtain ⟨v, σ', H', I, r, q⟩ := h; exact ⟨v, σ', H', I.ofT, r, q⟩
theorem ps_try {body : List Stmt} {h₀ : ExceptHandler} {hs : List ExceptHandler} {pos : Pos} {tb : (St → XK) → TS} {th : TH} (hb : ∀ pins Es, PSs (Xt X pins Es) body (tb Es)) (hh : PH X (h₀ :: hs) th)
    (hst : X.stack = X.env :: X.outer := by rfl) (hfr : X.env.frame = some X.env.locals := by rfl) : PS X (.Try body (h₀ :: hs) [] [] pos) (tTry tb th) := by
  intro pins s σ H D I h
  refine wpAny_Try_except (wpAny_mono (hb pins _ [] s σ H D I.toT h) (fun f s₁ z => ?_) fun ev s₁ z => ?_)
  · have z := z.ofT
    cases f with
    | next => exact wpAny_execs_nil z
    | brk => exact z
    | cont => exact z
    | ret u => exact z
  · obtain ⟨σ', H₁, s₁', I', e, cls, a0, B, H', rfl, os, bare, F, q⟩ := z
    have ff := I'.ok.frames
    have fl := F.fl
    rw [hst] at ff fl
    refine note_lone ff hfr fl F.lo fun h₄ held sm lo => ?_
    refine land_lone (s := { s₁ with heap := h₄ }) held.1 held.2.1 held.2.2.1 held.2.2.2 lo fun h₅ fl5 sm5 lo5 => ?_
    have hd : Held X pins σ' H' { s₁ with heap := h₅ } e cls := ⟨H₁, s₁', B, a0, I', os, bare, F.move (by rw [hst]; exact fl5) (sm.trans sm5) lo5⟩
    exact hh pins _ σ' H' D e cls hd (q e hd.free)
theorem pe_callT {CXk : Nat} {f : Addr} {fd : FuncData} {ps : List Str} {sp : Sp} {x : Str} {e : Expr} {es : List Expr} {p pos : Pos} {t : TA} (F : FnOk X.prog X.w X.K X.mg X.base (CX1 X.prog X.w) CXk f fd ps sp) (hr : Room CXk X.A) (hg : Gl X x) (hm : X.mg x = some (.ref f)) (hk : PySem.W.keepIn X.K (.ref f) = true) (hb : Binds X.K fd ps [])
    (ha : PA (Xt X pins Es) (e :: es) t) (hdb : (x == ("__debug__" : Str)) = false := by decide) (he : starEach (e :: es) X.env = (false, eval e X.env) :: starEach es X.env := by rfl) (hpl : (backTo pos (starEach es X.env)).any (·.1) = false := by rfl) :
    PE (Xt X pins Es) (.Call (.Name x p) (e :: es) [] pos) (tCallT sp Es t) := by
  intro pins' s σ H Q I h
  refine wpAny_Call_Name_kw (ld_glob I hg hm ?_ hdb)
  refine PySem.W.callWith_K (h₀ := X.base) I.ok.mod.kin hk (thn (ha pos pins' s σ H _ I h) fun us s1 ⟨vs, H1, I1, r, q⟩ => ⟨I1.kIn, ?_⟩) he hpl
  have hl : us.length = ps.length := by rw [← r.length]; exact F.len _ _ _ _ q
  have bb := hb s1 us I1.kIn (by rw [List.append_nil]; exact hl)
  rw [List.append_nil] at bb
  refine wpAny_call (codeAny_mono (F.run X.A X.stack s1 H1 ⟨us, []⟩ us vs Q (Es σ) hr I1.env0 bb r q) fun r s' hq => ?_)
  cases r with
  | error ev => exact ⟨σ, H1, s1, I1.ofT, hq⟩
  | ok fl =>
    cases fl with
    | ret u => exact I1.after hq
    | next => exact False.elim hq
    | brk => exact False.elim hq
    | cont => exact False.elim hq
end
end L2
namespace L2
open PySem PySem.Spec PyProof.Rows
structure RoomH (k : Nat) (A : Around) : Prop where
  gd : A.guards = some []
  dp : A.depth + 3 * k + 5 < recursionLimit
  un : A.units + 16 * k + 200 < cLine
theorem Room.mark {k : Nat} {A : Around} (r : Room k A) (e : Addr) : RoomH k (A.mark (some (.ref e))) := ⟨r.gd, r.dp, r.un⟩
theorem RoomH.mono {j k : Nat} {A : Around} (r : RoomH k A) (h : j ≤ k) : RoomH j A := ⟨r.gd, by have := r.dp; omega, by have := r.un; omega⟩
theorem RoomH.deeper {k : Nat} {A : Around} (r : RoomH (k + 1) A) (env : Env) : RoomH k (A.deeper env) :=
  ⟨r.gd, by have := r.dp; show A.depth + 1 + 3 * k + 5 < _; omega, by have := r.un; show A.units + 3 + 16 * k + 200 < _; omega⟩
theorem RoomH.depth {k : Nat} {A : Around} (r : RoomH k A) : A.depth < recursionLimit := by have := r.dp; omega
structure FnOkH (P : Program) (w : World) (K : PySem.W.Frag) (mg : Str → Option Value) (base : Heap) (k : Nat) (f : Addr) (fd : FuncData) (ps : List Str) (sp : Sp) : Prop where
  len : ∀ vs H Q E, sp vs H Q E → vs.length = ps.length
  run : ∀ (A : Around) (outer : List Env) (s : Shared) (H : Hp) (args : Args) (us : List Value) (vs : List V) (Q : VK) (E : XK), RoomH k A → Env0 P w K mg base A outer s H → BindsTo s fd args (ps.zip us) → Vals vs us → sp vs H Q E →
    codeAny (model P w) A (.call (.ref f) args) (CR CX0 outer P w H s Q E) s
section
variable {P : Program} {w : World} {K : PySem.W.Frag} {mg : Str → Option Value} {base : Heap} {N ps : List Str} {qual : Str} {scope : Scope} {f : Addr} {cdv : Value} {A : Around} {outer : List Env} {s : Shared} {H : Hp} {E : XK}
abbrev cxH (P : Program) (w : World) (K : PySem.W.Frag) (mg : Str → Option Value) (base : Heap) (N : List Str) (qual : Str) (scope : Scope) (f : Addr) (cdv : Value) (A : Around) (outer : List Env) (s : Shared) (H : Hp) : Cx :=
  { cxOf CX0 P w K mg base N qual scope f cdv A outer s H E0 with calm := false, xe := fun _ _ => False }
theorem inv_startH {s1 : Shared} {us : List Value} {vs : List V}
    (S : FnScope N ps scope) (e0 : Env0 P w K mg base A outer s H) (hl : vs.length = ps.length) (r : Vals vs us)
    (x : InCallC s s.heap.objs.size (bindL (envOfC qual scope s.heap.objs.size f cdv).kindOf (ps.zip us) fun _ => none) (cellsFrom (s.heap.objs.size + 1) scope.names []) (bindC (envOfC qual scope s.heap.objs.size f cdv).kindOf (ps.zip us) fun _ => none) s1) :
    Inv (cxH P w K mg base N qual scope f cdv A outer s H) [] (start N vs) H s1 := by
  have e1 : Env0 P w K mg base { A with handled := none } outer s H := ⟨e0.frames, e0.mod, e0.bs, e0.bsz, e0.funs, e0.frf, e0.hok, e0.bare⟩
  have I := inv_start (CX := CX0) (E := E0) (A := { A with handled := none }) (qual := qual) S rfl e1 hl r x
  exact ⟨⟨I.ok.mod, I.ok.kind, I.ok.glob, I.ok.blt, I.ok.above, I.ok.inj, I.ok.has, I.ok.cab, (fun h => Bool.noConfusion h), I.ok.frames, I.ok.stk, I.ok.exf, I.ok.bs, I.ok.bsz, I.ok.noex, I.ok.exfs, I.ok.funs, I.ok.frf⟩, I.os, I.bare, I.base, I.loc, I.cell, I.free, I.freeC, I.pin, I.hok, I.len⟩
theorem Fun.okH {x : Str} {st : Stmt} {fd : FuncData} {k : Nat} {sp : Sp} (F : Fun K x qual st f fd) (S : FnScope N ps (defScope st)) (len : ∀ vs H Q E, sp vs H Q E → vs.length = ps.length)
    (hbody : ∀ (cdv : Value) (A : Around) (outer : List Env) (s : Shared) (H : Hp) (vs : List V) (Q : VK) (E : XK), RoomH k (A.deeper (envOfC qual (defScope st) s.heap.objs.size f cdv)) → sp vs H Q E →
      ∃ t, PSs (cxH P w K mg base N qual (defScope st) f cdv A outer s H) (defBody st) t ∧ t { nx := fun _ H' => Q .non H', rt := Q } (start N vs) H) : FnOkH P w K mg base (k + 1) f fd ps sp := by
  obtain ⟨oc, od, kV, doc, pm, an, cdv, ct, osl, rfl, lk, hcd⟩ := F.ex
  refine ⟨len, fun A outer s H args us vs Q E hr e0 hb r hsp => ?_⟩
  have hl := len _ _ _ _ hsp
  have KX : K.In s.heap := e0.mod.kin.keeps fun b o e => (e0.bs b o e).1
  have lim : s.heap.NoLimit := e0.mod.nolimit.keeps fun b o e => (e0.bs b o e).1
  have hkind : ∀ y ∈ ps.zip us, (defScope st).names.lookup y.1 = some .local ∨ ((defScope st).names.lookup y.1 = some .cell ∧ ((cellsFrom (s.heap.objs.size + 1) (defScope st).names []).lookup y.1).isSome = true) := fun ⟨n, v⟩ hy => by
    rcases S.par n (List.of_mem_zip hy).1 with q | q
    · exact .inl q
    · exact .inr ⟨q, PySem.W.cellsFrom_some _ _ _ (.inl q)⟩
  refine codeAny_call_function hr.depth (KX _ _ lk) rfl S.co S.gen rfl (PySem.W.codeRec_of KX hcd) (hb _ _ _ _ ?_)
  refine wpAny_newFunctionEnv_cells S.kind hkind fun env he s1 x => ?_
  subst he
  refine ⟨lim.keeps x.toInCall.keep, codeAny_func ?_⟩
  obtain ⟨t, ht, hq⟩ := hbody cdv A outer s H vs Q E (hr.deeper _) hsp
  have I : Inv (cxH P w K mg base N qual (defScope st) f cdv A outer s H) [] (start N vs) H s1 := inv_startH S e0 hl r x
  refine wpAny_mono (ht [] s1 (start N vs) H _ I hq) (fun fl s' hs => ?_) fun e s' hs => False.elim hs
  have fin : ∀ {σ' : St} {H' : Hp} {v : V} {u : Value}, Inv (cxH P w K mg base N qual (defScope st) f cdv A outer s H) [] σ' H' s' → RelV v u → Q v H' → CE outer P w H s Q u s' :=
    fun {σ' H' v u} J rv q => ⟨v, H', J.os, J.bare, J.base, J.hok, rv, q⟩
  cases fl with
  | ret u =>
    obtain ⟨v, σ', H', J, rv, q⟩ := hs
    exact fin J rv q
  | next =>
    obtain ⟨σ', H', J, q⟩ := hs
    exact fin (v := V.non) (u := Value.none) J rfl q
  | brk =>
    obtain ⟨_, _, _, q⟩ := hs
    exact False.elim q
  | cont =>
    obtain ⟨_, _, _, q⟩ := hs
    exact False.elim q
end
structure FnAtH (P : Program) (w : World) (K : PySem.W.Frag) (mg : Str → Option Value) (base : Heap) (x : Str) (k : Nat) (ps : List Str) (sp : Sp) : Prop where
  ex : ∃ (f : Addr) (fd : FuncData), FnOkH P w K mg base k f fd ps sp ∧ mg x = some (.ref f) ∧ PySem.W.keepIn K (.ref f) = true ∧ Binds K fd ps []
structure FnAtX (P : Program) (w : World) (K : PySem.W.Frag) (mg : Str → Option Value) (base : Heap) (x : Str) (k : Nat) (ps : List Str) (sp : Sp) : Prop where
  ex : ∃ (f : Addr) (fd : FuncData), FnOk P w K mg base (CX1 P w) k f fd ps sp ∧ mg x = some (.ref f) ∧ PySem.W.keepIn K (.ref f) = true ∧ Binds K fd ps []
section
variable {X : Cx} {x : Str} {k : Nat} {ps : List Str} {sp : Sp} {e : Expr} {es : List Expr} {t : TA} {p pos : Pos}
theorem pe_callH (F : FnAtH X.prog X.w X.K X.mg X.base x k ps sp) (hr : RoomH k X.A) (hg : Gl X x) (ha : PA X (e :: es) t) (hdb : (x == ("__debug__" : Str)) = false := by decide +kernel) (he : starEach (e :: es) X.env = (false, eval e X.env) :: starEach es X.env := by rfl) (hpl : (backTo pos (starEach es X.env)).any (·.1) = false := by rfl) :
    PE X (.Call (.Name x p) (e :: es) [] pos) (tCall sp [] E0 t) := by
  obtain ⟨f, fd, F, hm, hk, hb⟩ := F.ex
  intro pins s σ H Q I h
  refine wpAny_Call_Name_kw (ld_glob I hg hm ?_ hdb)
  refine PySem.W.callWith_K (h₀ := X.base) I.ok.mod.kin hk (thn (ha pos pins s σ H _ I h) fun us s1 ⟨vs, H1, I1, r, q⟩ => ⟨I1.kIn, ?_⟩) he hpl
  have q : sp (vs ++ []) H1 Q E0 := q
  rw [List.append_nil] at q
  have hl : us.length = ps.length := by rw [← r.length]; exact F.len _ _ _ _ q
  have bb := hb s1 us I1.kIn (by rw [List.append_nil]; exact hl)
  rw [List.append_nil] at bb
  refine wpAny_call (codeAny_mono (F.run X.A X.stack s1 H1 ⟨us, []⟩ us vs Q E0 hr I1.env0 bb r q) fun r s' hq => ?_)
  cases r with
  | error ev => exact False.elim hq
  | ok fl =>
    cases fl with
    | ret u => exact I1.after hq
    | next => exact False.elim hq
    | brk => exact False.elim hq
    | cont => exact False.elim hq
theorem pe_callX1 {E : XK} (F : FnAtX X.prog X.w X.K X.mg X.base x k ps sp) (hx : Passes (CX1 X.prog X.w) X E) (hr : Room k X.A) (hg : Gl X x) (ha : PA X (e :: es) t) (hdb : (x == ("__debug__" : Str)) = false := by decide +kernel) (he : starEach (e :: es) X.env = (false, eval e X.env) :: starEach es X.env := by rfl) (hpl : (backTo pos (starEach es X.env)).any (·.1) = false := by rfl) :
    PE X (.Call (.Name x p) (e :: es) [] pos) (tCall sp [] E t) := by
  obtain ⟨f, fd, F, hm, hk, hb⟩ := F.ex
  exact pe_call F hr hg hm hk hb .nil hx ha hdb he hpl
theorem pe_callXT {pins : List (Addr × Obj)} {Es : St → XK} (F : FnAtX X.prog X.w X.K X.mg X.base x k ps sp) (hr : Room k X.A) (hg : Gl X x) (ha : PA (Xt X pins Es) (e :: es) t) (hdb : (x == ("__debug__" : Str)) = false := by decide +kernel) (he : starEach (e :: es) X.env = (false, eval e X.env) :: starEach es X.env := by rfl) (hpl : (backTo pos (starEach es X.env)).any (·.1) = false := by rfl) :
    PE (Xt X pins Es) (.Call (.Name x p) (e :: es) [] pos) (tCallT sp Es t) := by
  obtain ⟨f, fd, F, hm, hk, hb⟩ := F.ex
  exact pe_callT F hr hg hm hk hb ha hdb he hpl
end
end L2
namespace L2
open PySem PySem.Spec PyProof.Rows PySem.SeqAt
theorem pe_cls {X : Cx} {x : Str} {C : Addr} {pos : Pos} (hg : Gl X x) (hm : X.mg x = some (.ref C)) (hd : (x == ("__debug__" : Str)) = false := by decide) : PE X (.Name x pos) (tC (.ref C)) := pe_glob (v := .ref C) hg hm rfl hd
section
variable {X : Cx} {K : PySem.W.Frag}
def rCountB (K : PySem.W.Frag) : V → List V → Hp → VK → Prop := fun x vs H Q => ∃ (l : Addr) (bs : List Bool) (b : Bool), x = .ref l ∧ vs = [.bl b] ∧ H l = some (.lst (bs.map V.bl)) ∧ Q (.int (bs.count b : Nat)) H
theorem mt_countB (hK : X.K = K) : MtR X "list.count" (rCountB K) := by
  subst hK
  intro pins s σ H x vs v us Q I rx rv h
  obtain ⟨l, bs, b, rfl, rfl, hH, q⟩ := h
  cases rx
  obtain ⟨u, rfl, ru⟩ := rv.one
  cases (show u = Value.bool b from ru)
  obtain ⟨z, its, n, r, hl, e⟩ := I.lstM hH
  have eq := vals_bools r
  subst eq
  refine call_meets F.slot_list_count ⟨_, e, rfl⟩ F.entry_list_count (F.args_list_count_2 _ _) (list_countAt l _ n none #[] (.bool b) (fun y => y == .bool b)) ⟨e, fun y hy => ?_, ?_⟩
  · obtain ⟨c, _, rfl⟩ := List.mem_map.mp (Array.mem_def.mp hy)
    have : ((Value.bool c == Value.bool b) : Bool) = (c == b) := by cases c <;> cases b <;> rfl
    rw [this]
    exact EqAt.bool_bool c b
  · refine ⟨.int (bs.count b : Nat), H, I.tok _, ⟨s.toks, ?_⟩, q⟩
    have : ∀ l : List Bool, (l.map Value.bool).countP (fun y => y == .bool b) = l.count b := fun l => by
      rw [List.countP_map, List.count]
      congr 1
      funext c
      cases c <;> cases b <;> rfl
    simp only [List.toList_toArray]
    rw [this]
end
end L2
namespace L2
open PySem PySem.Spec PyProof.Rows PySem.SeqAt
theorem st_con {c k p es env} : starEach (.Constant c k p :: es) env = (false, eval (.Constant c k p) env) :: starEach es env := rfl
theorem st_name {x p es env} : starEach (.Name x p :: es) env = (false, eval (.Name x p) env) :: starEach es env := rfl
theorem st_bin {a o b p es env} : starEach (.BinOp a o b p :: es) env = (false, eval (.BinOp a o b p) env) :: starEach es env := rfl
theorem st_call {f a k p es env} : starEach (.Call f a k p :: es) env = (false, eval (.Call f a k p) env) :: starEach es env := rfl
theorem st_list {a p es env} : starEach (.List a p :: es) env = (false, eval (.List a p) env) :: starEach es env := rfl
theorem st_tup {a x p es env} : starEach (.Tuple a x p :: es) env = (false, eval (.Tuple a x p) env) :: starEach es env := rfl
end L2
namespace Sw
open PySem L2
def top (i : Nat) : Stmt := PySem.Challenge.pw_swapstars_k72_no_rows_written.main.body.getD i (.Pass ⟨0, 0, 0, 0⟩)
theorem b01 (b : Bool) : -(2 ^ 64) < (if b = true then (1 : Int) else 0) ∧ (if b = true then (1 : Int) else 0) < 2 ^ 64 ∧ 0 ≤ (if b = true then (1 : Int) else 0) := by cases b <;> decide
structure Purse (H : Hp) (p : Addr) (c : Nat) : Prop where
  ex : ∃ (a b d : Int), H p = some (.lst [.int a, .int b, .int d]) ∧ 0 ≤ a ∧ 0 ≤ b ∧ b < 2147483647 ∧ 0 ≤ d ∧ d ≤ c ∧ c ≤ 100000
def spPurse (K : PySem.W.Frag) : Sp := fun vs H Q _ => ∃ (a : Addr) (ns : List Int) (i : Int), vs = [.ref a, .int i] ∧ SqL K H a (ns.map V.int) ∧ 0 ≤ i ∧ i ≤ 1000 ∧ ∀ p H', H p = none → Purse H' p 0 → Same H H' → Q (.ref p) H'
def spTake : Sp := fun vs H Q _ => ∃ (p : Addr) (c : Nat) (m : Int), vs = [.ref p, .int m] ∧ Purse H p c ∧ c < 100000 ∧ 0 < m ∧ m < 2 ^ 200 ∧ ∀ r H', 0 ≤ r → r < m → Purse H' p (c + 1) → SameX p H H' → Q (.int r) H'
section
variable {P : Program} {w : World} {K : PySem.W.Frag} {mg : Str → Option Value} {base : Heap}
theorem sc__law_take : FnScope ["_law_purse_here", "_law_many", "_law_turn", "_law_one", "_law_other_here", "_law_digit"] ["_law_purse_here", "_law_many"] (defScope (top 28)) := ⟨rfl, rfl, rfl, by decide +kernel, rfl, by decide +kernel, by decide +kernel⟩
theorem ok_take {f : Addr} {fd : FuncData} (F : Fun K "_law_take" "_law_take" (top 28) f fd) : FnOk P w K mg base CX0 1 f fd ["_law_purse_here", "_law_many"] spTake := by
  refine F.ok sc__law_take (fun vs H Q E h => ?_) (fun cdv A outer s H vs Q E hr h => ?_)
  · obtain ⟨p, c, m, rfl, _⟩ := h
    rfl
  · obtain ⟨p, c, m, rfl, ⟨a, b, d, hp, ha, hb, hb2, hd, hdc, hc0⟩, hc, hm, hm2, k⟩ := h
    refine ⟨_, (pss_cons (ps_if (pt_cmpR op_gt (pe_ix (ix_listK (K := K) rfl) (pv 0) pe_int (fun _ _ => rfl)) pe_int (nomark _)) (pss_cons (ps_set (i := 5) sc__law_take.nd rfl (Or.inl rfl) (pe_op op_mod (pe_ix (ix_listK (K := K) rfl) (pv 0) pe_int (fun _ _ => rfl)) (pv 1)))
      (pss_cons (ps_asg (pe_op op_fdivL (pe_ix (ix_listK (K := K) rfl) (pv 0) pe_int (fun _ _ => rfl)) (pv 1)) (pg_sub (pv 0) pe_int set_list))
      (pss_one (ps_ret (pv 5))))) pss_nil)
      (pss_cons (ps_asg (pe_op op_add (pe_ix (ix_listK (K := K) rfl) (pv 0) pe_int (fun _ _ => rfl)) pe_int) (pg_sub (pv 0) pe_int set_list))
      (pss_cons (ps_set (i := 2) sc__law_take.nd rfl (Or.inl rfl) (pe_ix (ix_listK (K := K) rfl) (pv 0) pe_int (fun _ _ => rfl)))
      (pss_cons (ps_set (i := 3) sc__law_take.nd rfl (Or.inl rfl) (pe_op op_mod (pe_op op_pow (pe_op op_add (pe_op op_add (pe_ix (ix_listK (K := K) rfl) (pv 0) pe_int (fun _ _ => rfl)) (pe_op op_mul (pe_op op_mul pe_int (pv 2)) (pv 2))) pe_int) pe_int) pe_int))
      (pss_cons (ps_set (i := 4) sc__law_take.nd rfl (Or.inl rfl) (pe_op op_mod (pe_op op_pow (pe_op op_add (pe_op op_mul (pv 3) (pe_op op_add (pe_op op_mul pe_int (pv 2)) pe_int)) (pv 2)) pe_int) pe_int))
      (pss_one (ps_ret (pe_op op_mod (pe_op op_fdivL (pe_op op_add (pe_op op_mul (pv 3) pe_int) (pv 4)) pe_int) (pv 1))))))))), ?_⟩
    refine ⟨_, rfl, p, _, _, _, rfl, rfl, SqL.of hp, rfl, _, _, rfl, rfl, _, rfl, ?_⟩
    refine ite2 (fun _ => ?_) (fun _ => ?_)
    · refine ⟨_, rfl, p, _, _, _, rfl, rfl, SqL.of hp, rfl, _, rfl, _, _, rfl, rfl, hm, ?_⟩
      refine ⟨_, rfl, p, _, _, _, rfl, rfl, SqL.of hp, rfl, _, rfl, _, _, rfl, rfl, ⟨hm, hm2⟩, _, rfl, p, _, _, 0, rfl, rfl, hp, rfl, ?_⟩
      refine ⟨_, rfl, ?_⟩
      exact k _ _ (Int.emod_nonneg _ (by omega)) (Int.emod_lt_of_pos _ hm) ⟨_, _, _, upd_same, Int.ediv_nonneg ha (by omega), hb, hb2, hd, by omega, by omega⟩ SameX.upd
    · refine ⟨_, rfl, p, _, _, _, rfl, rfl, SqL.of hp, rfl, _, _, rfl, rfl, _, rfl, p, _, _, 2, rfl, rfl, hp, rfl, ?_⟩
      have h1 : upd H p (.lst [.int a, .int b, .int (d + 1)]) p = some (.lst [.int a, .int b, .int (d + 1)]) := upd_same
      refine ⟨_, rfl, p, _, _, _, rfl, rfl, SqL.of h1, rfl, ?_⟩
      have posM : (0 : Int) < 2147483647 := by decide
      have posN : (0 : Int) < 998244353 := by decide
      have t0 : 0 ≤ d + 1 := by omega
      have t1 : d + 1 ≤ 200000 := by omega
      have t2 : 0 ≤ 48271 * (d + 1) * (d + 1) := Int.mul_nonneg (by omega) t0
      have t3 : 48271 * (d + 1) * (d + 1) ≤ 48271 * 200000 * 200000 := Int.mul_le_mul (by omega) t1 t0 (by omega)
      refine ⟨_, rfl, p, _, _, _, rfl, rfl, SqL.of h1, rfl, _, rfl, _, _, rfl, rfl, .inl ⟨by omega, by omega⟩, _, rfl, _, _, rfl, rfl, .inr ⟨by omega, by omega⟩, _, _, rfl, rfl, _, _, rfl, rfl, _, _, rfl, rfl, ⟨by omega, by omega, by omega⟩, _, _, rfl, rfl, posM, ?_⟩
      have o0 : 0 ≤ ((b + 48271 * (d + 1) * (d + 1) + 1) ^ Int.toNat 5 % 2147483647) := Int.emod_nonneg _ (by decide)
      have o1 : ((b + 48271 * (d + 1) * (d + 1) + 1) ^ Int.toNat 5 % 2147483647) < 2147483647 := Int.emod_lt_of_pos _ (by decide)
      have u0 : 0 ≤ ((b + 48271 * (d + 1) * (d + 1) + 1) ^ Int.toNat 5 % 2147483647) * (2 * (d + 1) + 30011) := Int.mul_nonneg o0 (by omega)
      have u1 : ((b + 48271 * (d + 1) * (d + 1) + 1) ^ Int.toNat 5 % 2147483647) * (2 * (d + 1) + 30011) ≤ 2147483647 * 430011 := Int.mul_le_mul (by omega) (by omega) (by omega) (by omega)
      refine ⟨_, rfl, _, rfl, _, _, rfl, rfl, .inl ⟨by omega, by omega⟩, _, _, rfl, rfl, _, _, rfl, rfl, .inl ⟨by omega, by omega⟩, _, rfl, _, _, rfl, rfl, _, _, rfl, rfl, ⟨by omega, by omega, by omega⟩, _, _, rfl, rfl, posN, ?_⟩
      refine ⟨_, rfl, _, _, rfl, rfl, .inl ⟨by omega, by omega⟩, _, rfl, _, _, rfl, rfl, _, _, rfl, rfl, ⟨by decide, by decide⟩, _, rfl, _, _, rfl, rfl, hm, ?_⟩
      exact k _ _ (Int.emod_nonneg _ (by omega)) (Int.emod_lt_of_pos _ hm) ⟨_, _, _, h1, ha, hb, hb2, t0, by omega, by omega⟩ SameX.upd
structure TPurse (mg : Str → Option Value) : Prop where
  b_len : mg "len" = none
  b_abs : mg "abs" = none
  b_int : mg "int" = none
theorem sc__law_purse : FnScope ["_law_script", "_law_at", "_law_cell", "_law_far"] ["_law_script", "_law_at"] (defScope (top 27)) := ⟨rfl, rfl, rfl, by decide +kernel, rfl, by decide +kernel, by decide +kernel⟩
theorem ok_purse {f : Addr} {fd : FuncData} (F : Fun K "_law_purse" "_law_purse" (top 27) f fd) (T : TPurse mg) : FnOk P w K mg base CX0 1 f fd ["_law_script", "_law_at"] (spPurse K) := by
  refine F.ok sc__law_purse (fun vs H Q E h => ?_) (fun cdv A outer s H vs Q E hr h => ?_)
  · obtain ⟨a, ns, i, rfl, _⟩ := h
    rfl
  · obtain ⟨a, ns, i, rfl, hs, hi, hi2, k⟩ := h
    refine ⟨_, (pss_cons (ps_set (i := 2) sc__law_purse.nd rfl (Or.inl rfl) pe_int)
      (pss_cons (ps_if (pt_cmpR op_lt (pv 1) (pe_callB (call_lenK (K := K) rfl) rfl T.b_len (by decide +kernel) (pa_cons (pv 0) pa_nil)) (nomark _)) (pss_one (ps_set (i := 2) sc__law_purse.nd rfl (Or.inl rfl) (pe_ix (ix_listK (K := K) rfl) (pv 0) (pv 1) (fun _ _ => rfl)))) pss_nil)
      (pss_cons (ps_set (i := 3) sc__law_purse.nd rfl (Or.inl rfl) (pe_callB call_abs rfl T.b_abs (by decide +kernel) (pa_cons (pv 2) pa_nil)))
      (pss_one (ps_ret (pe_lst (@pa_cons _ _ _ _ _ (pe_op op_mul (pv 3) (pe_callTy call_int1 rfl T.b_int (by decide +kernel) (pa_cons (pe_cmpR op_ge (pv 3) (pe_op op_pow pe_int pe_int) (nomark _)) pa_nil))) (@pa_cons _ _ _ _ _ (pe_op op_mod (pe_op op_add (pe_op op_add (pe_op op_mod (pv 2) pe_int) (pe_op op_mul pe_int (pv 1))) pe_int) pe_int) (@pa_cons _ _ _ _ _ pe_int pa_nil st_con) st_bin) st_bin))))))), ?_⟩
    have posM : (0 : Int) < 2147483647 := by decide
    -- cell = 0; if at < len(script): cell = script[at]
    refine ⟨_, rfl, _, rfl, a, _, rfl, .inl hs, _, _, rfl, rfl, _, rfl, ?_⟩
    refine ite2 (fun hlt => ?_) (fun _ => ?_)
    · have hlt : i < ((ns.map V.int).length : Int) := of_decide_eq_true hlt
      rw [List.length_map] at hlt
      have hx : ∃ x, ns[i.toNat]? = some x := by
        rw [List.getElem?_eq_getElem (by omega)]
        exact ⟨_, rfl⟩
      obtain ⟨x, hx⟩ := hx
      have ha : atI (ns.map V.int) i = some (V.int x) := by
        have e : ((i.toNat : Nat) : Int) = i := Int.toNat_of_nonneg hi
        rw [← e]
        exact atI_nat (by rw [List.getElem?_map, hx]; rfl)
      refine ⟨_, rfl, _, rfl, a, _, _, _, rfl, rfl, hs, ha, ?_⟩
      refine ⟨_, rfl, x, rfl, ?_⟩
      refine ⟨_, rfl, _, rfl, _, _, rfl, rfl, ⟨by decide, by decide, by decide⟩, _, _, rfl, rfl, .inr ⟨_, rfl, _, _, rfl, rfl, .inr ⟨?b1, ?b2⟩, _, rfl, _, _, rfl, rfl, posM, _, rfl, _, _, rfl, rfl, .inl ⟨by decide, by decide⟩, _, _, rfl, rfl, _, _, rfl, rfl, _, _, rfl, rfl, posM, (by show 3 ≤ sizeLine; decide), fun p hp => ?_⟩⟩
      (case b1 => exact (b01 _).1)
      (case b2 => exact (b01 _).2.1)
      refine k p _ hp ⟨⟨_, _, _, upd_same, ?_, Int.emod_nonneg _ (by decide), Int.emod_lt_of_pos _ (by decide), Int.le_refl _, by decide, by decide⟩⟩ (Same.new hp)
      refine Int.mul_nonneg ?_ ?_
      · split <;> omega
      · exact (b01 _).2.2
    · refine ⟨_, rfl, 0, rfl, ?_⟩
      refine ⟨_, rfl, _, rfl, _, _, rfl, rfl, ⟨by decide, by decide, by decide⟩, _, _, rfl, rfl, .inr ⟨_, rfl, _, _, rfl, rfl, .inr ⟨?b1, ?b2⟩, _, rfl, _, _, rfl, rfl, posM, _, rfl, _, _, rfl, rfl, .inl ⟨by decide, by decide⟩, _, _, rfl, rfl, _, _, rfl, rfl, _, _, rfl, rfl, posM, (by show 3 ≤ sizeLine; decide), fun p hp => ?_⟩⟩
      (case b1 => exact (b01 _).1)
      (case b2 => exact (b01 _).2.1)
      refine k p _ hp ⟨⟨_, _, _, upd_same, ?_, Int.emod_nonneg _ (by decide), Int.emod_lt_of_pos _ (by decide), Int.le_refl _, by decide, by decide⟩⟩ (Same.new hp)
      refine Int.mul_nonneg ?_ ?_
      · split <;> omega
      · exact (b01 _).2.2
end
end Sw
namespace L2
open PySem
theorem call_tuple_ofK {X : Cx} {K : PySem.W.Frag} (h : X.K = K) : CallR X (.type "tuple") (fun xs H Q => ∃ p ys, xs = [.ref p] ∧ ((SqL K H p ys ∧ ∀ l, H l = none → Q (.ref l) (upd H l (.tup ys))) ∨ (SqT K H p ys ∧ Q (.ref p) H))) := by subst h; exact call_tuple_of
end L2
namespace Sw
open PySem L2
structure T1 (mg : Str → Option Value) (K : PySem.W.Frag) : Prop extends TPurse mg where
  b_all : mg "all" = none
  b_isinstance : mg "isinstance" = none
  b_bool : mg "bool" = none
  b_tuple : mg "tuple" = none
  b_list : mg "list" = none
  b_range : mg "range" = none
  k_ib : PySem.W.kitOne K (.type "int") (.type "bool") = some false
theorem take_succ_map {α β : Type} (f : α → β) {l : List α} {i : Nat} {x : α} (h : l[i]? = some x) : (l.take (i + 1)).map f = (l.take i).map f ++ [f x] := by
  rw [List.take_succ, h, List.map_append]; rfl
theorem Purse.mono {H : Hp} {p : Addr} {c c' : Nat} (h : Purse H p c) (a : c ≤ c') (b : c' ≤ 100000) : Purse H p c' := by
  obtain ⟨x, y, z, e, h1, h2, h3, h4, h5, h6⟩ := h.ex
  exact ⟨x, y, z, e, h1, h2, h3, h4, by omega, b⟩
theorem Purse.keep {H H' : Hp} {p : Addr} {c : Nat} (h : Purse H p c) (k : Same H H') : Purse H' p c := by
  obtain ⟨x, y, z, e, r⟩ := h.ex
  exact ⟨x, y, z, k _ _ e, r⟩
theorem Purse.at {H : Hp} {p : Addr} {c : Nat} (h : Purse H p c) : ∃ xs, H p = some (.lst xs) := by
  obtain ⟨x, y, z, e, r⟩ := h.ex
  exact ⟨_, e⟩
theorem Purse.upd {H : Hp} {p q : Addr} {c : Nat} {o : HO} (h : Purse H p c) (n : p ≠ q) : Purse (L2.upd H q o) p c := by
  obtain ⟨x, y, z, e, r⟩ := h.ex
  exact ⟨x, y, z, by rw [upd_ne n]; exact e, r⟩
theorem SameX.exs {p : Addr} {H H' : Hp} {c : Nat} (s : SameX p H H') (h : Purse H p c) {vs : List V} {r : List (Int × Int)} (x : Exs H vs r) : Exs H' vs r := by
  obtain ⟨xs, e⟩ := h.at
  exact x.keep (SameX.tups s e)
inductive Lsts (H : Hp) : List V → List (List Int) → Prop
  | nil : Lsts H [] []
  | cons {a : Addr} {ns : List Int} {vs : List V} {r : List (List Int)} : H a = some (.lst (ns.map V.int)) → Lsts H vs r → Lsts H (.ref a :: vs) (ns :: r)
theorem Lsts.length {H : Hp} : ∀ {vs : List V} {r : List (List Int)}, Lsts H vs r → vs.length = r.length
  | _, _, .nil => rfl
  | _, _, .cons _ x => by rw [List.length_cons, List.length_cons, x.length]
theorem Lsts.append {H : Hp} : ∀ {vs ws : List V} {r q : List (List Int)}, Lsts H vs r → Lsts H ws q → Lsts H (vs ++ ws) (r ++ q)
  | _, _, _, _, .nil, y => y
  | _, _, _, _, .cons h x, y => .cons h (x.append y)
def Fresh (H : Hp) (vs : List V) : Prop := vs.Nodup ∧ ∀ v ∈ vs, ∃ a, v = .ref a ∧ H a = none
theorem Fresh.nil {H : Hp} : Fresh H [] := ⟨List.nodup_nil, fun v h => by cases h⟩
theorem iteP {A B : Prop} {b : Bool} (h : b = true) (x : A) : if b = true then A else B := by rw [if_pos h]; exact x
theorem iteE {A B : Prop} {b : Bool} (h : b = false) (x : B) : if b = true then A else B := by rw [h, if_neg Bool.false_ne_true]; exact x
theorem Lsts.eraseIdx {H : Hp} : ∀ {vs : List V} {r : List (List Int)} (k : Nat), Lsts H vs r → Lsts H (vs.eraseIdx k) (r.eraseIdx k)
  | _, _, _, .nil => .nil
  | _, _, 0, .cons h x => x
  | _, _, k + 1, .cons h x => .cons h (x.eraseIdx k)
def spLaw (K : PySem.W.Frag) : Sp := fun vs H Q _ => ∃ (a : Addr) (ns : List Int), vs = [.ref a] ∧ SqL K H a (ns.map V.int) ∧ ns.length ≤ 63 ∧ ∀ H', Q (.bl true) H'
theorem Same.of {p : Addr} {H0 H H' : Hp} (a : Same H0 H) (n : H0 p = none) (b : SameX p H H') : Same H0 H' := fun c o e => b c o (ne_of_none e n) (a c o e)
theorem add_at {x y z : Int} {H : Hp} {Q : VK} (h : x + y = z) (q : Q (.int z) H) : rI0 (fun i j => .int (i + j)) (.int x) (.int y) H Q := by subst h; exact ⟨_, _, rfl, rfl, q⟩
end Sw
namespace Sw
open PySem L2
theorem good_nil {n : Int} : Good n [] := fun e h => absurd h (List.not_mem_nil)
theorem near_at {n r : Int} (h1 : 2 ≤ n) (r0 : 0 ≤ r) (r3 : r < 3) : ∃ m : Int, atI [V.int n, V.int n, V.int (if (3 : Int) < n then 3 else n)] r = some (.int m) ∧ 1 ≤ m ∧ m ≤ n := by
  have : r = 0 ∨ r = 1 ∨ r = 2 := by omega
  rcases this with rfl | rfl | rfl
  · exact ⟨n, rfl, by omega, by omega⟩
  · exact ⟨n, rfl, by omega, by omega⟩
  · exact ⟨_, rfl, by split <;> omega, by split <;> omega⟩
theorem other_ne {n one r : Int} (h1 : 2 ≤ n) (o1 : 1 ≤ one) (o2 : one ≤ n) (r0 : 0 ≤ r) (r1 : r < n - 1) : 1 ≤ 1 + (one + r) % n ∧ 1 + (one + r) % n ≤ n ∧ 1 + (one + r) % n ≠ one := by
  have m0 := Int.emod_nonneg (one + r) (by omega : n ≠ 0)
  have m1 := Int.emod_lt_of_pos (one + r) (by omega : 0 < n)
  refine ⟨by omega, by omega, fun z => ?_⟩
  by_cases h : one + r < n
  · rw [Int.emod_eq_of_lt (by omega) h] at z
    omega
  · have e : (one + r) % n = one + r - n := by
      rw [← Int.sub_emod_right, Int.emod_eq_of_lt (by omega) (by omega)]
    rw [e] at z
    omega
def spRow : Sp := fun vs H Q _ => ∃ (p : Addr) (c : Nat) (n m : Int), vs = [.ref p, .int n, .int m] ∧ Purse H p c ∧ c ≤ 90000 ∧ 1 ≤ n ∧ n ≤ 100 ∧ 0 ≤ m ∧ m ≤ 100 ∧
  ∀ l es row H', H l = none → H' l = some (.lst es) → Exs H' es row → Good n row → (row.length : Int) ≤ m → Purse H' p (c + 300) → SameX p H H' → Q (.ref l) H'
structure TRw (P : Program) (w : World) (K : PySem.W.Frag) (mg : Str → Option Value) (base : Heap) : Prop extends T1 mg K where
  f__law_take : FnAt P w K mg base "_law_take" 1 ["_law_purse_here", "_law_many"] spTake
  b_min : mg "min" = none
  b_max : mg "max" = none
section
variable {P : Program} {w : World} {K : PySem.W.Frag} {mg : Str → Option Value} {base : Heap}
theorem sc__law_row : FnScope ["_law_purse_here", "_law_n", "_law_most", "_law_found", "_law_near", "_law_k", "_law_one", "_law_other_here"] ["_law_purse_here", "_law_n", "_law_most"] (defScope (top 29)) := ⟨rfl, rfl, rfl, by decide +kernel, rfl, by decide +kernel, by decide +kernel⟩
theorem ok_row {f : Addr} {fd : FuncData} (F : Fun K "_law_row" "_law_row" (top 29) f fd) (T : TRw P w K mg base) : FnOk P w K mg base CX0 2 f fd ["_law_purse_here", "_law_n", "_law_most"] spRow := by
  refine F.ok sc__law_row (fun vs H Q E h => ?_) (fun cdv A outer s H vs Q E hr h => ?_)
  · obtain ⟨p, c, n, m, rfl, _⟩ := h
    rfl
  · obtain ⟨p, c, n, m, rfl, pu, hc, hn, hn2, hm, hm2, k⟩ := h
    refine ⟨_, (pss_cons (ps_set (i := 3) sc__law_row.nd rfl (Or.inl rfl) (pe_lst pa_nil))
      (pss_cons (ps_if (pt_cmpR op_lt (pv 1) pe_int (nomark _)) (pss_one (ps_ret (pv 3))) pss_nil)
      (pss_cons (ps_set (i := 4) sc__law_row.nd rfl (Or.inl rfl) (pe_ix (ix_listK (K := K) rfl) (pe_lst (@pa_cons _ _ _ _ _ (pv 1) (@pa_cons _ _ _ _ _ (pv 1) (@pa_cons _ _ _ _ _ (pe_callB (call_min2 rfl) rfl T.b_min (by decide +kernel) (pa_cons (pv 1) (pa_cons pe_int pa_nil))) pa_nil st_call) st_name) st_name)) (pe_callF T.f__law_take (hr.mono (by first | decide | omega)) rfl (pa_cons (pv 0) (pa_cons pe_int pa_nil))) (fun _ _ => rfl)))
      (pss_cons (ps_for PassesOwn.never rfl (pi_range1 rfl T.b_range (pa_cons (pe_callF T.f__law_take (hr.mono (by first | decide | omega)) rfl (pa_cons (pv 0) (pa_cons (pe_op op_add (pv 2) pe_int) pa_nil))) pa_nil)) (pg_name (i := 5) sc__law_row.nd rfl (Or.inl rfl)) (pss_cons (ps_set (i := 6) sc__law_row.nd rfl (Or.inl rfl) (pe_op op_add pe_int (pe_callF T.f__law_take (hr.mono (by first | decide | omega)) rfl (pa_cons (pv 0) (pa_cons (pv 4) pa_nil)))))
      (pss_cons (ps_set (i := 7) sc__law_row.nd rfl (Or.inl rfl) (pe_op op_add pe_int (pe_op op_mod (pe_op op_add (pv 6) (pe_callF T.f__law_take (hr.mono (by first | decide | omega)) rfl (pa_cons (pv 0) (pa_cons (pe_op op_sub (pv 1) pe_int) pa_nil)))) (pv 1))))
      (pss_one (ps_expr (pe_bmK (K := K) rfl PySem.F.plainAttrs_list PySem.F.slot_list_append PySem.F.type_list_append mt_append (pv 3) (pa_cons (pe_tup (pa_cons (pe_callB (call_min2 rfl) rfl T.b_min (by decide +kernel) (pa_cons (pv 6) (pa_cons (pv 7) pa_nil))) (pa_cons (pe_callB (call_max2 rfl) rfl T.b_max (by decide +kernel) (pa_cons (pv 6) (pa_cons (pv 7) pa_nil))) pa_nil))) pa_nil)))))))
      (pss_one (ps_ret (pv 3))))))), ?_⟩
    refine ⟨Nat.zero_le _, fun l hl => ?_⟩
    have npl : p ≠ l := by obtain ⟨_, e⟩ := pu.at; exact ne_of_none e hl
    refine ⟨_, rfl, _, _, rfl, rfl, _, rfl, ite2 (fun c2 => ?_) (fun c2 => ?_)⟩
    · exact ⟨_, rfl, k l [] [] _ hl upd_same .nil good_nil (by simpa using hm) ((pu.upd npl).mono (by omega) (by omega)) (SameX.new hl)⟩
    · have c2 : 2 ≤ n := by simpa using c2
      refine ⟨_, rfl, _, rfl, _, rfl, _, _, rfl, (by show 3 ≤ sizeLine; decide), fun l2 hl2 => ?_⟩
      have np2 : p ≠ l2 := by obtain ⟨_, e⟩ := (pu.upd npl (o := .lst [])).at; exact ne_of_none e hl2
      have nl2 : l ≠ l2 := by intro z; subst z; rw [upd_same] at hl2; cases hl2
      refine ⟨_, rfl, p, c, 3, rfl, (pu.upd npl).upd np2, by omega, by decide, by decide, fun r H1 r0 r1 pu1 s1 => ?_⟩
      obtain ⟨near, hat, q1, q2⟩ := near_at c2 r0 r1
      refine ⟨l2, _, _, _, rfl, rfl, SqL.of (s1 l2 _ np2.symm upd_same), hat, ?_⟩
      have sa : SameX p H H1 := (SameX.new hl).trans ((SameX.new hl2).trans s1)
      have hl1 : H1 l = some (.lst []) := s1 l _ npl.symm (by rw [upd_ne nl2, upd_same])
      refine ⟨_, rfl, _, rfl, _, _, rfl, rfl, p, c + 1, m + 1, rfl, pu1, by omega, by omega, by omega, fun r2 H2 r20 r21 pu2 s2 => ⟨r2, rfl, by omega, by omega, ?_⟩⟩
      refine for_range (fun i σ H' => ∃ es row v5 v6 v7, σ = [some (.ref p), some (.int n), some (.int m), some (.ref l), some (.int near), v5, v6, v7] ∧ SameX p H H' ∧ H' l = some (.lst es) ∧ Exs H' es row ∧ Good n row ∧ row.length = i ∧ Purse H' p (c + 2 + 2 * i))
        ⟨[], [], none, none, none, rfl, sa.trans s2, s2 l _ npl.symm hl1, .nil, good_nil, rfl, pu2⟩ ?_ ?_
      · rintro i σ H' hi ⟨es, row, v5, v6, v7, rfl, s3, h3, x3, g3, l3, pu3⟩
        have hi2 : (i : Int) < r2 := by omega
        refine ⟨_, rfl, _, rfl, p, _, near, rfl, pu3, by omega, by omega, by omega, fun r3 H4 r30 r31 pu4 s4 => ⟨_, _, rfl, rfl, ?_⟩⟩
        refine ⟨_, rfl, _, rfl, _, rfl, _, _, rfl, rfl, p, _, n - 1, rfl, pu4, by omega, by omega, by omega, fun r4 H5 r40 r41 pu5 s5 => ⟨_, _, rfl, rfl, _, rfl, _, _, rfl, rfl, (by show (0 : Int) < n; omega), _, _, rfl, rfl, ?_⟩⟩
        have h5 : H5 l = some (.lst es) := s5 l _ npl.symm (s4 l _ npl.symm h3)
        obtain ⟨o1, o2, o3⟩ := other_ne (n := n) (one := 1 + r3) (r := r4) c2 (by omega) (by omega) r40 r41
        refine ⟨_, rfl, .inl ⟨rfl, _, SqL.of h5⟩, _, rfl, _, rfl, _, _, rfl, _, rfl, _, rfl, _, _, rfl, (by show 2 ≤ sizeLine; decide), fun t ht => ?_⟩
        have nlt : l ≠ t := ne_of_none h5 ht
        have lx := x3.length
        have npt : p ≠ t := by obtain ⟨_, e⟩ := pu5.at; exact ne_of_none e ht
        refine ⟨l, _, _, rfl, rfl, (by rw [upd_ne nlt]; exact h5), ?_, ?_⟩
        · have : (100 : Nat) < sizeLine := by decide
          omega
        · refine ⟨es ++ [.ref t], row ++ [(if 1 + (1 + r3 + r4) % n < 1 + r3 then 1 + (1 + r3 + r4) % n else 1 + r3, if 1 + (1 + r3 + r4) % n > 1 + r3 then 1 + (1 + r3 + r4) % n else 1 + r3)], _, _, _, rfl, ?_, upd_same, ?_, ?_, ?_, ?_⟩
          · intro b o hb e
            have e5 := s5 b o hb (s4 b o hb (s3 b o hb e))
            rw [upd_ne (ne_of_none e hl), upd_ne (ne_of_none e5 ht)]
            exact e5
          · refine Exs.snoc (Exs.keep (fun b xs e => ?_) (SameX.exs s5 pu4 (SameX.exs s4 pu3 x3))) (by rw [upd_ne (Ne.symm nlt), upd_same])
            rw [upd_ne (ne_of e h5 (by intro z; cases z)), upd_ne (ne_of_none e ht)]
            exact e
          · refine g3.append fun e he => ?_
            rw [List.mem_singleton.mp he]
            dsimp only
            split <;> split <;> omega
          · rw [List.length_append, l3]; rfl
          · refine Purse.mono ((pu5.upd npt).upd npl) (by omega) (by omega)
      · rintro σ H' ⟨es, row, v5, v6, v7, rfl, s3, h3, x3, g3, l3, pu3⟩
        refine ⟨_, rfl, k l es row H' hl h3 x3 g3 (by rw [l3]; omega) (pu3.mono (by omega) (by omega)) s3⟩
end
end Sw
namespace Sw
open PySem L2
def isw : PyData → Bool
  | .int _ => true
  | _ => false
def btw (lo hi : Int) : PyData → Bool
  | .int i => decide (lo ≤ i ∧ i ≤ hi)
  | _ => false
def lt2 : PyData → PyData → Bool
  | .int a, .int b => decide (a < b)
  | _, _ => false
def isex (n : Int) : PyData → Bool
  | .tuple [x, y] => (btw 1 n x && btw 1 n y) && lt2 x y
  | _ => false
def isrow (n : Int) : PyData → Bool
  | .list ds => decide (ds.length ≤ 60) && ds.all (isex n)
  | _ => false
def spIwD : Sp := fun vs H Q _ => ∃ (v : V) (P : Addr → Prop) (d : PyData), vs = [v] ∧ DT H P v d ∧ Q (.bl (isw d)) H
def spBtD : Sp := fun vs H Q _ => ∃ (v : V) (P : Addr → Prop) (d : PyData) (lo hi : Int), vs = [v, .int lo, .int hi] ∧ DT H P v d ∧ Q (.bl (btw lo hi d)) H
def spIsEx : Sp := fun vs H Q _ => ∃ (v : V) (P : Addr → Prop) (d : PyData) (n : Int), vs = [.int n, v] ∧ DT H P v d ∧ ∀ H', Same H H' → Q (.bl (isex n d)) H'
def spIsRow : Sp := fun vs H Q _ => ∃ (v : V) (P : Addr → Prop) (d : PyData) (n : Int), vs = [.int n, v] ∧ DT H P v d ∧ (∀ ds, d = .list ds → ds.length ≤ 1000) ∧ ∀ H', Same H H' → Q (.bl (isrow n d)) H'
theorem DT.same {H H' : Hp} {P : Addr → Prop} {v : V} {d : PyData} (h : DT H P v d) (s : Same H H') : DT H' P v d := h.keep fun b o _ e => s b o e
theorem all_take {α : Type} {q : α → Bool} {l : List α} {i : Nat} {x : α} (h : l[i]? = some x) : (l.take (i + 1)).map q = (l.take i).map q ++ [q x] := by
  rw [List.take_succ, h, List.map_append]; rfl
structure TD (P : Program) (w : World) (K : PySem.W.Frag) (mg : Str → Option Value) (base : Heap) : Prop extends T1 mg K where
  f_is_whole : FnAt P w K mg base "is_whole" 1 ["thing"] spIwD
structure TD2 (P : Program) (w : World) (K : PySem.W.Frag) (mg : Str → Option Value) (base : Heap) : Prop extends T1 mg K where
  f_is_between : FnAt P w K mg base "is_between" 2 ["thing", "low", "high"] spBtD
structure TD3 (P : Program) (w : World) (K : PySem.W.Frag) (mg : Str → Option Value) (base : Heap) (u : Value) : Prop extends T1 mg K where
  g_MOST_EXCHANGES : mg "MOST_EXCHANGES" = some u
  r_MOST_EXCHANGES : RelV (.int 60) u
  f_is_exchange : FnAt P w K mg base "is_exchange" 4 ["n", "thing"] spIsEx
end Sw
namespace Sw
open PySem L2
section
variable {P : Program} {w : World} {K : PySem.W.Frag} {mg : Str → Option Value} {base : Heap}
theorem sc_is_whole : FnScope ["thing"] ["thing"] (defScope (top 15)) := ⟨rfl, rfl, rfl, by decide +kernel, rfl, by decide +kernel, by decide +kernel⟩
theorem ok_iwD {f : Addr} {fd : FuncData} (F : Fun K "is_whole" "is_whole" (top 15) f fd) (T : T1 mg K) : FnOk P w K mg base CX0 1 f fd ["thing"] spIwD := by
  refine F.ok sc_is_whole (fun vs H Q E h => ?_) (fun cdv A outer s H vs Q E hr h => ?_)
  · obtain ⟨v, P, d, rfl, _⟩ := h
    rfl
  · obtain ⟨v, P, d, rfl, hd, k⟩ := h
    refine ⟨_, (pss_one (ps_ret (pe_and (pe_callB (call_isiK (K := K) rfl) rfl T.b_isinstance (by decide +kernel) (pa_cons (pv 0) (pa_cons (pe_bltn (v := .ty "int") rfl T.b_int (by decide +kernel) rfl) pa_nil))) (pe_one (pe_not (pe_callB (call_isiK (K := K) rfl) rfl T.b_isinstance (by decide +kernel) (pa_cons (pv 0) (pa_cons (pe_bltn (v := .ty "bool") rfl T.b_bool (by decide +kernel) rfl) pa_nil)))))))), ?_⟩
    refine ⟨_, rfl, _, _, "int", _, rfl, hd.ty, kit_int K hd, _, rfl, ite2 (fun c => ?_) (fun c => ?_)⟩
    · refine ⟨_, rfl, _, _, "bool", _, rfl, hd.ty, kit_bool K hd, _, rfl, ?_⟩
      cases hd <;> first | exact k | exact absurd c Bool.false_ne_true
    · cases hd <;> first | exact k | exact absurd rfl c
theorem sc_is_between : FnScope ["thing", "low", "high"] ["thing", "low", "high"] (defScope (top 16)) := ⟨rfl, rfl, rfl, by decide +kernel, rfl, by decide +kernel, by decide +kernel⟩
theorem ok_btD {f : Addr} {fd : FuncData} (F : Fun K "is_between" "is_between" (top 16) f fd) (T : TD P w K mg base) : FnOk P w K mg base CX0 2 f fd ["thing", "low", "high"] spBtD := by
  refine F.ok sc_is_between (fun vs H Q E h => ?_) (fun cdv A outer s H vs Q E hr h => ?_)
  · obtain ⟨v, P, d, lo, hi, rfl, _⟩ := h
    rfl
  · obtain ⟨v, P, d, lo, hi, rfl, hd, k⟩ := h
    refine ⟨_, (pss_one (ps_ret (pe_and (pe_callF T.f_is_whole (hr.mono (by first | decide | omega)) rfl (pa_cons (pv 0) pa_nil)) (pe_one (pe_chain op_le op_le (pv 1) (pv 0) (pv 2)))))), ?_⟩
    refine ⟨_, rfl, v, P, d, rfl, hd, _, rfl, ?_⟩
    cases hd with
    | int x =>
      refine iteT ?_
      refine ⟨_, rfl, _, rfl, _, _, rfl, rfl, _, rfl, ite2 (fun c => ?_) (fun c => ?_)⟩
      · have c : lo ≤ x := of_decide_eq_true c
        have e : btw lo hi (.int x) = decide (x ≤ hi) := by show decide (lo ≤ x ∧ x ≤ hi) = _; rw [Bool.eq_iff_iff]; simp [c]
        rw [e] at k
        exact ⟨_, rfl, _, _, rfl, rfl, k⟩
      · have c : ¬ lo ≤ x := of_decide_eq_false (by simpa using c)
        have e : btw lo hi (.int x) = false := by show decide (lo ≤ x ∧ x ≤ hi) = _; simp [c]
        rw [e] at k
        exact k
    | _ => exact iteF k
theorem sc_is_exchange : FnScope ["n", "thing"] ["n", "thing"] (defScope (top 19)) := ⟨rfl, rfl, rfl, by decide +kernel, rfl, by decide +kernel, by decide +kernel⟩
theorem ok_isex {f : Addr} {fd : FuncData} (F : Fun K "is_exchange" "is_exchange" (top 19) f fd) (T : TD2 P w K mg base) : FnOk P w K mg base CX0 4 f fd ["n", "thing"] spIsEx := by
  refine F.ok sc_is_exchange (fun vs H Q E h => ?_) (fun cdv A outer s H vs Q E hr h => ?_)
  · obtain ⟨v, P, d, n, rfl, _⟩ := h
    rfl
  · obtain ⟨v, P, d, n, rfl, hd, k⟩ := h
    refine ⟨_, (pss_cons (ps_if (PW.pt (pw_or (pt_not (pt_val (pe_callB (call_isiK (K := K) rfl) rfl T.b_isinstance (by decide +kernel) (pa_cons (pv 1) (pa_cons (pe_bltn (v := .ty "tuple") rfl T.b_tuple (by decide +kernel) rfl) pa_nil))))) (pw_or1 (pt_cmpR op_ne (pe_callB (call_lenK (K := K) rfl) rfl T.b_len (by decide +kernel) (pa_cons (pv 1) pa_nil)) pe_int (nomark _))))) (pss_one (ps_ret pe_bl)) pss_nil)
      (pss_one (ps_ret (pe_and (pe_callB (call_allK (K := K) rfl rfl) rfl T.b_all (by decide +kernel) (pa_cons (pe_comp (N := (["number", "n"] : List Str)) (ix := ([none, some 0] : List (Option Nat))) (comp_ok rfl rfl) rfl (pi_tupK (K := K) rfl (pv 1)) (fun _ _ _ _ => (pg_name (i := 0) (show List.Nodup (["number", "n"] : List Str) from by decide +kernel) rfl (Or.inl rfl))) (fun _ _ _ _ => pif_nil) (fun _ _ _ _ => (pe_callF T.f_is_between (hr.mono (by first | decide | omega)) rfl (@pa_cons _ _ _ _ _ (pv 0) (@pa_cons _ _ _ _ _ pe_int (@pa_cons _ _ _ _ _ (pv 1) pa_nil st_name) st_con) st_name)))) pa_nil)) (pe_one (pe_cmpR op_lt (pe_ix (ix_tupK (K := K) rfl) (pv 1) pe_int (fun _ _ => rfl)) (pe_ix (ix_tupK (K := K) rfl) (pv 1) pe_int (fun _ _ => rfl)) (nomark _))))))), ?_⟩
    refine ⟨_, rfl, _, _, "tuple", _, rfl, hd.ty, kit_tuple K hd, _, rfl, ?_⟩
    cases hd with
    | @tup a us ds ha pa rs =>
      refine iteF ?_
      have ul := rs.length
      refine ⟨_, rfl, a, _, rfl, .inr (SqT.of ha), rfl, _, rfl, ite2 (fun c => ?_) (fun c => ?_)⟩
      · have c : ds.length ≠ 2 := by
          intro z
          rw [ul, z] at c
          exact absurd c (by decide)
        have e : isex n (.tuple ds) = false := by
          match ds, c with
          | [], _ => rfl
          | [_], _ => rfl
          | [_, _], c => exact absurd rfl c
          | _ :: _ :: _ :: _, _ => rfl
        rw [e] at k
        exact k H (Same.refl H)
      · have c : ds.length = 2 := by
          apply Classical.byContradiction
          intro z
          have : decide (V.int (us.length : Int) = V.int 2) = false := decide_eq_false (by intro q; have := V.int.inj q; omega)
          rw [this] at c
          exact absurd rfl c
        match ds, us, rs, c with
        | [x, y], [vx, vy], .cons hx (.cons hy .nil), _ =>
          refine ⟨_, rfl, a, rfl, ⟨_, SqT.of ha⟩, compT (K := K) (a := a) (xs := [vx, vy]) (k := 0) (fun i ys σ' H' => ys = (([x, y].take i).map (btw 1 n)).map V.bl ∧ (∃ v, σ' = [v, some (.int n)]) ∧ H' = H) (by show 2 ≤ 1000000; decide) ⟨rfl, ⟨none, rfl⟩, rfl⟩ (fun i ys σ' H' _ q => by rw [q.2.2]; exact SqT.of ha) (fun i ys σ' H' q => by rw [q.1, List.length_map, List.length_map, List.length_take]; omega) ?_ ?_⟩
          · rintro i ys σ' H' z R hz ⟨rfl, ⟨v, rfl⟩, rfl⟩ done
            obtain ⟨d, hd, hdz⟩ := (DTs.cons hx (DTs.cons hy DTs.nil)).get hz
            refine ⟨_, rfl, _, rfl, z, P, d, 1, n, rfl, hdz, done _ _ _ ⟨?_, ⟨_, rfl⟩, rfl⟩⟩
            rw [all_take hd, List.map_append]
            rfl
          · rintro ys σ' H' q ⟨rfl, ⟨v, rfl⟩, rfl⟩ fq
            have s1 : Same H' (upd H' q (.lst (([x, y].map (btw 1 n)).map V.bl))) := Same.new fq
            refine ⟨q, [x, y].map (btw 1 n), rfl, SqL.of upd_same, _, rfl, ite2 (fun c2 => ?_) (fun c2 => ?_)⟩
            · have c2 : btw 1 n x = true ∧ btw 1 n y = true := by simpa using c2
              refine ⟨_, rfl, a, _, _, _, rfl, rfl, SqT.of (s1 _ _ ha), rfl, _, rfl, a, _, _, _, rfl, rfl, SqT.of (s1 _ _ ha), rfl, ?_⟩
              cases hx with
              | int i =>
                cases hy with
                | int j =>
                  have e : isex n (.tuple [.int i, .int j]) = decide (i < j) := by show ((btw 1 n (.int i) && btw 1 n (.int j)) && decide (i < j)) = _; rw [c2.1, c2.2]; rfl
                  rw [e] at k
                  exact ⟨_, _, rfl, rfl, k _ s1⟩
                | _ => exact absurd c2.2 Bool.false_ne_true
              | _ => exact absurd c2.1 Bool.false_ne_true
            · have e : isex n (.tuple [x, y]) = false := by
                show ((btw 1 n x && btw 1 n y) && lt2 x y) = false
                have : (btw 1 n x && btw 1 n y) = false := by simpa using c2
                rw [this]; rfl
              rw [e] at k
              exact k _ s1
    | _ => exact iteT (k H (Same.refl H))
theorem sc_is_row : FnScope ["n", "thing"] ["n", "thing"] (defScope (top 20)) := ⟨rfl, rfl, rfl, by decide +kernel, rfl, by decide +kernel, by decide +kernel⟩
theorem ok_isrow {u : Value} {f : Addr} {fd : FuncData} (F : Fun K "is_row" "is_row" (top 20) f fd) (T : TD3 P w K mg base u) : FnOk P w K mg base CX0 6 f fd ["n", "thing"] spIsRow := by
  refine F.ok sc_is_row (fun vs H Q E h => ?_) (fun cdv A outer s H vs Q E hr h => ?_)
  · obtain ⟨v, P, d, n, rfl, _⟩ := h
    rfl
  · obtain ⟨v, P, d, n, rfl, hd, hlen, k⟩ := h
    refine ⟨_, (pss_cons (ps_if (PW.pt (pw_or (pt_not (pt_val (pe_callB (call_isiK (K := K) rfl) rfl T.b_isinstance (by decide +kernel) (pa_cons (pv 1) (pa_cons (pe_bltn (v := .ty "list") rfl T.b_list (by decide +kernel) rfl) pa_nil))))) (pw_or1 (pt_cmpR op_gt (pe_callB (call_lenK (K := K) rfl) rfl T.b_len (by decide +kernel) (pa_cons (pv 1) pa_nil)) (pe_glob rfl T.g_MOST_EXCHANGES T.r_MOST_EXCHANGES) (nomark _))))) (pss_one (ps_ret pe_bl)) pss_nil)
      (pss_one (ps_ret (pe_callB (call_allK (K := K) rfl rfl) rfl T.b_all (by decide +kernel) (pa_cons (pe_comp (N := (["exchange", "n"] : List Str)) (ix := ([none, some 0] : List (Option Nat))) (comp_ok rfl rfl) rfl (pi_listK (K := K) rfl (pv 1)) (fun _ _ _ _ => (pg_name (i := 0) (show List.Nodup (["exchange", "n"] : List Str) from by decide +kernel) rfl (Or.inl rfl))) (fun _ _ _ _ => pif_nil) (fun _ _ _ _ => (pe_callF T.f_is_exchange (hr.mono (by first | decide | omega)) rfl (pa_cons (pv 1) (pa_cons (pv 0) pa_nil))))) pa_nil))))), ?_⟩
    refine ⟨_, rfl, _, _, "list", _, rfl, hd.ty, kit_list K hd, _, rfl, ?_⟩
    cases hd with
    | @lst a us ds ha pa rs =>
      refine iteF ?_
      have ul := rs.length
      have dl := hlen ds rfl
      refine ⟨_, rfl, a, _, rfl, .inl (SqL.of ha), _, _, rfl, rfl, _, rfl, ite2 (fun c => ?_) (fun c => ?_)⟩
      · have c : 60 < us.length := by have := of_decide_eq_true c; omega
        have e : isrow n (.list ds) = false := by
          show (decide (ds.length ≤ 60) && _) = false
          rw [decide_eq_false (by omega)]; rfl
        rw [e] at k
        exact k H (Same.refl H)
      · have c : us.length ≤ 60 := by
          apply Classical.byContradiction
          intro z
          have : decide ((60 : Int) < (us.length : Int)) = true := decide_eq_true (by omega)
          exact c this
        refine ⟨_, rfl, a, rfl, ⟨_, SqL.of ha⟩, compL (K := K) (a := a) (xs := us) (k := 0) (fun i ys σ' H' => ys = ((ds.take i).map (isex n)).map V.bl ∧ (∃ v, σ' = [v, some (.int n)]) ∧ Same H H') (by omega) ⟨rfl, ⟨none, rfl⟩, Same.refl _⟩ (fun i ys σ' H' _ q => SqL.of (q.2.2 _ _ ha)) (fun i ys σ' H' q => by rw [q.1, List.length_map, List.length_map, List.length_take]; omega) ?_ ?_⟩
        · rintro i ys σ' H' z R hz ⟨rfl, ⟨v, rfl⟩, s1⟩ done
          obtain ⟨d, hd, hdz⟩ := rs.get hz
          refine ⟨_, rfl, _, rfl, z, P, d, n, rfl, DT.same hdz s1, fun H2 s2 => done _ _ _ ⟨?_, ⟨_, rfl⟩, s1.trans s2⟩⟩
          rw [all_take hd, List.map_append]
          rfl
        · rintro ys σ' H' q ⟨rfl, ⟨v, rfl⟩, s1⟩ fq
          rw [List.take_of_length_le (by omega)]
          refine ⟨q, ds.map (isex n), rfl, SqL.of upd_same, ?_⟩
          have e : isrow n (.list ds) = (ds.map (isex n)).all id := by
            show (decide (ds.length ≤ 60) && ds.all (isex n)) = _
            rw [decide_eq_true (by omega), List.all_map]; rfl
          rw [e] at k
          exact k _ (s1.trans (Same.new fq))
    | _ => exact iteT (k H (Same.refl H))
end
end Sw
namespace L2
open PySem PySem.Spec PyProof.Rows PySem.SeqAt
inductive TxtEs (pr : Params) : List DictEntry → List (Str × Str) → Prop
  | nil : TxtEs pr [] []
  | cons {x y : Str} {t u : Tok} {es : List DictEntry} {ps : List (Str × Str)} : TxtEs pr es ps → TxtEs pr ({ hash := PyData.keyHash pr x, key := .str x t, val := .str y u } :: es) ((x, y) :: ps)
structure KTxt (K : PySem.W.Frag) (pr : Params) (a : Addr) (ps : List (Str × Str)) : Prop where
  sys : (a == sysModules) = false
  nd : (ps.map (·.1)).Nodup
  ex : ∃ (es : List DictEntry) (ep : Nat), K.lookup a = some { cls := .type "dict", data := .dict es.toArray ep } ∧ TxtEs pr es ps
end L2
namespace L2
open PySem PySem.Spec PyProof.Rows
section
variable {X : Cx} {K : PySem.W.Frag}
def rTxt0 (f : Str → Bool) : V → List V → Hp → VK → Prop := fun x vs H Q => ∃ z, x = .str z ∧ vs = [] ∧ Q (.bl (f z)) H
theorem mt_isascii : MtR X "str.isascii" (rTxt0 Txt.isascii) := by
  intro pins s σ H x vs v us Q I rx rv h
  obtain ⟨z, rfl, rfl, q⟩ := h
  obtain ⟨t, rfl⟩ := rx
  cases rv
  exact SC.isascii ⟨.bl _, H, I, rfl, q⟩
theorem mt_isdigit : MtR X "str.isdigit" (rTxt0 Txt.isdigit) := by
  intro pins s σ H x vs v us Q I rx rv h
  obtain ⟨z, rfl, rfl, q⟩ := h
  obtain ⟨t, rfl⟩ := rx
  cases rv
  exact SC.isdigit ⟨.bl _, H, I, rfl, q⟩
def rStarts : V → List V → Hp → VK → Prop := fun x vs H Q => ∃ z y, x = .str z ∧ vs = [.str y] ∧ Q (.bl (Txt.startswith z y)) H
theorem mt_starts : MtR X "str.startswith" rStarts := by
  intro pins s σ H x vs v us Q I rx rv h
  obtain ⟨z, y, rfl, rfl, q⟩ := h
  obtain ⟨t, rfl⟩ := rx
  obtain ⟨u, rfl, t', rfl⟩ := rv.one
  exact SC.startswith ⟨.bl _, H, I, rfl, q⟩
theorem vals_strs : ∀ {ts : List Str} {us : List Value}, Vals (ts.map V.str) us → ∃ l : List (Str × Tok), us = strValues l ∧ l.map (·.1) = ts
  | [], _, .nil => ⟨[], rfl, rfl⟩
  | x :: r, _, .cons h t => by
    obtain ⟨tk, rfl⟩ := h
    obtain ⟨l, e1, e2⟩ := vals_strs t
    exact ⟨(x, tk) :: l, by rw [e1]; rfl, by rw [List.map_cons, e2]⟩
theorem strs_vals : ∀ (l : List (Str × Tok)), Vals ((l.map (·.1)).map V.str) (strValues l)
  | [] => .nil
  | (x, t) :: l => .cons ⟨t, rfl⟩ (strs_vals l)
def rJoin (K : PySem.W.Frag) : V → List V → Hp → VK → Prop := fun x vs H Q => ∃ (z : Str) (p : Addr) (ts : List Str), x = .str z ∧ vs = [.ref p] ∧ SqL K H p (ts.map V.str) ∧ JoinOk z ts = true ∧ Q (.str (Str.join z ts)) H
theorem mt_join (hK : X.K = K) : MtR X "str.join" (rJoin K) := by
  subst hK
  intro pins s σ H x vs v us Q I rx rv h
  obtain ⟨z, p, ts, rfl, rfl, hp, hj, q⟩ := h
  obtain ⟨t, rfl⟩ := rx
  obtain ⟨u, rfl, ru⟩ := rv.one
  cases ru
  obtain ⟨its, r, pl, _⟩ := I.list hp
  obtain ⟨l, rfl, e⟩ := vals_strs r
  refine SC.join pl.isList e hj fun t' k => ⟨.str _, H, I.tok _, ⟨t', rfl⟩, ?_⟩
  rw [show Txt.join z ts = Str.join z ts from StrLaws.glued_eq_join z ts]
  exact q
theorem parts_few (x y : Str) : (Builtin.Str.partsBetween x (Builtin.Str.occurrences x y 0 x.length (x.length + 1)) y.length).length ≤ x.length + 2 := by
  have h := StrLaws.occ_length_le x y 0 x.length (x.length + 1)
  unfold Builtin.Str.partsBetween
  rw [List.length_map, List.length_zip, List.length_cons, List.length_map, List.length_append, List.length_singleton]
  omega
def rSplit : V → List V → Hp → VK → Prop := fun x vs H Q => ∃ (z y : Str), x = .str z ∧ vs = [.str y] ∧ (y.length == 0) = false ∧ z.length ≤ 1000000 ∧ ∀ l, H l = none → Q (.ref l) (upd H l (.lst ((Txt.split z y).map V.str)))
theorem mt_split : MtR X "str.split" rSplit := by
  intro pins s σ H x vs v us Q I rx rv h
  obtain ⟨z, y, rfl, rfl, hy, hz, q⟩ := h
  obtain ⟨t, rfl⟩ := rx
  obtain ⟨u, rfl, t', rfl⟩ := rv.one
  have big : (10000000 : Nat) ≤ sizeLine := by decide
  have one : 1 ≤ sizeLine := by decide
  have key : ∀ (l : List (Str × Tok)) (tk : Nat), l.map (·.1) = Txt.split z y → l.length ≤ sizeLine → EP X pins σ Q (.ref s.heap.objs.size) { s with toks := tk, heap := s.heap.push { cls := .type "list", data := .seq (strValues l).toArray } } := fun l tk e hl => by
    have v := strs_vals l
    rw [e] at v
    have vl := v.length
    refine ⟨.ref s.heap.objs.size, _, I.laid (o := .lst ((Txt.split z y).map V.str)) (fun b o e => Heap.get?_push_of_some _ e) (Nat.le_refl _) ⟨?_, strValues l, 0, v, Heap.get?_push_size _ rfl⟩, rfl, q _ (I.hok.fresh (Nat.le_refl _))⟩
    rw [vl]
    unfold strValues
    rw [List.length_map]
    exact hl
  cases h1 : (decide (z.length < y.length) || decide (Builtin.Str.strKind z < Builtin.Str.strKind y)) with
  | true =>
    refine call_meets F.slot_str_split (typeIs_str _ _ _) F.entry_str_split (F.args_str_split_2 _ _) (meets_str_split_cannot_occur z y t t' h1) ?_
    exact key [(z, t)] s.toks (by unfold Txt.split; rw [if_pos h1]; rfl) one
  | false =>
    cases hf : (Builtin.Str.occurrences z y 0 z.length (z.length + 1)).isEmpty with
    | true =>
      refine call_meets F.slot_str_split (typeIs_str _ _ _) F.entry_str_split (F.args_str_split_2 _ _) (meets_str_split_not_found z y t t' h1 hy hf) ?_
      exact key [(z, t)] s.toks (by unfold Txt.split; rw [if_neg (by rw [h1]; exact Bool.false_ne_true), if_pos hf]; rfl) one
    | false =>
      have few := parts_few z y
      refine call_meets F.slot_str_split (typeIs_str _ _ _) F.entry_str_split (F.args_str_split_2 _ _) (meets_str_split_sep z y t t' h1 hy hf (by omega) (by omega)) ?_
      have k := key (numbered s.toks (Builtin.Str.partsBetween z (Builtin.Str.occurrences z y 0 z.length (z.length + 1)) y.length)) (s.toks + (Builtin.Str.partsBetween z (Builtin.Str.occurrences z y 0 z.length (z.length + 1)) y.length).length)
        ((numbered_texts _ _).trans (by unfold Txt.split; rw [if_neg (by rw [h1]; exact Bool.false_ne_true), if_neg (by rw [hf]; exact Bool.false_ne_true)])) (by
          have := congrArg List.length (numbered_texts s.toks (Builtin.Str.partsBetween z (Builtin.Str.occurrences z y 0 z.length (z.length + 1)) y.length))
          rw [List.length_map] at this
          omega)
      rw [← strsFrom_eq] at k
      exact k
def rIntT : List V → Hp → VK → Prop := fun xs H Q => ∃ z n, xs = [.str z] ∧ PySem.intText? z = some n ∧ z.length ≤ 640 ∧ Q (.int n) H
theorem call_int_text : CallR X (.type "int") rIntT := by
  intro pins s σ H xs us Q I r h
  obtain ⟨z, n, rfl, hn, hl, q⟩ := h
  obtain ⟨u, rfl, t, rfl⟩ := vals1 r
  exact PySem.W.KIN.call_text hn hl ⟨.int n, H, I.tok _, ⟨_, rfl⟩, q⟩
end
end L2
namespace Sw
open PySem L2
inductive Mvs (H : Hp) : List V → List (Int × Str) → Prop
  | nil : Mvs H [] []
  | cons {t : Addr} {k : Int} {x : Str} {vs : List V} {r : List (Int × Str)} : H t = some (.tup [.int k, .str x]) → Mvs H vs r → Mvs H (.ref t :: vs) ((k, x) :: r)
theorem Mvs.length {H : Hp} : ∀ {vs : List V} {r : List (Int × Str)}, Mvs H vs r → vs.length = r.length
  | _, _, .nil => rfl
  | _, _, .cons _ x => by rw [List.length_cons, List.length_cons, x.length]
theorem Mvs.append {H : Hp} : ∀ {vs ws : List V} {r q : List (Int × Str)}, Mvs H vs r → Mvs H ws q → Mvs H (vs ++ ws) (r ++ q)
  | _, _, _, _, .nil, y => y
  | _, _, _, _, .cons h x, y => .cons h (x.append y)
end Sw
namespace Sw
open PySem L2
def signs (x : Str) : List Nat := x.cps.toList
theorem signs_ext {x y : Str} (h : signs x = signs y) : x = y := Str.ext' (Array.toList_inj.mp h)
theorem signs_app (x y : Str) : signs (x ++ y) = signs x ++ signs y := by
  show (x.cps ++ y.cps).toList = _
  rw [Array.toList_append]; rfl
theorem signs_len (x : Str) : (signs x).length = x.length := Array.length_toList
def glue (c : Nat) : List (List Nat) → List Nat
  | [] => []
  | [x] => x
  | x :: y :: r => x ++ c :: glue c (y :: r)
theorem signs_join (c : Nat) : ∀ ts : List Str, signs (Str.join ⟨#[c]⟩ ts) = glue c (ts.map signs)
  | [] => rfl
  | [x] => rfl
  | x :: y :: r => by
    show signs (x ++ (⟨#[c]⟩ : Str) ++ Str.join ⟨#[c]⟩ (y :: r)) = signs x ++ c :: glue c ((y :: r).map signs)
    rw [signs_app, signs_app, signs_join c (y :: r), List.append_assoc]
    rfl
theorem cut_one {c : Nat} : ∀ {p q r s : List Nat}, c ∉ p → c ∉ q → p ++ c :: r = q ++ c :: s → p = q ∧ r = s
  | [], [], r, s, _, _, h => by
    injection h with _ h
    exact ⟨rfl, h⟩
  | [], b :: q, r, s, _, hq, h => by
    injection h with h _
    exact absurd List.mem_cons_self (h ▸ hq)
  | a :: p, [], r, s, hp, _, h => by
    injection h with h _
    exact absurd List.mem_cons_self (h ▸ hp)
  | a :: p, b :: q, r, s, hp, hq, h => by
    injection h with h1 h2
    obtain ⟨e1, e2⟩ := cut_one (fun z => hp (List.mem_cons_of_mem _ z)) (fun z => hq (List.mem_cons_of_mem _ z)) h2
    exact ⟨by rw [h1, e1], e2⟩
theorem glue_inj {c : Nat} : ∀ {ps qs : List (List Nat)}, ps ≠ [] → qs ≠ [] → (∀ p ∈ ps, c ∉ p) → (∀ q ∈ qs, c ∉ q) → glue c ps = glue c qs → ps = qs
  | [], _, h, _, _, _, _ => absurd rfl h
  | _, [], _, h, _, _, _ => absurd rfl h
  | [x], [y], _, _, _, _, h => by rw [show x = y from h]
  | [x], y :: z :: r, _, _, h1, _, h => by
    have h : x = y ++ c :: glue c (z :: r) := h
    exact absurd (by rw [h]; exact List.mem_append_right _ List.mem_cons_self) (h1 x List.mem_cons_self)
  | x :: z :: r, [y], _, _, _, h2, h => by
    have h : x ++ c :: glue c (z :: r) = y := h
    exact absurd (by rw [← h]; exact List.mem_append_right _ List.mem_cons_self) (h2 y List.mem_cons_self)
  | x :: y :: r, z :: w :: s, _, _, h1, h2, h => by
    obtain ⟨e1, e2⟩ := cut_one (h1 x List.mem_cons_self) (h2 z List.mem_cons_self) (show x ++ c :: glue c (y :: r) = z ++ c :: glue c (w :: s) from h)
    rw [e1, glue_inj (by simp) (by simp) (fun p hp => h1 p (List.mem_cons_of_mem _ hp)) (fun p hp => h2 p (List.mem_cons_of_mem _ hp)) e2]
theorem split_ne (x y : Str) : Txt.split x y ≠ [] := by
  unfold Txt.split
  split
  · simp
  · split
    · simp
    · rw [StrLaws.partsBetween_eq]
      obtain ⟨p, r, e⟩ := StrLaws.partsFrom_ne x y.length 0 (Builtin.Str.occurrences x y 0 x.length (x.length + 1))
      rw [e]; simp
theorem map_signs_inj : ∀ {a b : List Str}, a.map signs = b.map signs → a = b
  | [], [], _ => rfl
  | [], _ :: _, h => by simp at h
  | _ :: _, [], h => by simp at h
  | x :: a, y :: b, h => by
    rw [List.map_cons, List.map_cons] at h
    injection h with h1 h2
    rw [signs_ext h1, map_signs_inj h2]
theorem split_glued {c : Nat} {ts : List Str} (ne : ts ≠ []) (free : ∀ p ∈ ts, c ∉ signs p) : Txt.split (Str.join ⟨#[c]⟩ ts) ⟨#[c]⟩ = ts := by
  have e := StrLaws.join_split (Str.join ⟨#[c]⟩ ts) ⟨#[c]⟩
  have f := StrLaws.split_free (Str.join ⟨#[c]⟩ ts) c
  have e2 : glue c ((Txt.split (Str.join ⟨#[c]⟩ ts) ⟨#[c]⟩).map signs) = glue c (ts.map signs) := by
    rw [← signs_join, ← signs_join, e]
  refine map_signs_inj (glue_inj (by simpa using split_ne _ _) (by simpa using ne) ?_ ?_ e2)
  · intro p hp
    obtain ⟨q, hq, rfl⟩ := List.mem_map.mp hp
    exact f q hq
  · intro p hp
    obtain ⟨q, hq, rfl⟩ := List.mem_map.mp hp
    exact free q hq
def numT (i : Int) : Str := Str.ofString (toString i)
theorem num_signs (m : Nat) : signs (numT (m : Int)) = (Nat.toDigits 10 m).map Char.toNat := PySem.W.KIN.signs_num m
theorem num_digit {i : Int} (h : 0 ≤ i) : ∀ c ∈ signs (numT i), 48 ≤ c ∧ c ≤ 57 := by
  obtain ⟨m, rfl⟩ := Int.eq_ofNat_of_zero_le h
  intro c hc
  rw [num_signs] at hc
  obtain ⟨ch, hch, e⟩ := List.mem_map.mp hc
  rw [← e]
  exact PyProof.Rows.digit_range (Nat.isDigit_of_mem_toDigits (by decide) (by decide) hch)
theorem num_free {i : Int} (h : 0 ≤ i) {c : Nat} (hc : c < 48 ∨ 57 < c) : c ∉ signs (numT i) := fun z => by
  have := num_digit h c z
  omega
theorem num_pos {i : Int} (h : 0 ≤ i) : 0 < (numT i).length := by
  obtain ⟨m, rfl⟩ := Int.eq_ofNat_of_zero_le h
  rw [← signs_len, num_signs, List.length_map]
  exact PySem.toDigits_len_ge 10 m
theorem num_ascii {i : Int} (h : 0 ≤ i) : Txt.isascii (numT i) = true := by
  unfold Txt.isascii
  rw [Array.all_eq_true']
  intro c hc
  have := num_digit h c (by simpa [signs] using hc)
  exact decide_eq_true (by omega)
theorem dig_yes : ∀ c, 48 ≤ c → c ≤ 57 → Unicode.isDigit c = true := by
  intro c h1 h2
  have : c = 48 ∨ c = 49 ∨ c = 50 ∨ c = 51 ∨ c = 52 ∨ c = 53 ∨ c = 54 ∨ c = 55 ∨ c = 56 ∨ c = 57 := by omega
  rcases this with rfl | rfl | rfl | rfl | rfl | rfl | rfl | rfl | rfl | rfl <;> decide +kernel
theorem num_isdigit {i : Int} (h : 0 ≤ i) : Txt.isdigit (numT i) = true := by
  unfold Txt.isdigit
  rw [Bool.and_eq_true]
  refine ⟨decide_eq_true (num_pos h), ?_⟩
  rw [Array.all_eq_true']
  intro c hc
  have := num_digit h c (by simpa [signs] using hc)
  exact dig_yes c this.1 this.2
theorem num_len {i : Int} (h : 0 ≤ i) (h9 : i < 10 ^ 9) : (numT i).length ≤ 9 := PyProof.Rows.toString_length_le h (by decide) h9
theorem num_int {i : Int} (h : 0 ≤ i) (h9 : i < 10 ^ 10) : PySem.intText? (numT i) = some i := PySem.W.KIN.num_reads h h9
theorem head_dig (m : Nat) (hm : 0 < m) : ∃ d r, (Nat.toDigits 10 m).map Char.toNat = d :: r ∧ d ≠ 48 := by
  induction m using Nat.strongRecOn with
  | _ m ih =>
    by_cases h : m < 10
    · rw [Nat.toDigits_of_lt_base h]
      have : m = 1 ∨ m = 2 ∨ m = 3 ∨ m = 4 ∨ m = 5 ∨ m = 6 ∨ m = 7 ∨ m = 8 ∨ m = 9 := by omega
      rcases this with rfl | rfl | rfl | rfl | rfl | rfl | rfl | rfl | rfl <;> exact ⟨_, _, rfl, by decide⟩
    · have hm : m % 10 < 10 := Nat.mod_lt m (by decide)
      have t : Nat.toDigits 10 (m / 10) ++ Nat.toDigits 10 (m % 10) = Nat.toDigits 10 (10 * (m / 10) + m % 10) := Nat.toDigits_append_toDigits (by decide) (by omega) hm
      rw [Nat.div_add_mod] at t
      obtain ⟨d, r, e, hd⟩ := ih (m / 10) (by omega) (by omega)
      rw [← t, List.map_append, e]
      exact ⟨d, _, rfl, hd⟩
theorem starts_iff (x : Str) (c : Nat) : Txt.startswith x ⟨#[c]⟩ = true ↔ ∃ r, signs x = c :: r := by
  have h := StrLaws.subAt_one x c 0
  unfold Txt.startswith
  rw [Bool.and_eq_true, decide_eq_true_eq]
  rw [h]
  show (signs x)[0]? = some c ↔ _
  cases e : signs x with
  | nil => simp
  | cons a r => simp [eq_comm]
theorem num_nought {i : Int} (h : 0 < i) : Txt.startswith (numT i) ⟨#[48]⟩ = false := by
  rw [Bool.eq_false_iff]
  intro z
  obtain ⟨r, e⟩ := (starts_iff _ _).mp z
  obtain ⟨m, rfl⟩ := Int.eq_ofNat_of_zero_le (Int.le_of_lt h)
  obtain ⟨d, r', e', hd⟩ := head_dig m (by omega)
  rw [num_signs, e'] at e
  injection e with e _
  exact hd e
def exT (e : Int × Int) : Str := numT e.1 ++ Str.ofString "-" ++ numT e.2
def rowT (row : List (Int × Int)) : Str := if row.length = 0 then Str.ofString "none" else Str.join (Str.ofString " ") (row.map exT)
theorem exT_join (a b : Int) : exT (a, b) = Str.join ⟨#[45]⟩ [numT a, numT b] := rfl
theorem ex_split {a b : Int} (ha : 0 ≤ a) (hb : 0 ≤ b) : Txt.split (exT (a, b)) (Str.ofString "-") = [numT a, numT b] := by
  rw [exT_join]
  refine split_glued (c := 45) (by simp) fun p hp => ?_
  rcases List.mem_cons.mp hp with rfl | hp
  · exact num_free ha (by omega)
  · rw [List.mem_singleton.mp hp]
    exact num_free hb (by omega)
theorem ex_free {a b : Int} (ha : 0 ≤ a) (hb : 0 ≤ b) : ∀ c ∈ signs (exT (a, b)), c = 45 ∨ (48 ≤ c ∧ c ≤ 57) := by
  intro c hc
  unfold exT at hc
  rw [signs_app, signs_app] at hc
  rcases List.mem_append.mp hc with hc | hc
  · rcases List.mem_append.mp hc with hc | hc
    · exact .inr (num_digit ha c hc)
    · left
      have : signs (Str.ofString "-") = [45] := by decide +kernel
      rw [this] at hc
      exact List.mem_singleton.mp hc
  · exact .inr (num_digit hb c hc)
theorem rowT_split {row : List (Int × Int)} (ne : row ≠ []) (h : ∀ e ∈ row, 0 ≤ e.1 ∧ 0 ≤ e.2) : Txt.split (rowT row) (Str.ofString " ") = row.map exT := by
  unfold rowT
  rw [if_neg (by intro z; exact ne (List.length_eq_zero_iff.mp z))]
  refine split_glued (c := 32) (by simpa using ne) fun p hp => ?_
  obtain ⟨e, he, rfl⟩ := List.mem_map.mp hp
  obtain ⟨a, b⟩ := e
  have := h _ he
  intro z
  have := ex_free this.1 this.2 32 z
  omega
theorem row_ne_none {row : List (Int × Int)} (ne : row ≠ []) (h : ∀ e ∈ row, 0 ≤ e.1 ∧ 0 ≤ e.2) : rowT row ≠ Str.ofString "none" := by
  intro z
  have s := rowT_split ne h
  rw [z] at s
  have e1 : Txt.split (Str.ofString "none") (Str.ofString " ") = [Str.ofString "none"] := by
    have := split_glued (c := 32) (ts := [Str.ofString "none"]) (by simp) (by decide +kernel)
    exact this
  rw [e1] at s
  cases row with
  | nil => exact ne rfl
  | cons e r =>
    rw [List.map_cons] at s
    injection s with s _
    have := ex_free (h e List.mem_cons_self).1 (h e List.mem_cons_self).2 110 (by rw [← s]; decide +kernel)
    omega
theorem exT_len {a b : Int} (ha : 0 ≤ a) (hb : 0 ≤ b) (ha9 : a < 10 ^ 9) (hb9 : b < 10 ^ 9) : (exT (a, b)).length ≤ 19 := by
  unfold exT
  rw [Str.length_append, Str.length_append]
  have := num_len ha ha9
  have := num_len hb hb9
  show (numT a).length + (Str.ofString "-").length + (numT b).length ≤ 19
  have : (Str.ofString "-").length = 1 := by decide +kernel
  omega
theorem joinOk_small {z : Str} {ts : List Str} {B : Nat} (hz : z.length ≤ 10) (hB : ∀ y ∈ ts, y.length ≤ B) (hb : B ≤ 10000) (h : ts.length ≤ 100) : JoinOk z ts = true := by
  unfold JoinOk
  rw [Bool.not_eq_true']
  refine StrLaws.joinFits hB ?_
  have h1 : ts.length * B ≤ 100 * 10000 := Nat.mul_le_mul h hb
  have h2 : ts.length * z.length ≤ 100 * 10 := Nat.mul_le_mul h hz
  omega
theorem rowT_len {row : List (Int × Int)} (h60 : row.length ≤ 60) (h : ∀ e ∈ row, 0 ≤ e.1 ∧ 0 ≤ e.2 ∧ e.1 < 10 ^ 9 ∧ e.2 < 10 ^ 9) : (rowT row).length ≤ 2000 := by
  unfold rowT
  split
  · decide +kernel
  · have h1 := StrLaws.join_length_le (Str.ofString " ") (row.map exT)
    have h2 := StrLaws.sumLen_le (B := 19) (row.map exT) (fun y hy => by
      obtain ⟨⟨a, b⟩, he, rfl⟩ := List.mem_map.mp hy
      obtain ⟨a0, b0, a9, b9⟩ := h _ he
      exact exT_len a0 b0 a9 b9)
    have h3 : (Str.ofString " ").length = 1 := by decide +kernel
    rw [List.length_map] at h1 h2
    rw [h3] at h1
    omega
end Sw
namespace L2
open PySem PySem.Spec PyProof.Rows
theorem compLG {K : PySem.W.Frag} {ix : List (Option Nat)} {g : TG} {te : TE} {σ : St} {Q : VK} {H : Hp} {a : Addr} {xs : List V} (Pv : Nat → List V → St → Hp → Prop) (hn : xs.length ≤ 1000000) (h0 : Pv 0 [] (startC ix σ) H)
    (hl : ∀ i ys σ H, i ≤ xs.length → Pv i ys σ H → SqL K H a xs) (hlen : ∀ i ys σ H, Pv i ys σ H → ys.length ≤ i)
    (hs : ∀ i ys σ H x (R : St → List V → Hp → Prop), xs[i]? = some x → Pv i ys σ H → (∀ σ2 ys2 H5, Pv (i + 1) ys2 σ2 H5 → R σ2 ys2 H5) → g x σ H fun σ2 H3 => te σ2 H3 fun v H5 => R σ2 (ys ++ [v]) H5)
    (hd : ∀ ys σ' H' p, Pv xs.length ys σ' H' → H' p = none → Q (.ref p) (upd H' p (.lst ys))) : rComp ix g tTrue te σ Q (Itl K a) H := by
  refine comp_by Pv hn h0 (fun i ys σ H hi p => ⟨xs, xs[i], hl i ys σ H (Nat.le_of_lt hi) p, by simp [hi]⟩) (fun ys σ H p => ⟨xs, hl _ ys σ H (Nat.le_refl _) p, Nat.le_refl _⟩) hlen (fun i ys σ H x H2 R hi p y r => ?_) hd
  obtain ⟨rfl, y⟩ := y
  unfold tTrue
  simp only [if_true]
  exact hs i ys σ _ x R (y xs (hl i ys σ _ (Nat.le_of_lt hi) p)) p r
end L2
namespace Sw
open PySem L2
theorem small_log {i : Int} (h0 : 0 ≤ i) (h9 : i < 10 ^ 9) : i.natAbs.log2 < 1920 := by
  by_cases hz : i.natAbs = 0
  · rw [hz]; decide
  · rw [Nat.log2_lt hz]
    have h1 : i.natAbs < 2 ^ 30 := by omega
    exact Nat.lt_of_lt_of_le h1 (Nat.pow_le_pow_right (by decide) (by decide))
theorem Exs.dtsT {H : Hp} : ∀ {vs : List V} {r : List (Int × Int)}, Exs H vs r → DTs H (fun _ => True) vs (r.map fun e => PyData.tuple [.int e.1, .int e.2])
  | _, _, .nil => .nil
  | _, _, .cons h x => .cons (.tup h trivial (.cons (.int _) (.cons (.int _) .nil))) x.dtsT
theorem isrow_good {n : Int} {row : List (Int × Int)} (hg : Good n row) (h60 : row.length ≤ 60) : isrow n (.list (row.map fun e => PyData.tuple [.int e.1, .int e.2])) = true := by
  unfold isrow
  rw [Bool.and_eq_true, List.length_map, List.all_map, List.all_eq_true]
  refine ⟨decide_eq_true h60, fun e he => ?_⟩
  have g := hg e he
  show ((decide (1 ≤ e.1 ∧ e.1 ≤ n) && decide (1 ≤ e.2 ∧ e.2 ≤ n)) && decide (e.1 < e.2)) = true
  rw [decide_eq_true (by omega), decide_eq_true (by omega), decide_eq_true (by omega)]
  rfl
def spNumT : Sp := fun vs H Q _ => ∃ (i : Int), vs = [.str (numT i)] ∧ 0 ≤ i ∧ i < 10 ^ 9 ∧ Q (.int i) H
def spChkT : Sp := fun vs H Q _ => ∃ (x : Str), vs = [.str x] ∧ Q .non H
structure TTx (mg : Str → Option Value) (K : PySem.W.Frag) (u : Value) : Prop extends T1 mg K where
  b_str : mg "str" = none
  g_MOST_FIGURES : mg "MOST_FIGURES" = some u
  r_MOST_FIGURES : RelV (.int 9) u
section
variable {P : Program} {w : World} {K : PySem.W.Frag} {mg : Str → Option Value} {base : Heap} {u : Value}
theorem sc_read_number : FnScope ["word"] ["word"] (defScope (top 24)) := ⟨rfl, rfl, rfl, by decide +kernel, rfl, by decide +kernel, by decide +kernel⟩
theorem ok_num {f : Addr} {fd : FuncData} (F : Fun K "read_number" "read_number" (top 24) f fd) (T : TTx mg K u) : FnOk P w K mg base CX0 1 f fd ["word"] spNumT := by
  refine F.ok sc_read_number (fun vs H Q E h => ?_) (fun cdv A outer s H vs Q E hr h => ?_)
  · obtain ⟨i, rfl, _⟩ := h
    rfl
  · obtain ⟨i, rfl, i0, i9, k⟩ := h
    refine ⟨_, (pss_cons (ps_if (PW.pt (pw_or (pt_not (pt_val (pe_bm0K (K := K) rfl PySem.F.plainAttrs_str PySem.F.slot_str_isascii PySem.F.type_str_isascii mt_isascii (pv 0)))) (pw_or (pt_not (pt_val (pe_bm0K (K := K) rfl PySem.F.plainAttrs_str PySem.F.slot_str_isdigit PySem.F.type_str_isdigit mt_isdigit (pv 0)))) (pw_or1 (pt_cmpR op_gt (pe_callB call_len_str rfl T.b_len (by decide +kernel) (pa_cons (pv 0) pa_nil)) (pe_glob rfl T.g_MOST_FIGURES T.r_MOST_FIGURES) (nomark _)))))) (pss_one ps_never) pss_nil)
      (pss_cons (ps_if (PW.pt (pw_and (pt_cmpR op_ne (pv 0) pe_str (nomark _)) (pw_and1 (pt_val (pe_bmK (K := K) rfl PySem.F.plainAttrs_str PySem.F.slot_str_startswith PySem.F.type_str_startswith mt_starts (pv 0) (pa_cons pe_str pa_nil)))))) (pss_one ps_never) pss_nil)
      (pss_one (ps_ret (pe_callTy call_int_text rfl T.b_int (by decide +kernel) (pa_cons (pv 0) pa_nil)))))), ?_⟩
    have big : (10000000 : Nat) ≤ sizeLine := by decide
    have nl := num_len i0 i9
    refine ⟨_, rfl, rfl, _, rfl, rfl, _, rfl, iteE (by rw [num_ascii i0]; rfl) ?_⟩
    refine ⟨_, rfl, rfl, _, rfl, rfl, _, rfl, iteE (by rw [num_isdigit i0]; rfl) ?_⟩
    refine ⟨_, rfl, _, rfl, by omega, _, _, rfl, rfl, _, rfl, iteE (decide_eq_false (by omega)) ?_⟩
    refine ⟨_, rfl, rfl, _, rfl, ?_⟩
    have fin : tRet (tCB rIntT (tCons (tVar 0) tNil)) { nx := fun x H' => Q V.non H', rt := Q } (L2.start [Str.ofString "word"] [V.str (numT i)]) H := ⟨_, rfl, _, i, rfl, num_int i0 (by omega), by omega, k⟩
    by_cases hz : i = 0
    · subst hz
      refine iteE (by decide +kernel) ?_
      exact fin
    · have nz : Txt.startswith (numT i) (Str.ofString "0") = false := num_nought (by omega)
      refine ite2 (fun _ => ?_) (fun _ => ?_)
      · exact ⟨_, rfl, rfl, _, _, rfl, rfl, _, rfl, iteE nz fin⟩
      · exact fin
theorem sc_check_text : FnScope ["thing"] ["thing"] (defScope (top 23)) := ⟨rfl, rfl, rfl, by decide +kernel, rfl, by decide +kernel, by decide +kernel⟩
theorem ok_chkT {f : Addr} {fd : FuncData} (F : Fun K "check_text" "check_text" (top 23) f fd) (T : TTx mg K u) : FnOk P w K mg base CX0 1 f fd ["thing"] spChkT := by
  refine F.ok sc_check_text (fun vs H Q E h => ?_) (fun cdv A outer s H vs Q E hr h => ?_)
  · obtain ⟨x, rfl, _⟩ := h
    rfl
  · obtain ⟨x, rfl, k⟩ := h
    refine ⟨_, (pss_one (ps_if (pt_not (pt_val (pe_callB (call_isiK (K := K) rfl) rfl T.b_isinstance (by decide +kernel) (pa_cons (pv 0) (pa_cons (pe_bltn (v := .ty "str") rfl T.b_str (by decide +kernel) rfl) pa_nil))))) (pss_one ps_never) pss_nil)), ?_⟩
    refine ⟨_, rfl, _, _, "str", _, rfl, TyOf.str x, kit_self _ _, true, rfl, iteF ?_⟩
    exact k
def spReadRow : Sp := fun vs H Q _ => ∃ (n : Int) (row : List (Int × Int)), vs = [.int n, .str (rowT row)] ∧ Good n row ∧ n < 10 ^ 9 ∧ row.length ≤ 60 ∧ ∀ l es H', H l = none → H' l = some (.lst es) → Exs H' es row → Same H H' → Q (.ref l) H'
structure TRr (P : Program) (w : World) (K : PySem.W.Frag) (mg : Str → Option Value) (base : Heap) : Prop extends T1 mg K where
  f_check_text : FnAt P w K mg base "check_text" 1 ["thing"] spChkT
  f_read_number : FnAt P w K mg base "read_number" 1 ["word"] spNumT
  f_is_row : FnAt P w K mg base "is_row" 6 ["n", "thing"] spIsRow
theorem sc_read_row : FnScope ["n", "text", "row"] ["n", "text"] (defScope (top 25)) := ⟨rfl, rfl, rfl, by decide +kernel, rfl, by decide +kernel, by decide +kernel⟩
theorem ok_readrow {f : Addr} {fd : FuncData} (F : Fun K "read_row" "read_row" (top 25) f fd) (T : TRr P w K mg base) : FnOk P w K mg base CX0 7 f fd ["n", "text"] spReadRow := by
  refine F.ok sc_read_row (fun vs H Q E h => ?_) (fun cdv A outer s H vs Q E hr h => ?_)
  · obtain ⟨n, row, rfl, _⟩ := h
    rfl
  · obtain ⟨n, row, rfl, hg, n9, h60, k⟩ := h
    refine ⟨_, (pss_cons (ps_expr (pe_callF T.f_check_text (hr.mono (by first | decide | omega)) rfl (pa_cons (pv 1) pa_nil)))
      (pss_cons (ps_if (pt_cmpR op_eq (pv 1) pe_str (nomark _)) (pss_one (ps_ret (pe_lst pa_nil))) pss_nil)
      (pss_cons (ps_comp (i := 2) sc_read_row.nd rfl rfl (N := (["pair"] : List Str)) (ix := ([none] : List (Option Nat))) (comp_ok rfl rfl) rfl (pi_listK (K := K) rfl (pe_bmK (K := K) rfl PySem.F.plainAttrs_str PySem.F.slot_str_split PySem.F.type_str_split mt_split (pv 1) (pa_cons pe_str pa_nil))) (fun _ _ _ _ => (pg_name (i := 0) (show List.Nodup (["pair"] : List Str) from by decide +kernel) rfl (Or.inl rfl))) (fun _ _ _ _ => pif_nil) (fun _ _ _ _ => (pe_callTy (call_tuple_ofK (K := K) rfl) rfl T.b_tuple (by decide +kernel) (pa_cons (pe_comp (N := (["word"] : List Str)) (ix := ([none] : List (Option Nat))) (comp_ok rfl rfl) rfl (pi_listK (K := K) rfl (pe_bmK (K := K) rfl PySem.F.plainAttrs_str PySem.F.slot_str_split PySem.F.type_str_split mt_split (pv 0) (pa_cons pe_str pa_nil))) (fun _ _ _ _ => (pg_name (i := 0) (show List.Nodup (["word"] : List Str) from by decide +kernel) rfl (Or.inl rfl))) (fun _ _ _ _ => pif_nil) (fun _ _ _ _ => (pe_callF T.f_read_number (hr.mono (by first | decide | omega)) rfl (pa_cons (pv 0) pa_nil)))) pa_nil))))
      (pss_cons (ps_if (pt_not (pt_val (pe_callF T.f_is_row (hr.mono (by first | decide | omega)) rfl (pa_cons (pv 0) (pa_cons (pv 2) pa_nil))))) (pss_one ps_never) pss_nil)
      (pss_one (ps_ret (pv 2))))))), ?_⟩
    have big : (10000000 : Nat) ≤ sizeLine := by decide
    have hs : ∀ e ∈ row, 0 ≤ e.1 ∧ 0 ≤ e.2 := fun e he => by have := hg e he; omega
    refine ⟨_, rfl, _, rfl, ?_⟩
    refine ⟨_, rfl, rfl, _, rfl, ?_⟩
    by_cases hz : row = []
    · subst hz
      refine iteP (by decide +kernel) ?_
      exact ⟨Nat.zero_le _, fun l hl => k l [] _ hl upd_same .nil (Same.new hl)⟩
    · have ne := row_ne_none hz hs
      refine iteE (decide_eq_false (by intro z; injection z with z; exact ne z)) ?_
      have rl := rowT_len h60 fun e he => by have := hg e he; omega
      refine ⟨_, rfl, rfl, _, _, rfl, rfl, by decide +kernel, by omega, fun l1 f1 => ⟨l1, rfl, ⟨_, SqL.of upd_same⟩, ?_⟩⟩
      rw [rowT_split hz hs]
      have s1 : Same H (upd H l1 (.lst ((row.map exT).map V.str))) := Same.new f1
      have h1 : upd H l1 (.lst ((row.map exT).map V.str)) l1 = some (.lst ((row.map exT).map V.str)) := upd_same
      generalize upd H l1 (.lst ((row.map exT).map V.str)) = H1 at s1 h1 ⊢
      have ll : ((row.map exT).map V.str).length = row.length := by rw [List.length_map, List.length_map]
      refine compL (K := K) (a := l1) (xs := (row.map exT).map V.str) (k := 0) (fun i ys σ' H' => (∃ v0, σ' = [v0]) ∧ Same H1 H' ∧ Exs H' ys (row.take i)) (by omega) ⟨⟨none, rfl⟩, Same.refl _, .nil⟩ (fun i ys σ' H' _ q => SqL.of (q.2.1 _ _ h1)) (fun i ys σ' H' q => by have := q.2.2.length; rw [List.length_take] at this; omega) ?_ ?_
      · rintro i ys σ' H2 x R hx ⟨⟨v0, rfl⟩, s2, x2⟩ done
        obtain ⟨⟨a, b⟩, hab, rfl⟩ : ∃ e, row[i]? = some e ∧ V.str (exT e) = x := by
          rw [List.getElem?_map, List.getElem?_map] at hx
          cases e : row[i]? with
          | none => rw [e] at hx; cases hx
          | some e' => rw [e] at hx; exact ⟨e', rfl, Option.some.inj hx⟩
        have g := hg (a, b) (List.mem_of_getElem? hab)
        dsimp only at g
        have el := exT_len (a := a) (b := b) (by omega) (by omega) (by omega) (by omega)
        refine ⟨_, rfl, rfl, _, _, rfl, rfl, by decide +kernel, by omega, fun l2 f2 => ⟨l2, rfl, ⟨_, SqL.of upd_same⟩, ?_⟩⟩
        rw [ex_split (by omega) (by omega)]
        have s3 : Same H2 (upd H2 l2 (.lst ([numT a, numT b].map V.str))) := Same.new f2
        have h3 : upd H2 l2 (.lst ([numT a, numT b].map V.str)) l2 = some (.lst ([numT a, numT b].map V.str)) := upd_same
        generalize upd H2 l2 (.lst ([numT a, numT b].map V.str)) = H3 at s3 h3 ⊢
        refine compL (K := K) (a := l2) (xs := [numT a, numT b].map V.str) (k := 0) (fun j ys' σ'' H' => (∃ v0, σ'' = [v0]) ∧ H' = H3 ∧ ys' = ([a, b].take j).map V.int) (by show 2 ≤ 1000000; decide) ⟨⟨none, rfl⟩, rfl, rfl⟩ (fun j ys' σ'' H' _ q => by rw [q.2.1]; exact SqL.of h3) (fun j ys' σ'' H' q => by rw [q.2.2, List.length_map, List.length_take]; omega) ?_ ?_
        · rintro j ys' σ'' H' x' R' hx' ⟨⟨v0, rfl⟩, rfl, rfl⟩ done'
          obtain ⟨z, hz', rfl⟩ : ∃ z, [a, b][j]? = some z ∧ V.str (numT z) = x' := by
            match j, hx' with
            | 0, h => exact ⟨a, rfl, Option.some.inj h⟩
            | 1, h => exact ⟨b, rfl, Option.some.inj h⟩
            | j + 2, h => simp at h
          have zb : 0 ≤ z ∧ z < 10 ^ 9 := by
            have : z ∈ [a, b] := List.mem_of_getElem? hz'
            rcases List.mem_cons.mp this with rfl | this
            · omega
            · rw [List.mem_singleton.mp this]; omega
          refine ⟨_, rfl, z, rfl, zb.1, zb.2, done' _ _ _ ⟨⟨_, rfl⟩, rfl, ?_⟩⟩
          rw [take_succ_map V.int hz']
        · rintro ys' σ'' H' q ⟨⟨v0, rfl⟩, e0, rfl⟩ fq
          have e0 := e0.symm
          subst e0
          refine ⟨q, _, rfl, .inl ⟨SqL.of upd_same, fun t ft => ?_⟩⟩
          have s4 : Same H3 (upd H3 q (.lst [V.int a, V.int b])) := Same.new fq
          have s5 : Same (upd H3 q (.lst [V.int a, V.int b])) (upd (upd H3 q (.lst [V.int a, V.int b])) t (.tup [V.int a, V.int b])) := Same.new ft
          have s6 := s3.trans (s4.trans s5)
          refine done _ _ _ ⟨⟨_, rfl⟩, s2.trans s6, ?_⟩
          rw [List.take_succ, hab]
          exact (x2.keep (Same.tups s6)).snoc upd_same
      · rintro ys σ' H2 q ⟨⟨v0, rfl⟩, s2, x2⟩ fq
        rw [List.take_of_length_le (by omega)] at x2
        have s3 : Same H2 (upd H2 q (.lst ys)) := Same.new fq
        have x3 := x2.keep (Same.tups s3)
        have s13 := s1.trans (s2.trans s3)
        have h3 : upd H2 q (.lst ys) q = some (.lst ys) := upd_same
        have fq0 : H q = none := (s1.trans s2).free fq
        generalize upd H2 q (.lst ys) = H3 at s3 x3 s13 h3 ⊢
        refine ⟨_, rfl, _, rfl, .ref q, (fun _ => True), .list (row.map fun e => PyData.tuple [.int e.1, .int e.2]), n, rfl, .lst h3 trivial x3.dtsT, fun ds e => ?_, fun H4 s4 => ⟨_, rfl, iteE ?_ ?_⟩⟩
        · injection e with e
          rw [← e, List.length_map]; omega
        · rw [isrow_good hg h60]; rfl
        · exact ⟨_, rfl, k q ys H4 fq0 (s4 _ _ h3) (x3.keep (Same.tups s4)) (s13.trans s4)⟩
end
end Sw
namespace L2
open PySem PySem.Spec PyProof.Rows
section
variable {X : Cx} {K : PySem.W.Frag}
def rSlS : V → Option Int → Option Int → Hp → VK → Prop := fun x lo hi H Q => ∃ z, x = .str z ∧ z.length ≤ sizeLine ∧ Q (.str (Txt.slice z lo hi)) H
theorem sl_str : SlR X rSlS := by
  intro pins s σ H x v vl vu lo hi sl Q I rx hs pl pu h
  obtain ⟨z, rfl, hz, q⟩ := h
  obtain ⟨t, rfl⟩ := rx
  refine ⟨"str", _, F.slot_str_getitem.lookup, typeIs_str _ _ _, ?_⟩
  have fin : ∀ lo hi, Q (.str (Txt.slice z lo hi)) H → (Txt.slice z lo hi).length ≤ sizeLine ∧ ∀ t' k, EP X pins σ Q (.str (Txt.slice z lo hi) t') { s with toks := k } := fun lo hi q => ⟨Nat.le_trans (Txt.slice_le z lo hi) hz, fun t' k => ⟨.str _, H, I.tok _, ⟨_, rfl⟩, q⟩⟩
  cases pl with
  | none =>
    cases pu with
    | none => exact wpAny_getItem_str_slice (l := none) (u := none) (st := none) hs rfl (post_val_or_str (fin none none q))
    | int j uj => exact wpAny_getItem_str_slice (l := none) (u := some (j, uj)) (st := none) hs rfl (post_val_or_str (fin none (some j) q))
  | int i ui =>
    cases pu with
    | none => exact wpAny_getItem_str_slice (l := some (i, ui)) (u := none) (st := none) hs rfl (post_val_or_str (fin (some i) none q))
    | int j uj => exact wpAny_getItem_str_slice (l := some (i, ui)) (u := some (j, uj)) (st := none) hs rfl (post_val_or_str (fin (some i) (some j) q))
end
end L2
namespace Sw
open PySem L2 PyProof.Rows
theorem digs_num : ∀ (n : Nat) (ds : List Nat), ds.length = n → ds ≠ [] → (∀ c ∈ ds, 48 ≤ c ∧ c ≤ 57) → (ds = [48] ∨ ds.head? ≠ some 48) → ∃ m : Nat, (Nat.toDigits 10 m).map Char.toNat = ds ∧ m < 10 ^ n ∧ (ds ≠ [48] → 0 < m) := by
  intro n
  induction n with
  | zero => intro ds hl ne; exact absurd (List.length_eq_zero_iff.mp hl) ne
  | succ n ih =>
    intro ds hl ne hb hz
    obtain ⟨init, d, rfl⟩ : ∃ init d, ds = init ++ [d] := ⟨ds.dropLast, ds.getLast ne, (List.dropLast_concat_getLast ne).symm⟩
    have hd := hb d (by simp)
    have one : ∀ c, 48 ≤ c → c ≤ 57 → (Nat.toDigits 10 (c - 48)).map Char.toNat = [c] := by
      intro c h1 h2
      have : c = 48 ∨ c = 49 ∨ c = 50 ∨ c = 51 ∨ c = 52 ∨ c = 53 ∨ c = 54 ∨ c = 55 ∨ c = 56 ∨ c = 57 := by omega
      rcases this with rfl | rfl | rfl | rfl | rfl | rfl | rfl | rfl | rfl | rfl <;> decide +kernel
    rw [List.length_append, List.length_singleton] at hl
    have hl' : init.length = n := by omega
    by_cases hi : init = []
    · subst hi
      have : n = 0 := by simpa using hl'.symm
      subst this
      refine ⟨d - 48, one d hd.1 hd.2, by omega, fun z => ?_⟩
      have : d ≠ 48 := fun q => z (by rw [q]; rfl)
      omega
    · have hz2 : (init ++ [d]).head? ≠ some 48 := by
        rcases hz with z | z
        · exfalso
          have := congrArg List.length z
          rw [List.length_append, List.length_singleton, List.length_singleton] at this
          exact hi (List.length_eq_zero_iff.mp (by omega))
        · exact z
      have hz2 : init.head? ≠ some 48 := by
        cases init with
        | nil => exact absurd rfl hi
        | cons a r => exact hz2
      have ni : init ≠ [48] := fun z => hz2 (by rw [z]; rfl)
      obtain ⟨m, hm, ml, mp⟩ := ih init hl' hi (fun c hc => hb c (List.mem_append_left _ hc)) (.inr hz2)
      have mp := mp ni
      have t : Nat.toDigits 10 m ++ Nat.toDigits 10 (d - 48) = Nat.toDigits 10 (10 * m + (d - 48)) := Nat.toDigits_append_toDigits (by decide) mp (by omega)
      refine ⟨10 * m + (d - 48), ?_, by rw [Nat.pow_succ]; omega, fun _ => by omega⟩
      rw [← t, List.map_append, hm, one d hd.1 hd.2]
theorem ascii_dig : ∀ c, c < 128 → Unicode.isDigit c = true → 48 ≤ c ∧ c ≤ 57 := by decide +kernel
def IsNum (x : Str) : Prop := ∃ i : Int, x = numT i ∧ 0 ≤ i ∧ i < 10 ^ 9
theorem num_of {x : Str} (ha : Txt.isascii x = true) (hd : Txt.isdigit x = true) (hl : x.length ≤ 9) (hz : x = Str.ofString "0" ∨ Txt.startswith x (Str.ofString "0") = false) : IsNum x := by
  unfold Txt.isdigit at hd
  rw [Bool.and_eq_true] at hd
  obtain ⟨hp, hd⟩ := hd
  have hp : 0 < x.length := of_decide_eq_true hp
  unfold Txt.isascii at ha
  rw [Array.all_eq_true'] at ha hd
  have bd : ∀ c ∈ signs x, 48 ≤ c ∧ c ≤ 57 := fun c hc => by
    have hc' : c ∈ x.cps := by simpa [signs] using hc
    exact ascii_dig c (of_decide_eq_true (ha c hc')) (hd c hc')
  have ne : signs x ≠ [] := fun z => by
    have := signs_len x
    rw [z] at this
    simp at this
    omega
  have hh : signs x = [48] ∨ (signs x).head? ≠ some 48 := by
    rcases hz with z | z
    · exact .inl (by rw [z]; decide +kernel)
    · right
      intro q
      have : Txt.startswith x ⟨#[48]⟩ = true := by
        rw [starts_iff]
        cases e : signs x with
        | nil => rw [e] at q; cases q
        | cons a r => rw [e] at q; injection q with q; exact ⟨r, by rw [q]⟩
      rw [show (⟨#[48]⟩ : Str) = Str.ofString "0" from by decide +kernel, z] at this
      cases this
  obtain ⟨m, hm, ml, _⟩ := digs_num (signs x).length (signs x) rfl ne bd hh
  refine ⟨(m : Int), signs_ext (by rw [num_signs, hm]), by omega, ?_⟩
  rw [signs_len] at ml
  have : 10 ^ x.length ≤ 10 ^ 9 := Nat.pow_le_pow_right (by decide) hl
  have : m < 10 ^ 9 := Nat.lt_of_lt_of_le ml this
  omega
theorem num_inj {a b : Int} (ha : 0 ≤ a) (hb : 0 ≤ b) (ha9 : a < 10 ^ 10) (hb9 : b < 10 ^ 10) (h : numT a = numT b) : a = b := by
  have h1 := num_int ha ha9
  rw [h, num_int hb hb9] at h1
  injection h1 with h1
  exact h1.symm
theorem row_of_words {x : Str} {ps : List (Int × Int)} (h : Txt.split x (Str.ofString " ") = ps.map exT) : x = rowT ps := by
  have e := StrLaws.join_split x (Str.ofString " ")
  have ne := split_ne x (Str.ofString " ")
  rw [h] at e ne
  unfold rowT
  rw [if_neg (by intro z; rw [List.length_eq_zero_iff.mp z] at ne; exact ne rfl)]
  exact e.symm
theorem ex_of_words {x : Str} {a b : Int} (h : Txt.split x (Str.ofString "-") = [numT a, numT b]) : x = exT (a, b) := by
  have e := StrLaws.join_split x (Str.ofString "-")
  rw [h] at e
  rw [exT_join]
  exact e.symm
theorem split_le (x y : Str) : (Txt.split x y).length ≤ x.length + 2 := by
  unfold Txt.split
  split
  · simp
  · split
    · simp
    · have h := StrLaws.occ_length_le x y 0 x.length (x.length + 1)
      unfold Builtin.Str.partsBetween
      rw [List.length_map, List.length_zip, List.length_cons, List.length_map, List.length_append, List.length_singleton]
      omega
theorem mem_join_len {z : Str} : ∀ {ts : List Str} {t : Str}, t ∈ ts → t.length ≤ (Str.join z ts).length := by
  intro ts t h
  have key : ∀ {ts : List Str}, t ∈ ts → t.length ≤ (Str.join z ts).length := by
    intro ts
    induction ts with
    | nil => intro h; cases h
    | cons a r ih =>
      intro h
      cases r with
      | nil =>
        rcases List.mem_cons.mp h with rfl | h
        · exact Nat.le_refl _
        · cases h
      | cons b r =>
        have e : Str.join z (a :: b :: r) = a ++ z ++ Str.join z (b :: r) := rfl
        rw [e, Str.length_append, Str.length_append]
        rcases List.mem_cons.mp h with rfl | h
        · omega
        · have := ih h; omega
  exact key h
theorem split_part_le {x y t : Str} (h : t ∈ Txt.split x y) : t.length ≤ x.length := by
  have := mem_join_len (z := y) h
  rwa [StrLaws.join_split] at this
theorem signs_sub (x : Str) (a b : Nat) (hb : b ≤ x.length) : signs (Builtin.Str.strSub x a b) = ((signs x).drop a).take (b - a) := by
  unfold Builtin.Str.strSub signs
  rw [Array.toList_extract, List.extract_eq_take_drop]
theorem at_dash {x : Str} {c i : Nat} : StrLaws.At x ⟨#[c]⟩ x.length i ↔ (signs x)[i]? = some c := by
  have h := StrLaws.subAt_one x c i
  unfold StrLaws.At
  rw [h]
  exact Iff.rfl
theorem part_ex {w : Str} {a b : Int} (ha : 0 ≤ a) (hb : 0 ≤ b) (h1 : (Txt.partition w (Str.ofString "-")).1 = numT a) (h2 : (Txt.partition w (Str.ofString "-")).2.2 = numT b) : w = exT (a, b) := by
  have dash : Str.ofString "-" = ⟨#[45]⟩ := by decide +kernel
  rw [dash] at h1 h2
  rcases partition_whole w ⟨#[45]⟩ with ⟨e, _⟩ | ⟨i, e, hat, _⟩
  · rw [e] at h2
    have := num_pos hb
    rw [← h2] at this
    exact absurd this (Nat.lt_irrefl 0)
  · rw [e] at h1 h2
    have hi := at_dash.mp hat
    have il := (List.getElem?_eq_some_iff.mp hi).1
    have wl := signs_len w
    apply signs_ext
    unfold exT
    rw [signs_app, signs_app, ← h1, ← h2, dash]
    dsimp only
    rw [signs_sub w 0 i (by omega), signs_sub w _ w.length (Nat.le_refl _)]
    show signs w = (((signs w).drop 0).take (i - 0) ++ [45]) ++ ((signs w).drop (i + 1)).take (w.length - (i + 1))
    rw [List.drop_zero, Nat.sub_zero, List.take_of_length_le (l := (signs w).drop (i + 1)) (by rw [List.length_drop]; omega)]
    have e3 : [45] ++ (signs w).drop (i + 1) = (signs w).drop i := by
      rw [List.drop_eq_getElem_cons il]
      have := (List.getElem?_eq_some_iff.mp hi).2
      rw [this]
      rfl
    rw [List.append_assoc, e3, List.take_append_drop]
theorem ex_part {a b : Int} (ha : 0 ≤ a) (hb : 0 ≤ b) : Txt.partition (exT (a, b)) (Str.ofString "-") = (numT a, Str.ofString "-", numT b) := by
  have dash : Str.ofString "-" = ⟨#[45]⟩ := by decide +kernel
  have se : signs (exT (a, b)) = signs (numT a) ++ 45 :: signs (numT b) := by
    unfold exT
    rw [signs_app, signs_app, dash, List.append_assoc]
    rfl
  have here : (signs (exT (a, b)))[(signs (numT a)).length]? = some 45 := by rw [se]; simp
  have sl := signs_len (exT (a, b))
  rw [dash]
  rcases partition_whole (exT (a, b)) ⟨#[45]⟩ with ⟨e, no⟩ | ⟨i, e, hat, no⟩
  · exact absurd (at_dash.mpr here) (no _)
  · have hi := at_dash.mp hat
    have ii : i = (signs (numT a)).length := by
      rcases Nat.lt_trichotomy i (signs (numT a)).length with c | c | c
      · exfalso
        rw [se, List.getElem?_append_left c] at hi
        exact num_free ha (c := 45) (by omega) (List.mem_of_getElem? hi)
      · exact c
      · exact absurd (at_dash.mpr here) (no _ c)
    rw [e]
    refine Prod.ext (signs_ext ?_) (Prod.ext rfl (signs_ext ?_))
    · dsimp only
      rw [signs_sub _ 0 i (by rw [se] at sl; rw [List.length_append, List.length_cons] at sl; omega), se, ii]
      simp
    · dsimp only
      rw [signs_sub _ _ _ (Nat.le_refl _), ← sl, se, ii]
      have d : (signs (numT a) ++ 45 :: signs (numT b)).drop ((signs (numT a)).length + 1) = signs (numT b) := by
        rw [show signs (numT a) ++ 45 :: signs (numT b) = (signs (numT a) ++ [45]) ++ signs (numT b) by simp]
        exact List.drop_left' (by simp)
      show (List.drop ((signs (numT a)).length + 1) _).take _ = _
      rw [d]
      refine List.take_of_length_le ?_
      rw [List.length_append, List.length_cons]
      show _ ≤ _ - ((signs (numT a)).length + 1)
      omega
end Sw
namespace L2
open PySem PySem.Spec PyProof.Rows
section
variable {P : Program} {w : World} {K : PySem.W.Frag} {mg : Str → Option Value} {base : Heap} {k : Nat} {f : Addr} {fd : FuncData} {ps : List Str} {sp sp2 : Sp} {CX : CXT}
theorem FnOk.lift (F : FnOk P w K mg base CX0 k f fd ps sp) : FnOk P w K mg base (CX1 P w) k f fd ps sp :=
  ⟨F.len, fun A outer s H args us vs Q E hr e0 b r h => codeAny_mono (F.run A outer s H args us vs Q E hr e0 b r h) fun r s' z => by
    cases r with
    | error e => exact False.elim z
    | ok fl => cases fl <;> exact z⟩
theorem FnOk.or (F : FnOk P w K mg base CX k f fd ps sp) (G : FnOk P w K mg base CX k f fd ps sp2) : FnOk P w K mg base CX k f fd ps (fun vs H Q E => sp vs H Q E ∨ sp2 vs H Q E) :=
  ⟨fun vs H Q E h => h.elim (F.len vs H Q E) (G.len vs H Q E), fun A outer s H args us vs Q E hr e0 b r h => h.elim (fun h => F.run A outer s H args us vs Q E hr e0 b r h) (fun h => G.run A outer s H args us vs Q E hr e0 b r h)⟩
end
end L2
namespace L2
open PySem PySem.Spec PyProof.Rows
structure FlyE (P : Program) (w : World) (fr : List Env) (ch : List Addr) (H : Hp) (h : Heap) (e : Addr) (cls a0 fl : Value) (B : Heap) (H' : Hp) (h' : Heap) : Prop where
  un : Un (frs fr) ch H H' h h'
  hok : HOk P w H' h'
  kb : B.StaysIn h'
  en : B.get? e = none
  ff : h'.FunFrames B fr
  tr : h'.TracedAtW B e cls a0 fl
  old : ∀ b o o', h.get? b = some o → b ∉ ch → b ∉ frs fr → h'.get? b = some o' → B.get? b = some o'
  trk : ∀ b u o', H' b = some u → h'.get? b = some o' → B.get? b = some o'
  frf : ∀ b ∈ frs fr, H' b = none
  lo : Lone h' e
section
variable {P : Program} {w : World} {fr : List Env} {ch : List Addr} {H H' : Hp} {h h' h'' : Heap} {e : Addr} {cls a0 fl fl' : Value} {B : Heap}
theorem Fly.toE (F : Fly P w fr H h e cls a0 B H' h') : FlyE P w fr [] H h e cls a0 .none B H' h' :=
  ⟨F.un, F.hok, F.fl.1, F.fl.2.1, F.fl.2.2.1, F.fl.2.2.2, fun b o o' q _ => F.old b o o' q, F.trk, F.frf, F.lo⟩
theorem FlyE.back (F : FlyE P w fr [] H h e cls a0 .none B H' h') : Fly P w fr H h e cls a0 B H' h' :=
  ⟨F.un, F.hok, ⟨F.kb, F.en, F.ff, F.tr⟩, fun b o o' q => F.old b o o' q (by simp), F.trk, F.frf, F.lo⟩
theorem FlyE.move (F : FlyE P w fr ch H h e cls a0 fl B H' h') (kb : B.StaysIn h'') (ff : h''.FunFrames B fr) (tr : h''.TracedAtW B e cls a0 fl') (sm : h'.UpToSlots h'') (lo : Lone h'' e) : FlyE P w fr ch H h e cls a0 fl' B H' h'' where
  un := by
    refine ⟨fun b o q n hb hx => ?_, fun b o q n hb hx => ?_, F.un.free, fun b o q hx => ?_, F.un.tups, F.un.frzs, F.un.tbls⟩
    · have e1 := F.un.keep b o q n hb hx
      exact kb b o (F.old b o o q hx hb e1)
    · obtain ⟨sl, e1⟩ := F.un.slot b o q n hb hx
      obtain ⟨_, o1, e2, nf⟩ := F.ff.mem hb
      rw [e1] at e2; cases e2
      obtain ⟨sl', e3⟩ := sm b _ e1 nf
      exact ⟨sl', e3⟩
    · obtain ⟨o1, e1⟩ := F.un.there b o q hx
      by_cases hb : b ∈ frs fr
      · obtain ⟨_, o2, e2, nf⟩ := F.ff.mem hb
        rw [e1] at e2; cases e2
        obtain ⟨sl', e3⟩ := sm b _ e1 nf
        exact ⟨_, e3⟩
      · exact ⟨o1, kb b o1 (F.old b o o1 q hx hb e1)⟩
  hok := fun a o q => (F.hok a o q).stay (fun b u hb z => by
      rcases hb with rfl | hb
      · exact kb b u (F.trk b _ u q z)
      · exact kb b u (F.trk b _ u hb z)) (fun _ z => z) fun _ _ z => z
  kb := kb
  en := F.en
  ff := ff
  tr := tr
  old := fun b o o' q hx hb z => by
    obtain ⟨o1, e1⟩ := F.un.there b o q hx
    have e2 := F.old b o o1 q hx hb e1
    have e3 := kb b o1 e2
    rw [z] at e3; cases e3
    exact e2
  trk := fun b u o' q z => by
    obtain ⟨o1, e1⟩ := (F.hok b u q).here
    have e2 := F.trk b u o1 q e1
    have e3 := kb b o1 e2
    rw [z] at e3; cases e3
    exact e2
  frf := F.frf
  lo := lo
theorem FlyE.out {X : Cx} {pins : List (Addr × Obj)} {σ : St} {s : Shared} (I : Inv X pins σ H s) (hch : ∀ b ∈ ch, b ∈ X.ex ∨ X.s₀.heap.objs.size ≤ b) (F : FlyE P w X.stack ch H s.heap e cls a0 fl B H' h') : FlyE P w X.outer X.ex X.H₀ X.s₀.heap e cls a0 fl B H' h' := by
  have nch : ∀ b o, X.s₀.heap.get? b = some o → b ∉ X.ex → b ∉ ch := fun b o q hx hc => (hch b hc).elim hx fun z => absurd (Nat.lt_of_lt_of_le (Heap.lt_size q) z) (Nat.lt_irrefl _)
  have ns : ∀ b o, X.s₀.heap.get? b = some o → b ∉ frs X.outer → b ∉ frs X.stack := fun b o q hb z => by
    rcases List.mem_cons.mp (I.stkSub b z) with r | r
    · subst r
      exact absurd (Nat.lt_of_lt_of_le (Heap.lt_size q) I.ok.above) (Nat.lt_irrefl _)
    · exact hb r
  have so : ∀ b ∈ frs X.outer, b ∈ frs X.stack := fun b z => by
    rcases I.ok.stk with hst | ⟨hst, _⟩
    · rw [hst]; exact z
    · rw [hst]
      unfold frs at z ⊢
      rw [List.filterMap_cons]
      split
      · exact z
      · exact List.mem_cons_of_mem _ z
  refine ⟨⟨fun b o q n hb hx => ?_, fun b o q n hb hx => ?_, fun b o q n hx => ?_, fun b o q hx => ?_, fun b xs q => F.un.tups b xs (I.base.tups b xs q), fun b o u q => F.un.frzs b o u (I.base.frzs b o u q), fun b ps q => ?_⟩, F.hok, F.kb, F.en, ?_, F.tr, fun b o o' q hx hb z => ?_, F.trk, fun b hb => F.frf b (so b hb), F.lo⟩
  · exact F.un.keep b o (I.base.keep b o q n hb hx) (I.base.free b o q n hx) (ns b o q hb) (nch b o q hx)
  · obtain ⟨sl, e1⟩ := I.base.slot b o q n hb hx
    obtain ⟨sl', e2⟩ := F.un.any e1 (I.base.free b o q n hx) (nch b o q hx)
    exact ⟨sl', e2⟩
  · obtain ⟨o1, e1⟩ := I.base.there b o q hx
    exact F.un.free b o1 e1 (I.base.free b o q n hx) (nch b o q hx)
  · obtain ⟨o1, e1⟩ := I.base.there b o q hx
    exact F.un.there b o1 e1 (nch b o q hx)
  · obtain ⟨m1, e1⟩ := I.base.tbls b ps q
    obtain ⟨m2, e2⟩ := F.un.tbls b _ e1
    exact ⟨m1 ++ m2, by rw [e2, Array.append_assoc]⟩
  · have f := F.ff
    rcases I.ok.stk with hst | ⟨hst, _⟩
    · rw [hst] at f; exact f
    · rw [hst] at f; exact f.2.2
  · obtain ⟨o1, e1⟩ := I.base.there b o q hx
    exact F.old b o1 o' e1 (nch b o q hx) (ns b o q hb) z
theorem frames_base {B' : Heap} (k : ∀ b, B.get? b = none → B'.get? b = none) : ∀ {l : List Env}, h.FunFrames B l → h.FunFrames B' l
  | [], _ => trivial
  | env :: l, x => by
    obtain ⟨hk, ⟨L, o, hf, hn, ho, hd⟩, hr⟩ := x
    exact ⟨hk, ⟨L, o, hf, k L hn, ho, hd⟩, frames_base k hr⟩
theorem frames_but {C : Addr} (gt : ∀ b, b ≠ C → h''.get? b = h'.get? b) : ∀ {l : List Env}, C ∉ frs l → h'.FunFrames B l → h''.FunFrames B l
  | [], _, _ => trivial
  | env :: l, nC, x => by
    obtain ⟨hk, ⟨L, o, hf, hn, ho, hd⟩, hr⟩ := x
    have nL : L ≠ C ∧ C ∉ frs l := by
      unfold frs at nC ⊢
      rw [List.filterMap_cons, hf] at nC
      exact ⟨fun z => nC (by rw [z]; exact List.mem_cons_self), fun z => nC (List.mem_cons_of_mem _ z)⟩
    exact ⟨hk, ⟨L, o, hf, hn, (gt L nL.1).trans ho, hd⟩, frames_but gt nL.2 hr⟩
theorem FlyE.but {C : Addr} (F : FlyE P w fr ch H h e cls a0 fl B H' h') (hs : Heap.SameBut C h' h'') (hC : h.objs.size ≤ C) (hH : H' C = none) (nC : C ∉ frs fr) (oC : ∃ o, h'.get? C = some o ∧ ∀ vs, o.data ≠ .fields vs) : FlyE P w fr ch H h e cls a0 fl (PySem.W.hideAll B [C]) H' h'' := by
  have ne : ∀ b o, h.get? b = some o → b ≠ C := fun b o q z => by subst z; exact absurd (Nat.lt_of_lt_of_le (Heap.lt_size q) hC) (Nat.lt_irrefl _)
  have nt : ∀ b u, H' b = some u → b ≠ C := fun b u q z => by rw [z, hH] at q; cases q
  have nn : ∀ b, B.get? b = none → (PySem.W.hideAll B [C]).get? b = none := fun b z => by
    cases q : (PySem.W.hideAll B [C]).get? b with
    | none => rfl
    | some o => rw [PySem.W.of_hideAll _ q] at z; cases z
  have nf : ∀ b o, (∃ vs, o.data = .fields vs) → h'.get? b = some o → b ≠ C := fun b o ⟨vs, hv⟩ q z => by
    obtain ⟨o', h1, h2⟩ := oC
    rw [z, h1] at q
    cases q
    exact h2 vs hv
  have gt : ∀ b, b ≠ C → h''.get? b = h'.get? b := hs.2
  refine ⟨⟨fun b o q n hb hx => ?_, fun b o q n hb hx => ?_, F.un.free, fun b o q hx => ?_, F.un.tups, F.un.frzs, F.un.tbls⟩, fun a o q => (F.hok a o q).stay (fun b u hb z => ?_) (fun _ z => z) fun _ _ z => z, fun b o q => ?_, nn e F.en, ?_, ?_, fun b o o' q hx hb z => ?_, fun b u o' q z => ?_, F.frf, ?_⟩
  · rw [gt b (ne b o q)]; exact F.un.keep b o q n hb hx
  · rw [gt b (ne b o q)]; exact F.un.slot b o q n hb hx
  · rw [gt b (ne b o q)]; exact F.un.there b o q hx
  · have : b ≠ C := by
      rcases hb with rfl | hb
      · exact nt b _ q
      · exact nt b _ hb
    rw [gt b this]; exact z
  · have hb : b ≠ C := fun z => by rw [z, PySem.W.hideAll_none [C] (List.mem_singleton.mpr rfl)] at q; cases q
    rw [gt b hb]; exact F.kb b o (PySem.W.of_hideAll _ q)
  · have f1 := frames_but gt nC F.ff
    exact frames_base nn f1
  · obtain ⟨oe, ws, T, oT, ts, g1, g2, g4, g5, g6, g7, g8, g9, g10⟩ := F.tr
    exact ⟨oe, ws, T, oT, ts, (gt e (nf e oe ⟨_, g4⟩ g1)).trans g1, g2, g4, g5, nn T g6, g7, (gt T (nf T oT ⟨_, g9⟩ g8)).trans g8, g9, g10⟩
  · rw [gt b (ne b o q)] at z
    exact PySem.W.hideAll_get _ (F.old b o o' q hx hb z) fun hm => ne b o q (List.mem_singleton.mp hm)
  · rw [gt b (nt b u q)] at z
    exact PySem.W.hideAll_get _ (F.trk b u o' q z) fun hm => nt b u q (List.mem_singleton.mp hm)
  · obtain ⟨o, vs, h1, h2, h3⟩ := F.lo
    exact ⟨o, vs, (gt e (nf e o ⟨_, h2⟩ h1)).trans h1, h2, h3⟩
end
section
variable {M : Model} {A : Around} {E : Value → Shared → Prop} {s : Shared} {P : Program} {w : World} {env : Env} {outer : List Env} {L : Addr} {fr : List Env} {ch : List Addr} {H H' : Hp} {h : Heap} {e : Addr} {cls a0 fl : Value} {B : Heap}
theorem set_any {o : Option Addr} {Q : Unit → Shared → Prop} (F : FlyE P w fr ch H h e cls a0 fl B H' s.heap)
    (k : ∀ h', FlyE P w fr ch H h e cls a0 (o.elim Value.none fun f => rawInt f) B H' h' → s.heap.UpToSlots h' → Q () { s with heap := h' }) : wpAny M A (setFlight (.ref e) o) Q E s := by
  obtain ⟨oo, vs, h1, h2, h3⟩ := F.lo
  obtain ⟨oe, ws, T, oT, ts, g1, g2, g4, g5, g6, g7, g8, g9, g10⟩ := F.tr
  rw [h1] at g1
  cases g1
  rw [h2] at g4
  cases g4
  have sz : 3 < ts.size := (Array.getElem?_eq_some_iff.mp g10).1
  have oth : ∀ b, b ≠ T → (s.heap.update T (Obj.mapFields (·.setIfInBounds 3 (o.elim Value.none fun f => rawInt f)))).get? b = s.heap.get? b := fun b hb => Heap.get?_update_other _ _ (Ne.symm hb)
  have noT : ∀ b u, s.heap.get? b = some u → (∀ ws, u.data ≠ .fields ws) → b ≠ T := fun b u hb hnf q => by
    rw [q, g8] at hb
    cases hb
    exact hnf ts g9
  have e' := (oth e (Ne.symm g7)).trans h1
  have sm : s.heap.UpToSlots (s.heap.update T (Obj.mapFields (·.setIfInBounds 3 (o.elim Value.none fun f => rawInt f)))) := fun b u hb hnf => ⟨u.slots, (oth b (noT b u hb hnf)).trans hb⟩
  unfold setFlight
  refine wpAny_bind (wpAny_field h1 h2 g5 ?_)
  rw [if_pos (by simp)]
  refine wpAny_setField g8 g9 sz (k _ (F.move (fun b u hb => (oth b fun q => by rw [q, g6] at hb; cases hb).trans (F.kb b u hb)) (F.ff.of_keeps fun b u hb hnf => ⟨u, (oth b (noT b u hb hnf)).trans hb, rfl⟩) ?_ sm ⟨oo, vs, e', h2, h3⟩) sm)
  exact ⟨oo, vs, T, _, _, e', g2, h2, g5, g6, g7, Heap.get?_update_self _ g8 (Obj.isFreed_of_fields (Obj.data_mapFields g9 _)), Obj.data_mapFields g9 _, by simp [sz]⟩
theorem note_any {Q : Unit → Shared → Prop} (fr : A.frames = some (env :: outer)) (ef : env.frame = some L) (F : FlyE P w (env :: outer) ch H h e cls a0 fl B H' s.heap)
    (k : ∀ h' fl', FlyE P w (env :: outer) ch H h e cls a0 fl' B H' h' → s.heap.UpToSlots h' → Q () { s with heap := h' }) : wpAny M A (noteFrame (.ref e) env) Q E s := by
  obtain ⟨oo, vs, h1, h2, h3⟩ := F.lo
  obtain ⟨oe, ws, T, oT, ts, g1, ⟨g2, g3⟩, g4, g5, g6, g7, g8, g9, g10⟩ := F.tr
  rw [h1] at g1
  cases g1
  rw [h2] at g4
  cases g4
  subst g2
  unfold noteFrame
  simp only [ef]
  refine wpAny_bind (wpAny_field h1 h2 g5 ?_)
  rw [if_pos (by simp)]
  refine wpAny_bind (wpAny_field g8 g9 g10 ?_)
  by_cases c : (fl == rawInt L) = true
  · rw [if_pos c]
    exact wpAny_pure (k s.heap fl F (Heap.UpToSlots.refl _))
  rw [if_neg c]
  refine wpAny_bind (wpAny_setField g8 g9 (Array.getElem?_eq_some_iff.mp g10).1 ?_)
  have oth : ∀ b, b ≠ T → (s.heap.update T (Obj.mapFields (·.setIfInBounds 3 Value.none))).get? b = s.heap.get? b := fun b hb => Heap.get?_update_other _ _ (Ne.symm hb)
  have noT : ∀ b u, s.heap.get? b = some u → (∀ ws, u.data ≠ .fields ws) → b ≠ T := fun b u hb hnf q => by
    rw [q, g8] at hb
    cases hb
    exact hnf ts g9
  refine entry_lone fr (F.ff.of_keeps fun b u hb hnf => ⟨u, (oth b (noT b u hb hnf)).trans hb, rfl⟩) ef ((oth e (Ne.symm g7)).trans h1) (fun b u hb => (oth b fun q => by rw [q, g6] at hb; cases hb).trans (F.kb b u hb)) F.en h2 g3 h3 fun h' ⟨x1, x2, x3, x4⟩ l' => ?_
  have sm : s.heap.UpToSlots h' := fun b u hb hnf => x4 b u ((oth b (noT b u hb hnf)).trans hb) hnf
  exact k h' _ (F.move x1 x2 x3 sm l') sm
theorem pass_any {α : Type} {what : String} {cenv : Env} {Q : α → Shared → Prop} (F : FlyE P w fr ch H h e cls a0 fl B H' s.heap)
    (k : ∀ h' fl', FlyE P w fr ch H h e cls a0 fl' B H' h' → E (.ref e) { s with heap := h' }) : wpAny M A (PySem.passOn what (.ref e) cenv : Sem α) Q E s := by
  obtain ⟨oo, vs, h1, h2, h3⟩ := id F.lo
  obtain ⟨oe, ws, T, oT, ts, g1, g2, g4, g5, g6, g7, g8, g9, g10⟩ := id F.tr
  rw [h1] at g1
  cases g1
  rw [h2] at g4
  cases g4
  unfold PySem.passOn
  refine wpAny_bind (wpAny_field h1 h2 g5 ?_)
  rw [if_neg (by simp)]
  refine wpAny_bind (set_any F fun h' F' _ => ?_)
  exact wpAny_throw (k h' _ F')
end
def PassC (X : Cx) (E : XK) : Prop := ∀ (pins : List (Addr × Obj)) (σ : St) (H : Hp) (s : Shared) (ch : List Addr) (e : Addr) (cls a0 fl : Value) (B : Heap) (H' : Hp) (s' : Shared), Inv X pins σ H s → (∀ b ∈ ch, (b ∈ X.ex ∨ X.s₀.heap.objs.size ≤ b) ∧ b ≠ X.env.locals) →
  s'.os = s.os → AllBare s'.gens → FlyE X.prog X.w X.stack ch H s.heap e cls a0 fl B H' s'.heap → E cls none H' → X.xe (.ref e) s'
theorem PassC.passes {X : Cx} {E : XK} (p : PassC X E) : Passes (CX1 X.prog X.w) X E := fun pins σ H s ev s' I h => by
  obtain ⟨e, cls, a0, B, H', rfl, os, bare, F, q⟩ := h
  exact p pins σ H s [] e cls a0 _ B H' s' I (fun b hb => nomatch hb) os bare F.toE q
section
variable {P : Program} {w : World} {K : PySem.W.Frag} {mg : Str → Option Value} {base : Heap} {N : List Str} {qual : Str} {scope : Scope} {f : Addr} {cdv : Value} {A : Around} {outer : List Env} {s : Shared} {H : Hp} {E : XK}
theorem passC1 : PassC (cx1 P w K mg base N qual scope f cdv A outer s H E) E := by
  intro pins σ H₁ s₁ ch e cls a0 fl B H' s' I hch os bare F q
  show wpAny _ _ (leaving _ (.ref e)) _ _ s'
  unfold leaving
  refine wpAny_bind (note_any I.ok.frames rfl F fun g fl' F1 _ => ?_)
  refine set_any (s := { s' with heap := g }) F1 fun h'' F2 _ => ?_
  exact ⟨e, cls, a0, B, H', rfl, os.trans I.os, bare, (FlyE.out I (fun b hb => (hch b hb).1) F2).back, q⟩
end
def Topp (X : Cx) : Prop := ∃ (env0 : Env) (outer0 : List Env) (L : Addr), X.stack = env0 :: outer0 ∧ env0.frame = some L ∧ X.env.frame = some L
theorem topp1 {P : Program} {w : World} {K : PySem.W.Frag} {mg : Str → Option Value} {base : Heap} {N : List Str} {qual : Str} {scope : Scope} {f : Addr} {cdv : Value} {A : Around} {outer : List Env} {s : Shared} {H : Hp} {E : XK} : Topp (cx1 P w K mg base N qual scope f cdv A outer s H E) := ⟨_, _, _, rfl, rfl, rfl⟩
def cxX (E : XK) (X : Cx) (N : List Str) (scope : Scope) (C : Addr) (fp : List Addr) (s : Shared) (H : Hp) : Cx :=
  { cxC X N scope C fp s H with xe := fun ev s' => ∃ (e : Addr) (cls a0 fl : Value) (B : Heap) (H' : Hp), ev = .ref e ∧ s'.os = s.os ∧ AllBare s'.gens ∧ FlyE X.prog X.w X.stack fp H s.heap e cls a0 fl B H' s'.heap ∧ (∃ m, s'.heap.Ns C m) ∧ H' C = none ∧ C ∉ frs X.stack ∧ E cls none H' }
section
variable {E : XK} {X : Cx} {N : List Str} {scope : Scope} {C : Addr} {fp : List Addr} {s : Shared} {H : Hp}
theorem passCC : PassC (cxX E X N scope C fp s H) E := by
  intro pins σ H3 s3 ch e cls a0 fl B H' s' I hch os bare F q
  obtain ⟨m, hn, _⟩ := id I.loc
  have nC : C ∉ frs X.stack := fun z => by
    obtain ⟨_, o, ho, _⟩ := I.ok.funs.mem z
    exact absurd (Nat.lt_of_lt_of_le (Heap.lt_size ho) I.ok.above) (Nat.lt_irrefl _)
  have nch : C ∉ ch := fun z => (hch C z).2 rfl
  obtain ⟨o, es, ep, ho, r⟩ := hn
  have hC' := F.un.keep C o ho I.free nC nch
  exact ⟨e, cls, a0, fl, B, H', rfl, os.trans I.os, bare, FlyE.out I (fun b hb => (hch b hb).1) F, ⟨m, o, es, ep, hC', r⟩, F.un.free C o ho I.free nch, nC, q⟩
theorem toppC (t : Topp X) : Topp (cxX E X N scope C fp s H) := by
  obtain ⟨env0, outer0, L, h1, h2, h3⟩ := t
  exact ⟨env0, outer0, L, h1, h2, h3⟩
theorem invX {pins : List (Addr × Obj)} {σ : St} {H1 : Hp} {s1 : Shared} (I : Inv (cxC X N scope C fp s H) pins σ H1 s1) : Inv (cxX E X N scope C fp s H) pins σ H1 s1 :=
  ⟨⟨I.ok.mod, I.ok.kind, I.ok.glob, I.ok.blt, I.ok.above, I.ok.inj, I.ok.has, I.ok.cab, I.ok.hd, I.ok.frames, I.ok.stk, I.ok.exf, I.ok.bs, I.ok.bsz, I.ok.noex, I.ok.exfs, I.ok.funs, I.ok.frf⟩, I.os, I.bare, I.base, I.loc, I.cell, I.free, I.freeC, I.pin, I.hok, I.len⟩
theorem invC {pins : List (Addr × Obj)} {σ : St} {H1 : Hp} {s1 : Shared} (I : Inv (cxX E X N scope C fp s H) pins σ H1 s1) : Inv (cxC X N scope C fp s H) pins σ H1 s1 :=
  ⟨⟨I.ok.mod, I.ok.kind, I.ok.glob, I.ok.blt, I.ok.above, I.ok.inj, I.ok.has, I.ok.cab, I.ok.hd, I.ok.frames, I.ok.stk, I.ok.exf, I.ok.bs, I.ok.bsz, I.ok.noex, I.ok.exfs, I.ok.funs, I.ok.frf⟩, I.os, I.bare, I.base, I.loc, I.cell, I.free, I.freeC, I.pin, I.hok, I.len⟩
end
end L2
namespace L2
open PySem PySem.Spec PyProof.Rows
section
variable {prog : Program} {w : World} {A : Around} {R : Result → Shared → Prop} {s : Shared}
theorem compLoop_anyX {elt target iter : Expr} {ifs : List Expr} {scope : Scope} {pos : Pos} {it acc : Value} {env : Env} (EE : Value → Shared → Prop) (hE : ∀ x s', EE x s' → notedBy (model prog w) A env (fun e s' => R (.error e) s') x s') (I : Nat → Shared → Prop)
    (turn : ∀ n s, I n s → wpAny (model prog w) A (pyNext it) (fun r s₁ => match r with
      | none => R (.ok .next) s₁
      | some v => wpAny (model prog w) A (letOwnedTupleGo target it v) (fun _ s₁ => wpAny (model prog w) A (assign target env v) (fun _ s₂ =>
          wpAny (model prog w) A (forIn ifs true fun c r => if r = true then do let ok ← isTrue c env (eval c env); pure (ForInStep.yield ok) else pure (ForInStep.yield r)) (fun ok s₃ =>
            if ok = true then wpAny (model prog w) A (eval elt env) (fun x s₄ =>
              wpAny (model prog w) A (call (.builtin "list.append") [acc, x]) (fun _ s₅ => ∃ m, m < n ∧ I m s₅) EE s₄) EE s₃
            else ∃ m, m < n ∧ I m s₃) EE s₂) EE s₁) EE s₁) EE s)
    (n : Nat) (h : I n s) :
    codeAny (model prog w) A (.compLoop (.ListComp elt [⟨target, iter, ifs, 0⟩] scope pos) 0 it acc env) R s := by
  refine codeAny_loop rfl I (fun n s hI => ?_) n h
  show wpAny _ A ((compTurn (.ListComp elt [⟨target, iter, ifs, 0⟩] scope pos) 0 it acc env).onRaise (fun x => do noteFrame x env; theTreesLotGoes x)) _ _ s
  refine wpAny_noted ?_
  rw [compTurn_list]
  refine wpAny_bind (wpAny_standAt (wpAny_bind (wpAny_mono (turn n s hI) (fun r s₁ h₁ => ?_) fun x s' h' => hE x s' h')))
  cases r with
  | none => exact wpAny_pure h₁
  | some v =>
    refine wpAny_bind (wpAny_mono h₁ (fun _ s₁ h₁ => ?_) fun x s' h' => hE x s' h')
    refine wpAny_bind (wpAny_mono h₁ (fun _ s₂ h₂ => wpAny_bind (wpAny_mono h₂ (fun ok s₃ h₃ => ?_) fun x s' h' => hE x s' h')) fun x s' h' => hE x s' h')
    cases ok with
    | false => exact wpAny_pure ⟨rfl, h₃⟩
    | true =>
      refine wpAny_bind (wpAny_bind (wpAny_mono h₃ (fun x s₄ h₄ => wpAny_bind (wpAny_mono h₄ (fun _ s₅ h₅ => ?_) fun x s' h' => hE x s' h')) fun x s' h' => hE x s' h'))
      exact wpAny_pure (wpAny_pure ⟨rfl, h₅⟩)
end
section
variable {X : Cx} {scope : Scope} {N : List Str} {ix : List (Option Nat)} {elt tg iter : Expr} {ifs : List Expr} {g : TG} {tc : TT} {te : TE} {pos : Pos}
theorem comp_blockX {pins : List (Addr × Obj)} {σ : St} {s2 : Shared} {Q : VK} {itv : Value} {RR : Value → Addr → Result → Shared → Prop} {E : Value → Shared → Prop} (c : CompOk X scope N ix) (hc : X.calm = true) {EX : XK}
    (hg : ∀ C fp s H, PG (cxX EX X N scope C fp s H) tg g) (ht : ∀ C fp s H, PIf (cxX EX X N scope C fp s H) ifs tc) (he : ∀ C fp s H, PE (cxX EX X N scope C fp s H) elt te)
    (h2 : PIE X pins σ tg (rComp ix g tc te σ Q) itv s2)
    (hX : ∀ (D C : Addr) (fp : List Addr) (H2 : Hp) (x : Value) (s' : Shared), Inv X pins σ H2 s2 → (∀ b ∈ fp, FpOk X pins H2 b) → s2.heap.objs.size ≤ C → (cxX EX X N scope C fp s2 H2).xe x s' → notedBy (model X.prog X.w) X.A (cxX EX X N scope C fp s2 H2).env (fun e s' => RR (.ref D) C (.error e) s') x s')
    (hR : ∀ (D C : Addr) (s' : Shared) (H' : Hp) (m : Str → Option Value), Inv X pins σ H' s' → s'.heap.Ns C m → H' C = none → X.s₀.heap.objs.size ≤ C → (∀ p ∈ X.pn ++ pins, p.1 ≠ C) → C ≠ X.env.locals → (∀ x c, X.env.cells.lookup x = some c → c ≠ C) → Q (.ref D) H' → RR (.ref D) C (.ok .next) s') :
    wpAny (model X.prog X.w) X.A (newList []) (fun acc s₃ => wpAny (model X.prog X.w) X.A (newFunctionEnv scope X.env.globals (closL X.env.cells scope.names []) [] X.env.qual none .none (some X.env)) (fun cenv s₄ =>
      codeAny (model X.prog X.w) X.A (.compStart (.ListComp elt [⟨tg, iter, ifs, 0⟩] scope pos) 0 itv acc { cenv with scope := relabel scope X.env }) (RR acc cenv.locals) s₄) E s₃) E s2 := by
  obtain ⟨it, fp, tn, J, H2, rfl, I2, T, st2, f2, W, ⟨m0, w0⟩, turn⟩ := h2
  refine wpAny_newObj_type (wpAny_newFunctionEnv c.nocell (by intro y hy; simp at hy) (fun h₁ hns₁ hsb₁ => ?_) c.kind)
  dsimp only at hns₁ hsb₁ ⊢
  generalize hH2 : s2.heap.push { cls := .type "list", dict := none, data := .seq ([] : List Value).toArray } = G2 at hns₁ hsb₁ ⊢
  have hCs : G2.objs.size = s2.heap.objs.size + 1 := by rw [← hH2, Heap.size_push]
  generalize hCe : G2.objs.size = C at hns₁ hsb₁ hCs ⊢
  generalize hDe : s2.heap.objs.size = D at hCs ⊢
  have ltC : ∀ b, @LT.lt Nat _ b D → b ≠ C := fun b hb => Nat.ne_of_lt (by rw [hCs]; exact Nat.lt_succ_of_lt hb)
  have ltS : ∀ b o, s2.heap.get? b = some o → @LT.lt Nat _ b D := fun b o e => by rw [← hDe]; exact Heap.lt_size e
  have hDC : D ≠ C := Nat.ne_of_lt (by rw [hCs]; exact Nat.lt_succ_self _)
  have old : ∀ b o, s2.heap.get? b = some o → h₁.get? b = some o := fun b o e => hsb₁.extBut b o (ltC b (ltS b o e)) (Heap.get?_push_of_some _ (hH2 ▸ Heap.get?_push_of_some _ e))
  have hoD : h₁.get? D = some { cls := .type "list", dict := none, data := .seq ([] : List Value).toArray } := by
    refine hsb₁.extBut _ _ hDC (Heap.get?_push_of_some _ ?_)
    rw [← hH2, ← hDe]
    exact Heap.get?_push_size _ rfl
  have I4 : Inv (cxX EX X N scope C fp s2 H2) (pins ++ [(D, { cls := .type "list", data := .seq ([] : List Value).toArray })]) (startC ix σ) H2 { s2 with heap := h₁, toks := s2.toks + ([] : List (Str × Value)).length } :=
    invX <| c.enter I2 f2 (T.obj _ _ st2) (by rw [hCs, hDe]) hDe.symm old hns₁ hoD fun v z => by cases z
  have st4 : tn 0 h₁ := T.keep _ _ _ st2 fun b _ o e => old b o e
  have pinD : ∀ p ∈ X.pn ++ pins, p.1 ≠ D := fun p hp => Nat.ne_of_lt (ltS _ _ (I2.pin p hp).1)
  have pinC : ∀ p ∈ X.pn ++ pins, p.1 ≠ C := fun p hp => ltC _ (ltS _ _ (I2.pin p hp).1)
  have celD : ∀ x d, X.env.cells.lookup x = some d → @LT.lt Nat _ d D := fun x d e => by
    obtain ⟨v, o, ho, _⟩ := I2.cell x d e
    exact ltS d o ho
  have fpD : ∀ b ∈ fp, @LT.lt Nat _ b D := fun b hb => by
    obtain ⟨o, e, _⟩ := T.obj _ _ st2 b hb
    exact ltS b o e
  have sub : ∀ x d, (closL X.env.cells scope.names []).lookup x = some d → X.env.cells.lookup x = some d := fun x d e => by
    rcases closL_sub e with z | z
    · simp at z
    · exact z
  have stat : ∀ {H' : Hp} {oD : Obj}, (∀ b ∈ fp, H' b = none) → ∀ b ∈ fp, FpOk (cxX EX X N scope C fp s2 H2) (pins ++ [(D, oD)]) H' b := fun {H' oD} hn b hb => by
    obtain ⟨f0, f1, f2, f3, f4, f5⟩ := f2 b hb
    refine ⟨hn b hb, ltC b (fpD b hb), fun z => ?_, .inl hb, fun x d e => f4 x d (sub x d e), fun p hp => ?_⟩
    · rcases List.mem_cons.mp (I2.stkSub b z) with e | e
      · exact f1 e
      · exact f2 e
    · have hp : p ∈ X.pn ++ (pins ++ [(D, oD)]) := hp
      rw [← List.append_assoc] at hp
      rcases List.mem_append.mp hp with z | z
      · exact f5 p z
      · have e : p = (D, oD) := by simpa using z
        subst e
        exact Nat.ne_of_gt (fpD b hb)
  have loop : ∀ s3 : Shared, s3 = { s2 with heap := h₁, toks := s2.toks + ([] : List (Str × Value)).length } →
      codeAny (model X.prog X.w) X.A (.compLoop (.ListComp elt [⟨tg, iter, ifs, 0⟩] scope pos) 0 (.ref it) (.ref D) (cxX EX X N scope C fp s2 H2).env) (RR (.ref D) C) s3 := by
    rintro s3 rfl
    refine compLoop_anyX (cxX EX X N scope C fp s2 H2).xe (fun x s' h' => hX D C fp H2 x s' I2 f2 (by rw [hDe, hCs]; exact Nat.le_succ _) h') (fun n s' => ∃ i σ' H' ys its k, Inv (cxX EX X N scope C fp s2 H2) (pins ++ [(D, { cls := .type "list", data := .seq (List.toArray its) k })]) σ' H' s' ∧ tn i s'.heap ∧ (∀ b ∈ fp, H' b = none) ∧ Vals ys its ∧ W i n ys σ' H') ?_ m0
      ⟨0, _, H2, [], [], _, I4, st4, fun b hb => (f2 b hb).1, .nil, w0⟩
    rintro n s3 ⟨i, σ3, H3, ys, its, k, I3, st3, fr3, rv, w3⟩
    rcases turn i n ys σ3 H3 w3 with ⟨stop, hz, qn⟩ | ⟨go, hz, step⟩
    · refine thn (T.done (cxX EX X N scope C fp s2 H2) rfl rfl rfl hc i _ s3 σ3 H3 _ I3 (stat fr3) st3 stop) fun r s4 ⟨hr, I4⟩ => ?_
      subst hr
      have hDn : H3 D = none := (I3.pin (D, _) (List.mem_append_right _ (List.mem_append_right _ List.mem_cons_self))).2.1
      obtain ⟨m4, hn4, _⟩ := id I4.loc
      refine hR D C s4 _ m4 (c.leave I2 f2 (by rw [hCs, hDe]) hDe.symm (invC I4) rv hz) hn4 ?_ ?_ pinC ?_ (fun x d e => ltC d (celD x d e)) (qn D hDn)
      · rw [upd_ne hDC.symm]; exact I4.free
      · refine Nat.le_trans I2.sz ?_
        rw [hDe, hCs]; exact Nat.le_succ _
      · refine Nat.ne_of_gt (Nat.lt_of_lt_of_le I2.lt ?_)
        rw [hDe, hCs]; exact Nat.le_succ _
    · refine thn (T.item (cxX EX X N scope C fp s2 H2) rfl rfl rfl hc i _ s3 σ3 H3 _ I3 (stat fr3) st3 go) fun r s4 ⟨u, hr, h4⟩ => ?_
      subst hr
      refine thn h4 fun _ s5 ⟨x, H5, I5, r5, y5, st5, fr5⟩ => ?_
      have I5' := I5.pinned (stat fr5) (T.obj _ _ st5)
      refine thn (hg C fp s2 H2 _ s5 σ3 H5 x u _ I5' r5 (step x H5 y5)) fun _ s6 ⟨σ6, H6, I6, q6⟩ => ?_
      refine thn (ht C fp s2 H2 _ s6 σ6 H6 _ I6 q6) fun ok s7 ⟨H7, I7, q7⟩ => ?_
      have keep : ∀ {s' : Shared} {σ' : St} {H' : Hp}, Inv (cxX EX X N scope C fp s2 H2) ((pins ++ [(D, { cls := .type "list", data := .seq its.toArray k })]) ++ pinsAt fp s5.heap) σ' H' s' → tn (i + 1) s'.heap ∧ ∀ b ∈ fp, H' b = none := fun {s' σ' H'} I' => by
        refine ⟨T.keep _ _ _ st5 fun b hb o e => (I'.pin (b, o) (List.mem_append_right _ (List.mem_append_right _ (mem_pinsAt hb e)))).1, fun b hb => ?_⟩
        obtain ⟨o, e, d⟩ := T.obj _ _ st5 b hb
        exact (I'.pin (b, o) (List.mem_append_right _ (List.mem_append_right _ (mem_pinsAt hb e)))).2.1
      cases ok with
      | false =>
        rw [if_neg Bool.false_ne_true]
        rw [if_neg Bool.false_ne_true] at q7
        obtain ⟨m', hm, w7⟩ := q7
        obtain ⟨k1, k2⟩ := keep I7
        exact ⟨m', hm, i + 1, σ6, H7, ys, its, k, I7.unpinned, k1, k2, rv, w7⟩
      | true =>
        rw [if_pos rfl]
        rw [if_pos rfl] at q7
        refine thn (he C fp s2 H2 _ s7 σ6 H7 _ I7 q7) fun y s8 ⟨v, H8, I8, r8, m', hm, w8⟩ => ?_
        obtain ⟨k1, k2⟩ := keep I8
        have pD := I8.pin (D, _) (List.mem_append_right _ (List.mem_append_left _ (List.mem_append_right _ List.mem_cons_self)))
        have I8u := I8.unpinned
        have I8v : Inv (cxX EX X N scope C fp s2 H2) pins σ6 H8 s8 := I8u.unpinned
        have len := rv.length
        refine wpAny_list_append_plain (items := its.toArray) (hsz := by simp; omega) ⟨k, pD.1⟩ fun h9 hl9 hs9 => ?_
        obtain ⟨k9, e9⟩ := hl9
        have I9 : Inv (cxX EX X N scope C fp s2 H2) pins σ6 H8 { s8 with heap := h9 } := by
          refine I8v.turned (t' := s8.toks) (it := D) (fun b o hb e => hs9.extBut b o hb e) pD.2.1 hDC (.inr ?_) (fun x d e => Nat.ne_of_lt (celD x d (sub x d e))) fun p hp => ?_
          · show s2.heap.objs.size ≤ D
            rw [hDe]; exact Nat.le_refl _
          · exact pinD p hp
        have e9' : h9.get? D = some { cls := .type "list", data := .seq (its ++ [y]).toArray k9 } := by
          rw [e9]; simp
        refine ⟨m', hm, i + 1, σ6, H8, ys ++ [v], its ++ [y], k9, I9.pins_of fun p hp => ?_, T.keep _ _ _ k1 fun b hb o e => hs9.extBut b o (Nat.ne_of_lt (fpD b hb)) e, k2, rv.append (.cons r8 .nil), w8⟩
        rcases List.mem_append.mp hp with z | z
        · exact I9.pin p (List.mem_append_right _ z)
        · have e : p = (D, { cls := .type "list", data := .seq (its ++ [y]).toArray k9 }) := by simpa using z
          subst e
          exact ⟨e9', pD.2.1, pD.2.2.1, pD.2.2.2.1, fun v z => by cases z⟩
  exact codeAny_compStart_list (loop _ rfl) (T.self _ 0 _ _ _ st4 (loop _ rfl))
theorem note_frame {e : Value} {env env' : Env} (h : env'.frame = env.frame) : noteFrame e env' = noteFrame e env := by
  unfold noteFrame PySem.frameOf
  rw [h]
theorem comp_out {pins : List (Addr × Obj)} {σ : St} {s2 : Shared} {EX : XK} {use : Option (Value → Sem Unit)} {QQ : Value → Shared → Prop} (tp : Topp X) (pc : PassC X EX) (D C : Addr) (fp : List Addr) (H2 : Hp) (x : Value) (s' : Shared) (I2 : Inv X pins σ H2 s2) (f2 : ∀ b ∈ fp, FpOk X pins H2 b) (hC : s2.heap.objs.size ≤ C)
    (h : (cxX EX X N scope C fp s2 H2).xe x s') : notedBy (model X.prog X.w) X.A (cxX EX X N scope C fp s2 H2).env (fun e s' => compPost (model X.prog X.w) X.A X.xe use QQ (.ref D) C (.error e) s') x s' := by
  obtain ⟨env0, outer0, L, h1, h2, h3⟩ := tp
  obtain ⟨e, cls, a0, fl, B, H', rfl, os, bare, F, ⟨m, hn⟩, hH, nC, q⟩ := h
  unfold notedBy
  rw [note_frame (env := env0) (env' := (cxX EX X N scope C fp s2 H2).env) (show X.env.frame = env0.frame from h3.trans h2.symm)]
  have fr := I2.ok.frames
  rw [h1] at fr
  have F' := F
  rw [h1] at F'
  refine note_any fr h2 F' fun h' fl' F1 sm => ?_
  have hn' := sm.ns hn
  refine ⟨m, hn', fun h3 hs cenv hcl => ?_⟩
  obtain ⟨o, es, ep, ho, hd, _⟩ := hn'
  rw [← h1] at F1
  have F3 := F1.but hs hC hH nC ⟨o, ho, fun vs z => by rw [hd] at z; cases z⟩
  refine pass_any (s := { s' with heap := h3 }) F3 fun h4 fl4 F4 => ?_
  exact pc pins σ H2 s2 fp e cls a0 fl4 _ H' { s' with heap := h4 } I2 (fun b hb => ⟨(f2 b hb).2.2.2.1, (f2 b hb).2.1⟩) os bare F4 q
variable {wi : TI}
theorem pe_compX {EX : XK} (tp : Topp X) (pc : PassC X EX) (c : CompOk X scope N ix) (hc : X.calm = true) (hi : PI X tg iter wi) (hg : ∀ C fp s H, PG (cxX EX X N scope C fp s H) tg g) (ht : ∀ C fp s H, PIf (cxX EX X N scope C fp s H) ifs tc) (he : ∀ C fp s H, PE (cxX EX X N scope C fp s H) elt te)
    (hs : ∀ x, foldedSetIterable iter X.env x = pure x := by intro _; rfl) : PE X (.ListComp elt [⟨tg, iter, ifs, 0⟩] scope pos) (tComp ix wi g tc te) := by
  intro pins s σ H Q I h
  rw [eval_ListComp]
  have hcl : ∀ y ∈ scope.names, y.2 = NameKind.free → ∃ d, X.env.cells.lookup y.1 = some d := fun y hy e => I.ok.has _ (c.fr y hy e)
  refine wpAny_comprehension_free (use := none) rfl hs (closureFor_eq hcl) c.kind c.names (thn (hi pins s σ H _ I h) fun v s1 h1 => thn h1 fun itv s2 h2 => ?_)
  refine comp_blockX (RR := fun acc C => compPost (model X.prog X.w) X.A X.xe none (EP X pins σ Q) acc C) c hc hg ht he h2 (fun D C fp H2 x s' I2 f2 hC h' => comp_out tp pc D C fp H2 x s' I2 f2 hC h') ?_
  intro D C s' H' m I' hn hC hz hp hL hcells q
  exact ⟨m, hn, fun h' hs' => ⟨.ref D, H', I'.turned (t' := s'.toks) (fun b o hb e => hs'.extBut b o hb e) hC hL (.inr hz) hcells hp, rfl, q⟩⟩
theorem ps_compX {EX : XK} {i : Nat} {x : Str} {px spos : Pos} (tp : Topp X) (pc : PassC X EX) (hN : X.N.Nodup) (hx0 : X.N[i]? = some x) (hx : X.env.scope.names.lookup x = some .local) (c : CompOk X scope N ix) (hc : X.calm = true) (hi : PI X tg iter wi) (hg : ∀ C fp s H, PG (cxX EX X N scope C fp s H) tg g) (ht : ∀ C fp s H, PIf (cxX EX X N scope C fp s H) ifs tc) (he : ∀ C fp s H, PE (cxX EX X N scope C fp s H) elt te)
    (hsw : swapsWith (.ListComp elt [⟨tg, iter, ifs, 0⟩] scope pos) (some (.Name x px)) spos.line X.env = pure true := by rfl)
    (hs : ∀ x, foldedSetIterable iter X.env x = pure x := by intro _; rfl) : PS X (.Assign [.Name x px] (.ListComp elt [⟨tg, iter, ifs, 0⟩] scope pos) spos) (tAsg (tComp ix wi g tc te) (gName i)) := by
  intro pins s σ H D0 I h
  rw [exec_Assign_Name_used _ _ _ _ hsw]
  refine wpAny_bind (wpAny_standAt (wpAny_bind ?_))
  show wpAny _ _ (do let _ ← comprehension (.ListComp elt [⟨tg, iter, ifs, 0⟩] scope pos) scope X.env _ (newList []) false (eval iter X.env) (some (assign (.Name x px) X.env))) _ _ s
  have hcl : ∀ y ∈ scope.names, y.2 = NameKind.free → ∃ d, X.env.cells.lookup y.1 = some d := fun y hy e => I.ok.has _ (c.fr y hy e)
  refine wpAny_bind (wpAny_mono (wpAny_comprehension_free (use := some (assign (.Name x px) X.env)) (Q := fun _ s' => SP X pins D0 .next s') rfl hs (closureFor_eq hcl) c.kind c.names
    (thn (hi pins s σ H _ I h) fun v s1 h1 => thn h1 fun itv s2 h2 => ?_)) (fun _ s' hq => wpAny_pure (wpAny_pure hq)) fun _ _ e => e)
  refine comp_blockX (RR := fun acc C => compPost (model X.prog X.w) X.A X.xe (some (assign (.Name x px) X.env)) (fun _ s' => SP X pins D0 .next s') acc C) c hc hg ht he h2 (fun D C fp H2 x s' I2 f2 hC h' => comp_out tp pc D C fp H2 x s' I2 f2 hC h') ?_
  intro D C s' H' m I' hn hC hz hp hL hcells q
  show wpAny _ _ (assign (.Name x px) X.env (.ref D)) _ _ _
  refine wpAny_assign_Name (store_ok2 (v := .ref D) I' hN hx0 (.inl hx) rfl (fun s'' I'' hsb => ?_) (.inr hx))
  obtain ⟨a, sb, ha⟩ := hsb
  have haC : a ≠ C := by
    rcases ha with e | e
    · rw [e]; exact hL.symm
    · exact hcells x a e
  refine ⟨m, hn.sameBut sb haC.symm, fun h' hs' => ⟨_, H', I''.turned (t' := s''.toks) (fun b o hb e => hs'.extBut b o hb e) hC hL (.inr hz) hcells hp, q⟩⟩
end
end L2
namespace Sw
open PySem L2
def isSX : PyData → Bool
  | .str _ => true
  | _ => false
theorem kit_strX (K : PySem.W.Frag) {H : Hp} {P : Addr → Prop} {v : V} {d : PyData} (h : DT H P v d) : PySem.W.kitOne K (.type (tyD d)) (.type "str") = some (isSX d) := by
  cases h with
  | non => exact kit_type K (show kitB "NoneType" "str" = some false by decide +kernel)
  | bl b => exact kit_type K (show kitB "bool" "str" = some false by decide +kernel)
  | int i => exact kit_type K (show kitB "int" "str" = some false by decide +kernel)
  | str x => exact kit_type K (show kitB "str" "str" = some true by decide +kernel)
  | lst h p r => exact kit_type K (show kitB "list" "str" = some false by decide +kernel)
  | tup h p r => exact kit_type K (show kitB "tuple" "str" = some false by decide +kernel)
def spNumN (C : Addr) : Sp := fun vs H Q E => ∃ (x : Str), vs = [.str x] ∧ x.length ≤ 100000 ∧ ¬ IsNum x ∧ E (.ref C) none H
def spChkN (C : Addr) : Sp := fun vs H Q E => ∃ (v : V) (P : Addr → Prop) (d : PyData), vs = [v] ∧ DT H P v d ∧ (∀ x, d ≠ .str x) ∧ E (.ref C) none H
structure TTxN (mg : Str → Option Value) (K : PySem.W.Frag) (u : Value) (C : Addr) : Prop extends TTx mg K u where
  c_NoText : mg "NoText" = some (.ref C)
  x_NoText : ExcC K C
section
variable {P : Program} {w : World} {K : PySem.W.Frag} {mg : Str → Option Value} {base : Heap} {u : Value} {C : Addr}
theorem ok_numN {f : Addr} {fd : FuncData} (F : Fun K "read_number" "read_number" (top 24) f fd) (T : TTxN mg K u C) : FnOk P w K mg base (CX1 P w) 1 f fd ["word"] (spNumN C) := by
  refine F.okX sc_read_number (fun vs H Q E h => ?_) (fun cdv A outer s H vs Q E hr h => ?_)
  · obtain ⟨i, rfl, _⟩ := h
    rfl
  · obtain ⟨x, rfl, xl, nn, k⟩ := h
    refine ⟨_, (pss_cons (ps_if (PW.pt (pw_or (pt_not (pt_val (pe_bm0K (K := K) rfl PySem.F.plainAttrs_str PySem.F.slot_str_isascii PySem.F.type_str_isascii mt_isascii (pv 0)))) (pw_or (pt_not (pt_val (pe_bm0K (K := K) rfl PySem.F.plainAttrs_str PySem.F.slot_str_isdigit PySem.F.type_str_isdigit mt_isdigit (pv 0)))) (pw_or1 (pt_cmpR op_gt (pe_callB call_len_str rfl T.b_len (by decide +kernel) (pa_cons (pv 0) pa_nil)) (pe_glob rfl T.g_MOST_FIGURES T.r_MOST_FIGURES) (nomark _)))))) (pss_one (ps_raise lvs1 T.x_NoText rfl rfl T.c_NoText (pa_cons pe_str pa_nil))) pss_nil)
      (pss_cons (ps_if (PW.pt (pw_and (pt_cmpR op_ne (pv 0) pe_str (nomark _)) (pw_and1 (pt_val (pe_bmK (K := K) rfl PySem.F.plainAttrs_str PySem.F.slot_str_startswith PySem.F.type_str_startswith mt_starts (pv 0) (pa_cons pe_str pa_nil)))))) (pss_one (ps_raise lvs1 T.x_NoText rfl rfl T.c_NoText (pa_cons pe_str pa_nil))) pss_nil)
      (pss_one (ps_ret (pe_callTy call_int_text rfl T.b_int (by decide +kernel) (pa_cons (pv 0) pa_nil)))))), ?_⟩
    have big : (10000000 : Nat) ≤ sizeLine := by decide
    have no : (1 : Nat) ≤ sizeLine ∧ E (.ref C) none H := ⟨by omega, k⟩
    refine ⟨_, rfl, rfl, _, rfl, rfl, _, rfl, ite2 (fun c => no) (fun c1 => ?_)⟩
    refine ⟨_, rfl, rfl, _, rfl, rfl, _, rfl, ite2 (fun c => no) (fun c2 => ?_)⟩
    refine ⟨_, rfl, _, rfl, by omega, _, _, rfl, rfl, _, rfl, ite2 (fun c => no) (fun c3 => ?_)⟩
    have c1 : Txt.isascii x = true := by simpa using c1
    have c2 : Txt.isdigit x = true := by simpa using c2
    have c3 : x.length ≤ 9 := by
      have : ¬ (x.length : Int) > 9 := by simpa using c3
      omega
    refine ⟨_, rfl, rfl, _, rfl, ?_⟩
    refine ite2 (fun _ => ?_) (fun c4 => ?_)
    · refine ⟨_, rfl, rfl, _, _, rfl, rfl, _, rfl, ite2 (fun c => no) (fun c5 => ?_)⟩
      exact absurd (num_of c1 c2 c3 (.inr (by simpa using c5))) nn
    · refine absurd (num_of c1 c2 c3 (.inl ?_)) nn
      simpa using c4
theorem ok_chkN {f : Addr} {fd : FuncData} (F : Fun K "check_text" "check_text" (top 23) f fd) (T : TTxN mg K u C) : FnOk P w K mg base (CX1 P w) 1 f fd ["thing"] (spChkN C) := by
  refine F.okX sc_check_text (fun vs H Q E h => ?_) (fun cdv A outer s H vs Q E hr h => ?_)
  · obtain ⟨v, _, d, rfl, _⟩ := h
    rfl
  · obtain ⟨v, P', d, rfl, hd, ns, k⟩ := h
    refine ⟨_, (pss_one (ps_if (pt_not (pt_val (pe_callB (call_isiK (K := K) rfl) rfl T.b_isinstance (by decide +kernel) (pa_cons (pv 0) (pa_cons (pe_bltn (v := .ty "str") rfl T.b_str (by decide +kernel) rfl) pa_nil))))) (pss_one (ps_raise lvs1 T.x_NoText rfl rfl T.c_NoText (pa_cons pe_str pa_nil))) pss_nil)), ?_⟩
    refine ⟨_, rfl, _, _, "str", _, rfl, hd.ty, kit_strX K hd, _, rfl, ?_⟩
    have no : (1 : Nat) ≤ sizeLine ∧ E (.ref C) none H := ⟨by decide, k⟩
    cases hd with
    | str x => exact absurd rfl (ns x)
    | _ => exact iteT no
def spNumX (C : Addr) : Sp := fun vs H Q E => spNumT vs H Q E ∨ spNumN C vs H Q E
def spChkX (C : Addr) : Sp := fun vs H Q E => spChkT vs H Q E ∨ spChkN C vs H Q E
theorem ok_numX {f : Addr} {fd : FuncData} (F : Fun K "read_number" "read_number" (top 24) f fd) (T : TTxN mg K u C) : FnOk P w K mg base (CX1 P w) 1 f fd ["word"] (spNumX C) := (ok_num F T.toTTx).lift.or (ok_numN F T)
theorem ok_chkX {f : Addr} {fd : FuncData} (F : Fun K "check_text" "check_text" (top 23) f fd) (T : TTxN mg K u C) : FnOk P w K mg base (CX1 P w) 1 f fd ["thing"] (spChkX C) := (ok_chkT F T.toTTx).lift.or (ok_chkN F T)
def RowTx (n : Int) (d : PyData) (row : List (Int × Int)) : Prop := d = .str (rowT row) ∧ Good n row ∧ row.length ≤ 60
def spReadRowN (C : Addr) : Sp := fun vs H Q E => ∃ (n : Int) (v : V) (P : Addr → Prop) (d : PyData), vs = [.int n, v] ∧ DT H P v d ∧ (∀ x, d = .str x → x.length ≤ 990) ∧ (∀ row, ¬ RowTx n d row) ∧ ∀ H', Same H H' → E (.ref C) none H'
structure TRrN (P : Program) (w : World) (K : PySem.W.Frag) (mg : Str → Option Value) (base : Heap) (C : Addr) : Prop extends T1 mg K where
  f_check_text : FnAtX P w K mg base "check_text" 1 ["thing"] (spChkX C)
  f_read_number : FnAtX P w K mg base "read_number" 1 ["word"] (spNumX C)
  f_is_row : FnAt P w K mg base "is_row" 6 ["n", "thing"] spIsRow
  c_NoText : mg "NoText" = some (.ref C)
  x_NoText : ExcC K C
theorem rows_of {n : Int} : ∀ {Ls : List (List Int)}, (Ls.map fun L => PyData.tuple (L.map .int)).all (isex n) = true → ∃ row : List (Int × Int), Ls = row.map (fun e => [e.1, e.2]) ∧ Good n row
  | [], _ => ⟨[], rfl, fun e h => absurd h List.not_mem_nil⟩
  | L :: Ls, h => by
    rw [List.map_cons, List.all_cons, Bool.and_eq_true] at h
    obtain ⟨row, e, g⟩ := rows_of h.2
    have h1 := h.1
    match L, h1 with
    | [a, b], h1 =>
      have h1 : ((decide (1 ≤ a ∧ a ≤ n) && decide (1 ≤ b ∧ b ≤ n)) && decide (a < b)) = true := h1
      simp only [Bool.and_eq_true, decide_eq_true_eq] at h1
      refine ⟨(a, b) :: row, by rw [e]; rfl, fun e he => ?_⟩
      rcases List.mem_cons.mp he with rfl | he
      · dsimp only; omega
      · exact g e he
theorem words_of {ws : List Str} : ∀ {row : List (Int × Int)}, ws.map (fun z => Txt.split z (Str.ofString "-")) = (row.map fun e => [e.1, e.2]).map (fun L => L.map numT) → ws = row.map exT := by
  induction ws with
  | nil => intro row h; cases row with
    | nil => rfl
    | cons _ _ => cases h
  | cons z ws ih => intro row h; cases row with
    | nil => cases h
    | cons e row =>
      rw [List.map_cons, List.map_cons, List.map_cons] at h
      injection h with h1 h2
      rw [List.map_cons, ih h2, ex_of_words (a := e.1) (b := e.2) h1]
theorem ok_readrowN {f : Addr} {fd : FuncData} (F : Fun K "read_row" "read_row" (top 25) f fd) (T : TRrN P w K mg base C) : FnOk P w K mg base (CX1 P w) 7 f fd ["n", "text"] (spReadRowN C) := by
  refine F.okX sc_read_row (fun vs H Q E h => ?_) (fun cdv A outer s H vs Q E hr h => ?_)
  · obtain ⟨n, v, _, d, rfl, _⟩ := h
    rfl
  · obtain ⟨n, v, P', d, rfl, hd, hlen, nr, k⟩ := h
    refine ⟨_, (pss_cons (ps_expr (pe_callX1 T.f_check_text pass1 (hr.mono (by decide)) rfl (pa_cons (pv 1) pa_nil)))
      (pss_cons (ps_if (pt_cmpR op_eq (pv 1) pe_str (nomark _)) (pss_one (ps_ret (pe_lst pa_nil))) pss_nil)
      (pss_cons (ps_compX (N := (["pair"] : List Str)) (ix := ([none] : List (Option Nat))) (i := 2) topp1 passC1  sc_read_row.nd rfl rfl  (comp_ok rfl rfl) rfl (pi_listK (K := K) rfl (pe_bmK (K := K) rfl PySem.F.plainAttrs_str PySem.F.slot_str_split PySem.F.type_str_split mt_split (pv 1) (pa_cons pe_str pa_nil))) (fun _ _ _ _ => (pg_name (i := 0) (show List.Nodup (["pair"] : List Str) from by decide +kernel) rfl (Or.inl rfl))) (fun _ _ _ _ => pif_nil) (fun _ _ _ _ => (pe_callTy (call_tuple_ofK (K := K) rfl) rfl T.b_tuple (by decide +kernel) (pa_cons (pe_compX (N := (["word"] : List Str)) (ix := ([none] : List (Option Nat))) (toppC topp1) passCC (comp_ok rfl rfl) rfl (pi_listK (K := K) rfl (pe_bmK (K := K) rfl PySem.F.plainAttrs_str PySem.F.slot_str_split PySem.F.type_str_split mt_split (pv 0) (pa_cons pe_str pa_nil))) (fun _ _ _ _ => (pg_name (i := 0) (show List.Nodup (["word"] : List Str) from by decide +kernel) rfl (Or.inl rfl))) (fun _ _ _ _ => pif_nil) (fun _ _ _ _ => (pe_callX1 T.f_read_number (PassC.passes passCC) (hr.mono (by decide)) rfl (pa_cons (pv 0) pa_nil)))) pa_nil))))
      (pss_cons (ps_if (pt_not (pt_val (pe_callF T.f_is_row (hr.mono (by first | decide | omega)) rfl (pa_cons (pv 0) (pa_cons (pv 2) pa_nil))))) (pss_one (ps_raise lvs1 T.x_NoText rfl rfl T.c_NoText (pa_cons pe_str pa_nil))) pss_nil)
      (pss_one (ps_ret (pv 2))))))), ?_⟩
    have big : (10000000 : Nat) ≤ sizeLine := by decide
    by_cases hst : ∃ x, d = .str x
    case neg => exact ⟨_, rfl, .inr ⟨_, _, _, rfl, hd, fun x z => hst ⟨x, z⟩, k H (Same.refl _)⟩⟩
    obtain ⟨x, rfl⟩ := hst
    cases hd
    have xl := hlen x rfl
    refine ⟨_, rfl, .inl ⟨_, rfl, ?_⟩⟩
    refine ⟨_, rfl, rfl, _, rfl, ?_⟩
    refine iteE (decide_eq_false (by intro z; injection z with z; exact nr [] ⟨by rw [z]; rfl, fun e h => absurd h List.not_mem_nil, Nat.zero_le _⟩)) ?_
    refine ⟨_, rfl, rfl, _, _, rfl, rfl, by decide +kernel, by omega, fun l1 f1 => ⟨l1, rfl, ⟨_, SqL.of upd_same⟩, ?_⟩⟩
    have wl := split_le x (Str.ofString " ")
    have wp : ∀ z ∈ Txt.split x (Str.ofString " "), z.length ≤ x.length := fun z hz => split_part_le hz
    have fin : ∀ row, Txt.split x (Str.ofString " ") = row.map exT → ¬ (Good n row ∧ row.length ≤ 60) := fun row e z => nr row ⟨by rw [row_of_words e], z.1, z.2⟩
    generalize Txt.split x (Str.ofString " ") = ws at wl wp fin ⊢
    have s1 : Same H (upd H l1 (.lst (ws.map V.str))) := Same.new f1
    have h1 : upd H l1 (.lst (ws.map V.str)) l1 = some (.lst (ws.map V.str)) := upd_same
    generalize upd H l1 (.lst (ws.map V.str)) = H1 at s1 h1 ⊢
    have ll : (ws.map V.str).length = ws.length := by rw [List.length_map]
    refine compL (K := K) (a := l1) (xs := ws.map V.str) (k := 0) (fun i ys σ' H' => (∃ v0, σ' = [v0]) ∧ Same H1 H' ∧ ∃ Ls : List (List Int), DTs H' (fun _ => True) ys (Ls.map fun L => PyData.tuple (L.map .int)) ∧ (ws.take i).map (fun z => Txt.split z (Str.ofString "-")) = Ls.map (fun L => L.map numT)) (by omega) ⟨⟨none, rfl⟩, Same.refl _, [], .nil, rfl⟩ (fun i ys σ' H' _ q => SqL.of (q.2.1 _ _ h1)) (fun i ys σ' H' q => ?_) ?_ ?_
    · obtain ⟨_, _, Ls, e1, e2⟩ := q
      have e1 := e1.length
      have e2 := congrArg List.length e2
      rw [List.length_map, List.length_map, List.length_take] at e2
      rw [List.length_map] at e1
      omega
    · rintro i ys σ' H2 z R hx ⟨⟨v0, rfl⟩, s2, Ls, x2, eL⟩ done
      obtain ⟨wd, hw, rfl⟩ : ∃ wd, ws[i]? = some wd ∧ V.str wd = z := by
        rw [List.getElem?_map] at hx
        cases e : ws[i]? with
        | none => rw [e] at hx; cases hx
        | some e' => rw [e] at hx; exact ⟨e', rfl, Option.some.inj hx⟩
      have wdl := wp wd (List.mem_of_getElem? hw)
      refine ⟨_, rfl, rfl, _, _, rfl, rfl, by decide +kernel, by omega, fun l2 f2 => ⟨l2, rfl, ⟨_, SqL.of upd_same⟩, ?_⟩⟩
      have pl := split_le wd (Str.ofString "-")
      have pp : ∀ z ∈ Txt.split wd (Str.ofString "-"), z.length ≤ wd.length := fun z hz => split_part_le hz
      have tk : (ws.take (i + 1)).map (fun z => Txt.split z (Str.ofString "-")) = (ws.take i).map (fun z => Txt.split z (Str.ofString "-")) ++ [Txt.split wd (Str.ofString "-")] := by rw [List.take_succ, hw]; simp
      generalize Txt.split wd (Str.ofString "-") = ps at pl pp tk ⊢
      have s3 : Same H2 (upd H2 l2 (.lst (ps.map V.str))) := Same.new f2
      have h3 : upd H2 l2 (.lst (ps.map V.str)) l2 = some (.lst (ps.map V.str)) := upd_same
      generalize upd H2 l2 (.lst (ps.map V.str)) = H3 at s3 h3 ⊢
      refine compL (K := K) (a := l2) (xs := ps.map V.str) (k := 0) (fun j ys' σ'' H' => (∃ v0, σ'' = [v0]) ∧ H' = H3 ∧ ∃ L : List Int, ys' = L.map V.int ∧ ps.take j = L.map numT) (by rw [List.length_map]; omega) ⟨⟨none, rfl⟩, rfl, [], rfl, rfl⟩ (fun j ys' σ'' H' _ q => by rw [q.2.1]; exact SqL.of h3) (fun j ys' σ'' H' q => ?_) ?_ ?_
      · obtain ⟨_, _, L, e1, e2⟩ := q
        have e2 := congrArg List.length e2
        rw [List.length_map, List.length_take] at e2
        rw [e1, List.length_map]
        omega
      · rintro j ys' σ'' H' x' R' hx' ⟨⟨v0, rfl⟩, rfl, L, rfl, eP⟩ done'
        obtain ⟨p, hp, rfl⟩ : ∃ p, ps[j]? = some p ∧ V.str p = x' := by
          rw [List.getElem?_map] at hx'
          cases e : ps[j]? with
          | none => rw [e] at hx'; cases hx'
          | some e' => rw [e] at hx'; exact ⟨e', rfl, Option.some.inj hx'⟩
        by_cases hn : IsNum p
        · obtain ⟨a, rfl, a0, a9⟩ := hn
          refine ⟨_, rfl, .inl ⟨a, rfl, a0, a9, done' _ _ _ ⟨⟨_, rfl⟩, rfl, L ++ [a], by rw [List.map_append]; rfl, ?_⟩⟩⟩
          rw [List.take_succ, hp, eP, List.map_append]
          rfl
        · have := pp p (List.mem_of_getElem? hp)
          exact ⟨_, rfl, .inr ⟨p, rfl, by omega, hn, k _ (s1.trans (s2.trans s3))⟩⟩
      · rintro ys' σ'' H' q ⟨⟨v0, rfl⟩, e0, L, rfl, eP⟩ fq
        have e0 := e0.symm
        subst e0
        rw [List.take_of_length_le (by rw [List.length_map]; exact Nat.le_refl _)] at eP
        refine ⟨q, _, rfl, .inl ⟨SqL.of upd_same, fun t ft => ?_⟩⟩
        have s4 : Same H3 (upd H3 q (.lst (L.map V.int))) := Same.new fq
        have s5 : Same (upd H3 q (.lst (L.map V.int))) (upd (upd H3 q (.lst (L.map V.int))) t (.tup (L.map V.int))) := Same.new ft
        have s6 := s3.trans (s4.trans s5)
        refine done _ _ _ ⟨⟨_, rfl⟩, s2.trans s6, Ls ++ [L], ?_, ?_⟩
        · rw [List.map_append]
          exact (x2.keep fun a o _ q => s6 a o q).snoc (.tup upd_same trivial (DTs.ints L))
        · rw [tk, eL, eP, List.map_append]
          rfl
    · rintro ys σ' H2 q ⟨⟨v0, rfl⟩, s2, Ls, x2, eL⟩ fq
      rw [List.take_of_length_le (by omega)] at eL
      have s3 : Same H2 (upd H2 q (.lst ys)) := Same.new fq
      have x3 := x2.keep fun a o _ q => s3 a o q
      have s13 := s1.trans (s2.trans s3)
      have h3 : upd H2 q (.lst ys) q = some (.lst ys) := upd_same
      generalize upd H2 q (.lst ys) = H3 at s3 x3 s13 h3 ⊢
      have eLl := congrArg List.length eL
      rw [List.length_map, List.length_map] at eLl
      refine ⟨_, rfl, _, rfl, .ref q, (fun _ => True), .list (Ls.map fun L => PyData.tuple (L.map .int)), n, rfl, .lst h3 trivial x3, fun ds e => ?_, fun H4 s4 => ⟨_, rfl, ite2 (fun c => ?_) (fun c => ?_)⟩⟩
      · injection e with e
        rw [← e, List.length_map]; omega
      · exact ⟨(by show 1 ≤ sizeLine; omega), k _ (s13.trans s4)⟩
      · exfalso
        have c : isrow n (.list (Ls.map fun L => PyData.tuple (L.map .int))) = true := by simpa using c
        unfold isrow at c
        rw [Bool.and_eq_true, List.length_map] at c
        obtain ⟨row, rfl, g⟩ := rows_of c.2
        refine fin row (words_of eL) ⟨g, ?_⟩
        have := of_decide_eq_true c.1
        rw [List.length_map] at this
        exact this
def spReadRowX (C : Addr) : Sp := fun vs H Q E => spReadRow vs H Q E ∨ spReadRowN C vs H Q E
end
end Sw
namespace Sw
open PySem L2
def relab (f : Int → Int) (e : Int × Int) : Int → Int := fun x => if f x = f e.2 then f e.1 else f x
def labs (row : List (Int × Int)) : Int → Int := row.foldl relab id
def addC (f : Int → Int) (acc : List (Int × List Int)) (x : Int) : List (Int × List Int) :=
  if f x ∈ acc.map (·.1) then acc.map (fun p => if p.1 = f x then (p.1, p.2 ++ [x]) else p) else acc ++ [(f x, [x])]
def grp (f : Int → Int) (L : List Int) : List (Int × List Int) := L.foldl (addC f) []
def partsM (n : Int) (row : List (Int × Int)) : List (List Int) := (grp (labs row) (ivl 1 (n + 1))).map (·.2)
section
variable {f : Int → Int} {acc : List (Int × List Int)} {x k : Int} {ms : List Int} {j : Nat}
structure Grp (f : Int → Int) (L : List Int) (acc : List (Int × List Int)) : Prop where
  nd : (acc.map (·.1)).Nodup
  mem : ∀ p ∈ acc, p.2 = L.filter (fun y => decide (f y = p.1)) ∧ p.2 ≠ []
  all : ∀ y ∈ L, f y ∈ acc.map (·.1)
theorem Grp.nil : Grp f [] [] := ⟨List.nodup_nil, fun p hp => (by cases hp), fun y hy => (by cases hy)⟩
end
end Sw
namespace Sw
open PySem L2
section
variable {n : Int} {xs : List Int} {a b : Int}
def np (n : Int) (row : List (Int × Int)) : Nat := (partsM n row).length
end
end Sw
namespace Sw
open PySem L2
def Seat (tk : List Int) (c p : Int) : Prop := c ≤ p ∧ p ∉ tk ∧ ∀ q, c ≤ q → q < p → q ∈ tk
def Plc (cs ps : List Int) : Prop := ps.length = cs.length ∧ ∀ (i : Nat) (c p : Int), cs[i]? = some c → ps[i]? = some p → Seat (ps.take i) c p
theorem Plc.nil : Plc [] [] := ⟨rfl, fun i c p h => by simp at h⟩
end Sw
namespace Sw
open PySem L2
structure Nice (k : Nat) (d : PyData) : Prop where
  lay : d.canLay0 = true
  dp : d.depth ≤ k
end Sw
namespace Sw
open PySem L2
def up (es : List Int) (p : Int) : Int := if 0 < p then es.getD (p - 1).toNat 0 else p
def ups (es : List Int) : Nat → Int → Int
  | 0, p => p
  | k + 1, p => up es (ups es k p)
section
variable {es come : List Int} {p x y : Int}
structure Grown (es come : List Int) : Prop where
  z : come[0]? = some 0
  st : ∀ (j : Nat) (x : Int), 1 ≤ j → come[j]? = some x → 1 ≤ x ∧ ∃ (m : Nat) (y : Int), m < j ∧ come[m]? = some y ∧ es.getD (x - 1).toNat 0 = y
end
structure TreeM (n : Int) (es : List Int) : Prop where
  len : es.length = n.toNat
  ein : ∀ e ∈ es, 0 ≤ e ∧ e ≤ n
  home : ∀ p, 1 ≤ p → p ≤ n → ups es es.length p = 0
end Sw
namespace Sw
open PySem L2
structure OneR (n : Int) (xs : List Int) : Prop where
  ord : Ord n xs
  pos : 1 ≤ n
  all : ∀ x, 1 ≤ x → x ≤ n → x ∈ orb xs 1
def lab (f : Int → Int) (e : Int × Int) : Int × Int := (min (f e.1) (f e.2), max (f e.1) (f e.2))
def Inj (n : Int) (f : Int → Int) : Prop := ∀ x y, 1 ≤ x → x ≤ n → 1 ≤ y → y ≤ n → f x = f y → x = y
def el (es : List Int) (i : Nat) : Int := es.getD i 0
def tiesM (es : List Int) : List (Int × Int) := (List.range es.length).map fun i => (min (el es i + 1) ((i : Int) + 2), max (el es i + 1) ((i : Int) + 2))
structure Tied (es : List Int) (f : Int → Int) (row : List (Int × Int)) : Prop where
  tree : TreeM es.length es
  one : f 1 = 1
  inj : Inj ((es.length : Int) + 1) f
  rng : ∀ x, 1 ≤ x → x ≤ (es.length : Int) + 1 → 1 ≤ f x ∧ f x ≤ (es.length : Int) + 1
  row : row = (tiesM es).map (lab f)
inductive Grow (row : List (Int × Int)) : List (Int × Int) → Prop
  | base : Grow row [(1, 0)]
  | step {L : List (Int × Int)} {x y j : Int} {i : Nat} {e : Int × Int} : Grow row L → (y, j) ∈ L → row[i]? = some e → (e = (x, y) ∨ e = (y, x)) → x ∉ L.map (·.1) → Grow row (L ++ [(x, (i : Int) + 1)])
end Sw
namespace Sw
open PySem L2
def cn (A M : List Int) : Nat := (M.map fun x => A.count x).sum
structure PK (A L : List Int) : Prop where
  all : cn A L + 1 = L.length
  some_ : ∀ j, 1 ≤ j → j < L.length → j ≤ cn A (L.take j)
def Nx (L : List Int) (x y : Int) : Prop := ∃ i, L[i]? = some x ∧ (L[i + 1]? = some y ∨ (i + 1 = L.length ∧ L[0]? = some y))
structure Cut (n : Int) (A : List Int) (Ls : List (List Int)) (suf : List (Int × Int)) : Prop where
  uniq : ∀ L1 ∈ Ls, ∀ L2 ∈ Ls, ∀ x, x ∈ L1 → x ∈ L2 → L1 = L2
  cov : ∀ x, 1 ≤ x → x ≤ n → ∃ L ∈ Ls, x ∈ L
  inn : ∀ L ∈ Ls, ∀ x ∈ L, 1 ≤ x ∧ x ≤ n
  rise : ∀ L ∈ Ls, L.Pairwise (· < ·)
  pk : ∀ L ∈ Ls, PK A L
  nx : ∀ L ∈ Ls, ∀ x y, Nx L x y → go suf y = x % n + 1
end Sw
namespace Sw
open PySem L2
theorem sIx_in {n m : Nat} {a : Int} (h0 : 0 ≤ a) : HT.sIx n m (some a) = min a.toNat n := by
  show (if a < 0 then (a + (n : Int)).toNat else min a.toNat n) = _
  rw [if_neg (by omega)]
theorem cutT9 {xs : List V} {a : Int} (h0 : 0 ≤ a) (h : a ≤ xs.length) : cutV xs none (some a) = xs.take a.toNat := by
  have e : HT.sIx xs.length 0 none = 0 := rfl
  unfold cutV
  rw [e, sIx_in h0, List.drop_zero, Nat.sub_zero, Nat.min_eq_left (by omega)]
theorem cutD9 {xs : List V} {a : Int} (h0 : 0 ≤ a) (h : a ≤ xs.length) : cutV xs (some a) none = xs.drop a.toNat := by
  have e2 : HT.sIx xs.length xs.length none = xs.length := rfl
  unfold cutV
  rw [sIx_in h0, e2, Nat.min_eq_left (by omega), List.take_of_length_le (by rw [List.length_drop]; exact Nat.le_refl _)]
end Sw
namespace L2
open PySem PySem.Spec PyProof.Rows PySem.SeqAt
inductive NumEs (pr : Params) : List DictEntry → List (Str × Int) → Prop
  | nil : NumEs pr [] []
  | cons {x : Str} {y : Int} {t u : Tok} {es : List DictEntry} {ps : List (Str × Int)} : NumEs pr es ps → NumEs pr ({ hash := PyData.keyHash pr x, key := .str x t, val := .int y u } :: es) ((x, y) :: ps)
structure KNum (K : PySem.W.Frag) (pr : Params) (a : Addr) (ps : List (Str × Int)) : Prop where
  sys : (a == sysModules) = false
  nd : (ps.map (·.1)).Nodup
  ex : ∃ (es : List DictEntry) (ep : Nat), K.lookup a = some { cls := .type "dict", data := .dict es.toArray ep } ∧ NumEs pr es ps
end L2
namespace L2
open PySem PySem.Spec PyProof.Rows
def Up (l : List Nat) : Prop := l.Pairwise (· < ·)
def TUp (t : SetTable) : Prop := Up t.place.toList
end L2
namespace L2
open PySem PySem.Spec PyProof.Rows
structure TabOk (w : World) (t : SetTable) (n : Nat) : Prop where
  fits : t.fits n = true
  up : TUp t
  led : t.led = !(w.params.followText "set-order")
end L2
namespace L2
open PySem PySem.Spec PyProof.Rows
def keyI (e : Int × Value) : Int := match e.2 with | .int n _ => n | _ => 0
structure RelI (prog : Program) (w : World) (ns : List Int) (i : Nat) (es : Array (Int × Value)) (t : SetTable) : Prop where
  tab : TabOk w t es.size
  few : es.size ≤ i
  els : ElemsOf (intKind prog w) es.toList
  one : (es.toList.map keyI).Nodup
  mem : ∀ k, k ∈ es.toList.map keyI ↔ k ∈ ns.take i
end L2
namespace L2
open PySem PySem.Spec PyProof.Rows
section
variable {prog : Program} {w : World} {A : Around} {E : Value → Shared → Prop} {s : Shared} {W : Addr → List Int → Prop}
abbrev TupK (prog : Program) (w : World) (h : Heap) (ks : List Int) (a : Addr) : Prop := IsTupleKey (intKind prog w) h ks a
def hshT (ns : List Int) : Int := reduceHash (Builtin.Tuple.tupleHashOf (ns.map hashInt))
def hAt (ks : List (List Int)) (i : Nat) : Int := ((ks[i]?).map hshT).getD 0
def addP (ks : List (List Int)) (t : SetTable) (x : List Int) : Option (List (List Int) × SetTable) :=
  if t.gaveWay then none else
  match t.probe (hAt ks) (hshT x) (t.probeStart (hshT x)) with
  | some (.candidate _ i _) => if ks[i]? = some x then some (ks, t) else none
  | some (.empty j none) =>
    let kn := ks.take (t.put j).2 ++ x :: ks.drop (t.put j).2
    if (t.put j).1.fits (ks.length + 1) then
      if (t.put j).1.tooFull then
        if SetTable.sizeAbove (SetTable.grown (ks.length + 1)) ≤ 100000 then
          match (t.put j).1.relaid (kn.map hshT).toArray (SetTable.grown (ks.length + 1)) with
          | some (t2, o) => if (o.toList.filterMap (kn[·]?)).length = ks.length + 1 ∧ t2.fits (ks.length + 1) = true then some (o.toList.filterMap (kn[·]?), t2) else none
          | none => none
        else none
      else some (kn, (t.put j).1)
    else none
  | _ => none
def EsT (prog : Program) (w : World) (W : Addr → List Int → Prop) (h : Heap) (es : Array (Int × Value)) (ks : List (List Int)) : Prop := Paired (fun (e : Int × Value) (k : List Int) => e.1 = hshT k ∧ ∃ a, e.2 = .ref a ∧ TupK prog w h k a ∧ W a k) es.toList ks
end
end L2
namespace L2
open PySem PySem.Spec PyProof.Rows
section
variable {prog : Program} {w : World} {A : Around} {E : Value → Shared → Prop} {s : Shared} {W : Addr → List Int → Prop}
def simT (led : Bool) (xs : List (List Int)) : Option (List (List Int) × SetTable) := xs.foldlM (fun st x => addP st.1 st.2 x) ([], SetTable.fresh 0 0 led)
structure RelT (prog : Program) (w : World) (W : Addr → List Int → Prop) (h₀ : Heap) (led : Bool) (xs : List (List Int)) (i : Nat) (es : Array (Int × Value)) (t : SetTable) : Prop where
  ex : ∃ ks, EsT prog w W h₀ es ks ∧ t.fits ks.length = true ∧ ks.length ≤ i ∧ simT led (xs.take i) = some (ks, t)
end
end L2
namespace L2
open PySem PySem.Spec PyProof.Rows PySem.SeqAt
open PySem.AutoSeq1 (wpAny_loadPart')
open PySem.MeetsSeq PySem.MeetsSeq2 PySem.MeetsSeq3
def HdAt (h : Heap) (v : Value) (a : Int) : Prop := ∃ (l : Addr) (xs : Array Value) (n : Nat) (t : Tok), v = .ref l ∧ h.get? l = some { cls := .type "list", data := .seq xs n } ∧ xs[0]? = some (.int a t)
structure Rising (h : Heap) (vs : List Value) (hs : List Int) : Prop where
  len : hs.length = vs.length
  up : ∀ (i : Nat) (a c : Int), hs[i]? = some a → hs[i + 1]? = some c → a < c
  head : ∀ (i : Nat) (v : Value) (a : Int), vs[i]? = some v → hs[i]? = some a → HdAt h v a
end L2
namespace L2
open PySem PySem.W PyProof.Rows
section
variable {N : Nat} {rk : Nat → Int}
def KP (rk : Nat → Int) (p : Array Nat) (i : Nat) : Int := rk (p.getD i 0)
def Fal (rk : Nat → Int) (k : Nat) (p : Array Nat) : Prop := ∀ i j, i ≤ j → j < k → KP rk p j ≤ KP rk p i
structure DescOk (rk : Nat → Int) (p₀ p : Array Nat) (n q : Nat) : Prop where
  perm : p.Perm p₀
  size : p.size = p₀.size
  fal : Fal rk n p
  same : ∀ i, n - (q + 1) ≤ i → i < n → KP rk p i = KP rk p (n - 1)
  q1 : q + 1 ≤ n
end
end L2
namespace L2
open PySem PySem.Spec PyProof.Rows PySem.SeqAt
structure Hds (H : Hp) (vs : List V) (hs : List Int) : Prop where
  len : hs.length = vs.length
  up : ∀ (i : Nat) (a c : Int), hs[i]? = some a → hs[i + 1]? = some c → a < c
  head : ∀ (i : Nat) (v : V) (a : Int), vs[i]? = some v → hs[i]? = some a → ∃ (b : Addr) (ns : List Int), v = .ref b ∧ H b = some (.lst (ns.map V.int)) ∧ ns[0]? = some a
end L2
namespace L2
open PySem PySem.Spec PyProof.Rows
theorem gNJ {i : Nat} {v : V} {σ : St} {H : Hp} {k : St → Hp → Prop} (h : k (σ.set i (some v)) H) : gName i v σ H k := h
end L2
namespace L2
open PySem
mutual
theorem DT.imp {H : Hp} {P R : Addr → Prop} (k : ∀ a, P a → R a) : ∀ {v : V} {d : PyData}, DT H P v d → DT H R v d
  | _, _, .non => .non
  | _, _, .bl b => .bl b
  | _, _, .int i => .int i
  | _, _, .str x => .str x
  | _, _, .lst h p r => .lst h (k _ p) (DTs.imp k r)
  | _, _, .tup h p r => .tup h (k _ p) (DTs.imp k r)
theorem DTs.imp {H : Hp} {P R : Addr → Prop} (k : ∀ a, P a → R a) : ∀ {vs : List V} {ds : List PyData}, DTs H P vs ds → DTs H R vs ds
  | _, _, .nil => .nil
  | _, _, .cons h r => .cons (DT.imp k h) (DTs.imp k r)
end
mutual
theorem DT.alive {H : Hp} {P : Addr → Prop} : ∀ {v : V} {d : PyData}, DT H P v d → DT H (fun b => P b ∧ H b ≠ none) v d
  | _, _, .non => .non
  | _, _, .bl b => .bl b
  | _, _, .int i => .int i
  | _, _, .str x => .str x
  | _, _, .lst h p r => .lst h ⟨p, by rw [h]; intro z; cases z⟩ (DTs.alive r)
  | _, _, .tup h p r => .tup h ⟨p, by rw [h]; intro z; cases z⟩ (DTs.alive r)
theorem DTs.alive {H : Hp} {P : Addr → Prop} : ∀ {vs : List V} {ds : List PyData}, DTs H P vs ds → DTs H (fun b => P b ∧ H b ≠ none) vs ds
  | _, _, .nil => .nil
  | _, _, .cons h r => .cons (DT.alive h) (DTs.alive r)
end
theorem DTs.getD {H : Hp} {P : Addr → Prop} : ∀ {us : List V} {ds : List PyData} {i : Nat} {d : PyData}, DTs H P us ds → ds[i]? = some d → ∃ v, us[i]? = some v ∧ DT H P v d
  | _, _, i, _, .nil, e => by simp at e
  | _, _, 0, _, .cons h r, e => by injection e with e; subst e; exact ⟨_, rfl, h⟩
  | _, _, i + 1, _, .cons h r, e => r.getD e
theorem seq_byR {t u : TS} {D : Ends} {σ : St} {H : Hp} (R : St → Hp → Prop) (h1 : ∀ D' : Ends, (∀ σ' H', R σ' H' → D'.nx σ' H') → D'.rt = D.rt → t D' σ H) (h2 : ∀ σ' H', R σ' H' → u D σ' H') : tSeq t u D σ H := h1 _ h2 rfl
theorem at_refI {ws : List V} {i : Int} {v : V} (h0 : 0 ≤ i) (h : ws[i.toNat]? = some v) : atI ws i = some v := by
  have := atI_nat h
  rwa [Int.toNat_of_nonneg h0] at this
end L2
namespace Sw
open PySem L2
theorem eqE2 {K : PySem.W.Frag} {H : Hp} {l m : Addr} {vs ws : List V} {r q : List (Int × Int)} {Q : VK} (h1 : H l = some (.lst vs)) (x1 : Exs H vs r) (h2 : H m = some (.lst ws)) (x2 : Exs H ws q) (hq : Q (.bl (decide (r = q))) H) : rEqD K (.ref l) (.ref m) H Q := by
  obtain ⟨P, dx, dy, d1, d2, c1, c2, dd, e⟩ := eqR (K := K) (Q := fun v _ => v = .bl (!decide (r = q))) h1 x1 h2 x2 rfl
  refine ⟨P, dx, dy, d1, d2, c1, c2, dd, ?_⟩
  have : PyData.eqv dx dy = decide (r = q) := by
    injection e with e
    simpa using e
  rw [this]
  exact hq
theorem Exs.takeX {H : Hp} : ∀ {vs : List V} {r : List (Int × Int)} (k : Nat), Exs H vs r → Exs H (vs.take k) (r.take k)
  | _, _, 0, _ => .nil
  | _, _, _ + 1, .nil => .nil
  | _, _, k + 1, .cons h x => .cons h (x.takeX k)
theorem Exs.dropX {H : Hp} : ∀ {vs : List V} {r : List (Int × Int)} (k : Nat), Exs H vs r → Exs H (vs.drop k) (r.drop k)
  | _, _, 0, x => x
  | _, _, _ + 1, .nil => .nil
  | _, _, k + 1, .cons _ x => x.dropX k
theorem Exs.repX {H : Hp} {t : Addr} {a b : Int} (h : H t = some (.tup [.int a, .int b])) : ∀ k, Exs H (List.replicate k [V.ref t]).flatten (List.replicate k (a, b))
  | 0 => .nil
  | k + 1 => by rw [List.replicate_succ, List.replicate_succ, List.flatten_cons]; exact .cons h (Exs.repX h k)
theorem Purse.tupsX {H H' : Hp} {p : Addr} {c : Nat} (pu : Purse H p c) (s : SameX p H H') : ∀ b xs, H b = some (.tup xs) → H' b = some (.tup xs) := by
  obtain ⟨ys, e⟩ := pu.at
  exact SameX.tups s e
def SmX (row : List (Int × Int)) : Prop := ∀ e ∈ row, 0 ≤ e.1 ∧ 0 ≤ e.2 ∧ e.1 < 100 ∧ e.2 < 100
theorem rowT_lenX {row : List (Int × Int)} (h : SmX row) : (rowT row).length ≤ row.length * 6 + 4 := by
  unfold rowT
  split
  · rename_i z
    rw [z]; decide +kernel
  · have h1 := StrLaws.join_length_le (Str.ofString " ") (row.map exT)
    have h2 := StrLaws.sumLen_le (B := 5) (row.map exT) (fun y hy => by
      obtain ⟨⟨a, b⟩, he, rfl⟩ := List.mem_map.mp hy
      obtain ⟨a0, b0, a9, b9⟩ := h _ he
      unfold exT
      rw [Str.length_append, Str.length_append]
      have l1 : (numT a).length ≤ 2 := PyProof.Rows.toString_length_le a0 (by decide) (show a < 10 ^ 2 by omega)
      have l2 : (numT b).length ≤ 2 := PyProof.Rows.toString_length_le b0 (by decide) (show b < 10 ^ 2 by omega)
      have : (Str.ofString "-").length = 1 := by decide +kernel
      dsimp only
      omega)
    have h3 : (Str.ofString " ").length = 1 := by decide +kernel
    rw [List.length_map] at h1 h2
    rw [h3] at h1
    omega
def spLtx : Sp := fun vs H Q _ => ∃ (l : Addr) (es : List V) (row : List (Int × Int)), vs = [.ref l] ∧ H l = some (.lst es) ∧ Exs H es row ∧ row.length ≤ 70 ∧ SmX row ∧ ∀ H', Same H H' → Q (.str (rowT row)) H'
structure TLtx (mg : Str → Option Value) (K : PySem.W.Frag) : Prop extends T1 mg K where
  b_str : mg "str" = none
def OkTx (d : PyData) : Prop := (∃ x, d = .str x ∧ x.length ≤ 990) ∨ ((∀ x, d ≠ .str x) ∧ d.canLay0 = true ∧ d.depth ≤ 60)
def spOt72 : Sp := fun vs H Q _ => ∃ (p : Addr) (c : Nat) (n : Int) (l : Addr) (es : List V) (row : List (Int × Int)), vs = [.ref p, .int n, .ref l] ∧ Purse H p c ∧ c ≤ 90000 ∧ 1 ≤ n ∧ n ≤ 12 ∧ p ≠ l ∧ H l = some (.lst es) ∧ Exs H es row ∧ Good n row ∧ row.length ≤ 8 ∧
  ∀ v d H', DT H' (fun b => b ≠ p) v d → OkTx d → Purse H' p (c + 5) → SameX p H H' → Q v H'
structure TOt72 (P : Program) (w : World) (K : PySem.W.Frag) (mg : Str → Option Value) (base : Heap) : Prop extends T1 mg K where
  f__law_take : FnAt P w K mg base "_law_take" 1 ["_law_purse_here", "_law_many"] spTake
  f__law_text : FnAt P w K mg base "_law_text" 1 ["_law_row_here"] spLtx
section
variable {P : Program} {w : World} {K : PySem.W.Frag} {mg : Str → Option Value} {base : Heap}
theorem sc__law_text : FnScope ["_law_row_here"] ["_law_row_here"] (defScope (top 32)) := ⟨rfl, rfl, rfl, by decide +kernel, rfl, by decide +kernel, by decide +kernel⟩
theorem ok_ltx {f : Addr} {fd : FuncData} (F : Fun K "_law_text" "_law_text" (top 32) f fd) (T : TLtx mg K) : FnOk P w K mg base CX0 1 f fd ["_law_row_here"] spLtx := by
  refine F.ok sc__law_text (fun vs H Q E h => ?_) (fun cdv A outer s H vs Q E hr h => ?_)
  · obtain ⟨l, es, row, rfl, _⟩ := h
    rfl
  · obtain ⟨l, es, row, rfl, hl, hx, h60, hs, k⟩ := h
    refine ⟨_, (pss_cons (ps_if (pt_cmpR (op_eqD hr.units) (pv 0) (pe_lst pa_nil) (nomark _)) (pss_one (ps_ret pe_str)) pss_nil)
      (pss_one (ps_ret (pe_bmK (K := K) rfl PySem.F.plainAttrs_str PySem.F.slot_str_join PySem.F.type_str_join (mt_join (K := K) rfl) pe_str (pa_cons (pe_comp (N := (["_law_a", "_law_b"] : List Str)) (ix := ([none, none] : List (Option Nat))) (comp_ok rfl rfl) rfl (pi_listK (K := K) rfl (pv 0)) (fun _ _ _ _ => (pg_tupK (K := K) (n := 2) rfl rfl (pgs_cons (pg_name (i := 0) (show List.Nodup (["_law_a", "_law_b"] : List Str) from by decide +kernel) rfl (Or.inl rfl)) (pgs_cons (pg_name (i := 1) (show List.Nodup (["_law_a", "_law_b"] : List Str) from by decide +kernel) rfl (Or.inl rfl)) pgs_nil)))) (fun _ _ _ _ => pif_nil) (fun _ _ _ _ => (pe_op op_add_str (pe_op op_add_str (pe_callTy call_str_int rfl T.b_str (by decide +kernel) (pa_cons (pv 0) pa_nil)) pe_str) (pe_callTy call_str_int rfl T.b_str (by decide +kernel) (pa_cons (pv 1) pa_nil))))) pa_nil))))), ?_⟩
    have big : (10000000 : Nat) ≤ sizeLine := by decide
    have el := hx.length
    refine ⟨_, rfl, Nat.zero_le _, fun le fle => ?_⟩
    have s1 : Same H (upd H le (.lst [])) := Same.new fle
    refine eqE2 (s1 _ _ hl) (hx.keep (Same.tups s1)) (ws := []) (q := []) upd_same .nil ⟨_, rfl, ?_⟩
    generalize upd H le (.lst []) = H1 at s1 ⊢
    by_cases hz : row = []
    · subst hz
      exact iteP (decide_eq_true rfl) (k H1 s1)
    · refine iteE (decide_eq_false hz) ?_
      have rl := List.length_pos_iff.mpr hz
      have hl1 := s1 _ _ hl
      have hx1 := hx.keep (Same.tups s1)
      refine ⟨rfl, _, rfl, l, rfl, ⟨_, SqL.of hl1⟩, compLG (K := K) (a := l) (xs := es) (fun j ys σ' H' => ys = ((row.take j).map exT).map V.str ∧ (∃ v0 v1, σ' = [v0, v1]) ∧ H' = H1) (by omega) ⟨rfl, ⟨none, none, rfl⟩, rfl⟩ (fun j ys σ' H' _ q => by rw [q.2.2]; exact SqL.of hl1) (fun j ys σ' H' q => by rw [q.1, List.length_map, List.length_map, List.length_take]; omega) ?_ ?_⟩
      · rintro j ys σ' H' x R hx' ⟨rfl, ⟨v0, v1, rfl⟩, rfl⟩ done
        obtain ⟨t, b, c, rfl, ht, hr'⟩ := hx1.get hx'
        obtain ⟨a0, b0, a9, b9⟩ := hs (b, c) (List.mem_of_getElem? hr')
        dsimp only at a0 b0 a9 b9
        have al := num_len a0 (by omega)
        have bl := num_len b0 (by omega)
        have dl : (Str.ofString "-").length = 1 := by decide +kernel
        refine ⟨t, _, rfl, SqT.of ht, rfl, _, _, rfl, _, _, rfl, rfl, ?_⟩
        refine ⟨_, rfl, b, rfl, small_log a0 (by omega), _, _, rfl, rfl, (by show (numT b).length + (Str.ofString "-").length ≤ sizeLine; omega), _, rfl, c, rfl, small_log b0 (by omega), _, _, rfl, rfl, (by show (numT b ++ Str.ofString "-").length + (numT c).length ≤ sizeLine; rw [Str.length_append]; omega), ?_⟩
        refine done _ _ _ ⟨?_, ⟨_, _, rfl⟩, rfl⟩
        rw [take_succ_map exT hr', List.map_append]
        rfl
      · rintro ys σ' H' q ⟨rfl, ⟨v0, v1, rfl⟩, e0⟩ fq
        have e0 := e0.symm
        subst e0
        rw [List.take_of_length_le (by omega)]
        refine ⟨_, q, row.map exT, rfl, rfl, SqL.of upd_same, joinOk_small (B := 19) (by decide +kernel) (fun y hy => ?_) (by decide) (by rw [List.length_map]; omega), ?_⟩
        · obtain ⟨⟨b, c⟩, he, rfl⟩ := List.mem_map.mp hy
          obtain ⟨a0, b0, a9, b9⟩ := hs _ he
          exact exT_len a0 b0 (by omega) (by omega)
        · have kk := k _ (s1.trans (Same.new (o := .lst ((row.map exT).map V.str)) fq))
          unfold rowT at kk
          rw [if_neg (by omega)] at kk
          exact kk
theorem sc__law_other : FnScope ["_law_purse_here", "_law_n", "_law_row_here", "_law_sort", "_law_at", "_law_which", "_law_some", "_law_a", "_law_b"] ["_law_purse_here", "_law_n", "_law_row_here"] (defScope (top 33)) := ⟨rfl, rfl, rfl, by decide +kernel, rfl, by decide +kernel, by decide +kernel⟩
theorem ok_ot72 {f : Addr} {fd : FuncData} (F : Fun K "_law_other" "_law_other" (top 33) f fd) (T : TOt72 P w K mg base) : FnOk P w K mg base CX0 2 f fd ["_law_purse_here", "_law_n", "_law_row_here"] spOt72 := by
  refine F.ok sc__law_other (fun vs H Q E h => ?_) (fun cdv A outer s H vs Q E hr h => ?_)
  · obtain ⟨p, c, n, l, es, row, rfl, _⟩ := h
    rfl
  · obtain ⟨p, c, n, l, es, row, rfl, pu, hc, n1, n2, npl, hl, hx, hg, h8, k⟩ := h
    refine ⟨_, (@pss_cons _ _ _ _ _ (ps_set (i := 3) sc__law_other.nd rfl (Or.inl rfl) (pe_callF T.f__law_take (hr.mono (by first | decide | omega)) rfl (pa_cons (pv 0) (pa_cons pe_int pa_nil))))
      (@pss_cons _ _ _ _ _ (ps_set (i := 4) sc__law_other.nd rfl (Or.inl rfl) (pe_callF T.f__law_take (hr.mono (by first | decide | omega)) rfl (pa_cons (pv 0) (pa_cons (pe_op op_add (pe_callB (call_lenK (K := K) rfl) rfl T.b_len (by decide +kernel) (pa_cons (pv 2) pa_nil)) pe_int) pa_nil))))
      (@pss_cons _ _ _ _ _ (ps_set (i := 5) sc__law_other.nd rfl (Or.inl rfl) (pe_callF T.f__law_take (hr.mono (by first | decide | omega)) rfl (pa_cons (pv 0) (pa_cons pe_int pa_nil))))
      (@pss_cons _ _ _ _ _ (ps_if (pt_cmpR op_lt (pv 3) pe_int (nomark _)) (pss_cons (ps_set (i := 7) sc__law_other.nd rfl (Or.inl rfl) (pe_callF T.f__law_take (hr.mono (by first | decide | omega)) rfl (pa_cons (pv 0) (pa_cons (pe_op op_add (pv 1) pe_int) pa_nil))))
      (pss_cons (ps_set (i := 8) sc__law_other.nd rfl (Or.inl rfl) (pe_callF T.f__law_take (hr.mono (by first | decide | omega)) rfl (pa_cons (pv 0) (pa_cons (pe_op op_add (pv 1) pe_int) pa_nil))))
      (pss_one (ps_ret (pe_callF T.f__law_text (hr.mono (by first | decide | omega)) rfl (pa_cons (pe_op op_cat (pe_op op_cat (pe_slice (sl_listK (K := K) rfl) (pv 2) po_none (po_some (pv 4))) (pe_lst (pa_cons (pe_tup (pa_cons (pv 7) (pa_cons (pv 8) pa_nil))) pa_nil))) (pe_slice (sl_listK (K := K) rfl) (pv 2) (po_some (pv 4)) po_none)) pa_nil)))))) pss_nil)
      (@pss_cons _ _ _ _ _ (ps_if (pt_cmpR op_eq (pv 3) pe_int (nomark _)) (pss_one (ps_ret (pe_callF T.f__law_text (hr.mono (by first | decide | omega)) rfl (pa_cons (pe_slice (sl_listK (K := K) rfl) (pe_op op_cat (pv 2) (pe_op op_rep (pe_lst (pa_cons (pe_tup (pa_cons pe_int (pa_cons pe_int pa_nil))) pa_nil)) pe_int)) po_none (po_some (pe_op op_add pe_int (pe_op op_mod (pv 5) pe_int)))) pa_nil)))) pss_nil)
      (@pss_cons _ _ _ _ _ (@ps_set _ _ 6 _ _ _ _ sc__law_other.nd rfl (Or.inl rfl) (@pe_lst _ _ _ _ (@pa_cons _ _ _ _ _ pe_str (@pa_cons _ _ _ _ _ pe_str (@pa_cons _ _ _ _ _ pe_str (@pa_cons _ _ _ _ _ pe_str (@pa_cons _ _ _ _ _ pe_str (@pa_cons _ _ _ _ _ pe_str (@pa_cons _ _ _ _ _ pe_str (@pa_cons _ _ _ _ _ pe_str (@pa_cons _ _ _ _ _ pe_str (@pa_cons _ _ _ _ _ pe_str (@pa_cons _ _ _ _ _ pe_non (@pa_cons _ _ _ _ _ pe_int (@pa_cons _ _ _ _ _ (pe_lst (pa_cons pe_str pa_nil)) (@pa_cons _ _ _ _ _ pe_bl (@pa_cons _ _ _ _ _ (pe_lst (pa_cons (pe_tup (pa_cons pe_int (pa_cons pe_int pa_nil))) pa_nil)) (@pa_cons _ _ _ _ _ (pe_tup pa_nil) pa_nil st_tup) st_list) st_con) st_list) st_con) st_con) st_con) st_con) st_con) st_con) st_con) st_con) st_con) st_con) st_con) st_con)) (by rfl) (by first | exact .inl rfl | exact .inr rfl))
      (pss_one (ps_ret (pe_ix (ix_listK (K := K) rfl) (pv 6) (pv 5) (fun _ _ => rfl)))))))))), ?_⟩
    have big : (10000000 : Nat) ≤ sizeLine := by decide
    have el := hx.length
    have np : ∀ {b : Addr} {G : Hp} {c' : Nat}, Purse G p c' → G b = none → p ≠ b := fun q z => by obtain ⟨_, e⟩ := q.at; exact ne_of_none e z
    refine ⟨_, rfl, p, c, 4, rfl, pu, by omega, by decide, by decide, fun so H1 so0 so1 pu1 s1 => ?_⟩
    refine ⟨_, rfl, _, rfl, l, _, rfl, .inl (SqL.of (s1 _ _ npl.symm hl)), _, _, rfl, rfl, p, _, _, rfl, pu1, by omega, by omega, by omega, fun at_ H2 a0 a1 pu2 s2 => ?_⟩
    refine ⟨_, rfl, p, _, 16, rfl, pu2, by omega, by decide, by decide, fun wh H3 w0 w1 pu3 s3 => ?_⟩
    have s03 := s1.trans (s2.trans s3)
    have hl3 := s03 _ _ npl.symm hl
    have sX : SmX row := fun e he => by have := hg e he; omega
    have two : 2 ≤ sizeLine := by decide
    have one : 1 ≤ sizeLine := by decide
    have x3 := hx.keep (pu.tupsX s03)
    have okT : ∀ {y : Str}, y.length ≤ 990 → OkTx (.str y) := fun h => .inl ⟨_, rfl, h⟩
    refine ⟨_, rfl, _, _, rfl, rfl, _, rfl, ite2 (fun c => ?_) (fun c => ?_)⟩
    · refine ⟨_, rfl, _, rfl, _, _, rfl, rfl, p, _, _, rfl, pu3, by omega, by omega, by omega, fun a H4 b0 b1 pu4 s4 => ?_⟩
      refine ⟨_, rfl, _, rfl, _, _, rfl, rfl, p, _, _, rfl, pu4, by omega, by omega, by omega, fun b H5 c0 c1 pu5 s5 => ?_⟩
      have s05 := s03.trans (s4.trans s5)
      have hl5 := s05 _ _ npl.symm hl
      have x5 := hx.keep (pu.tupsX s05)
      refine ⟨_, rfl, _, rfl, at_, rfl, l, es, rfl, SqL.of hl5, fun q1 f1 => ?_⟩
      rw [cutT9 a0 (by omega)]
      have z1 : Same H5 (upd H5 q1 (.lst (es.take at_.toNat))) := Same.new f1
      have h1 : upd H5 q1 (.lst (es.take at_.toNat)) q1 = some (.lst (es.take at_.toNat)) := upd_same
      generalize upd H5 q1 (.lst (es.take at_.toNat)) = J1 at z1 h1 ⊢
      refine ⟨_, rfl, _, rfl, two, fun t ft => ⟨one, fun q2 f2 => ?_⟩⟩
      have z2 : Same J1 (upd (upd J1 t (.tup [.int a, .int b])) q2 (.lst [.ref t])) := (Same.new ft).trans (Same.new f2)
      have h2 : upd (upd J1 t (.tup [.int a, .int b])) q2 (.lst [.ref t]) q2 = some (.lst [.ref t]) := upd_same
      have ht2 : upd (upd J1 t (.tup [.int a, .int b])) q2 (.lst [.ref t]) t = some (.tup [.int a, .int b]) := Same.new f2 _ _ upd_same
      generalize upd (upd J1 t (.tup [.int a, .int b])) q2 (.lst [.ref t]) = J2 at z2 h2 ht2 ⊢
      have tl : (es.take at_.toNat).length ≤ es.length := by rw [List.length_take]; omega
      refine ⟨q1, q2, _, _, rfl, rfl, z2 _ _ h1, h2, by rw [List.length_singleton]; omega, fun q3 f3 => ?_⟩
      have z3 : Same J2 (upd J2 q3 (.lst (es.take at_.toNat ++ [.ref t]))) := Same.new f3
      have h3 : upd J2 q3 (.lst (es.take at_.toNat ++ [.ref t])) q3 = some (.lst (es.take at_.toNat ++ [.ref t])) := upd_same
      generalize upd J2 q3 (.lst (es.take at_.toNat ++ [.ref t])) = J3 at z3 h3 ⊢
      have z13 := z1.trans (z2.trans z3)
      refine ⟨_, rfl, _, rfl, at_, rfl, l, es, rfl, SqL.of (z13 _ _ hl5), fun q4 f4 => ?_⟩
      rw [cutD9 a0 (by omega)]
      have z4 : Same J3 (upd J3 q4 (.lst (es.drop at_.toNat))) := Same.new f4
      have h4 : upd J3 q4 (.lst (es.drop at_.toNat)) q4 = some (.lst (es.drop at_.toNat)) := upd_same
      generalize upd J3 q4 (.lst (es.drop at_.toNat)) = J4 at z4 h4 ⊢
      have dl : (es.drop at_.toNat).length ≤ es.length := by rw [List.length_drop]; omega
      refine ⟨q3, q4, _, _, rfl, rfl, z4 _ _ h3, h4, by rw [List.length_append, List.length_singleton]; omega, fun q5 f5 => ?_⟩
      have z5 : Same J4 (upd J4 q5 (.lst (es.take at_.toNat ++ [.ref t] ++ es.drop at_.toNat))) := Same.new f5
      have h5 : upd J4 q5 (.lst (es.take at_.toNat ++ [.ref t] ++ es.drop at_.toNat)) q5 = some (.lst (es.take at_.toNat ++ [.ref t] ++ es.drop at_.toNat)) := upd_same
      generalize upd J4 q5 (.lst (es.take at_.toNat ++ [.ref t] ++ es.drop at_.toNat)) = J5 at z5 h5 ⊢
      have z25 := z3.trans (z4.trans z5)
      have z15 := z1.trans (z2.trans z25)
      have xx := x5.keep (Same.tups z15)
      refine ⟨q5, _, row.take at_.toNat ++ [(a, b)] ++ row.drop at_.toNat, rfl, h5, ((xx.takeX _).append (.cons (z25 _ _ ht2) .nil)).append (xx.dropX _), ?_, ?_, fun H6 s6 => ?_⟩
      · rw [List.length_append, List.length_append, List.length_take, List.length_drop, List.length_singleton]; omega
      · intro e he
        rcases List.mem_append.mp he with he | he
        · rcases List.mem_append.mp he with he | he
          · exact sX e (List.mem_of_mem_take he)
          · rw [List.mem_singleton.mp he]; dsimp only; omega
        · exact sX e (List.mem_of_mem_drop he)
      · have z6 := z15.trans s6
        refine k _ _ _ (.str _) (okT ?_) ((pu5.keep z6).mono (by omega) (by omega)) (s05.trans z6.x)
        refine Nat.le_trans (rowT_lenX ?_) ?_
        · intro e he
          rcases List.mem_append.mp he with he | he
          · rcases List.mem_append.mp he with he | he
            · exact sX e (List.mem_of_mem_take he)
            · rw [List.mem_singleton.mp he]; dsimp only; omega
          · exact sX e (List.mem_of_mem_drop he)
        · rw [List.length_append, List.length_append, List.length_take, List.length_drop, List.length_singleton]; omega
    refine ⟨_, rfl, rfl, _, rfl, ite2 (fun c => ?_) (fun c => ?_)⟩
    · refine ⟨_, rfl, two, fun t ft => ⟨one, fun q1 f1 => ?_⟩⟩
      have z1 : Same H3 (upd (upd H3 t (.tup [.int 1, .int 2])) q1 (.lst [.ref t])) := (Same.new ft).trans (Same.new f1)
      have h1 : upd (upd H3 t (.tup [.int 1, .int 2])) q1 (.lst [.ref t]) q1 = some (.lst [.ref t]) := upd_same
      have ht1 : upd (upd H3 t (.tup [.int 1, .int 2])) q1 (.lst [.ref t]) t = some (.tup [.int 1, .int 2]) := Same.new f1 _ _ upd_same
      generalize upd (upd H3 t (.tup [.int 1, .int 2])) q1 (.lst [.ref t]) = J1 at z1 h1 ht1 ⊢
      refine ⟨q1, 62, _, rfl, rfl, h1, by decide, by decide, (by show 1 * 62 ≤ sizeLine; omega), fun q2 f2 => ?_⟩
      have z2 : Same J1 (upd J1 q2 (.lst (List.replicate 62 [V.ref t]).flatten)) := Same.new f2
      have h2 : upd J1 q2 (.lst (List.replicate 62 [V.ref t]).flatten) q2 = some (.lst (List.replicate 62 [V.ref t]).flatten) := upd_same
      show rCat _ _ (upd J1 q2 (.lst (List.replicate 62 [V.ref t]).flatten)) _
      generalize upd J1 q2 (.lst (List.replicate 62 [V.ref t]).flatten) = J2 at z2 h2 ⊢
      have rl : (List.replicate 62 [V.ref t]).flatten.length = 62 := len_rep _ _
      refine ⟨l, q2, _, _, rfl, rfl, (z1.trans z2) _ _ hl3, h2, by omega, fun q3 f3 => ?_⟩
      have z3 : Same J2 (upd J2 q3 (.lst (es ++ (List.replicate 62 [V.ref t]).flatten))) := Same.new f3
      have h3 : upd J2 q3 (.lst (es ++ (List.replicate 62 [V.ref t]).flatten)) q3 = some (.lst (es ++ (List.replicate 62 [V.ref t]).flatten)) := upd_same
      generalize upd J2 q3 (.lst (es ++ (List.replicate 62 [V.ref t]).flatten)) = J3 at z3 h3 ⊢
      have m0 := Int.emod_nonneg wh (show (4 : Int) ≠ 0 by decide)
      have m1 := Int.emod_lt_of_pos wh (show (0 : Int) < 4 by decide)
      refine ⟨_, rfl, _, _, rfl, rfl, (show (0 : Int) < 4 by decide), _, _, rfl, rfl, _, rfl, q3, _, rfl, SqL.of h3, fun q4 f4 => ?_⟩
      rw [cutT9 (by omega) (by rw [List.length_append, rl]; omega)]
      have z4 : Same J3 (upd J3 q4 (.lst ((es ++ (List.replicate 62 [V.ref t]).flatten).take (59 + wh % 4).toNat))) := Same.new f4
      have h4 : upd J3 q4 (.lst ((es ++ (List.replicate 62 [V.ref t]).flatten).take (59 + wh % 4).toNat)) q4 = some (.lst ((es ++ (List.replicate 62 [V.ref t]).flatten).take (59 + wh % 4).toNat)) := upd_same
      generalize upd J3 q4 (.lst ((es ++ (List.replicate 62 [V.ref t]).flatten).take (59 + wh % 4).toNat)) = J4 at z4 h4 ⊢
      have z24 := z2.trans (z3.trans z4)
      have z14 := z1.trans z24
      have xx := (x3.keep (Same.tups z14)).append (Exs.repX (z24 _ _ ht1) 62)
      have sY : SmX (row ++ List.replicate 62 ((1 : Int), (2 : Int))) := fun e he => by
        rcases List.mem_append.mp he with he | he
        · exact sX e he
        · rw [(List.mem_replicate.mp he).2]; decide
      have sZ : SmX ((row ++ List.replicate 62 ((1 : Int), (2 : Int))).take (59 + wh % 4).toNat) := fun e he => sY e (List.mem_of_mem_take he)
      have lZ : ((row ++ List.replicate 62 ((1 : Int), (2 : Int))).take (59 + wh % 4).toNat).length ≤ 62 := by rw [List.length_take]; omega
      refine ⟨q4, _, _, rfl, h4, xx.takeX _, by omega, sZ, fun H6 s6 => ?_⟩
      have z6 := z14.trans s6
      refine k _ _ _ (.str _) (okT ?_) ((pu3.keep z6).mono (by omega) (by omega)) (s03.trans z6.x)
      have := rowT_lenX sZ
      omega
    · refine ⟨one, fun q1 f1 => ⟨two, fun t ft => ⟨one, fun q2 f2 => ⟨Nat.zero_le _, fun q3 f3 => ⟨(by show 16 ≤ sizeLine; omega), fun lq fq => ?_⟩⟩⟩⟩⟩
      have nq1 : q1 ≠ p := (np pu3 f1).symm
      have e1 : Same H3 (upd H3 q1 (.lst [.str (Str.ofString "1-2")])) := Same.new f1
      have hq1 : upd H3 q1 (.lst [.str (Str.ofString "1-2")]) q1 = some (.lst [.str (Str.ofString "1-2")]) := upd_same
      generalize upd H3 q1 (.lst [.str (Str.ofString "1-2")]) = J1 at e1 hq1 ft f2 f3 fq ⊢
      have nt : t ≠ p := (np (pu3.keep e1) ft).symm
      have e2 : Same J1 (upd J1 t (.tup [.int 1, .int 2])) := Same.new ft
      have ht : upd J1 t (.tup [.int 1, .int 2]) t = some (.tup [.int 1, .int 2]) := upd_same
      generalize upd J1 t (.tup [.int 1, .int 2]) = J2 at e2 ht f2 f3 fq ⊢
      have nq2 : q2 ≠ p := (np ((pu3.keep e1).keep e2) f2).symm
      have e3 : Same J2 (upd J2 q2 (.lst [.ref t])) := Same.new f2
      have hq2 : upd J2 q2 (.lst [.ref t]) q2 = some (.lst [.ref t]) := upd_same
      generalize upd J2 q2 (.lst [.ref t]) = J3 at e3 hq2 f3 fq ⊢
      have nq3 : q3 ≠ p := (np (((pu3.keep e1).keep e2).keep e3) f3).symm
      have e4 : Same J3 (upd J3 q3 (.tup [])) := Same.new f3
      have hq3 : upd J3 q3 (.tup []) q3 = some (.tup []) := upd_same
      generalize upd J3 q3 (.tup []) = J4 at e4 hq3 fq ⊢
      have e5 : Same J4 (upd J4 lq (.lst [.str (Str.ofString ""), .str (Str.ofString " "), .str (Str.ofString "none none"), .str (Str.ofString "None"), .str (Str.ofString "1"), .str (Str.ofString "-"), .str (Str.ofString "1-"), .str (Str.ofString "-2"), .str (Str.ofString "1 - 2"), .str (Str.ofString "1-2-3"), .non, .int 12, .ref q1, .bl true, .ref q2, .ref q3])) := Same.new fq
      have hlq : upd J4 lq (.lst [.str (Str.ofString ""), .str (Str.ofString " "), .str (Str.ofString "none none"), .str (Str.ofString "None"), .str (Str.ofString "1"), .str (Str.ofString "-"), .str (Str.ofString "1-"), .str (Str.ofString "-2"), .str (Str.ofString "1 - 2"), .str (Str.ofString "1-2-3"), .non, .int 12, .ref q1, .bl true, .ref q2, .ref q3]) lq = some (.lst [.str (Str.ofString ""), .str (Str.ofString " "), .str (Str.ofString "none none"), .str (Str.ofString "None"), .str (Str.ofString "1"), .str (Str.ofString "-"), .str (Str.ofString "1-"), .str (Str.ofString "-2"), .str (Str.ofString "1 - 2"), .str (Str.ofString "1-2-3"), .non, .int 12, .ref q1, .bl true, .ref q2, .ref q3]) := upd_same
      generalize upd J4 lq (.lst [.str (Str.ofString ""), .str (Str.ofString " "), .str (Str.ofString "none none"), .str (Str.ofString "None"), .str (Str.ofString "1"), .str (Str.ofString "-"), .str (Str.ofString "1-"), .str (Str.ofString "-2"), .str (Str.ofString "1 - 2"), .str (Str.ofString "1-2-3"), .non, .int 12, .ref q1, .bl true, .ref q2, .ref q3]) = J5 at e5 hlq ⊢
      have e35 := e4.trans e5
      have e25 := e3.trans e35
      have e15 := e2.trans e25
      have z := e1.trans e15
      have hq1 := e15 _ _ hq1
      have ht := e25 _ _ ht
      have hq2 := e35 _ _ hq2
      have hq3 := e5 _ _ hq3
      have dts : DTs J5 (fun b => b ≠ p) [.str (Str.ofString ""), .str (Str.ofString " "), .str (Str.ofString "none none"), .str (Str.ofString "None"), .str (Str.ofString "1"), .str (Str.ofString "-"), .str (Str.ofString "1-"), .str (Str.ofString "-2"), .str (Str.ofString "1 - 2"), .str (Str.ofString "1-2-3"), .non, .int 12, .ref q1, .bl true, .ref q2, .ref q3] [.str (Str.ofString ""), .str (Str.ofString " "), .str (Str.ofString "none none"), .str (Str.ofString "None"), .str (Str.ofString "1"), .str (Str.ofString "-"), .str (Str.ofString "1-"), .str (Str.ofString "-2"), .str (Str.ofString "1 - 2"), .str (Str.ofString "1-2-3"), .none, .int 12, .list [.str (Str.ofString "1-2")], .bool true, .list [.tuple [.int 1, .int 2]], .tuple []] := (.cons (.str _) (.cons (.str _) (.cons (.str _) (.cons (.str _) (.cons (.str _) (.cons (.str _) (.cons (.str _) (.cons (.str _) (.cons (.str _) (.cons (.str _) (.cons .non (.cons (.int _) (.cons (.lst hq1 nq1 (.cons (.str _) .nil)) (.cons (.bl _) (.cons (.lst hq2 nq2 (.cons (.tup ht nt (.cons (.int _) (.cons (.int _) .nil))) .nil)) (.cons (.tup hq3 nq3 .nil) .nil))))))))))))))))
      have okd : ∀ d ∈ ([.str (Str.ofString ""), .str (Str.ofString " "), .str (Str.ofString "none none"), .str (Str.ofString "None"), .str (Str.ofString "1"), .str (Str.ofString "-"), .str (Str.ofString "1-"), .str (Str.ofString "-2"), .str (Str.ofString "1 - 2"), .str (Str.ofString "1-2-3"), .none, .int 12, .list [.str (Str.ofString "1-2")], .bool true, .list [.tuple [.int 1, .int 2]], .tuple []] : List PyData), OkTx d := by
        intro d hd
        simp only [List.mem_cons, List.not_mem_nil, or_false] at hd
        rcases hd with rfl | rfl | rfl | rfl | rfl | rfl | rfl | rfl | rfl | rfl | rfl | rfl | rfl | rfl | rfl | rfl
        all_goals first
          | exact .inl ⟨_, rfl, by decide +kernel⟩
          | exact .inr ⟨fun x z => (by cases z), (by decide +kernel), (by decide +kernel)⟩
      generalize ([.str (Str.ofString ""), .str (Str.ofString " "), .str (Str.ofString "none none"), .str (Str.ofString "None"), .str (Str.ofString "1"), .str (Str.ofString "-"), .str (Str.ofString "1-"), .str (Str.ofString "-2"), .str (Str.ofString "1 - 2"), .str (Str.ofString "1-2-3"), .none, .int 12, .list [.str (Str.ofString "1-2")], .bool true, .list [.tuple [.int 1, .int 2]], .tuple []] : List PyData) = ds at dts okd
      have dl := dts.length
      obtain ⟨v, hv, hd⟩ := dts.getD (i := wh.toNat) (List.getElem?_eq_getElem (by rw [← dl]; show wh.toNat < 16; omega))
      refine ⟨_, rfl, _, rfl, lq, _, wh, v, rfl, rfl, SqL.of hlq, at_refI w0 hv, ?_⟩
      exact k _ _ _ hd (okd _ (List.getElem_mem _)) ((pu3.keep z).mono (by omega) (by omega)) (s03.trans z.x)
end
end Sw
namespace L2
open PySem PySem.Spec PyProof.Rows
section
variable {X : Cx} {K : PySem.W.Frag}
def rIndexT : V → List V → Hp → VK → Prop := fun x vs H Q => ∃ (t : Addr) (ts : List Str) (w : Str) (j : Nat), x = .ref t ∧ vs = [.str w] ∧ H t = some (.lst (ts.map V.str)) ∧ ts[j]? = some w ∧ (∀ m, m < j → ts[m]? ≠ some w) ∧ Q (.int (j : Int)) H
theorem mt_indexT : MtR X "list.index" rIndexT := by
  intro pins s σ H x vs v us Q I rx rv h
  obtain ⟨l, ts, w, j, rfl, rfl, hH, hj, hno, q⟩ := h
  cases rx
  obtain ⟨u, rfl, ru⟩ := rv.one
  obtain ⟨tk, rfl⟩ := ru
  obtain ⟨z, its, n, r, hl, e⟩ := I.lstM hH
  have at_ : ∀ m (hm : m < its.toArray.size), ∃ (z : Str) (t : Tok), its.toArray[m] = .str z t ∧ ts[m]? = some z := fun m hm => by
    have hm1 : m < its.length := by simpa using hm
    have hm2 : m < (ts.map V.str).length := by have := r.length; omega
    obtain ⟨u, hu', ru⟩ := r.get (List.getElem?_eq_getElem hm2)
    rw [List.getElem?_eq_getElem hm1] at hu'
    have hm3 : m < ts.length := by rw [List.length_map] at hm2; exact hm2
    rw [List.getElem_map] at ru
    obtain ⟨t, ht⟩ := ru
    refine ⟨ts[m], t, ?_, List.getElem?_eq_getElem hm3⟩
    rw [List.getElem_toArray, Option.some.inj hu', ht]
  have jl : j < its.length := by
    have := r.length
    rw [List.length_map] at this
    have := (List.getElem?_eq_some_iff.mp hj).1
    omega
  have sz : its.length ≤ sizeLine := by omega
  refine call_meets F.slot_list_index ⟨_, e, rfl⟩ F.entry_list_index (F.args_list_index_2 _ _) (MeetsSeq.list_index l its.toArray n (.str w tk) (fun y => match y with | .str z _ => z.cps.toList == w.cps.toList | _ => false) (fun y hy => ?_) j (by simpa using jl) ?_ ?_ ?_) ⟨e, ?_⟩
  · obtain ⟨m, hm, rfl⟩ := Array.mem_iff_getElem.mp hy
    obtain ⟨z, tk', e1, e2⟩ := at_ m hm
    rw [e1]
    exact SeqRoads2.EqGives.str z w tk' tk
  · have : sizeLine < 2 ^ 63 - 1 := by decide
    omega
  · obtain ⟨z, tk', e1, e2⟩ := at_ j (by simpa using jl)
    rw [e1]
    rw [hj] at e2
    cases e2
    simp
  · intro m hm lt
    obtain ⟨z, tk', e1, e2⟩ := at_ m hm
    rw [e1]
    have := hno m lt
    rw [e2] at this
    exact beq_eq_false_iff_ne.mpr fun z' => this (by rw [Str.ext' (Array.toList_inj.mp z')])
  · exact ⟨.int (j : Int), H, I.tok _, ⟨_, rfl⟩, q⟩
def rPart : V → List V → Hp → VK → Prop := fun x vs H Q => ∃ (z y : Str), x = .str z ∧ vs = [.str y] ∧ (y.length == 0) = false ∧ z.length ≤ sizeLine ∧ ∀ l, H l = none → Q (.ref l) (upd H l (.tup [.str (Txt.partition z y).1, .str (Txt.partition z y).2.1, .str (Txt.partition z y).2.2]))
theorem mt_partition : MtR X "str.partition" rPart := by
  intro pins s σ H x vs v us Q I rx rv h
  obtain ⟨z, y, rfl, rfl, hy, hz, q⟩ := h
  obtain ⟨t, rfl⟩ := rx
  obtain ⟨u, rfl, t', rfl⟩ := rv.one
  have key : ∀ (a b c : Str) (ta tb tc : Tok) (tk : Nat), Txt.partition z y = (a, b, c) → EP X pins σ Q (.ref s.heap.objs.size) { s with toks := tk, heap := s.heap.push { cls := .type "tuple", data := .seq #[.str a ta, .str b tb, .str c tc] } } := fun a b c ta tb tc tk e => by
    rw [e] at q
    refine ⟨.ref s.heap.objs.size, _, I.laid (o := .tup [.str a, .str b, .str c]) (fun b o e => Heap.get?_push_of_some _ e) (Nat.le_refl _) ?_, rfl, q _ (I.hok.fresh (Nat.le_refl _))⟩
    exact ⟨(by show 3 ≤ sizeLine; decide), [.str a ta, .str b tb, .str c tc], Paired.cons ⟨_, rfl⟩ (Paired.cons ⟨_, rfl⟩ (Paired.cons ⟨_, rfl⟩ Paired.nil)), IsTup.new s.heap #[.str a ta, .str b tb, .str c tc]⟩
  refine call_meets F.slot_str_partition (typeIs_str _ _ _) F.entry_str_partition (F.args_str_partition_2 _ _) (meets_str_partition z y t t' hy hz) ?_
  cases ho : Builtin.Str.occurrences z y 0 z.length 1 with
  | nil => exact key _ _ _ _ _ _ _ (by unfold Txt.partition; rw [ho])
  | cons i tl => exact key _ _ _ _ _ _ _ (by unfold Txt.partition; rw [ho])
end
end L2
namespace Sw
open PySem L2 PyProof.Rows
theorem inV_str (x : Str) (ms : List Str) : inV (.str x) (ms.map V.str) = decide (x ∈ ms) := by
  unfold inV
  rw [List.any_map, Bool.eq_iff_iff, List.any_eq_true]
  simp only [decide_eq_true_eq]
  constructor
  · rintro ⟨y, hy, e⟩
    have e : eqV (.str y) (.str x) = true := e
    unfold eqV at e
    have : y = x := by simpa using e
    exact this ▸ hy
  · intro h
    refine ⟨x, h, ?_⟩
    show eqV (.str x) (.str x) = true
    unfold eqV
    simp
def wn (n : Int) : List Str := (ivl 1 (n + 1)).map numT
theorem flat_strs (ts : List Str) : (ts.map V.str).all flatV = true := by
  rw [List.all_map, List.all_eq_true]
  intro x _
  rfl
theorem wn_get {n : Int} {j : Nat} (h : (j : Int) < n) : (wn n)[j]? = some (numT (1 + j)) := by
  unfold wn
  rw [List.getElem?_map, get_ivl (by omega)]
  rfl
theorem wn_mem {n : Int} {w : Str} : w ∈ wn n ↔ ∃ a, 1 ≤ a ∧ a ≤ n ∧ w = numT a := by
  unfold wn
  rw [List.mem_map]
  constructor
  · rintro ⟨a, ha, rfl⟩
    have := mem_ivl.mp ha
    exact ⟨a, by omega, by omega, rfl⟩
  · rintro ⟨a, h1, h2, rfl⟩
    exact ⟨a, mem_ivl.mpr ⟨h1, by omega⟩, rfl⟩
theorem wn_at {n a : Int} (h1 : 1 ≤ a) (h2 : a ≤ n) (hn : n < 1000) : (wn n)[(a - 1).toNat]? = some (numT a) ∧ ∀ m, m < (a - 1).toNat → (wn n)[m]? ≠ some (numT a) := by
  constructor
  · rw [wn_get (by omega)]
    rw [show 1 + ((a - 1).toNat : Int) = a by omega]
  · intro m hm z
    rw [wn_get (by omega)] at z
    injection z with z
    have := num_inj (by omega) (by omega) (by omega) (by omega) z
    omega
theorem rowT_inj {n : Int} (hn : n < 1000) {r q : List (Int × Int)} (gr : Good n r) (gq : Good n q) (h : rowT r = rowT q) : r = q := by
  have b : ∀ {z : List (Int × Int)}, Good n z → ∀ e ∈ z, 0 ≤ e.1 ∧ 0 ≤ e.2 := fun g e he => by have := g e he; omega
  by_cases hr : r = []
  · by_cases hq : q = []
    · rw [hr, hq]
    · exact absurd (h.symm.trans (by rw [hr]; rfl)) (row_ne_none hq (b gq))
  · by_cases hq : q = []
    · exact absurd (h.trans (by rw [hq]; rfl)) (row_ne_none hr (b gr))
    · have e := rowT_split hr (b gr)
      rw [h, rowT_split hq (b gq)] at e
      clear h hr hq
      induction r generalizing q with
      | nil => cases q with
        | nil => rfl
        | cons _ _ => cases e
      | cons x r ih => cases q with
        | nil => cases e
        | cons y q =>
          rw [List.map_cons, List.map_cons] at e
          injection e with e1 e2
          have gx := gr x List.mem_cons_self
          have gy := gq y List.mem_cons_self
          have p := ex_part (a := y.1) (b := y.2) (by omega) (by omega)
          rw [show exT (y.1, y.2) = exT (x.1, x.2) from e1, ex_part (by omega) (by omega)] at p
          injection p with p1 p2
          injection p2 with _ p3
          rw [ih (fun e he => gr e (List.mem_cons_of_mem _ he)) (fun e he => gq e (List.mem_cons_of_mem _ he)) e2,
            Prod.ext (num_inj (by omega) (by omega) (by omega) (by omega) p1) (num_inj (by omega) (by omega) (by omega) (by omega) p3)]
end Sw
namespace Sw
open PySem L2
def spRd72 : Sp := fun vs H Q _ => ∃ (n : Int) (v : V) (d : PyData), vs = [.int n, v] ∧ 1 ≤ n ∧ n ≤ 12 ∧ DT H (fun _ => True) v d ∧ OkTx d ∧
  (∀ row, RowTx n d row → ∀ l es H', H l = none → H' l = some (.lst es) → Exs H' es row → Same H H' → Q (.ref l) H') ∧ ((∀ row, ¬ RowTx n d row) → ∀ H', Same H H' → Q .non H')
structure TRd72 (mg : Str → Option Value) (K : PySem.W.Frag) : Prop extends T1 mg K where
  b_str : mg "str" = none
theorem tC_go7 {v : V} {σ : St} {H : Hp} {Q : VK} (h : Q v H) : tC v σ H Q := h
section
variable {P : Program} {w : World} {K : PySem.W.Frag} {mg : Str → Option Value} {base : Heap}
theorem sc__law_read : FnScope ["_law_n", "_law_text_here", "_law_words", "_law_found", "_law_word", "_law_one", "_law_line", "_law_other_here"] ["_law_n", "_law_text_here"] (defScope (top 34)) := ⟨rfl, rfl, rfl, by decide +kernel, rfl, by decide +kernel, by decide +kernel⟩
theorem ok_rd72 {f : Addr} {fd : FuncData} (F : Fun K "_law_read" "_law_read" (top 34) f fd) (T : TRd72 mg K) : FnOk P w K mg base CX0 2 f fd ["_law_n", "_law_text_here"] spRd72 := by
  refine F.ok sc__law_read (fun vs H Q E h => ?_) (fun cdv A outer s H vs Q E hr h => ?_)
  · obtain ⟨n, v, d, rfl, _⟩ := h
    rfl
  · obtain ⟨n, v, d, rfl, n1, n2, hd, ok, kY, kN⟩ := h
    refine ⟨_, (pss_cons (ps_comp (i := 2) sc__law_read.nd rfl rfl (N := (["_law_k"] : List Str)) (ix := ([none] : List (Option Nat))) (comp_ok rfl rfl) rfl (pi_range2 rfl T.b_range (pa_cons pe_int (pa_cons (pe_op op_add (pv 0) pe_int) pa_nil))) (fun _ _ _ _ => (pg_name (i := 0) (show List.Nodup (["_law_k"] : List Str) from by decide +kernel) rfl (Or.inl rfl))) (fun _ _ _ _ => pif_nil) (fun _ _ _ _ => (pe_callTy call_str_int rfl T.b_str (by decide +kernel) (pa_cons (pv 0) pa_nil))))
      (pss_cons (ps_if (pt_cmpR (op_eq.or (op_eqD hr.units)) (pv 1) pe_str (nomark _)) (pss_one (ps_ret (pe_lst pa_nil))) pss_nil)
      (pss_cons (ps_if (PW.pt (pw_or (pt_not (pt_val (pe_callB (call_isiK (K := K) rfl) rfl T.b_isinstance (by decide +kernel) (pa_cons (pv 1) (pa_cons (pe_bltn (v := .ty "str") rfl T.b_str (by decide +kernel) rfl) pa_nil))))) (pw_or1 (pt_cmpR op_gt (pe_callB (call_lenK (K := K) rfl) rfl T.b_len (by decide +kernel) (pa_cons (pe_bmK (K := K) rfl PySem.F.plainAttrs_str PySem.F.slot_str_split PySem.F.type_str_split mt_split (pv 1) (pa_cons pe_str pa_nil)) pa_nil)) pe_int (nomark _))))) (pss_one (ps_ret pe_non)) pss_nil)
      (pss_cons (ps_set (i := 3) sc__law_read.nd rfl (Or.inl rfl) (pe_lst pa_nil))
      (pss_cons (ps_for PassesOwn.never rfl (pi_listK (K := K) rfl (pe_bmK (K := K) rfl PySem.F.plainAttrs_str PySem.F.slot_str_split PySem.F.type_str_split mt_split (pv 1) (pa_cons pe_str pa_nil))) (pg_name (i := 4) sc__law_read.nd rfl (Or.inl rfl)) (pss_cons (ps_asg (pe_bmK (K := K) rfl PySem.F.plainAttrs_str PySem.F.slot_str_partition PySem.F.type_str_partition mt_partition (pv 4) (pa_cons pe_str pa_nil)) (pg_tupK (K := K) (n := 3) rfl rfl (pgs_cons (pg_name (i := 5) sc__law_read.nd rfl (Or.inl rfl)) (pgs_cons (pg_name (i := 6) sc__law_read.nd rfl (Or.inl rfl)) (pgs_cons (pg_name (i := 7) sc__law_read.nd rfl (Or.inl rfl)) pgs_nil)))))
      (pss_cons (ps_if (PW.pt (pw_or (pt_cmpR (op_notInK (K := K) rfl) (pv 5) (pv 2) rfl) (pw_or (pt_cmpR (op_notInK (K := K) rfl) (pv 7) (pv 2) rfl) (pw_or1 (pt_cmpR op_ge (pe_bmK (K := K) rfl PySem.F.plainAttrs_list PySem.F.slot_list_index PySem.F.type_list_index mt_indexT (pv 2) (pa_cons (pv 5) pa_nil)) (pe_bmK (K := K) rfl PySem.F.plainAttrs_list PySem.F.slot_list_index PySem.F.type_list_index mt_indexT (pv 2) (pa_cons (pv 7) pa_nil)) (nomark _)))))) (pss_one (ps_ret pe_non)) pss_nil)
      (pss_one (ps_expr (pe_bmK (K := K) rfl PySem.F.plainAttrs_list PySem.F.slot_list_append PySem.F.type_list_append mt_append (pv 3) (pa_cons (pe_tup (pa_cons (pe_op op_add (pe_bmK (K := K) rfl PySem.F.plainAttrs_list PySem.F.slot_list_index PySem.F.type_list_index mt_indexT (pv 2) (pa_cons (pv 5) pa_nil)) pe_int) (pa_cons (pe_op op_add (pe_bmK (K := K) rfl PySem.F.plainAttrs_list PySem.F.slot_list_index PySem.F.type_list_index mt_indexT (pv 2) (pa_cons (pv 7) pa_nil)) pe_int) pa_nil))) pa_nil)))))))
      (pss_one (ps_ret (pv 3)))))))), ?_⟩
    have big : (10000000 : Nat) ≤ sizeLine := by decide
    have nofrm : ∀ x row, RowTx n (.str x) row → x ≠ Str.ofString "none" → Txt.split x (Str.ofString " ") = row.map exT ∧ Good n row ∧ row.length ≤ 60 := by
      rintro x row ⟨e, g, r60⟩ ne
      injection e with e
      subst e
      have nz : row ≠ [] := by intro z; subst z; exact ne rfl
      exact ⟨rowT_split nz fun e he => by have := g e he; omega, g, r60⟩
    refine ⟨_, rfl, _, _, rfl, rfl, 1, n + 1, rfl, ⟨by decide, by decide, by omega, by omega⟩, compR (k := 0) (fun i ys σ' H' => ys = (((ivl 1 (n + 1)).take i).map numT).map V.str ∧ (∃ v, σ' = [v]) ∧ H' = H) (by omega) ⟨rfl, ⟨none, rfl⟩, rfl⟩ (fun i ys σ' H' q => by rw [q.1, List.length_map, List.length_map, List.length_take]; omega) ?_ ?_⟩
    · rintro i ys σ' H' R hi ⟨rfl, ⟨v0, rfl⟩, rfl⟩ done
      refine ⟨_, rfl, 1 + (i : Int), rfl, small_log (by omega) (by omega), done _ _ _ ⟨?_, ⟨_, rfl⟩, rfl⟩⟩
      rw [take_succ_map numT (get_ivl (lo := 1) (hi := n + 1) (i := i) hi), List.map_append]
      rfl
    rintro ys σ' H' lw ⟨rfl, ⟨v0, rfl⟩, e0⟩ flw
    have e0 := e0.symm
    subst e0
    rw [List.take_of_length_le (by rw [ivl_length]; exact Nat.le_refl _)]
    rw [show (ivl 1 (n + 1)).map numT = wn n from rfl]
    have s1 : Same H (upd H lw (.lst ((wn n).map V.str))) := Same.new flw
    have hw1 : upd H lw (.lst ((wn n).map V.str)) lw = some (.lst ((wn n).map V.str)) := upd_same
    generalize upd H lw (.lst ((wn n).map V.str)) = H1 at s1 hw1 ⊢
    have hd1 := hd.keep fun b o _ e => s1 b o e
    by_cases hst : ∃ x, d = .str x
    case neg =>
      have no : ∀ row, ¬ RowTx n d row := fun row z => hst ⟨_, z.1⟩
      rcases ok with ⟨x, e, _⟩ | ⟨_, lay, dp⟩
      · exact absurd ⟨x, e⟩ hst
      refine ⟨_, rfl, .inr ⟨fun _ => True, d, .str (Str.ofString "none"), hd1.dat, .str _, lay, by decide +kernel, dp, _, rfl, iteE ?_ ?_⟩⟩
      · cases hd1 <;> first | rfl | exact absurd ⟨_, rfl⟩ hst
      refine ⟨_, rfl, _, _, "str", _, rfl, hd1.ty, kit_strX K hd1, _, rfl, ?_⟩
      cases hd1 <;> first | exact iteT (kN no H1 s1) | exact absurd ⟨_, rfl⟩ hst
    obtain ⟨x, rfl⟩ := hst
    cases hd1
    have xl : x.length ≤ 990 := by
      rcases ok with ⟨y, e, h⟩ | ⟨h, _⟩
      · injection e with e; rw [e]; exact h
      · exact absurd rfl (h x)
    refine ⟨_, rfl, .inl ⟨rfl, _, rfl, ite2 (fun c => ?_) (fun c => ?_)⟩⟩
    · have c : x = Str.ofString "none" := by
        have := of_decide_eq_true c
        injection this
      exact ⟨Nat.zero_le _, fun l hl => kY [] ⟨by rw [c]; rfl, fun e h => absurd h List.not_mem_nil, Nat.zero_le _⟩ l [] _ (s1.free hl) upd_same .nil (s1.trans (Same.new hl))⟩
    have nn : x ≠ Str.ofString "none" := by
      intro z
      exact c (decide_eq_true (by rw [z]))
    have nf := fun row z => nofrm x row z nn
    have wl := split_le x (Str.ofString " ")
    have wp : ∀ z ∈ Txt.split x (Str.ofString " "), z.length ≤ x.length := fun z hz => split_part_le hz
    have fin : ∀ row, Txt.split x (Str.ofString " ") = row.map exT → Good n row → row.length ≤ 60 → RowTx n (.str x) row := fun row e z z2 => ⟨by rw [row_of_words e], z, z2⟩
    refine ⟨_, rfl, _, _, "str", _, rfl, .str _, kit_self _ _, true, rfl, iteF ?_⟩
    refine ⟨_, rfl, rfl, _, _, rfl, rfl, by decide +kernel, by omega, fun l1 f1 => ⟨l1, _, rfl, .inl (SqL.of upd_same), _, _, rfl, rfl, _, rfl, ?_⟩⟩
    generalize hws : Txt.split x (Str.ofString " ") = ws at wl wp fin nf ⊢
    have s2 : Same H1 (upd H1 l1 (.lst (ws.map V.str))) := Same.new f1
    generalize upd H1 l1 (.lst (ws.map V.str)) = H2 at s2 ⊢
    refine ite2 (fun c => ?_) (fun c => ?_)
    · refine kN (fun row z => ?_) H2 (s1.trans s2)
      obtain ⟨e, g, r60⟩ := nf row z
      have c := of_decide_eq_true c
      rw [e, List.length_map, List.length_map] at c
      omega
    have w60 : ws.length ≤ 60 := by
      have : ¬ ((ws.map V.str).length : Int) > 60 := fun z => c (decide_eq_true z)
      rw [List.length_map] at this
      omega
    refine ⟨Nat.zero_le _, fun lf ff => ?_⟩
    have s3 : Same H2 (upd H2 lf (.lst [])) := Same.new ff
    have hf3 : upd H2 lf (.lst []) lf = some (.lst []) := upd_same
    have H2f : H2 lf = none := ff
    generalize upd H2 lf (.lst []) = H3 at s3 hf3 ⊢
    have hlf : H lf = none := (s1.trans s2).free H2f
    have b3 := s1.trans (s2.trans s3)
    refine ⟨_, rfl, rfl, _, _, rfl, rfl, by decide +kernel, by omega, fun l2 f2 => ⟨l2, rfl, ⟨_, SqL.of upd_same⟩, ?_⟩⟩
    rw [hws]
    have s4 : Same H3 (upd H3 l2 (.lst (ws.map V.str))) := Same.new f2
    have h4 : upd H3 l2 (.lst (ws.map V.str)) l2 = some (.lst (ws.map V.str)) := upd_same
    have n2 : l2 ≠ lf := fun z => by rw [z, hf3] at f2; cases f2
    generalize upd H3 l2 (.lst (ws.map V.str)) = H4 at s4 h4 ⊢
    have b4 := b3.trans s4
    have hw4 := s4 _ _ (s3 _ _ (s2 _ _ hw1))
    have nw : lw ≠ lf := fun z => by
      have := s2 _ _ hw1
      rw [z, H2f] at this; cases this
    have hf4 := s4 _ _ hf3
    have wll : (ws.map V.str).length = ws.length := by rw [List.length_map]
    have sm : ∀ {G : Hp}, SameX lf H4 G → Same H G := fun sx b o hb => sx b o (fun z => by rw [z, hlf] at hb; cases hb) (b4 b o hb)
    refine for_list (K := K) (a := l2) (xs := ws.map V.str) (fun i σ H' => ∃ v4 v5 v6 v7 es row, σ = [some (.int n), some (.str x), some (.ref lw), some (.ref lf), v4, v5, v6, v7] ∧ SameX lf H4 H' ∧ H' lf = some (.lst es) ∧ Exs H' es row ∧ Good n row ∧ row.length = i ∧ ws.take i = row.map exT) ⟨_, _, _, _, [], [], rfl, SameX.refl _ _, hf4, .nil, fun e h => absurd h List.not_mem_nil, rfl, rfl⟩ (fun i σ H' _ q => by
      obtain ⟨_, _, _, _, _, _, _, sx, _⟩ := q
      exact SqL.of (sx _ _ n2 h4)) ?_ ?_
    · rintro i z σ H5 hx ⟨v4, v5, v6, v7, es, row, rfl, sx, hf5, x5, g5, rl, tk⟩
      obtain ⟨wd, hwd, rfl⟩ : ∃ wd, ws[i]? = some wd ∧ V.str wd = z := by
        rw [List.getElem?_map] at hx
        cases e : ws[i]? with
        | none => rw [e] at hx; cases hx
        | some e' => rw [e] at hx; exact ⟨e', rfl, Option.some.inj hx⟩
      have wdl := wp wd (List.mem_of_getElem? hwd)
      have il := (List.getElem?_eq_some_iff.mp hwd).1
      have bad : ∀ (h : ∀ a b : Int, 1 ≤ a → a < b → b ≤ n → wd ≠ exT (a, b)), ∀ row, ¬ RowTx n (.str x) row := fun h row z => by
        obtain ⟨e, g, _⟩ := nf row z
        rw [e, List.getElem?_map] at hwd
        cases e2 : row[i]? with
        | none => rw [e2] at hwd; cases hwd
        | some p =>
          rw [e2] at hwd
          have gp := g p (List.mem_of_getElem? e2)
          exact h p.1 p.2 gp.1 gp.2.1 gp.2.2 (Option.some.inj hwd).symm
      refine ⟨_, rfl, rfl, _, _, rfl, rfl, by decide +kernel, by omega, fun t ft => ?_⟩
      have np : ∀ {a b : Int}, 1 ≤ a → 1 ≤ b → wd = exT (a, b) → (Txt.partition wd (Str.ofString "-")).1 = numT a ∧ (Txt.partition wd (Str.ofString "-")).2.2 = numT b := fun {a b} ha hb e => by rw [e, ex_part (by omega) (by omega)]; exact ⟨rfl, rfl⟩
      have pe := fun {a b : Int} (ha : 0 ≤ a) (hb : 0 ≤ b) => part_ex (w := wd) ha hb
      generalize Txt.partition wd (Str.ofString "-") = pr at np pe ft ⊢
      obtain ⟨w1, w2, w3⟩ := pr
      dsimp only at np pe ft ⊢
      have s6 : Same H5 (upd H5 t (.tup [.str w1, .str w2, .str w3])) := Same.new ft
      have ht6 : upd H5 t (.tup [.str w1, .str w2, .str w3]) t = some (.tup [.str w1, .str w2, .str w3]) := upd_same
      generalize upd H5 t (.tup [.str w1, .str w2, .str w3]) = H6 at s6 ht6 ⊢
      have sx6 := sx.trans s6.x
      have hw6 := s6 _ _ (sx _ _ nw hw4)
      have hf6 := s6 _ _ hf5
      refine ⟨t, _, rfl, SqT.of ht6, rfl, _, _, rfl, _, _, rfl, _, _, rfl, rfl, ?_⟩
      refine ⟨_, rfl, _, rfl, lw, _, rfl, .inl (SqL.of hw6), rfl, flat_strs _, _, rfl, ite2 (fun c => ?_) (fun c => ?_)⟩
      · refine kN (bad fun a b ha hab hb e => ?_) H6 (sm sx6)
        have := (np (by omega) (by omega) e).1
        rw [inV_str] at c
        have m : w1 ∈ wn n := wn_mem.mpr ⟨a, ha, by omega, this⟩
        rw [decide_eq_true m] at c
        exact absurd c (by decide)
      have m1 : w1 ∈ wn n := by
        rw [inV_str] at c
        by_cases m : w1 ∈ wn n
        · exact m
        · rw [decide_eq_false m] at c; exact absurd rfl c
      refine ⟨_, rfl, _, rfl, lw, _, rfl, .inl (SqL.of hw6), rfl, flat_strs _, _, rfl, ite2 (fun c => ?_) (fun c => ?_)⟩
      · refine kN (bad fun a b ha hab hb e => ?_) H6 (sm sx6)
        have := (np (by omega) (by omega) e).2
        rw [inV_str] at c
        have m : w3 ∈ wn n := wn_mem.mpr ⟨b, by omega, by omega, this⟩
        rw [decide_eq_true m] at c
        exact absurd c (by decide)
      have m3 : w3 ∈ wn n := by
        rw [inV_str] at c
        by_cases m : w3 ∈ wn n
        · exact m
        · rw [decide_eq_false m] at c; exact absurd rfl c
      obtain ⟨a, a1, a2, rfl⟩ := wn_mem.mp m1
      obtain ⟨b, b1, b2, rfl⟩ := wn_mem.mp m3
      obtain ⟨ja, na⟩ := wn_at a1 a2 (by omega)
      obtain ⟨jb, nb⟩ := wn_at b1 b2 (by omega)
      have ewd := pe (a := a) (b := b) (by omega) (by omega) rfl rfl
      refine ⟨_, rfl, .inl ⟨rfl, _, SqL.of hw6⟩, _, rfl, lw, _, _, _, rfl, rfl, hw6, ja, na, _, rfl, .inl ⟨rfl, _, SqL.of hw6⟩, _, rfl, lw, _, _, _, rfl, rfl, hw6, jb, nb, _, _, rfl, rfl, _, rfl, ite2 (fun c => ?_) (fun c => ?_)⟩
      · refine kN (bad fun a' b' ha hab hb e => ?_) H6 (sm sx6)
        obtain ⟨p1, p2⟩ := np (by omega) (by omega) e
        have e1 := num_inj (by omega) (by omega) (by omega) (by omega) p1
        have e2 := num_inj (by omega) (by omega) (by omega) (by omega) p2
        have c := of_decide_eq_true c
        omega
      have ab : a < b := by
        have c : ¬ (((a - 1).toNat : Int) ≥ ((b - 1).toNat : Int)) := fun z => c (decide_eq_true z)
        omega
      refine ⟨_, rfl, .inl ⟨rfl, _, SqL.of hf6⟩, _, rfl, .inl ⟨rfl, _, SqL.of hw6⟩, _, rfl, lw, _, _, _, rfl, rfl, hw6, ja, na, tC_go7 (add_at (show ((a - 1).toNat : Int) + 1 = a by omega) ⟨_, rfl, .inl ⟨rfl, _, SqL.of hw6⟩, _, rfl, lw, _, _, _, rfl, rfl, hw6, jb, nb, tC_go7 (add_at (show ((b - 1).toNat : Int) + 1 = b by omega) ⟨(by show 2 ≤ sizeLine; omega), fun tt ftt => ?_⟩)⟩)⟩
      have s7 : Same H6 (upd H6 tt (.tup [.int a, .int b])) := Same.new ftt
      have h7 : upd H6 tt (.tup [.int a, .int b]) tt = some (.tup [.int a, .int b]) := upd_same
      generalize upd H6 tt (.tup [.int a, .int b]) = H7 at s7 h7 ⊢
      have x7 := x5.keep (Same.tups (s6.trans s7))
      have hf7 := s7 _ _ hf6
      have el := x5.length
      refine ⟨lf, _, _, rfl, rfl, hf7, by omega, _, _, _, _, _, row ++ [(a, b)], rfl, sx6.trans (s7.x.trans SameX.upd), upd_same, ?_, ?_, by rw [List.length_append]; show _ + 1 = _; omega, ?_⟩
      · refine (x7.append (.cons h7 .nil)).keep fun c xs hc => ?_
        rw [upd_ne (fun z => by rw [z, hf7] at hc; cases hc)]
        exact hc
      · intro e he
        rcases List.mem_append.mp he with he | he
        · exact g5 e he
        · rw [List.mem_singleton.mp he]; exact ⟨a1, ab, b2⟩
      · rw [List.take_succ, hwd, tk, List.map_append, ewd]
        rfl
    · rintro σ H5 ⟨v4, v5, v6, v7, es, row, rfl, sx, hf5, x5, g5, rl, tk⟩
      rw [List.take_of_length_le (by omega)] at tk
      exact ⟨_, rfl, kY row (fin row tk g5 (by omega)) lf es H5 hlf hf5 x5 (sm sx)⟩
end
end Sw
namespace Sw
open PySem L2
structure ClsA where
  (Unlike NoRounds Apart NoMove NotLeast NotGreat NoTree NoCars NoChain NoBound NoText NoName StarError : Addr)
structure TCl (mg : Str → Option Value) (cl : ClsA) : Prop where
  c_Unlike : mg "Unlike" = some (.ref cl.Unlike)
  c_NoRounds : mg "NoRounds" = some (.ref cl.NoRounds)
  c_Apart : mg "Apart" = some (.ref cl.Apart)
  c_NoMove : mg "NoMove" = some (.ref cl.NoMove)
  c_NotLeast : mg "NotLeast" = some (.ref cl.NotLeast)
  c_NotGreat : mg "NotGreat" = some (.ref cl.NotGreat)
  c_NoTree : mg "NoTree" = some (.ref cl.NoTree)
  c_NoCars : mg "NoCars" = some (.ref cl.NoCars)
  c_NoChain : mg "NoChain" = some (.ref cl.NoChain)
  c_NoBound : mg "NoBound" = some (.ref cl.NoBound)
  c_NoText : mg "NoText" = some (.ref cl.NoText)
  c_NoName : mg "NoName" = some (.ref cl.NoName)
  c_StarError : mg "StarError" = some (.ref cl.StarError)
  b_isinstance : mg "isinstance" = none
  b_ValueError : mg "ValueError" = none
structure Alone (K : PySem.W.Frag) (cl : ClsA) (C : Addr) : Prop where
  ei : ExcI K C
  st : PySem.W.kitOne K (.ref C) (.ref cl.StarError) = some true
  ve : PySem.W.kitOne K (.ref C) (.type "ValueError") = some true
  bs : ∃ b1 b2 b3 b4 b5 b6 b7 b8 b9 b10 b11 b12, PySem.W.kitOne K (.ref C) (.ref cl.Unlike) = some b1 ∧ PySem.W.kitOne K (.ref C) (.ref cl.NoRounds) = some b2 ∧ PySem.W.kitOne K (.ref C) (.ref cl.Apart) = some b3 ∧
    PySem.W.kitOne K (.ref C) (.ref cl.NoMove) = some b4 ∧ PySem.W.kitOne K (.ref C) (.ref cl.NotLeast) = some b5 ∧ PySem.W.kitOne K (.ref C) (.ref cl.NotGreat) = some b6 ∧ PySem.W.kitOne K (.ref C) (.ref cl.NoTree) = some b7 ∧
    PySem.W.kitOne K (.ref C) (.ref cl.NoCars) = some b8 ∧ PySem.W.kitOne K (.ref C) (.ref cl.NoChain) = some b9 ∧ PySem.W.kitOne K (.ref C) (.ref cl.NoBound) = some b10 ∧ PySem.W.kitOne K (.ref C) (.ref cl.NoText) = some b11 ∧
    PySem.W.kitOne K (.ref C) (.ref cl.NoName) = some b12 ∧ [b1, b2, b3, b4, b5, b6, b7, b8, b9, b10, b11, b12].count true = 1
def spAlone (K : PySem.W.Frag) (cl : ClsA) : Sp := fun vs H Q _ => ∃ (e C : Addr), vs = [.ref e] ∧ H e = some (.exc e C) ∧ Alone K cl C ∧ ∀ H', Same H H' → Q (.bl true) H'
theorem ref_is {C : Addr} (u : Value) (r : RelV (.ref C) u) : u = .ref C := r
section
variable {P : Program} {w : World} {K : PySem.W.Frag} {mg : Str → Option Value} {base : Heap} {cl : ClsA}
theorem sc__law_alone : FnScope ["_law_e", "_law_some"] ["_law_e"] (defScope (top 31)) := ⟨rfl, rfl, rfl, by decide +kernel, rfl, by decide +kernel, by decide +kernel⟩
theorem ok_alone {f : Addr} {fd : FuncData} (F : Fun K "_law_alone" "_law_alone" (top 31) f fd) (T : TCl mg cl) : FnOkH P w K mg base 1 f fd ["_law_e"] (spAlone K cl) := by
  refine F.okH sc__law_alone (fun vs H Q E h => ?_) (fun cdv A outer s H vs Q E hr h => ?_)
  · obtain ⟨e, C, rfl, _⟩ := h
    rfl
  · obtain ⟨e, C, rfl, he, al, k⟩ := h
    obtain ⟨b1, b2, b3, b4, b5, b6, b7, b8, b9, b10, b11, b12, k1, k2, k3, k4, k5, k6, k7, k8, k9, k10, k11, k12, hc⟩ := al.bs
    refine ⟨_, (@pss_cons _ _ _ _ _ (@ps_set _ _ 1 _ _ _ _ sc__law_alone.nd rfl (Or.inl rfl) (@pe_lst _ _ _ _ (@pa_cons _ _ _ _ _ (pe_callB (call_isiX (K := K) rfl) rfl T.b_isinstance (by decide +kernel) (pa_cons (pv 0) (pa_cons (pe_cls rfl T.c_Unlike) pa_nil))) (@pa_cons _ _ _ _ _ (pe_callB (call_isiX (K := K) rfl) rfl T.b_isinstance (by decide +kernel) (pa_cons (pv 0) (pa_cons (pe_cls rfl T.c_NoRounds) pa_nil))) (@pa_cons _ _ _ _ _ (pe_callB (call_isiX (K := K) rfl) rfl T.b_isinstance (by decide +kernel) (pa_cons (pv 0) (pa_cons (pe_cls rfl T.c_Apart) pa_nil))) (@pa_cons _ _ _ _ _ (pe_callB (call_isiX (K := K) rfl) rfl T.b_isinstance (by decide +kernel) (pa_cons (pv 0) (pa_cons (pe_cls rfl T.c_NoMove) pa_nil))) pa_nil st_call) st_call) st_call) st_call)) (by rfl) (by first | exact .inl rfl | exact .inr rfl))
      (@pss_cons _ _ _ _ _ (@ps_set _ _ 1 _ _ _ _ sc__law_alone.nd rfl (Or.inl rfl) (pe_op op_cat (pv 1) (@pe_lst _ _ _ _ (@pa_cons _ _ _ _ _ (pe_callB (call_isiX (K := K) rfl) rfl T.b_isinstance (by decide +kernel) (pa_cons (pv 0) (pa_cons (pe_cls rfl T.c_NotLeast) pa_nil))) (@pa_cons _ _ _ _ _ (pe_callB (call_isiX (K := K) rfl) rfl T.b_isinstance (by decide +kernel) (pa_cons (pv 0) (pa_cons (pe_cls rfl T.c_NotGreat) pa_nil))) (@pa_cons _ _ _ _ _ (pe_callB (call_isiX (K := K) rfl) rfl T.b_isinstance (by decide +kernel) (pa_cons (pv 0) (pa_cons (pe_cls rfl T.c_NoTree) pa_nil))) (@pa_cons _ _ _ _ _ (pe_callB (call_isiX (K := K) rfl) rfl T.b_isinstance (by decide +kernel) (pa_cons (pv 0) (pa_cons (pe_cls rfl T.c_NoCars) pa_nil))) pa_nil st_call) st_call) st_call) st_call))) (by rfl) (by first | exact .inl rfl | exact .inr rfl))
      (@pss_cons _ _ _ _ _ (@ps_set _ _ 1 _ _ _ _ sc__law_alone.nd rfl (Or.inl rfl) (pe_op op_cat (pv 1) (@pe_lst _ _ _ _ (@pa_cons _ _ _ _ _ (pe_callB (call_isiX (K := K) rfl) rfl T.b_isinstance (by decide +kernel) (pa_cons (pv 0) (pa_cons (pe_cls rfl T.c_NoChain) pa_nil))) (@pa_cons _ _ _ _ _ (pe_callB (call_isiX (K := K) rfl) rfl T.b_isinstance (by decide +kernel) (pa_cons (pv 0) (pa_cons (pe_cls rfl T.c_NoBound) pa_nil))) (@pa_cons _ _ _ _ _ (pe_callB (call_isiX (K := K) rfl) rfl T.b_isinstance (by decide +kernel) (pa_cons (pv 0) (pa_cons (pe_cls rfl T.c_NoText) pa_nil))) (@pa_cons _ _ _ _ _ (pe_callB (call_isiX (K := K) rfl) rfl T.b_isinstance (by decide +kernel) (pa_cons (pv 0) (pa_cons (pe_cls rfl T.c_NoName) pa_nil))) pa_nil st_call) st_call) st_call) st_call))) (by rfl) (by first | exact .inl rfl | exact .inr rfl))
      (pss_one (ps_ret (pe_and (pe_cmpR op_eq (pe_bmK (K := K) rfl PySem.F.plainAttrs_list PySem.F.slot_list_count PySem.F.type_list_count (mt_countB (K := K) rfl) (pv 1) (pa_cons pe_bl pa_nil)) pe_int (nomark _)) (pe_and (pe_callB (call_isiX (K := K) rfl) rfl T.b_isinstance (by decide +kernel) (pa_cons (pv 0) (pa_cons (pe_cls rfl T.c_StarError) pa_nil))) (pe_one (pe_callB (call_isiX (K := K) rfl) rfl T.b_isinstance (by decide +kernel) (pa_cons (pv 0) (pa_cons (pe_bltn (v := .ty "ValueError") rfl T.b_ValueError (by decide +kernel) rfl) pa_nil))))))))))), ?_⟩
    refine ⟨_, rfl, e, C, _, _, _, rfl, he, al.ei, ref_is, k1, _, rfl, e, C, _, _, _, rfl, he, al.ei, ref_is, k2, _, rfl, e, C, _, _, _, rfl, he, al.ei, ref_is, k3, _, rfl, e, C, _, _, _, rfl, he, al.ei, ref_is, k4, (by show 4 ≤ sizeLine; decide), fun l1 f1 => ?_⟩
    have h1 := Same.new (o := .lst [.bl b1, .bl b2, .bl b3, .bl b4]) f1 _ _ he
    refine ⟨_, rfl, _, rfl, e, C, _, _, _, rfl, h1, al.ei, ref_is, k5, _, rfl, e, C, _, _, _, rfl, h1, al.ei, ref_is, k6, _, rfl, e, C, _, _, _, rfl, h1, al.ei, ref_is, k7, _, rfl, e, C, _, _, _, rfl, h1, al.ei, ref_is, k8, (by show 4 ≤ sizeLine; decide), fun l2 f2 => ?_⟩
    have s2 := (Same.new (o := .lst [.bl b1, .bl b2, .bl b3, .bl b4]) f1).trans (Same.new (o := .lst [.bl b5, .bl b6, .bl b7, .bl b8]) f2)
    have g1 := Same.new (o := .lst [.bl b5, .bl b6, .bl b7, .bl b8]) f2 _ _ (upd_same (H := H) (a := l1) (o := .lst [.bl b1, .bl b2, .bl b3, .bl b4]))
    refine ⟨l1, l2, _, _, rfl, rfl, g1, upd_same, (by show 8 ≤ sizeLine; decide), fun l3 f3 => ?_⟩
    have s3 := s2.trans (Same.new (o := .lst ([.bl b1, .bl b2, .bl b3, .bl b4] ++ [.bl b5, .bl b6, .bl b7, .bl b8])) f3)
    have h3 := s3 _ _ he
    have g3 : upd (upd (upd H l1 (.lst [.bl b1, .bl b2, .bl b3, .bl b4])) l2 (.lst [.bl b5, .bl b6, .bl b7, .bl b8])) l3 (.lst ([.bl b1, .bl b2, .bl b3, .bl b4] ++ [.bl b5, .bl b6, .bl b7, .bl b8])) l3 = some (.lst ([.bl b1, .bl b2, .bl b3, .bl b4] ++ [.bl b5, .bl b6, .bl b7, .bl b8])) := upd_same
    generalize upd (upd (upd H l1 (.lst [.bl b1, .bl b2, .bl b3, .bl b4])) l2 (.lst [.bl b5, .bl b6, .bl b7, .bl b8])) l3 (.lst ([.bl b1, .bl b2, .bl b3, .bl b4] ++ [.bl b5, .bl b6, .bl b7, .bl b8])) = H3 at s3 h3 g3 ⊢
    refine ⟨_, rfl, _, rfl, e, C, _, _, _, rfl, h3, al.ei, ref_is, k9, _, rfl, e, C, _, _, _, rfl, h3, al.ei, ref_is, k10, _, rfl, e, C, _, _, _, rfl, h3, al.ei, ref_is, k11, _, rfl, e, C, _, _, _, rfl, h3, al.ei, ref_is, k12, (by show 4 ≤ sizeLine; decide), fun l4 f4 => ?_⟩
    have g4 := Same.new (o := .lst [.bl b9, .bl b10, .bl b11, .bl b12]) f4 _ _ g3
    refine ⟨l3, l4, _, _, rfl, rfl, g4, upd_same, (by show 12 ≤ sizeLine; decide), fun l5 f5 => ?_⟩
    have s5 := s3.trans ((Same.new (o := .lst [.bl b9, .bl b10, .bl b11, .bl b12]) f4).trans (Same.new (o := .lst (([.bl b1, .bl b2, .bl b3, .bl b4] ++ [.bl b5, .bl b6, .bl b7, .bl b8]) ++ [.bl b9, .bl b10, .bl b11, .bl b12])) f5))
    have h5 := s5 _ _ he
    refine ⟨_, rfl, .inl ⟨rfl, _, SqL.of upd_same⟩, l5, [b1, b2, b3, b4, b5, b6, b7, b8, b9, b10, b11, b12], true, rfl, rfl, upd_same, rfl, true, ?_, iteT ?_⟩
    · rw [hc]
      rfl
    refine ⟨_, rfl, e, C, _, _, _, rfl, h5, al.ei, ref_is, al.st, true, rfl, iteT ?_⟩
    exact ⟨_, rfl, e, C, _, _, _, rfl, h5, al.ei, (fun u r => r), al.ve, k _ s5⟩
end
end Sw
namespace Sw
open PySem L2
def spTo72 : Sp := fun vs H Q _ => ∃ (n : Int) (v : V) (d : PyData), vs = [.int n, v] ∧ 1 ≤ n ∧ n ≤ 12 ∧ DT H (fun _ => True) v d ∧ OkTx d ∧
  (∀ row, RowTx n d row → ∀ l es H', H l = none → H' l = some (.lst es) → Exs H' es row → Same H H' → Q (.ref l) H') ∧ ((∀ row, ¬ RowTx n d row) → ∀ H', Same H H' → Q .non H')
structure TTo72 (P : Program) (w : World) (K : PySem.W.Frag) (mg : Str → Option Value) (base : Heap) (cl : ClsA) : Prop extends T1 mg K where
  c_NoText : mg "NoText" = some (.ref cl.NoText)
  c_StarError : mg "StarError" = some (.ref cl.StarError)
  f_read_row : FnAtX P w K mg base "read_row" 7 ["n", "text"] (spReadRowX cl.NoText)
  f__law_alone : FnAtH P w K mg base "_law_alone" 1 ["_law_e"] (spAlone K cl)
  al : Alone K cl cl.NoText
  e1 : ExcM K cl.NoText cl.NoText true
section
variable {P : Program} {w : World} {K : PySem.W.Frag} {mg : Str → Option Value} {base : Heap} {cl : ClsA}
theorem sc__law_told : FnScope ["_law_n", "_law_text_here", "_law_e", "_law_found"] ["_law_n", "_law_text_here"] (defScope (top 35)) := ⟨rfl, rfl, rfl, by decide +kernel, rfl, by decide +kernel, by decide +kernel⟩
theorem ok_to72 {f : Addr} {fd : FuncData} (F : Fun K "_law_told" "_law_told" (top 35) f fd) (T : TTo72 P w K mg base cl) : FnOk P w K mg base CX0 8 f fd ["_law_n", "_law_text_here"] spTo72 := by
  refine F.ok sc__law_told (fun vs H Q E h => ?_) (fun cdv A outer s H vs Q E hr h => ?_)
  · obtain ⟨n, v, d, rfl, _⟩ := h
    rfl
  · obtain ⟨n, v, d, rfl, n1, n2, hd, ok, kY, kN⟩ := h
    refine ⟨_, (pss_cons (ps_try (fun _ _ => (pss_one (ps_set (i := 3) sc__law_told.nd rfl (Or.inl rfl) (pe_callXT T.f_read_row (hr.mono (by decide)) rfl (pa_cons (pv 0) (pa_cons (pv 1) pa_nil)))))) (ph_consA (i := 2) sc__law_told.nd rfl rfl rfl T.c_NoText (fun _ => (pss_one (ps_ret (pe_ix (ix_listK (K := K) rfl) (pe_lst (pa_cons (pe_tup (pa_cons pe_str pa_nil)) (pa_cons pe_non pa_nil))) (pe_callTy call_int1 rfl T.b_int (by decide +kernel) (pa_cons (pe_callH T.f__law_alone ((hr.mark _).mono (by decide)) rfl (pa_cons (pv 2) pa_nil)) pa_nil)) (fun _ _ => rfl))))) (ph_cons rfl T.c_StarError (fun _ => (pss_one (ps_ret (pe_tup (pa_cons pe_str pa_nil))))) ph_nil)))
      (pss_one (ps_ret (pv 3)))), ?_⟩
    have one : 1 ≤ sizeLine := by decide
    have two : 2 ≤ sizeLine := by decide
    by_cases hh : ∃ row, RowTx n d row
    · obtain ⟨row, hr'⟩ := hh
      have kk := kY row hr'
      obtain ⟨rfl, g, r60⟩ := hr'
      cases hd
      refine ⟨_, rfl, _, rfl, .inl ⟨n, row, rfl, g, by omega, r60, fun l es H' hl h' x' s' => ?_⟩⟩
      exact ⟨_, rfl, kk l es H' hl h' x' s'⟩
    · have no : ∀ row, ¬ RowTx n d row := fun row z => hh ⟨row, z⟩
      refine ⟨_, rfl, _, rfl, .inr ⟨n, v, _, d, rfl, hd, fun x e => ?_, no, fun H' s' e he => ?_⟩⟩
      · rcases ok with ⟨y, e', h⟩ | ⟨h, _⟩
        · rw [e'] at e; injection e with e; rw [← e]; exact h
        · exact absurd e (h x)
      refine ⟨_, true, rfl, T.e1, iteT ?_⟩
      refine ⟨one, fun t ft => ⟨two, fun l fl => ⟨_, rfl, e, _, rfl, Same.new fl _ _ (Same.new ft _ _ upd_same), T.al, fun H2 s2 => .inr ⟨_, rfl, l, _, _, .non, rfl, rfl, SqL.of (s2 _ _ upd_same), rfl, ?_⟩⟩⟩⟩
      exact kN no H2 (s'.trans ((Same.new he).trans ((Same.new ft).trans ((Same.new fl).trans s2))))
end
end Sw
namespace Sw
open PySem L2 PyProof.Rows
theorem slc_hi (x : Str) (lo : Option Int) {j : Int} (h : 0 ≤ j) : Txt.slice x lo (some j) = Txt.slice x lo (some (min j (x.length : Int))) := by
  have e : Builtin.Str.strSliceIndices lo (some j) 1 x.length = Builtin.Str.strSliceIndices lo (some (min j (x.length : Int))) 1 x.length := by
    unfold Builtin.Str.strSliceIndices
    dsimp only
    rw [if_neg (by omega : ¬ j < 0), if_neg (by omega : ¬ min j (x.length : Int) < 0)]
    congr 1
    simp only [show (1 : Int) > 0 from by decide, if_true]
    omega
  unfold Txt.slice
  rw [e]
theorem slc_lo (x : Str) (hi : Option Int) {i : Int} (h : 0 ≤ i) : Txt.slice x (some i) hi = Txt.slice x (some (min i (x.length : Int))) hi := by
  have e : Builtin.Str.strSliceIndices (some i) hi 1 x.length = Builtin.Str.strSliceIndices (some (min i (x.length : Int))) hi 1 x.length := by
    unfold Builtin.Str.strSliceIndices
    dsimp only
    rw [if_neg (by omega : ¬ i < 0), if_neg (by omega : ¬ min i (x.length : Int) < 0)]
    congr 1
    simp only [show (1 : Int) > 0 from by decide, if_true]
    omega
  unfold Txt.slice
  rw [e]
theorem slc_to (x : Str) {j : Int} (h : 0 ≤ j) : signs (Txt.slice x none (some j)) = (signs x).take j.toNat := by
  have l := signs_len x
  rw [slc_hi x none h]
  show signs (StrLaws.sliceText x _ _) = _
  rw [StrLaws.sliceText_to ⟨by omega, by show _ ≤ ((signs x).length : Int); omega⟩]
  show List.take _ (List.drop 0 (signs x)) = _
  rw [List.drop_zero]
  by_cases c : j ≤ x.length
  · rw [Int.min_eq_left c, Int.sub_zero]
  · rw [Int.min_eq_right (by omega), List.take_of_length_le (by omega), List.take_of_length_le (by omega)]
theorem slc_from (x : Str) {i : Int} (h : 0 ≤ i) : signs (Txt.slice x (some i) none) = (signs x).drop i.toNat := by
  have l := signs_len x
  rw [slc_lo x none h]
  show signs (StrLaws.sliceText x _ _) = _
  rw [StrLaws.sliceText_from ⟨by omega, by show _ ≤ ((signs x).length : Int); omega⟩]
  show List.take ((((signs x).length : Nat) : Int) - _).toNat (List.drop _ (signs x)) = _
  by_cases c : i ≤ x.length
  · rw [Int.min_eq_left c, List.take_of_length_le (by rw [List.length_drop]; omega)]
  · rw [Int.min_eq_right (by omega), List.drop_eq_nil_of_le (by omega : (signs x).length ≤ i.toNat), List.drop_eq_nil_of_le (by omega), List.take_nil]
theorem slc_mid (x : Str) {i j : Int} (h : 0 ≤ i) (hj : i ≤ j) : signs (Txt.slice x (some i) (some j)) = ((signs x).drop i.toNat).take (j - i).toNat := by
  have l := signs_len x
  rw [slc_lo x _ h, slc_hi x _ (by omega)]
  show signs (StrLaws.sliceText x _ _) = _
  rw [StrLaws.sliceText_plain ⟨by omega, by omega, by show _ ≤ ((signs x).length : Int); omega⟩]
  show List.take _ (List.drop _ (signs x)) = _
  by_cases c : i ≤ x.length
  · rw [Int.min_eq_left c]
    by_cases d : j ≤ x.length
    · rw [Int.min_eq_left d]
    · rw [Int.min_eq_right (by omega), List.take_of_length_le (by rw [List.length_drop]; omega), List.take_of_length_le (by rw [List.length_drop]; omega)]
  · rw [Int.min_eq_right (by omega : (x.length : Int) ≤ i), List.drop_eq_nil_of_le (by omega : (signs x).length ≤ i.toNat), List.drop_eq_nil_of_le (by omega), List.take_nil, List.take_nil]
theorem slc_toL (x : Str) {j : Int} (h : 0 ≤ j) : (Txt.slice x none (some j)).length ≤ j.toNat := by
  rw [← signs_len, slc_to x h, List.length_take]; omega
theorem slc_fromL (x : Str) {i : Int} (h : 0 ≤ i) : (Txt.slice x (some i) none).length = x.length - i.toNat := by
  rw [← signs_len, slc_from x h, List.length_drop, signs_len]
theorem slc_midL (x : Str) {i j : Int} (h : 0 ≤ i) (hj : i ≤ j) : (Txt.slice x (some i) (some j)).length ≤ (j - i).toNat := by
  rw [← signs_len, slc_mid x h hj, List.length_take]; omega
end Sw
namespace Sw
open PySem L2
def spSpT : Sp := fun vs H Q _ => ∃ (p : Addr) (c : Nat) (x : Str), vs = [.ref p, .str x] ∧ Purse H p c ∧ c ≤ 90000 ∧ x.length ≤ 100000 ∧ ∀ (y : Str) H', y.length ≤ x.length + 3 → Purse H' p (c + 3) → SameX p H H' → Q (.str y) H'
structure TSpT (P : Program) (w : World) (K : PySem.W.Frag) (mg : Str → Option Value) (base : Heap) : Prop extends T1 mg K where
  f__law_take : FnAt P w K mg base "_law_take" 1 ["_law_purse_here", "_law_many"] spTake
section
variable {P : Program} {w : World} {K : PySem.W.Frag} {mg : Str → Option Value} {base : Heap}
theorem sign_at {r : Int} (h0 : 0 ≤ r) (h1 : r < 26) : ∃ c, atI (Str.ofString "0123456789()- /,.;noex+=*_").cps.toList r = some c := by
  have l : (Str.ofString "0123456789()- /,.;noex+=*_").cps.toList.length = 26 := by decide +kernel
  obtain ⟨k, rfl⟩ := Int.eq_ofNat_of_zero_le h0
  have hk : k < (Str.ofString "0123456789()- /,.;noex+=*_").cps.toList.length := by omega
  exact ⟨_, atI_nat (List.getElem?_eq_getElem hk)⟩
theorem sc__law_spoilt : FnScope ["_law_purse_here", "_law_text_here", "_law_sort", "_law_at", "_law_sign", "_law_turned"] ["_law_purse_here", "_law_text_here"] (defScope (top 30)) := ⟨rfl, rfl, rfl, by decide +kernel, rfl, by decide +kernel, by decide +kernel⟩
theorem ok_spT {f : Addr} {fd : FuncData} (F : Fun K "_law_spoilt" "_law_spoilt" (top 30) f fd) (T : TSpT P w K mg base) : FnOk P w K mg base CX0 2 f fd ["_law_purse_here", "_law_text_here"] spSpT := by
  refine F.ok sc__law_spoilt (fun vs H Q E h => ?_) (fun cdv A outer s H vs Q E hr h => ?_)
  · obtain ⟨p, c, x, rfl, _⟩ := h
    rfl
  · obtain ⟨p, c, x, rfl, pu, hc, xl, k⟩ := h
    refine ⟨_, (pss_cons (ps_set (i := 2) sc__law_spoilt.nd rfl (Or.inl rfl) (pe_callF T.f__law_take (hr.mono (by first | decide | omega)) rfl (pa_cons (pv 0) (pa_cons pe_int pa_nil))))
      (pss_cons (ps_set (i := 3) sc__law_spoilt.nd rfl (Or.inl rfl) (pe_callF T.f__law_take (hr.mono (by first | decide | omega)) rfl (pa_cons (pv 0) (pa_cons (pe_op op_add (pe_callB call_len_str rfl T.b_len (by decide +kernel) (pa_cons (pv 1) pa_nil)) pe_int) pa_nil))))
      (pss_cons (ps_set (i := 4) sc__law_spoilt.nd rfl (Or.inl rfl) (pe_ix ix_str pe_str (pe_callF T.f__law_take (hr.mono (by first | decide | omega)) rfl (pa_cons (pv 0) (pa_cons pe_int pa_nil))) (fun _ _ => rfl)))
      (pss_cons (ps_if (pt_cmpR op_eq (pv 2) pe_int (nomark _)) (pss_one (ps_ret (pe_op op_add_str (pe_op op_add_str (pe_slice sl_str (pv 1) po_none (po_some (pv 3))) (pv 4)) (pe_slice sl_str (pv 1) (po_some (pe_op op_add (pv 3) pe_int)) po_none)))) pss_nil)
      (pss_cons (ps_if (pt_cmpR op_eq (pv 2) pe_int (nomark _)) (pss_one (ps_ret (pe_op op_add_str (pe_op op_add_str (pe_slice sl_str (pv 1) po_none (po_some (pv 3))) (pv 4)) (pe_slice sl_str (pv 1) (po_some (pv 3)) po_none)))) pss_nil)
      (pss_cons (ps_if (pt_cmpR op_eq (pv 2) pe_int (nomark _)) (pss_one (ps_ret (pe_op op_add_str (pe_slice sl_str (pv 1) po_none (po_some (pv 3))) (pe_slice sl_str (pv 1) (po_some (pe_op op_add (pv 3) pe_int)) po_none)))) pss_nil)
      (pss_cons (ps_if (pt_cmpR op_eq (pv 2) pe_int (nomark _)) (pss_cons (ps_set (i := 5) sc__law_spoilt.nd rfl (Or.inl rfl) (pe_op op_add_str (pe_slice sl_str (pv 1) (po_some (pe_op op_add (pv 3) pe_int)) (po_some (pe_op op_add (pv 3) pe_int))) (pe_slice sl_str (pv 1) (po_some (pv 3)) (po_some (pe_op op_add (pv 3) pe_int)))))
      (pss_one (ps_ret (pe_op op_add_str (pe_op op_add_str (pe_slice sl_str (pv 1) po_none (po_some (pv 3))) (pv 5)) (pe_slice sl_str (pv 1) (po_some (pe_op op_add (pv 3) pe_int)) po_none))))) pss_nil)
      (pss_one (ps_ret (pe_op op_add_str (pe_op op_add_str (pe_slice sl_str (pv 1) po_none (po_some (pv 3))) (pe_slice sl_str (pv 1) (po_some (pv 3)) (po_some (pe_op op_add (pv 3) pe_int)))) (pe_slice sl_str (pv 1) (po_some (pv 3)) po_none))))))))))), ?_⟩
    have big : (10000000 : Nat) ≤ sizeLine := by decide
    refine ⟨_, rfl, p, c, 5, rfl, pu, by omega, by decide, by decide, fun so H1 so0 so1 pu1 s1 => ?_⟩
    refine ⟨_, rfl, _, rfl, _, rfl, by omega, _, _, rfl, rfl, p, _, _, rfl, pu1, by omega, by omega, by omega, fun at_ H2 a0 a1 pu2 s2 => ?_⟩
    refine ⟨_, rfl, p, _, 26, rfl, pu2, by omega, by decide, by decide, fun sg H3 g0 g1 pu3 s3 => ?_⟩
    obtain ⟨cc, hcc⟩ := sign_at g0 g1
    refine ⟨_, _, _, rfl, rfl, by decide +kernel, hcc, ?_⟩
    have s03 := s1.trans (s2.trans s3)
    have sl : ∀ lo hi, (Txt.slice x lo hi).length ≤ x.length := fun lo hi => Txt.slice_le _ _ _
    have toL : (Txt.slice x none (some at_)).length ≤ at_.toNat := slc_toL x a0
    have ccl : (⟨#[cc]⟩ : Str).length = 1 := rfl
    have f0 := slc_fromL x a0
    have f1 := slc_fromL x (i := at_ + 1) (by omega)
    have f2 := slc_fromL x (i := at_ + 2) (by omega)
    have m1 := slc_midL x (i := at_ + 1) (j := at_ + 2) (by omega) (by omega)
    have m0 := slc_midL x (i := at_) (j := at_ + 1) (by omega) (by omega)
    have m3 := slc_midL x (i := at_) (j := at_ + 3) (by omega) (by omega)
    have fin : ∀ y : Str, y.length ≤ x.length + 3 → Q (.str y) H3 := fun y hy => k y H3 hy pu3 s03
    refine ⟨_, rfl, rfl, _, rfl, ite2 (fun c => ?_) (fun c => ?_)⟩
    · refine ⟨_, rfl, _, rfl, at_, rfl, _, rfl, by omega, _, rfl, _, _, rfl, rfl, by omega, ?_⟩
      refine ⟨_, rfl, _, rfl, _, _, rfl, rfl, _, rfl, _, rfl, by omega, _, _, rfl, rfl, by rw [Str.length_append]; omega, fin _ ?_⟩
      rw [Str.length_append, Str.length_append]; omega
    refine ⟨_, rfl, rfl, _, rfl, ite2 (fun c => ?_) (fun c => ?_)⟩
    · refine ⟨_, rfl, _, rfl, at_, rfl, _, rfl, by omega, _, rfl, _, _, rfl, rfl, by omega, ?_⟩
      refine ⟨_, rfl, _, rfl, at_, rfl, _, rfl, by omega, _, _, rfl, rfl, by rw [Str.length_append]; omega, fin _ ?_⟩
      rw [Str.length_append, Str.length_append]; omega
    refine ⟨_, rfl, rfl, _, rfl, ite2 (fun c => ?_) (fun c => ?_)⟩
    · refine ⟨_, rfl, _, rfl, at_, rfl, _, rfl, by omega, ?_⟩
      refine ⟨_, rfl, _, rfl, _, _, rfl, rfl, _, rfl, _, rfl, by omega, _, _, rfl, rfl, by omega, fin _ ?_⟩
      rw [Str.length_append]; omega
    refine ⟨_, rfl, rfl, _, rfl, ite2 (fun c => ?_) (fun c => ?_)⟩
    · refine ⟨_, rfl, _, rfl, _, _, rfl, rfl, _, rfl, _, rfl, _, _, rfl, rfl, _, rfl, _, rfl, by omega, ?_⟩
      refine ⟨_, rfl, _, rfl, at_, rfl, _, rfl, _, _, rfl, rfl, _, rfl, _, rfl, by omega, _, _, rfl, rfl, by omega, ?_⟩
      obtain ⟨tu, htu⟩ : ∃ tu, Txt.slice x (some (at_ + 1)) (some (at_ + 2)) ++ Txt.slice x (some at_) (some (at_ + 1)) = tu := ⟨_, rfl⟩
      have tl := congrArg Str.length htu
      rw [Str.length_append] at tl
      rw [htu]
      refine ⟨_, rfl, _, rfl, at_, rfl, _, rfl, by omega, _, rfl, _, _, rfl, rfl, by omega, ?_⟩
      refine ⟨_, rfl, _, rfl, _, _, rfl, rfl, _, rfl, _, rfl, by omega, _, _, rfl, rfl, by rw [Str.length_append]; omega, fin _ ?_⟩
      rw [Str.length_append, Str.length_append]; omega
    · refine ⟨_, rfl, _, rfl, at_, rfl, _, rfl, by omega, ?_⟩
      refine ⟨_, rfl, _, rfl, at_, rfl, _, rfl, _, _, rfl, rfl, _, rfl, _, rfl, by omega, _, _, rfl, rfl, by omega, ?_⟩
      refine ⟨_, rfl, _, rfl, at_, rfl, _, rfl, by omega, _, _, rfl, rfl, by rw [Str.length_append]; omega, fin _ ?_⟩
      rw [Str.length_append, Str.length_append]; omega
end
end Sw
namespace Sw
open PySem L2
structure TL (P : Program) (w : World) (K : PySem.W.Frag) (mg : Str → Option Value) (base : Heap) : Prop extends T1 mg K where
  b_min : mg "min" = none
  b_max : mg "max" = none
  f__law_take : FnAt P w K mg base "_law_take" 1 ["_law_purse_here", "_law_many"] spTake
  f__law_purse : FnAt P w K mg base "_law_purse" 1 ["_law_script", "_law_at"] (spPurse K)
  f__law_row : FnAt P w K mg base "_law_row" 2 ["_law_purse_here", "_law_n", "_law_most"] spRow
  f__law_text : FnAt P w K mg base "_law_text" 1 ["_law_row_here"] spLtx
  f__law_other : FnAt P w K mg base "_law_other" 2 ["_law_purse_here", "_law_n", "_law_row_here"] spOt72
  f__law_spoilt : FnAt P w K mg base "_law_spoilt" 2 ["_law_purse_here", "_law_text_here"] spSpT
  f__law_told : FnAt P w K mg base "_law_told" 8 ["_law_n", "_law_text_here"] spTo72
  f__law_read : FnAt P w K mg base "_law_read" 2 ["_law_n", "_law_text_here"] spRd72
section
variable {P : Program} {w : World} {K : PySem.W.Frag} {mg : Str → Option Value} {base : Heap} {C : Addr}
theorem sc_law : FnScope ["_law_script", "_law_k", "_law_purse_here", "_law_n", "_law_row_here", "_law_text_here", "_law_turn"] ["_law_script"] (defScope (top 36)) := ⟨rfl, rfl, rfl, by decide +kernel, rfl, by decide +kernel, by decide +kernel⟩
theorem ok_law {f : Addr} {fd : FuncData} (F : Fun K "law" "law" (top 36) f fd) (T : TL P w K mg base) : FnOk P w K mg base CX0 9 f fd ["_law_script"] (spLaw K) := by
  refine F.ok sc_law (fun vs H Q E h => ?_) (fun cdv A outer s H vs Q E hr h => ?_)
  · obtain ⟨a, ns, rfl, _⟩ := h
    rfl
  · obtain ⟨a, ns, rfl, hS, hl, k⟩ := h
    refine ⟨_, (pss_cons (ps_for PassesOwn.never rfl (pi_range1 rfl T.b_range (pa_cons (pe_callB (call_max2 rfl) rfl T.b_max (by decide +kernel) (pa_cons pe_int (pa_cons (pe_callB (call_min2 rfl) rfl T.b_min (by decide +kernel) (pa_cons (pe_callB (call_lenK (K := K) rfl) rfl T.b_len (by decide +kernel) (pa_cons (pv 0) pa_nil)) (pa_cons pe_int pa_nil))) pa_nil))) pa_nil)) (pg_name (i := 1) sc_law.nd rfl (Or.inl rfl)) (pss_cons (ps_set (i := 2) sc_law.nd rfl (Or.inl rfl) (pe_callF T.f__law_purse (hr.mono (by first | decide | omega)) rfl (pa_cons (pv 0) (pa_cons (pv 1) pa_nil))))
      (pss_cons (ps_set (i := 3) sc_law.nd rfl (Or.inl rfl) (pe_op op_add pe_int (pe_callF T.f__law_take (hr.mono (by first | decide | omega)) rfl (pa_cons (pv 2) (pa_cons pe_int pa_nil)))))
      (pss_cons (ps_set (i := 4) sc_law.nd rfl (Or.inl rfl) (pe_callF T.f__law_row (hr.mono (by first | decide | omega)) rfl (@pa_cons _ _ _ _ _ (pv 2) (@pa_cons _ _ _ _ _ (pv 3) (@pa_cons _ _ _ _ _ pe_int pa_nil st_con) st_name) st_name)))
      (pss_cons (ps_set (i := 5) sc_law.nd rfl (Or.inl rfl) (pe_callF T.f__law_text (hr.mono (by first | decide | omega)) rfl (pa_cons (pv 4) pa_nil)))
      (pss_cons (ps_if (pt_cmpR op_eq (pe_callF T.f__law_take (hr.mono (by first | decide | omega)) rfl (pa_cons (pv 2) (pa_cons pe_int pa_nil))) pe_int (nomark _)) (pss_one (ps_set (i := 5) sc_law.nd rfl (Or.inl rfl) (pe_callF T.f__law_other (hr.mono (by first | decide | omega)) rfl (@pa_cons _ _ _ _ _ (pv 2) (@pa_cons _ _ _ _ _ (pv 3) (@pa_cons _ _ _ _ _ (pv 4) pa_nil st_name) st_name) st_name)))) (pss_one (ps_for PassesOwn.never rfl (pi_range1 rfl T.b_range (pa_cons (pe_op op_add pe_int (pe_callF T.f__law_take (hr.mono (by first | decide | omega)) rfl (pa_cons (pv 2) (pa_cons pe_int pa_nil)))) pa_nil)) (pg_name (i := 6) sc_law.nd rfl (Or.inl rfl)) (pss_one (ps_set (i := 5) sc_law.nd rfl (Or.inl rfl) (pe_callF T.f__law_spoilt (hr.mono (by first | decide | omega)) rfl (pa_cons (pv 2) (pa_cons (pv 5) pa_nil))))))))
      (pss_cons (ps_if (pt_cmpR op_eq (pe_callF T.f__law_take (hr.mono (by first | decide | omega)) rfl (pa_cons (pv 2) (pa_cons pe_int pa_nil))) pe_int (nomark _)) (pss_one (ps_set (i := 3) sc_law.nd rfl (Or.inl rfl) (pe_op op_add pe_int (pe_callF T.f__law_take (hr.mono (by first | decide | omega)) rfl (pa_cons (pv 2) (pa_cons (pv 3) pa_nil)))))) pss_nil)
      (pss_one (ps_if (pt_cmpR (op_ne.or (op_neD hr.units)) (pe_callF T.f__law_told (hr.mono (by first | decide | omega)) rfl (pa_cons (pv 3) (pa_cons (pv 5) pa_nil))) (pe_callF T.f__law_read (hr.mono (by first | decide | omega)) rfl (pa_cons (pv 3) (pa_cons (pv 5) pa_nil))) (nomark _)) (pss_one (ps_ret pe_bl)) pss_nil)))))))))
      (pss_one (ps_ret pe_bl))), ?_⟩
    have big : (10000000 : Nat) ≤ sizeLine := by decide
    refine ⟨_, rfl, a, _, rfl, .inl hS, _, _, rfl, _, _, rfl, _, rfl, ?b1, ?b2, ?_⟩
    case b1 => rw [List.length_map]; split <;> (try split) <;> omega
    case b2 => rw [List.length_map]; split <;> (try split) <;> omega
    refine for_range (fun i σ H' => (∃ v1 v2 v3 v4 v5 v6, σ = [some (.ref a), v1, v2, v3, v4, v5, v6]) ∧ Same H H') ⟨⟨_, _, _, _, _, _, rfl⟩, Same.refl _⟩ ?_ ?_
    · rintro i σ H0 hi ⟨⟨v1, v2, v3, v4, v5, v6, rfl⟩, s0⟩
      have hi : i < 1000 := by
        refine Nat.lt_of_lt_of_le hi ?_
        split <;> (try split) <;> omega
      refine ⟨_, rfl, _, rfl, a, ns, _, rfl, s0.seq hS, by omega, by omega, fun p H1 hp pu1 s1 => ?_⟩
      have np : H p = none := s0.free hp
      have a1 : Same H H1 := s0.trans s1
      refine ⟨_, rfl, p, 0, 12, rfl, pu1, by decide, by decide, by decide, fun r H2 r0 r1 pu2 s2 => ?_⟩
      have a2 := Same.of a1 np s2
      obtain ⟨n, hn⟩ : ∃ n : Int, 1 + r = n := ⟨_, rfl⟩
      refine add_at hn ?_
      have n1 : 1 ≤ n := by omega
      have n2 : n ≤ 12 := by omega
      refine ⟨_, rfl, _, rfl, p, 1, n, 8, rfl, pu2, by decide, by omega, by omega, by decide, by decide, fun lr er row H3 flr hlr xr hg rlen pu3 s3 => ?_⟩
      have a3 := Same.of a2 np s3
      have sm : SmX row := fun e he => by have := hg e he; omega
      refine ⟨_, rfl, lr, er, row, rfl, hlr, xr, by omega, sm, fun H4 s4 => ?_⟩
      have a4 := a3.trans s4
      have pu4 := pu3.keep s4
      have hlr4 := s4 _ _ hlr
      have xr4 := xr.keep (Same.tups s4)
      have tl : (rowT row).length ≤ 60 := by have := rowT_lenX sm; omega
      have npl : p ≠ lr := fun z => by rw [z] at pu2; obtain ⟨_, e⟩ := pu2.at; rw [flr] at e; cases e
      refine gNJ ?_
      dsimp only
      refine seq_byR (t := tIfS _ _ _) (fun σ' H' => ∃ v1 v6 v d c, σ' = [some (.ref a), v1, some (.ref p), some (.int n), some (.ref lr), some v, v6] ∧ DT H' (fun b => b ≠ p) v d ∧ OkTx d ∧ Purse H' p c ∧ c ≤ 1000 ∧ Same H H') (fun D' hD _ => ?_) ?_
      · refine ⟨_, rfl, p, _, 3, rfl, pu4, by omega, by decide, by decide, fun r3 H5 _ _ pu5 s5 => ⟨rfl, _, rfl, ite2 (fun c => ?_) (fun c => ?_)⟩⟩
        · refine ⟨_, rfl, _, rfl, _, rfl, p, _, n, lr, er, row, rfl, pu5, by omega, n1, n2, npl, s5 _ _ npl.symm hlr4, xr4.keep (pu4.tupsX s5), hg, by omega, fun v d H6 hd ok pu6 s6 => ?_⟩
          exact hD _ _ ⟨_, _, v, d, _, rfl, hd, ok, pu6, by omega, Same.of (Same.of a4 np s5) np s6⟩
        · refine ⟨_, rfl, p, _, 2, rfl, pu5, by omega, by decide, by decide, fun r4 H6 q0 q1 pu6 s6 => ?_⟩
          refine ⟨_, _, rfl, rfl, _, rfl, by omega, by omega, ?_⟩
          refine for_range (fun j σ' H' => ∃ v1 v6 y, σ' = [some (.ref a), v1, some (.ref p), some (.int n), some (.ref lr), some (.str y), v6] ∧ y.length ≤ 60 + 3 * j ∧ Purse H' p (400 + 3 * j) ∧ Same H H') ⟨_, _, _, rfl, by omega, pu6.mono (by omega) (by omega), Same.of (Same.of a4 np s5) np s6⟩ ?_ ?_
          · rintro j σ' H7 hj ⟨v1, v6, y, rfl, yl, pu7, s7⟩
            have hj : j < 2 := by omega
            refine ⟨_, rfl, _, rfl, p, _, y, rfl, pu7, by omega, by omega, fun y' H8 yl' pu8 s8 => ?_⟩
            exact ⟨_, _, y', rfl, by omega, pu8, Same.of s7 np s8⟩
          · rintro σ' H7 ⟨v1, v6, y, rfl, yl, pu7, s7⟩
            exact hD _ _ ⟨_, _, _, _, _, rfl, .str y, .inl ⟨y, rfl, by omega⟩, pu7, by omega, s7⟩
      rintro σ' H5 ⟨v1, v6, v, d, c, rfl, hd, ok, pu5, c1, a5⟩
      refine seq_byR (t := tIfS _ _ _) (fun σ' H' => ∃ m : Int, σ' = [some (.ref a), v1, some (.ref p), some (.int m), some (.ref lr), some v, v6] ∧ 1 ≤ m ∧ m ≤ 12 ∧ DT H' (fun b => b ≠ p) v d ∧ Same H H') (fun D' hD _ => ?_) ?_
      · have keepD : ∀ {G : Hp} {G2 : Hp}, DT G (fun b => b ≠ p) v d → SameX p G G2 → DT G2 (fun b => b ≠ p) v d := fun h q => h.keep fun b o n e => q b o n e
        refine ⟨_, rfl, p, _, 4, rfl, pu5, by omega, by decide, by decide, fun r5 H6 _ _ pu6 s6 => ⟨rfl, _, rfl, ite2 (fun c => ?_) (fun c => ?_)⟩⟩
        · refine ⟨_, rfl, _, rfl, p, _, n, rfl, pu6, by omega, by omega, by omega, fun r6 H7 e0 e1 pu7 s7 => ?_⟩
          refine add_at rfl ?_
          exact hD _ _ ⟨_, rfl, by omega, by omega, keepD (keepD hd s6) s7, Same.of (Same.of a5 np s6) np s7⟩
        · exact hD _ _ ⟨n, rfl, n1, n2, keepD hd s6, Same.of a5 np s6⟩
      rintro σ' H6 ⟨m, rfl, m1, m2, hd6, a6⟩
      have hd6 := hd6.imp (R := fun _ => True) fun _ _ => trivial
      by_cases hh : ∃ row, RowTx m d row
      · have no : ¬ ∀ row, ¬ RowTx m d row := fun z => by obtain ⟨row, h⟩ := hh; exact z row h
        refine ⟨_, rfl, _, rfl, m, v, d, rfl, m1, m2, hd6, ok, fun row1 t1 l1 e1 H7 f1 h1 x1 s7 => ?_, fun z => absurd z no⟩
        refine ⟨_, rfl, _, rfl, m, v, d, rfl, m1, m2, hd6.keep (fun b o _ e => s7 b o e), ok, fun row2 t2 l2 e2 H8 f2 h2 x2 s8 => ?_, fun z => absurd z no⟩
        have er : row1 = row2 := by
          obtain ⟨q1, q2, _⟩ := t1
          obtain ⟨q3, q4, _⟩ := t2
          rw [q1] at q3
          injection q3 with q3
          exact rowT_inj (by omega) q2 q4 q3
        subst er
        exact .inr (eqR (s8 _ _ h1) (x1.keep (Same.tups s8)) h2 x2 ⟨_, rfl, iteE (by rw [decide_eq_true rfl]; rfl) ⟨⟨_, _, _, _, _, _, rfl⟩, a6.trans (s7.trans s8)⟩⟩)
      · have no : ∀ row, ¬ RowTx m d row := fun row z => hh ⟨row, z⟩
        refine ⟨_, rfl, _, rfl, m, v, d, rfl, m1, m2, hd6, ok, fun row1 t1 => absurd t1 (no _), fun _ H7 s7 => ?_⟩
        refine ⟨_, rfl, _, rfl, m, v, d, rfl, m1, m2, hd6.keep (fun b o _ e => s7 b o e), ok, fun row2 t2 => absurd t2 (no _), fun _ H8 s8 => ?_⟩
        exact .inl ⟨rfl, _, rfl, iteE rfl ⟨⟨_, _, _, _, _, _, rfl⟩, a6.trans (s7.trans s8)⟩⟩
    · rintro σ H' _
      exact k H'
end
end Sw
namespace Sw
open PySem L2
theorem all_mk {l : PySem.W.OpenLaw} {w : World} {K : PySem.W.Frag} {h : Heap} {mg : Str → Option Value} {fa : Addr} {tk_MOST_EXCHANGES tk_MOST_FIGURES : Tok} (X : K.In h) (G : h.Ns mainGlobals mg) (hfa : mg "law" = some (.ref fa))
    {f0 : Addr} {od0 an0 : Option Addr} {sl0 : Array (Option Value)} {oc0 kV0 dc0 pm0 cd0 ct0 : Value}
    {f1 : Addr} {od1 an1 : Option Addr} {sl1 : Array (Option Value)} {oc1 kV1 dc1 pm1 cd1 ct1 : Value}
    {f2 : Addr} {od2 an2 : Option Addr} {sl2 : Array (Option Value)} {oc2 kV2 dc2 pm2 cd2 ct2 : Value}
    {f3 : Addr} {od3 an3 : Option Addr} {sl3 : Array (Option Value)} {oc3 kV3 dc3 pm3 cd3 ct3 : Value}
    {f4 : Addr} {od4 an4 : Option Addr} {sl4 : Array (Option Value)} {oc4 kV4 dc4 pm4 cd4 ct4 : Value}
    {f5 : Addr} {od5 an5 : Option Addr} {sl5 : Array (Option Value)} {oc5 kV5 dc5 pm5 cd5 ct5 : Value}
    {f6 : Addr} {od6 an6 : Option Addr} {sl6 : Array (Option Value)} {oc6 kV6 dc6 pm6 cd6 ct6 : Value}
    {f7 : Addr} {od7 an7 : Option Addr} {sl7 : Array (Option Value)} {oc7 kV7 dc7 pm7 cd7 ct7 : Value}
    {f8 : Addr} {od8 an8 : Option Addr} {sl8 : Array (Option Value)} {oc8 kV8 dc8 pm8 cd8 ct8 : Value}
    {f9 : Addr} {od9 an9 : Option Addr} {sl9 : Array (Option Value)} {oc9 kV9 dc9 pm9 cd9 ct9 : Value}
    {f10 : Addr} {od10 an10 : Option Addr} {sl10 : Array (Option Value)} {oc10 kV10 dc10 pm10 cd10 ct10 : Value}
    {f11 : Addr} {od11 an11 : Option Addr} {sl11 : Array (Option Value)} {oc11 kV11 dc11 pm11 cd11 ct11 : Value}
    {f12 : Addr} {od12 an12 : Option Addr} {sl12 : Array (Option Value)} {oc12 kV12 dc12 pm12 cd12 ct12 : Value}
    {f13 : Addr} {od13 an13 : Option Addr} {sl13 : Array (Option Value)} {oc13 kV13 dc13 pm13 cd13 ct13 : Value}
    {f14 : Addr} {od14 an14 : Option Addr} {sl14 : Array (Option Value)} {oc14 kV14 dc14 pm14 cd14 ct14 : Value}
    {f15 : Addr} {od15 an15 : Option Addr} {sl15 : Array (Option Value)} {oc15 kV15 dc15 pm15 cd15 ct15 : Value}
    {f16 : Addr} {od16 an16 : Option Addr} {sl16 : Array (Option Value)} {oc16 kV16 dc16 pm16 cd16 ct16 : Value}
    (a0 : PySem.W.nsIn K mainGlobals "is_whole" = some (some (.ref f0))) (l0 : K.lookup f0 = some ⟨oc0, od0, .func (PySem.W.fnOf "is_whole" "is_whole" (defArgs (top 15)) (defBody (top 15)) (defScope (top 15)) .none kV0 dc0 pm0 an0 cd0 ct0), sl0⟩) (c0 : PySem.W.codeIn K cd0 "is_whole" = true) (k0 : PySem.W.keepIn K (.ref f0) = true)
    (a1 : PySem.W.nsIn K mainGlobals "is_between" = some (some (.ref f1))) (l1 : K.lookup f1 = some ⟨oc1, od1, .func (PySem.W.fnOf "is_between" "is_between" (defArgs (top 16)) (defBody (top 16)) (defScope (top 16)) .none kV1 dc1 pm1 an1 cd1 ct1), sl1⟩) (c1 : PySem.W.codeIn K cd1 "is_between" = true) (k1 : PySem.W.keepIn K (.ref f1) = true)
    (a2 : PySem.W.nsIn K mainGlobals "is_exchange" = some (some (.ref f2))) (l2 : K.lookup f2 = some ⟨oc2, od2, .func (PySem.W.fnOf "is_exchange" "is_exchange" (defArgs (top 19)) (defBody (top 19)) (defScope (top 19)) .none kV2 dc2 pm2 an2 cd2 ct2), sl2⟩) (c2 : PySem.W.codeIn K cd2 "is_exchange" = true) (k2 : PySem.W.keepIn K (.ref f2) = true)
    (a3 : PySem.W.nsIn K mainGlobals "is_row" = some (some (.ref f3))) (l3 : K.lookup f3 = some ⟨oc3, od3, .func (PySem.W.fnOf "is_row" "is_row" (defArgs (top 20)) (defBody (top 20)) (defScope (top 20)) .none kV3 dc3 pm3 an3 cd3 ct3), sl3⟩) (c3 : PySem.W.codeIn K cd3 "is_row" = true) (k3 : PySem.W.keepIn K (.ref f3) = true)
    (a4 : PySem.W.nsIn K mainGlobals "check_text" = some (some (.ref f4))) (l4 : K.lookup f4 = some ⟨oc4, od4, .func (PySem.W.fnOf "check_text" "check_text" (defArgs (top 23)) (defBody (top 23)) (defScope (top 23)) .none kV4 dc4 pm4 an4 cd4 ct4), sl4⟩) (c4 : PySem.W.codeIn K cd4 "check_text" = true) (k4 : PySem.W.keepIn K (.ref f4) = true)
    (a5 : PySem.W.nsIn K mainGlobals "read_number" = some (some (.ref f5))) (l5 : K.lookup f5 = some ⟨oc5, od5, .func (PySem.W.fnOf "read_number" "read_number" (defArgs (top 24)) (defBody (top 24)) (defScope (top 24)) .none kV5 dc5 pm5 an5 cd5 ct5), sl5⟩) (c5 : PySem.W.codeIn K cd5 "read_number" = true) (k5 : PySem.W.keepIn K (.ref f5) = true)
    (a6 : PySem.W.nsIn K mainGlobals "read_row" = some (some (.ref f6))) (l6 : K.lookup f6 = some ⟨oc6, od6, .func (PySem.W.fnOf "read_row" "read_row" (defArgs (top 25)) (defBody (top 25)) (defScope (top 25)) .none kV6 dc6 pm6 an6 cd6 ct6), sl6⟩) (c6 : PySem.W.codeIn K cd6 "read_row" = true) (k6 : PySem.W.keepIn K (.ref f6) = true)
    (a7 : PySem.W.nsIn K mainGlobals "_law_purse" = some (some (.ref f7))) (l7 : K.lookup f7 = some ⟨oc7, od7, .func (PySem.W.fnOf "_law_purse" "_law_purse" (defArgs (top 27)) (defBody (top 27)) (defScope (top 27)) .none kV7 dc7 pm7 an7 cd7 ct7), sl7⟩) (c7 : PySem.W.codeIn K cd7 "_law_purse" = true) (k7 : PySem.W.keepIn K (.ref f7) = true)
    (a8 : PySem.W.nsIn K mainGlobals "_law_take" = some (some (.ref f8))) (l8 : K.lookup f8 = some ⟨oc8, od8, .func (PySem.W.fnOf "_law_take" "_law_take" (defArgs (top 28)) (defBody (top 28)) (defScope (top 28)) .none kV8 dc8 pm8 an8 cd8 ct8), sl8⟩) (c8 : PySem.W.codeIn K cd8 "_law_take" = true) (k8 : PySem.W.keepIn K (.ref f8) = true)
    (a9 : PySem.W.nsIn K mainGlobals "_law_row" = some (some (.ref f9))) (l9 : K.lookup f9 = some ⟨oc9, od9, .func (PySem.W.fnOf "_law_row" "_law_row" (defArgs (top 29)) (defBody (top 29)) (defScope (top 29)) .none kV9 dc9 pm9 an9 cd9 ct9), sl9⟩) (c9 : PySem.W.codeIn K cd9 "_law_row" = true) (k9 : PySem.W.keepIn K (.ref f9) = true)
    (a10 : PySem.W.nsIn K mainGlobals "_law_spoilt" = some (some (.ref f10))) (l10 : K.lookup f10 = some ⟨oc10, od10, .func (PySem.W.fnOf "_law_spoilt" "_law_spoilt" (defArgs (top 30)) (defBody (top 30)) (defScope (top 30)) .none kV10 dc10 pm10 an10 cd10 ct10), sl10⟩) (c10 : PySem.W.codeIn K cd10 "_law_spoilt" = true) (k10 : PySem.W.keepIn K (.ref f10) = true)
    (a11 : PySem.W.nsIn K mainGlobals "_law_alone" = some (some (.ref f11))) (l11 : K.lookup f11 = some ⟨oc11, od11, .func (PySem.W.fnOf "_law_alone" "_law_alone" (defArgs (top 31)) (defBody (top 31)) (defScope (top 31)) .none kV11 dc11 pm11 an11 cd11 ct11), sl11⟩) (c11 : PySem.W.codeIn K cd11 "_law_alone" = true) (k11 : PySem.W.keepIn K (.ref f11) = true)
    (a12 : PySem.W.nsIn K mainGlobals "_law_text" = some (some (.ref f12))) (l12 : K.lookup f12 = some ⟨oc12, od12, .func (PySem.W.fnOf "_law_text" "_law_text" (defArgs (top 32)) (defBody (top 32)) (defScope (top 32)) .none kV12 dc12 pm12 an12 cd12 ct12), sl12⟩) (c12 : PySem.W.codeIn K cd12 "_law_text" = true) (k12 : PySem.W.keepIn K (.ref f12) = true)
    (a13 : PySem.W.nsIn K mainGlobals "_law_other" = some (some (.ref f13))) (l13 : K.lookup f13 = some ⟨oc13, od13, .func (PySem.W.fnOf "_law_other" "_law_other" (defArgs (top 33)) (defBody (top 33)) (defScope (top 33)) .none kV13 dc13 pm13 an13 cd13 ct13), sl13⟩) (c13 : PySem.W.codeIn K cd13 "_law_other" = true) (k13 : PySem.W.keepIn K (.ref f13) = true)
    (a14 : PySem.W.nsIn K mainGlobals "_law_read" = some (some (.ref f14))) (l14 : K.lookup f14 = some ⟨oc14, od14, .func (PySem.W.fnOf "_law_read" "_law_read" (defArgs (top 34)) (defBody (top 34)) (defScope (top 34)) .none kV14 dc14 pm14 an14 cd14 ct14), sl14⟩) (c14 : PySem.W.codeIn K cd14 "_law_read" = true) (k14 : PySem.W.keepIn K (.ref f14) = true)
    (a15 : PySem.W.nsIn K mainGlobals "_law_told" = some (some (.ref f15))) (l15 : K.lookup f15 = some ⟨oc15, od15, .func (PySem.W.fnOf "_law_told" "_law_told" (defArgs (top 35)) (defBody (top 35)) (defScope (top 35)) .none kV15 dc15 pm15 an15 cd15 ct15), sl15⟩) (c15 : PySem.W.codeIn K cd15 "_law_told" = true) (k15 : PySem.W.keepIn K (.ref f15) = true)
    (a16 : PySem.W.nsIn K mainGlobals "law" = some (some (.ref f16))) (l16 : K.lookup f16 = some ⟨oc16, od16, .func (PySem.W.fnOf "law" "law" (defArgs (top 36)) (defBody (top 36)) (defScope (top 36)) .none kV16 dc16 pm16 an16 cd16 ct16), sl16⟩) (c16 : PySem.W.codeIn K cd16 "law" = true) (k16 : PySem.W.keepIn K (.ref f16) = true)
    (z_len : PySem.W.nsIn K mainGlobals "len" = some none)
    (z_abs : PySem.W.nsIn K mainGlobals "abs" = some none)
    (z_int : PySem.W.nsIn K mainGlobals "int" = some none)
    (z_all : PySem.W.nsIn K mainGlobals "all" = some none)
    (z_isinstance : PySem.W.nsIn K mainGlobals "isinstance" = some none)
    (z_bool : PySem.W.nsIn K mainGlobals "bool" = some none)
    (z_tuple : PySem.W.nsIn K mainGlobals "tuple" = some none)
    (z_list : PySem.W.nsIn K mainGlobals "list" = some none)
    (z_range : PySem.W.nsIn K mainGlobals "range" = some none)
    (z_min : PySem.W.nsIn K mainGlobals "min" = some none)
    (z_max : PySem.W.nsIn K mainGlobals "max" = some none)
    (z_str : PySem.W.nsIn K mainGlobals "str" = some none)
    (z_ValueError : PySem.W.nsIn K mainGlobals "ValueError" = some none)
    {C_Unlike C_NoRounds C_Apart C_NoMove C_NotLeast C_NotGreat C_NoTree C_NoCars C_NoChain C_NoBound C_NoText C_NoName C_StarError : Addr}
    (ac_Unlike : PySem.W.nsIn K mainGlobals "Unlike" = some (some (.ref C_Unlike)))
    (ac_NoRounds : PySem.W.nsIn K mainGlobals "NoRounds" = some (some (.ref C_NoRounds)))
    (ac_Apart : PySem.W.nsIn K mainGlobals "Apart" = some (some (.ref C_Apart)))
    (ac_NoMove : PySem.W.nsIn K mainGlobals "NoMove" = some (some (.ref C_NoMove)))
    (ac_NotLeast : PySem.W.nsIn K mainGlobals "NotLeast" = some (some (.ref C_NotLeast)))
    (ac_NotGreat : PySem.W.nsIn K mainGlobals "NotGreat" = some (some (.ref C_NotGreat)))
    (ac_NoTree : PySem.W.nsIn K mainGlobals "NoTree" = some (some (.ref C_NoTree)))
    (ac_NoCars : PySem.W.nsIn K mainGlobals "NoCars" = some (some (.ref C_NoCars)))
    (ac_NoChain : PySem.W.nsIn K mainGlobals "NoChain" = some (some (.ref C_NoChain)))
    (ac_NoBound : PySem.W.nsIn K mainGlobals "NoBound" = some (some (.ref C_NoBound)))
    (ac_NoText : PySem.W.nsIn K mainGlobals "NoText" = some (some (.ref C_NoText)))
    (ac_NoName : PySem.W.nsIn K mainGlobals "NoName" = some (some (.ref C_NoName)))
    (ac_StarError : PySem.W.nsIn K mainGlobals "StarError" = some (some (.ref C_StarError)))
    (xc_NoText : ExcC K C_NoText)
    (ei_NoText : ExcI K C_NoText)
    (kv_NoText : PySem.W.kitOne K (.ref C_NoText) (.type "ValueError") = some true)
    (kx_NoText_Unlike : PySem.W.kitOne K (.ref C_NoText) (.ref C_Unlike) = some false)
    (kx_NoText_NoRounds : PySem.W.kitOne K (.ref C_NoText) (.ref C_NoRounds) = some false)
    (kx_NoText_Apart : PySem.W.kitOne K (.ref C_NoText) (.ref C_Apart) = some false)
    (kx_NoText_NoMove : PySem.W.kitOne K (.ref C_NoText) (.ref C_NoMove) = some false)
    (kx_NoText_NotLeast : PySem.W.kitOne K (.ref C_NoText) (.ref C_NotLeast) = some false)
    (kx_NoText_NotGreat : PySem.W.kitOne K (.ref C_NoText) (.ref C_NotGreat) = some false)
    (kx_NoText_NoTree : PySem.W.kitOne K (.ref C_NoText) (.ref C_NoTree) = some false)
    (kx_NoText_NoCars : PySem.W.kitOne K (.ref C_NoText) (.ref C_NoCars) = some false)
    (kx_NoText_NoChain : PySem.W.kitOne K (.ref C_NoText) (.ref C_NoChain) = some false)
    (kx_NoText_NoBound : PySem.W.kitOne K (.ref C_NoText) (.ref C_NoBound) = some false)
    (kx_NoText_NoText : PySem.W.kitOne K (.ref C_NoText) (.ref C_NoText) = some true)
    (em_NoText_NoText : ExcM K C_NoText C_NoText true)
    (kx_NoText_NoName : PySem.W.kitOne K (.ref C_NoText) (.ref C_NoName) = some false)
    (kx_NoText_StarError : PySem.W.kitOne K (.ref C_NoText) (.ref C_StarError) = some true)
    (ag_MOST_EXCHANGES : PySem.W.nsIn K mainGlobals "MOST_EXCHANGES" = some (some (.int 60 tk_MOST_EXCHANGES)))
    (ag_MOST_FIGURES : PySem.W.nsIn K mainGlobals "MOST_FIGURES" = some (some (.int 9 tk_MOST_FIGURES)))
    (kib : PySem.W.kitOne K (.type "int") (.type "bool") = some false) :
    ∃ fd : FuncData, (∀ (s : Shared) (v : Value), BindsTo s fd ⟨[v], []⟩ [("_law_script", v)]) ∧ ∀ base : Heap, K.In base → base.Ns mainGlobals mg → FnOk l.prog w K mg base CX0 9 fa fd ["_law_script"] (spLaw K) := by
  have F_is_whole := fun_mk (st := top 15) l0 c0 k0
  have b_is_whole := F_is_whole.binds (ps := ["thing"]) fun _ _ _ _ _ _ us hl => match us, hl with | [_], _ => rfl
  have m_is_whole := PySem.W.mg_of X G a0
  have F_is_between := fun_mk (st := top 16) l1 c1 k1
  have b_is_between := F_is_between.binds (ps := ["thing", "low", "high"]) fun _ _ _ _ _ _ us hl => match us, hl with | [_, _, _], _ => rfl
  have m_is_between := PySem.W.mg_of X G a1
  have F_is_exchange := fun_mk (st := top 19) l2 c2 k2
  have b_is_exchange := F_is_exchange.binds (ps := ["n", "thing"]) fun _ _ _ _ _ _ us hl => match us, hl with | [_, _], _ => rfl
  have m_is_exchange := PySem.W.mg_of X G a2
  have F_is_row := fun_mk (st := top 20) l3 c3 k3
  have b_is_row := F_is_row.binds (ps := ["n", "thing"]) fun _ _ _ _ _ _ us hl => match us, hl with | [_, _], _ => rfl
  have m_is_row := PySem.W.mg_of X G a3
  have F_check_text := fun_mk (st := top 23) l4 c4 k4
  have b_check_text := F_check_text.binds (ps := ["thing"]) fun _ _ _ _ _ _ us hl => match us, hl with | [_], _ => rfl
  have m_check_text := PySem.W.mg_of X G a4
  have F_read_number := fun_mk (st := top 24) l5 c5 k5
  have b_read_number := F_read_number.binds (ps := ["word"]) fun _ _ _ _ _ _ us hl => match us, hl with | [_], _ => rfl
  have m_read_number := PySem.W.mg_of X G a5
  have F_read_row := fun_mk (st := top 25) l6 c6 k6
  have b_read_row := F_read_row.binds (ps := ["n", "text"]) fun _ _ _ _ _ _ us hl => match us, hl with | [_, _], _ => rfl
  have m_read_row := PySem.W.mg_of X G a6
  have F__law_purse := fun_mk (st := top 27) l7 c7 k7
  have b__law_purse := F__law_purse.binds (ps := ["_law_script", "_law_at"]) fun _ _ _ _ _ _ us hl => match us, hl with | [_, _], _ => rfl
  have m__law_purse := PySem.W.mg_of X G a7
  have F__law_take := fun_mk (st := top 28) l8 c8 k8
  have b__law_take := F__law_take.binds (ps := ["_law_purse_here", "_law_many"]) fun _ _ _ _ _ _ us hl => match us, hl with | [_, _], _ => rfl
  have m__law_take := PySem.W.mg_of X G a8
  have F__law_row := fun_mk (st := top 29) l9 c9 k9
  have b__law_row := F__law_row.binds (ps := ["_law_purse_here", "_law_n", "_law_most"]) fun _ _ _ _ _ _ us hl => match us, hl with | [_, _, _], _ => rfl
  have m__law_row := PySem.W.mg_of X G a9
  have F__law_spoilt := fun_mk (st := top 30) l10 c10 k10
  have b__law_spoilt := F__law_spoilt.binds (ps := ["_law_purse_here", "_law_text_here"]) fun _ _ _ _ _ _ us hl => match us, hl with | [_, _], _ => rfl
  have m__law_spoilt := PySem.W.mg_of X G a10
  have F__law_alone := fun_mk (st := top 31) l11 c11 k11
  have b__law_alone := F__law_alone.binds (ps := ["_law_e"]) fun _ _ _ _ _ _ us hl => match us, hl with | [_], _ => rfl
  have m__law_alone := PySem.W.mg_of X G a11
  have F__law_text := fun_mk (st := top 32) l12 c12 k12
  have b__law_text := F__law_text.binds (ps := ["_law_row_here"]) fun _ _ _ _ _ _ us hl => match us, hl with | [_], _ => rfl
  have m__law_text := PySem.W.mg_of X G a12
  have F__law_other := fun_mk (st := top 33) l13 c13 k13
  have b__law_other := F__law_other.binds (ps := ["_law_purse_here", "_law_n", "_law_row_here"]) fun _ _ _ _ _ _ us hl => match us, hl with | [_, _, _], _ => rfl
  have m__law_other := PySem.W.mg_of X G a13
  have F__law_read := fun_mk (st := top 34) l14 c14 k14
  have b__law_read := F__law_read.binds (ps := ["_law_n", "_law_text_here"]) fun _ _ _ _ _ _ us hl => match us, hl with | [_, _], _ => rfl
  have m__law_read := PySem.W.mg_of X G a14
  have F__law_told := fun_mk (st := top 35) l15 c15 k15
  have b__law_told := F__law_told.binds (ps := ["_law_n", "_law_text_here"]) fun _ _ _ _ _ _ us hl => match us, hl with | [_, _], _ => rfl
  have m__law_told := PySem.W.mg_of X G a15
  have F_law := fun_mk (st := top 36) l16 c16 k16
  have b_law := F_law.binds (ps := ["_law_script"]) fun _ _ _ _ _ _ us hl => match us, hl with | [_], _ => rfl
  have m_law := PySem.W.mg_of X G a16
  have z_len := PySem.W.mg_none_of X G z_len
  have z_abs := PySem.W.mg_none_of X G z_abs
  have z_int := PySem.W.mg_none_of X G z_int
  have z_all := PySem.W.mg_none_of X G z_all
  have z_isinstance := PySem.W.mg_none_of X G z_isinstance
  have z_bool := PySem.W.mg_none_of X G z_bool
  have z_tuple := PySem.W.mg_none_of X G z_tuple
  have z_list := PySem.W.mg_none_of X G z_list
  have z_range := PySem.W.mg_none_of X G z_range
  have z_min := PySem.W.mg_none_of X G z_min
  have z_max := PySem.W.mg_none_of X G z_max
  have z_str := PySem.W.mg_none_of X G z_str
  have z_ValueError := PySem.W.mg_none_of X G z_ValueError
  have mc_Unlike := PySem.W.mg_of X G ac_Unlike
  have mc_NoRounds := PySem.W.mg_of X G ac_NoRounds
  have mc_Apart := PySem.W.mg_of X G ac_Apart
  have mc_NoMove := PySem.W.mg_of X G ac_NoMove
  have mc_NotLeast := PySem.W.mg_of X G ac_NotLeast
  have mc_NotGreat := PySem.W.mg_of X G ac_NotGreat
  have mc_NoTree := PySem.W.mg_of X G ac_NoTree
  have mc_NoCars := PySem.W.mg_of X G ac_NoCars
  have mc_NoChain := PySem.W.mg_of X G ac_NoChain
  have mc_NoBound := PySem.W.mg_of X G ac_NoBound
  have mc_NoText := PySem.W.mg_of X G ac_NoText
  have mc_NoName := PySem.W.mg_of X G ac_NoName
  have mc_StarError := PySem.W.mg_of X G ac_StarError
  have mg_MOST_EXCHANGES := PySem.W.mg_of X G ag_MOST_EXCHANGES
  have mg_MOST_FIGURES := PySem.W.mg_of X G ag_MOST_FIGURES
  have e := hfa.symm.trans m_law
  cases e
  refine ⟨PySem.W.fnOf "law" "law" (defArgs (top 36)) (defBody (top 36)) (defScope (top 36)) .none kV16 dc16 pm16 an16 cd16 ct16, fun s v => .of_eq rfl, fun base _ _ => ?_⟩
  have t0 : TPurse mg := ⟨z_len, z_abs, z_int⟩
  have t1 : T1 mg K := { t0 with b_all := z_all, b_isinstance := z_isinstance, b_bool := z_bool, b_tuple := z_tuple, b_list := z_list, b_range := z_range, k_ib := kib }
  have ftake : FnAt l.prog w K mg base "_law_take" 1 ["_law_purse_here", "_law_many"] spTake := ⟨⟨_, _, ok_take F__law_take, m__law_take, k8, b__law_take⟩⟩
  have tcl : TCl mg ⟨C_Unlike, C_NoRounds, C_Apart, C_NoMove, C_NotLeast, C_NotGreat, C_NoTree, C_NoCars, C_NoChain, C_NoBound, C_NoText, C_NoName, C_StarError⟩ := ⟨mc_Unlike, mc_NoRounds, mc_Apart, mc_NoMove, mc_NotLeast, mc_NotGreat, mc_NoTree, mc_NoCars, mc_NoChain, mc_NoBound, mc_NoText, mc_NoName, mc_StarError, z_isinstance, z_ValueError⟩
  have al : Alone K ⟨C_Unlike, C_NoRounds, C_Apart, C_NoMove, C_NotLeast, C_NotGreat, C_NoTree, C_NoCars, C_NoChain, C_NoBound, C_NoText, C_NoName, C_StarError⟩ C_NoText :=
    ⟨ei_NoText, kx_NoText_StarError, kv_NoText, _, _, _, _, _, _, _, _, _, _, _, _, kx_NoText_Unlike, kx_NoText_NoRounds, kx_NoText_Apart, kx_NoText_NoMove, kx_NoText_NotLeast, kx_NoText_NotGreat, kx_NoText_NoTree, kx_NoText_NoCars, kx_NoText_NoChain, kx_NoText_NoBound, kx_NoText_NoText, kx_NoText_NoName, rfl⟩
  have td : TD l.prog w K mg base := { t1 with f_is_whole := ⟨⟨_, _, ok_iwD F_is_whole t1, m_is_whole, k0, b_is_whole⟩⟩ }
  have td2 : TD2 l.prog w K mg base := { t1 with f_is_between := ⟨⟨_, _, ok_btD F_is_between td, m_is_between, k1, b_is_between⟩⟩ }
  have td3 : TD3 l.prog w K mg base (.int 60 tk_MOST_EXCHANGES) := { t1 with g_MOST_EXCHANGES := mg_MOST_EXCHANGES, r_MOST_EXCHANGES := ⟨_, rfl⟩, f_is_exchange := ⟨⟨_, _, ok_isex F_is_exchange td2, m_is_exchange, k2, b_is_exchange⟩⟩ }
  have trw : TRw l.prog w K mg base := { t1 with f__law_take := ftake, b_min := z_min, b_max := z_max }
  have ttx : TTx mg K (.int 9 tk_MOST_FIGURES) := { t1 with b_str := z_str, g_MOST_FIGURES := mg_MOST_FIGURES, r_MOST_FIGURES := ⟨_, rfl⟩ }
  have ttn : TTxN mg K (.int 9 tk_MOST_FIGURES) C_NoText := { ttx with c_NoText := mc_NoText, x_NoText := xc_NoText }
  have fir : FnAt l.prog w K mg base "is_row" 6 ["n", "thing"] spIsRow := ⟨⟨_, _, ok_isrow F_is_row td3, m_is_row, k3, b_is_row⟩⟩
  have trr : TRr l.prog w K mg base := { t1 with
    f_check_text := ⟨⟨_, _, ok_chkT F_check_text ttx, m_check_text, k4, b_check_text⟩⟩
    f_read_number := ⟨⟨_, _, ok_num F_read_number ttx, m_read_number, k5, b_read_number⟩⟩
    f_is_row := fir }
  have trn : TRrN l.prog w K mg base C_NoText := { t1 with
    f_check_text := ⟨⟨_, _, ok_chkX F_check_text ttn, m_check_text, k4, b_check_text⟩⟩
    f_read_number := ⟨⟨_, _, ok_numX F_read_number ttn, m_read_number, k5, b_read_number⟩⟩
    f_is_row := fir
    c_NoText := mc_NoText
    x_NoText := xc_NoText }
  have tto : TTo72 l.prog w K mg base ⟨C_Unlike, C_NoRounds, C_Apart, C_NoMove, C_NotLeast, C_NotGreat, C_NoTree, C_NoCars, C_NoChain, C_NoBound, C_NoText, C_NoName, C_StarError⟩ := { t1 with
    c_NoText := mc_NoText
    c_StarError := mc_StarError
    f_read_row := ⟨⟨_, _, (ok_readrow F_read_row trr).lift.or (ok_readrowN F_read_row trn), m_read_row, k6, b_read_row⟩⟩
    f__law_alone := ⟨⟨_, _, ok_alone F__law_alone tcl, m__law_alone, k11, b__law_alone⟩⟩
    al := al
    e1 := em_NoText_NoText }
  have tlx : TLtx mg K := { t1 with b_str := z_str }
  have flx : FnAt l.prog w K mg base "_law_text" 1 ["_law_row_here"] spLtx := ⟨⟨_, _, ok_ltx F__law_text tlx, m__law_text, k12, b__law_text⟩⟩
  have tot : TOt72 l.prog w K mg base := { t1 with f__law_take := ftake, f__law_text := flx }
  have tsp : TSpT l.prog w K mg base := { t1 with f__law_take := ftake }
  have trd : TRd72 mg K := { t1 with b_str := z_str }
  have tl : TL l.prog w K mg base := { t1 with
    b_min := z_min
    b_max := z_max
    f__law_take := ftake
    f__law_purse := ⟨⟨_, _, ok_purse F__law_purse t0, m__law_purse, k7, b__law_purse⟩⟩
    f__law_row := ⟨⟨_, _, ok_row F__law_row trw, m__law_row, k9, b__law_row⟩⟩
    f__law_text := flx
    f__law_other := ⟨⟨_, _, ok_ot72 F__law_other tot, m__law_other, k13, b__law_other⟩⟩
    f__law_spoilt := ⟨⟨_, _, ok_spT F__law_spoilt tsp, m__law_spoilt, k10, b__law_spoilt⟩⟩
    f__law_told := ⟨⟨_, _, ok_to72 F__law_told tto, m__law_told, k15, b__law_told⟩⟩
    f__law_read := ⟨⟨_, _, ok_rd72 F__law_read trd, m__law_read, k14, b__law_read⟩⟩ }
  exact ok_law F_law tl
theorem walk {l : PySem.W.OpenLaw} {q : Program} {loose : List Str} {XP : (Str → Option Value) → Heap → Prop} {YP : World → Heap → Prop} {d : DefRec} {K : Params → PySem.W.Frag} (hn : l.most = some 63) (hdf : d.params.defaults = [])
    (hY : ∀ (w : World) (h : Heap), YP w h → (K w.params).In h)
    (F : ∀ (w : World) (mg : Str → Option Value) (fa : Addr) (h : Heap), (K w.params).In h → h.Ns mainGlobals mg → mg d.name = some (.ref fa) →
      ∃ fd : FuncData, (∀ (s : Shared) (u : Value), BindsTo s fd ⟨[u], []⟩ [("_law_script", u)]) ∧ ∀ base : Heap, (K w.params).In base → base.Ns mainGlobals mg → FnOk l.prog w (K w.params) mg base CX0 9 fa fd ["_law_script"] (spLaw (K w.params))) :
    PySem.W.WalkO q loose XP YP l.row.toRowW d [] (fun f vs => PySem.call f vs) :=
  L2.walk_of (n := 63) (k := 9) (x := "_law_script") (CX := fun _ => CX0) (sp := fun w => spLaw (K w.params)) hn (by decide) hdf ⟨rfl, rfl, by decide, by decide⟩ hY F (fun _ _ a ns hl _ hS => ⟨a, ns, rfl, hS, hl, fun _ => rfl⟩) fun _ _ _ _ _ z => z
end Sw
def PySem.W.Fast.tw17523177790020721896 : Nat := 0
def PySem.W.Fast.tw17468596896729121062 : Nat := 0
def PySem.W.Fast.tw15927231375274387756 : Nat := 0
def PySem.W.Fast.tw8548258383912016115 : Nat := 0
def PySem.W.Fast.tw265628318854328528 : Nat := 0
def PySem.W.Fast.tw17078867084940714547 : Nat := 0
def PySem.W.Fast.tw999603082682539990 : Nat := 0
def PySem.W.Fast.tw14564533170377593544 : Nat := 0
def PySem.W.Fast.tw17604447125447865037 : Nat := 0
def PySem.W.Fast.tw10392759742783390635 : Nat := 0
def PySem.W.Fast.tw1331488847903400449 : Nat := 0
def PySem.W.Fast.tw16652706342614808189 : Nat := 0
def PySem.W.Fast.tw1473477589229640868 : Nat := 0
def PySem.W.Fast.tw2391425372805838508 : Nat := 0
def PySem.W.Fast.tw14164210313801132517 : Nat := 0
def PySem.W.Fast.tw783860252720737064 : Nat := 0
def PySem.W.Fast.tw15951931005963138914 : Nat := 0
def PySem.W.Fast.tw12733902607139501681 : Nat := 0
def PySem.W.Fast.tw17903702585975499035 : Nat := 0
def PySem.W.Fast.tw7711178527133260960 : Nat := 0
def PySem.W.Fast.tw131892157765844040 : Nat := 0
def PySem.W.Fast.tw3849027177713534105 : Nat := 0
def PySem.W.Fast.tw12155458204696647231 : Nat := 0
def PySem.W.Fast.tw12764871535236216002 : Nat := 0
def PySem.W.Fast.tw17956442898822503244 : Nat := 0
def PySem.W.Fast.tw5752745096959846961 : Nat := 0
def PySem.W.Fast.tw13358343854968291074 : Nat := 0
def PySem.W.Fast.tw15201594653658411425 : Nat := 0
def PySem.W.Fast.tw16205695415629154427 : Nat := 0
def PySem.W.Fast.tw2275260642626169362 : Nat := 0
def PySem.W.Fast.tw9424733157206904970 : Nat := 0
def PySem.W.Fast.tw6295118324747216551 : Nat := 0
def PySem.W.Fast.tw11598590124753769392 : Nat := 0
def PySem.W.Fast.tw12869784202417947009 : Nat := 0
def PySem.W.Fast.tw9177951099426271582 : Nat := 0
def PySem.W.Fast.tw6723554694427009310 : Nat := 0
open PySem PySem.W PyProof.Rows
set_option maxRecDepth 100000 in
set_option maxHeartbeats 0 in
theorem PySem.Challenge.cw_swapstars_k72_no_rows_written_holds : PySem.Challenge.rw_swapstars_k72_no_rows_written.Holds := by
  w_on; o_law; k_head; (case hw => w_witness2)
  k_fill
  refine Sw.walk (l := PySem.Challenge.rw_swapstars_k72_no_rows_written) rfl rfl (fun w h Y => PySem.W.kIn_of Y) ?F
  case F =>
    intro w mg fa h KX G hmg
    refine' Sw.all_mk KX G hmg ?a0 ?l0 ?c0 ?k0 ?a1 ?l1 ?c1 ?k1 ?a2 ?l2 ?c2 ?k2 ?a3 ?l3 ?c3 ?k3 ?a4 ?l4 ?c4 ?k4 ?a5 ?l5 ?c5 ?k5 ?a6 ?l6 ?c6 ?k6 ?a7 ?l7 ?c7 ?k7 ?a8 ?l8 ?c8 ?k8 ?a9 ?l9 ?c9 ?k9 ?a10 ?l10 ?c10 ?k10 ?a11 ?l11 ?c11 ?k11 ?a12 ?l12 ?c12 ?k12 ?a13 ?l13 ?c13 ?k13 ?a14 ?l14 ?c14 ?k14 ?a15 ?l15 ?c15 ?k15 ?a16 ?l16 ?c16 ?k16 ?z_len ?z_abs ?z_int ?z_all ?z_isinstance ?z_bool ?z_tuple ?z_list ?z_range ?z_min ?z_max ?z_str ?z_ValueError ?ac_Unlike ?ac_NoRounds ?ac_Apart ?ac_NoMove ?ac_NotLeast ?ac_NotGreat ?ac_NoTree ?ac_NoCars ?ac_NoChain ?ac_NoBound ?ac_NoText ?ac_NoName ?ac_StarError ?xc_NoText ?ei_NoText ?kv_NoText ?kx_NoText_Unlike ?kx_NoText_NoRounds ?kx_NoText_Apart ?kx_NoText_NoMove ?kx_NoText_NotLeast ?kx_NoText_NotGreat ?kx_NoText_NoTree ?kx_NoText_NoCars ?kx_NoText_NoChain ?kx_NoText_NoBound ?kx_NoText_NoText ?em_NoText_NoText ?kx_NoText_NoName ?kx_NoText_StarError ?ag_MOST_EXCHANGES ?ag_MOST_FIGURES ?kib
    (case a0 => k_is); (case l0 => k_is); (case c0 => k_is); (case k0 => k_is)
    (case a1 => k_is); (case l1 => k_is); (case c1 => k_is); (case k1 => k_is)
    (case a2 => k_is); (case l2 => k_is); (case c2 => k_is); (case k2 => k_is)
    (case a3 => k_is); (case l3 => k_is); (case c3 => k_is); (case k3 => k_is)
    (case a4 => k_is); (case l4 => k_is); (case c4 => k_is); (case k4 => k_is)
    (case a5 => k_is); (case l5 => k_is); (case c5 => k_is); (case k5 => k_is)
    (case a6 => k_is); (case l6 => k_is); (case c6 => k_is); (case k6 => k_is)
    (case a7 => k_is); (case l7 => k_is); (case c7 => k_is); (case k7 => k_is)
    (case a8 => k_is); (case l8 => k_is); (case c8 => k_is); (case k8 => k_is)
    (case a9 => k_is); (case l9 => k_is); (case c9 => k_is); (case k9 => k_is)
    (case a10 => k_is); (case l10 => k_is); (case c10 => k_is); (case k10 => k_is)
    (case a11 => k_is); (case l11 => k_is); (case c11 => k_is); (case k11 => k_is)
    (case a12 => k_is); (case l12 => k_is); (case c12 => k_is); (case k12 => k_is)
    (case a13 => k_is); (case l13 => k_is); (case c13 => k_is); (case k13 => k_is)
    (case a14 => k_is); (case l14 => k_is); (case c14 => k_is); (case k14 => k_is)
    (case a15 => k_is); (case l15 => k_is); (case c15 => k_is); (case k15 => k_is)
    (case a16 => k_is); (case l16 => k_is); (case c16 => k_is); (case k16 => k_is)
    (case z_len => k_is); (case z_abs => k_is); (case z_int => k_is); (case z_all => k_is); (case z_isinstance => k_is); (case z_bool => k_is); (case z_tuple => k_is); (case z_list => k_is); (case z_range => k_is); (case z_min => k_is); (case z_max => k_is); (case z_str => k_is); (case z_ValueError => k_is)
    (case ac_Unlike => k_is)
    (case ac_NoRounds => k_is)
    (case ac_Apart => k_is)
    (case ac_NoMove => k_is)
    (case ac_NotLeast => k_is)
    (case ac_NotGreat => k_is)
    (case ac_NoTree => k_is)
    (case ac_NoCars => k_is)
    (case ac_NoChain => k_is)
    (case ac_NoBound => k_is)
    (case ac_NoText => k_is)
    (case ac_NoName => k_is)
    (case ac_StarError => k_is)
    (case xc_NoText => kernel_rfl)
    (case ei_NoText => exact ⟨by k_is, by k_is, by k_is, by k_is, by k_is, by k_is, by k_is, by kernel_rfl⟩)
    (case kv_NoText => kit_is)
    (case kx_NoText_Unlike => kit_is)
    (case kx_NoText_NoRounds => kit_is)
    (case kx_NoText_Apart => kit_is)
    (case kx_NoText_NoMove => kit_is)
    (case kx_NoText_NotLeast => kit_is)
    (case kx_NoText_NotGreat => kit_is)
    (case kx_NoText_NoTree => kit_is)
    (case kx_NoText_NoCars => kit_is)
    (case kx_NoText_NoChain => kit_is)
    (case kx_NoText_NoBound => kit_is)
    (case kx_NoText_NoText => kit_is)
    (case em_NoText_NoText => exact ⟨by k_is, by kernel_rfl, by k_is, by k_is⟩)
    (case kx_NoText_NoName => kit_is)
    (case kx_NoText_StarError => kit_is)
    (case ag_MOST_EXCHANGES => k_is)
    (case ag_MOST_FIGURES => k_is)
    (case kib => exact L2.kit_int_bool _)
