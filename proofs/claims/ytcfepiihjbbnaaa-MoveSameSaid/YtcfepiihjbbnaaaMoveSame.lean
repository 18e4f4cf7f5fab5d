/-
  What holds at the head of MoveSame's loop, in its memory; and what a step of it leaves. Condition: the arenas are as the lists say.
-/
import Derived.Test.YtcfepiihjbbnaaaMoveBoth
import Derived.Test.YtcfepiihjbbnaaaMoveLaws1
import Derived.Test.YtcfepiihjbbnaaaQueue
import Derived.Maps.OwnOps
namespace Go.Proofs.Ytcfepiihjbbnaaa
open Go.RowKit Go.Maps
namespace ML
open AW MW AL AP
/-- How long a slice is. -/
def lenQ : Value → Nat
  | .slice _ n _ => n
  | _ => 0
theorem word_keyed : Keyed Try.prog 42 := int_keyed Try.underlying42
theorem word_zero (w : World) : (zeroValue 42).run Try.prog w = .ok (.int .u64 0) w := by kernel_rfl
theorem u_wf {x : Int} (h : WP.U x) : (Lit.int .u64 x).wf = true := by
  unfold WP.U at h
  simp [Lit.wf, IntKind.min, IntKind.max, IntKind.signed, IntKind.bits]; omega
theorem word_key {x : Int} (h : WP.U x) : keyOf Try.prog 42 (.int .u64 x) = some (MP.kw x) := keyOf_int_mk Try.underlying42 (u_wf h)
/-- A map of words to words at block b, that says what f says. -/
def Wm (w : World) (b n : Nat) (f : Int → Option Int) : Prop := ∃ D, w.ownsMap Try.prog 42 (plainElem (H := Unit) Try.prog 42) b n D ∧ MP.TabW D f
theorem Wm.lt {w : World} {b n : Nat} {f : Int → Option Int} (h : Wm w b n f) : b < w.heap.size := by obtain ⟨D, h, _⟩ := h; exact h.lt
theorem Wm.far {a w : World} {b n : Nat} {f : Int → Option Int} {T : List Nat} (h : Wm a b n f) (hF : MM.Far T a w) (hb : b ∉ T) : Wm w b n f := by
  obtain ⟨D, h, ht⟩ := h
  have hlt := h.lt
  obtain ⟨es, clock, hb', F, hs, hD⟩ := h
  exact ⟨D, ⟨es, clock, (hF.block b hlt hb).trans hb', F, hs, hD⟩, ht⟩
theorem Wm.look {w : World} {b n : Nat} {f : Int → Option Int} (h : Wm w b n f) (x : Int) (hx : WP.U x) : (Instr.lookup 40 (.map (some b)) (.int .u64 x) true).run Try.prog w = .ok (.tuple #[.int .u64 ((f x).getD 0), .bool (f x).isSome]) w := by
  obtain ⟨D, h, ht⟩ := h
  obtain ⟨v, ps, hrun, hv⟩ := h.look_ok word_keyed Try.underlying40 (word_zero w) (plainElem_int Try.underlying42 (by decide)) (word_key hx)
  obtain ⟨c, rfl, hc, _⟩ := plainElem_int_inv Try.underlying42 hv
  have hc1 := congrArg Prod.fst hc
  simp only at hc1
  rw [ht.at_ x hx] at hc1
  have e : (f x).getD 0 = c := by injection hc1 with h1; injection h1
  rw [hrun, ht.has x hx, e]
/-- The map in a block is no row. -/
theorem Wm.ne_row {w : World} {b n g : Nat} {f : Int → Option Int} (h : Wm w b n f) {t : TypeId} {l : List Value} (hr : MM.Row w g t l) : b ≠ g := by
  rintro rfl
  obtain ⟨D, ⟨es, clock, hb, _⟩, _⟩ := h
  unfold MM.Row at hr
  rw [hb] at hr
  cases hr
theorem Wm.ne_que {w : World} {b n base : Nat} {f : Int → Option Int} (h : Wm w b n f) {e : TypeId} {v : Value} {xs : List Value} (hq : MQ.Que w base e v xs) : v.ownBlock ≠ some b := by
  obtain ⟨D, ⟨es, clock, hb, _⟩, _⟩ := h
  rcases hq with ⟨rfl, _⟩ | ⟨g, o, cap, cur, rfl, _, hg, _⟩
  · simp [Value.ownBlock]
  · intro e
    have : g = b := by simpa [Value.ownBlock] using e
    subst this
    rw [hb] at hg
    cases hg
/-- At the loop's head. -/
structure Sam (w2 : World) (ts : List Th) (roots : List Int) (s : MP.St) (bt bb : Nat) (wr : World) (vt vo : Value) (todo : List Int) (V : List Nat) : Prop where
  far : MM.Far [] w2 wr
  qt : MQ.Que wr w2.heap.size 42 vt (U64s todo)
  qo : MQ.Que wr w2.heap.size 42 vo (U64s (todo.map (MP.phi ts s)))
  ap : ∀ b, vt.ownBlock = some b → vo.ownBlock ≠ some b
  mt : Wm wr bt V.length (MP.toF ts s V)
  mb : Wm wr bb V.length (MP.backF ts s V)
  ne : bt ≠ bb
  new : w2.heap.size ≤ bt ∧ w2.heap.size ≤ bb
  vis : MP.Vis ts roots V todo
  le : (sz ts - MP.wts ts V) + todo.length ≤ sz ts + roots.length
section
variable {w2 wr : World} {ts : List Th} {roots : List Int} {s : MP.St} {bt bb : Nat} {vt vo : Value} {todo : List Int} {V : List Nat}
/-- Two queues of words: one is pushed to. -/
structure Qs (w2 wr : World) (ts : List Th) (s : MP.St) (bt bb n : Nat) (ft fb : Int → Option Int) (vt vo : Value) (l : List Int) (m : List Int) : Prop where
  far : MM.Far [] w2 wr
  qt : MQ.Que wr w2.heap.size 42 vt (U64s l)
  qo : MQ.Que wr w2.heap.size 42 vo (U64s m)
  ap : ∀ b, vt.ownBlock = some b → vo.ownBlock ≠ some b
  mt : Wm wr bt n ft
  mb : Wm wr bb n fb
variable {n : Nat} {ft fb : Int → Option Int} {l m : List Int}
theorem Qs.nil {w' : World} (h : Qs w2 wr ts s bt bb n ft fb vt vo l m) (f : MM.Far [] wr w') : Qs w2 w' ts s bt bb n ft fb vt vo l m :=
  ⟨h.far.trans f (by simp), h.qt.far f (by simp), h.qo.far f (by simp), h.ap, h.mt.far f (by simp), h.mb.far f (by simp)⟩
theorem Qs.left {w' : World} {vt' : Value} {x : Int} (h : Qs w2 wr ts s bt bb n ft fb vt vo l m) (hq : MQ.Que w' w2.heap.size 42 vt' (U64s l ++ [.int .u64 x])) (hg : wr.grownBy w' vt.ownBlock) (ha : vt'.ownBlock = vt.ownBlock ∨ vt'.ownBlock = some wr.heap.size) : Qs w2 w' ts s bt bb n ft fb vt' vo (l ++ [x]) m := by
  have hF : MM.Far vt.ownBlock.toList wr w' := MM.Far.of_grown hg (fun b hb _ => by simp [hb])
  refine ⟨h.far.trans hF (fun b hb hl => ?_), by simpa [U64s] using hq, h.qo.far hF (fun b hb hm => h.ap b (by simpa using hm) hb), fun b hb hb2 => ?_, h.mt.far hF (fun hm => h.mt.ne_que h.qt (by simpa using hm)), h.mb.far hF (fun hm => h.mb.ne_que h.qt (by simpa using hm))⟩
  · have := h.qt.lt b (by simpa using hb); omega
  · rcases ha with e | e
    · rw [e] at hb; exact h.ap b hb hb2
    · rw [e] at hb
      have := (h.qo.lt b hb2).1
      simp at hb; omega
theorem Qs.right {w' : World} {vo' : Value} {x : Int} (h : Qs w2 wr ts s bt bb n ft fb vt vo l m) (hq : MQ.Que w' w2.heap.size 42 vo' (U64s m ++ [.int .u64 x])) (hg : wr.grownBy w' vo.ownBlock) (ha : vo'.ownBlock = vo.ownBlock ∨ vo'.ownBlock = some wr.heap.size) : Qs w2 w' ts s bt bb n ft fb vt vo' l (m ++ [x]) := by
  have hF : MM.Far vo.ownBlock.toList wr w' := MM.Far.of_grown hg (fun b hb _ => by simp [hb])
  refine ⟨h.far.trans hF (fun b hb hl => ?_), h.qt.far hF (fun b hb hm => h.ap b hb (by simpa using hm)), by simpa [U64s] using hq, fun b hb hb2 => ?_, h.mt.far hF (fun hm => h.mt.ne_que h.qo (by simpa using hm)), h.mb.far hF (fun hm => h.mb.ne_que h.qo (by simpa using hm))⟩
  · have := h.qo.lt b (by simpa using hb); omega
  · rcases ha with e | e
    · rw [e] at hb2; exact h.ap b hb hb2
    · rw [e] at hb2
      have := (h.qt.lt b hb).1
      simp at hb2; omega
/-- A store into one of the maps. -/
theorem Qs.storeT {w' : World} {D : DataW Unit} {x y : Int} {f : Int → Option Int} (h : Qs w2 wr ts s bt bb n ft fb vt vo l m) (hne : bt ≠ bb) (hb2 : w2.heap.size ≤ bt) (ht : MP.TabW D ft) (hm : w'.ownsMap Try.prog 42 (plainElem (H := Unit) Try.prog 42) bt (n + 1) (D.put (MP.kw x) (.lit (.int .u64 y)))) (hg : wr.grownBy w' (some bt))
    (hf : ∀ z, WP.U z → f z = if z = x then some y else ft z) : Qs w2 w' ts s bt bb (n + 1) f fb vt vo l m := by
  have hF : MM.Far [bt] wr w' := MM.Far.of_grown hg (fun b hb _ => by simp at hb; simp [hb])
  obtain ⟨Db, k1, k2⟩ := h.mb.far hF (by simpa using hne.symm)
  exact ⟨h.far.trans hF (fun b hb hl => by simp at hb; omega), h.qt.far hF (fun b hb hm => by simp at hm; subst hm; exact h.mt.ne_que h.qt hb), h.qo.far hF (fun b hb hm => by simp at hm; subst hm; exact h.mt.ne_que h.qo hb), h.ap, ⟨_, hm, ht.put x y hf⟩, ⟨Db, k1.mono (by omega), k2⟩⟩
theorem Qs.storeB {w' : World} {D : DataW Unit} {x y : Int} {f : Int → Option Int} {k : Nat} (h : Qs w2 wr ts s bt bb n ft fb vt vo l m) (hne : bt ≠ bb) (hb2 : w2.heap.size ≤ bb) (ht : MP.TabW D fb) (hk : k ≤ n) (hm : w'.ownsMap Try.prog 42 (plainElem (H := Unit) Try.prog 42) bb k (D.put (MP.kw x) (.lit (.int .u64 y)))) (hg : wr.grownBy w' (some bb))
    (hf : ∀ z, WP.U z → f z = if z = x then some y else fb z) : Qs w2 w' ts s bt bb n ft f vt vo l m := by
  have hF : MM.Far [bb] wr w' := MM.Far.of_grown hg (fun b hb _ => by simp at hb; simp [hb])
  exact ⟨h.far.trans hF (fun b hb hl => by simp at hb; omega), h.qt.far hF (fun b hb hm => by simp at hm; subst hm; exact h.mb.ne_que h.qt hb), h.qo.far hF (fun b hb hm => by simp at hm; subst hm; exact h.mb.ne_que h.qo hb), h.ap, h.mt.far hF (by simpa using hne), ⟨_, hm.mono hk, ht.put x y hf⟩⟩
end
end ML
end Go.Proofs.Ytcfepiihjbbnaaa
