/-
  Layer 8's law of kinds: what a text's forms are; how many parts there may be. No condition.
-/
import Derived.Test.YtpbfgfadickgbaaExpTp1
import Derived.Test.YtpbfgfadickgbaaExpL
import Derived.Test.YtpbfgfadickgbaaExpSet
import Derived.Test.YtpbfgfadickgbaaReadLaws5
namespace Go.Proofs.Ytpbfgfadickgbaa
open Go.RowKit
set_option linter.unusedVariables false
namespace EW
open LX SX RW6 EX
open RX (Nd Rd)
theorem cnt_lt {fs : List Fm} {k a : Nat} (h : k < fs.length) (ha : a ∈ fs[k].l) : fs[k].l.count a ≤ EX.cnt fs a := by
  unfold EX.cnt
  have e : fs = fs.take k ++ (fs[k] :: fs.drop (k + 1)) := by rw [← List.drop_eq_getElem_cons h, List.take_append_drop]
  conv => rhs; rw [e]
  rw [List.flatMap_append, List.flatMap_cons, List.count_append, List.count_append]
  omega
theorem nodup_le : ∀ (n : Nat) (l : List Nat), l.Nodup → (∀ a ∈ l, a < n) → l.length ≤ n := by
  intro n
  induction n with
  | zero => intro l _ h; cases l with
    | nil => exact Nat.le_refl _
    | cons a l => have := h a (List.mem_cons_self ..); omega
  | succ n ih =>
    intro l hn h
    have h1 := ih (l.erase n) (hn.erase n) (fun a ha => by
      have h2 := (hn.mem_erase_iff).1 ha
      have := h a h2.2
      have := h2.1
      omega)
    by_cases hm : n ∈ l
    · rw [List.length_erase_of_mem hm] at h1; omega
    · rw [List.erase_of_not_mem hm] at h1; omega
/-- What a text's forms are. -/
structure KindsOf (fs : List Fm) (tops : List Nat) : Prop where
  len : fs.length ≤ 48000
  tlen : tops.length ≤ 48000
  good : ∀ (k : Nat) (h : k < fs.length), GoodF fs[k] fs[k].l.length ∧ (∀ q ∈ fs[k].l, q < k ∧ ∃ x, fs[q]? = some x ∧ x.kind ≠ 9) ∧ fs[k].l.length ≤ fs.length
  one : ∀ a, EX.cnt fs a + tops.count a = if a < fs.length then 1 else 0
theorem kinds_of {s : ByteArray} {fs : List Fm} {ts : List Nat} (h : ofM s = .ok (fs, ts)) (hs : s.size ≤ 1000) : KindsOf fs ts := by
  unfold ofM at h
  cases hR : RX.read s with
  | error e =>
    rw [hR] at h
    injection h with h
    injection h with h1 h2
    subst h1 h2
    exact ⟨by simp, by simp, fun k hk => absurd hk (by simp), fun a => rfl⟩
  | ok r =>
    rw [hR] at h
    simp only at h
    have hok := read_ok_data hR
    obtain ⟨m, ks, e1, e2, h3, h4⟩ := runTops_made _ _ _ _ _ _ h
    rw [List.nil_append] at e1 e2
    subst e1 e2
    have hl := runTops_len hok _ _ _ _ _ _ h
    have hw := sum_wt r.row r.tops
    rw [read_T hR] at hw
    have h2 := read_len hR
    have hsz := RX.read_sizes hR
    have h4' : ∀ a, EX.cnt fs a + ts.count a = if a < fs.length then 1 else 0 := fun a => by
      have := h4 a
      simpa using this
    refine ⟨by have := hl.1; simp only [List.length_nil] at this; omega, by have := hl.2; simp only [List.length_nil] at this; omega, fun k hk => ?_, h4'⟩
    obtain ⟨g1, g2⟩ := h3 k hk
    refine ⟨g1, fun q hq => ?_, ?_⟩
    · obtain ⟨k1, y, k2, k3⟩ := g2 q hq
      exact ⟨by simpa using k1, y, by simpa using k2, k3⟩
    · have hnd : fs[k].l.Nodup := List.nodup_iff_count.2 fun a => by
        by_cases ha : a ∈ fs[k].l
        · have h5 := cnt_lt hk ha
          have h6 := h4' a
          split at h6 <;> omega
        · rw [List.count_eq_zero_of_not_mem ha]; omega
      exact nodup_le _ _ hnd (fun a ha => by
        have := (g2 a ha).1
        simp at this
        omega)
theorem error_of {s : ByteArray} {a : Int} (h : ofM s = .error a) : 0 ≤ a ∧ a < s.size := by
  unfold ofM at h
  cases hR : RX.read s with
  | error e => rw [hR] at h; cases h
  | ok r =>
    rw [hR] at h
    simp only at h
    have hI := (RX.read_plain hR).1
    refine error_at (read_ok_data hR) (Q := fun x => 0 ≤ x ∧ x < s.size) (fun i hi => ?_) (fun i hi => read_wt hR i hi) h
    have e : ndAt r.row i = r.row[i] := by
      unfold ndAt
      rw [List.getD_eq_getElem?_getD, List.getElem?_eq_getElem hi]; rfl
    rw [e]
    obtain ⟨g1, g2⟩ := hI.good _ (List.getElem_mem hi)
    exact ⟨g1.1, g2⟩
theorem parts_any {kd at_ nn : Int} {ss : ByteArray} {PV LV : Value} {n : Nat} (hk : GoodK kd n) (hn : n ≤ 1048576) (w : World) :
    Calls Try.prog 9 #[.agg #[.int .u8 kd, .int .i64 at_, .int .i64 nn, .int .i64 0, .string ss, PV, .int .u64 0, LV]] w fun e w' => (∃ a b : Nat, e = .returned (.tuple #[.int .i64 (a : Int), .int .i64 (b : Int), .bool true]) ∧ a ≤ n ∧ n ≤ b) ∧ MM.Far [] w w' := by
  have key : kd = 1 ∨ kd = 2 ∨ kd = 3 ∨ kd = 4 ∨ kd = 5 ∨ kd = 6 ∨ kd = 7 ∨ kd = 9 ∨ kd = 8 ∨ kd = 10 := by unfold GoodK at hk; omega
  have hb := MM.Row.new w 32 [.int .u8 kd, .int .i64 at_, .int .i64 nn, .int .i64 0, .string ss, PV, .int .u64 0, LV]
  have c0 := hb.at (i := 0) rfl
  have HF := Lib.hid ((MM.Far.refl [] w).alloc (.cells #[.int .u8 kd, .int .i64 at_, .int .i64 nn, .int .i64 0, .string ss, PV, .int .u64 0, LV] 32))
  have HK := Lib.hid hk
  have HN := Lib.hid hn
  clear hb hk hn
  rcases key with rfl | rfl | rfl | rfl | rfl | rfl | rfl | rfl | rfl | rfl
  all_goals
    go_enter Try.func9, Try.ntmps9
    go_wp2
    have h1 := HK.out
    have h2 := HN.out
    unfold GoodK at h1
    first
      | (refine bodyPost_ret (v := .tuple #[.int .i64 0, .int .i64 0, .bool true]) (by simp [results, Try.results9, go_sem]) rfl ?_; exact ⟨⟨0, 0, rfl, by omega, by omega⟩, HF.out⟩)
      | (refine bodyPost_ret (v := .tuple #[.int .i64 3, .int .i64 3, .bool true]) (by simp [results, Try.results9, go_sem]) rfl ?_; exact ⟨⟨3, 3, rfl, by omega, by omega⟩, HF.out⟩)
      | (refine bodyPost_ret (v := .tuple #[.int .i64 1, .int .i64 1, .bool true]) (by simp [results, Try.results9, go_sem]) rfl ?_; exact ⟨⟨1, 1, rfl, by omega, by omega⟩, HF.out⟩)
      | (refine bodyPost_ret (v := .tuple #[.int .i64 2, .int .i64 1048576, .bool true]) (by simp [results, Try.results9, go_sem]) rfl ?_; exact ⟨⟨2, 1048576, rfl, by omega, by omega⟩, HF.out⟩)
      | (refine bodyPost_ret (v := .tuple #[.int .i64 1, .int .i64 1048576, .bool true]) (by simp [results, Try.results9, go_sem]) rfl ?_; exact ⟨⟨1, 1048576, rfl, by omega, by omega⟩, HF.out⟩)
end EW
end Go.Proofs.Ytpbfgfadickgbaa
