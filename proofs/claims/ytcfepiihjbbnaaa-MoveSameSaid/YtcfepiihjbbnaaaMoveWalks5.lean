/-
  Contracts of layer 3's Live and Reach. Condition: the arena's rows are as the document's list of things says; the words to begin at can be read.
-/
import Derived.Test.YtcfepiihjbbnaaaMoveWalks4
namespace Go.Proofs.Ytcfepiihjbbnaaa
open Go.RowKit Go.Maps
namespace MW
open AW AP
theorem rtw_at (ts : List Th) (s : MP.St) (xs : List Int) (k : Nat) (hk : k < xs.length) (hk2 : k < (MP.rtw ts s xs).length) : (MP.rtw ts s xs)[k] = MP.cwW ts (MP.rts ts s (xs.take k)) xs[k] := by
  induction xs generalizing s k with
  | nil => simp at hk
  | cons x xs ih =>
    cases k with
    | zero => rfl
    | succ k =>
      simp only [MP.rtw, List.getElem_cons_succ, List.take_succ_cons, MP.rts]
      exact ih _ k (by simpa using hk) (by simpa [MP.rtw] using hk2)
theorem rts_succ (ts : List Th) (s : MP.St) (xs : List Int) (k : Nat) (hk : k < xs.length) : MP.rts ts s (xs.take (k + 1)) = MP.cwS ts (MP.rts ts s (xs.take k)) xs[k] := by
  rw [List.take_succ_eq_append_getElem hk, MP.rts_append]
/-- Words that lie somewhere, one behind the other. -/
theorem src_at {w : World} {S : List Nat} {A : Option Addr} {l : List Int} (h : MM.Src w S A (U64s l)) (hp : 0 < l.length) : ∃ b off, A = some ⟨b, off, none⟩ ∧ b < w.heap.size ∧ b ∉ S ∧ ∀ (k : Nat) (hk : k < l.length), w.cell? ⟨b, off + k, none⟩ = some (.int .u64 l[k]) := by
  obtain ⟨ad, e, hb, hl, hc⟩ := h (by simpa [U64s] using hp)
  have hat : ∀ (k : Nat) (hk : k < l.length), w.cell? (ad.add k) = some (.int .u64 l[k]) := by
    intro k hk
    refine hc k _ ?_
    unfold U64s
    rw [List.getElem?_map, List.getElem?_eq_getElem hk]; rfl
  have h0 := hat 0 hp
  rw [MR.add_zero_] at h0
  obtain ⟨b, off, spot⟩ := ad
  obtain rfl : spot = none := MR.spot_none h0
  refine ⟨b, off, e, hl, hb, fun k hk => ?_⟩
  have := hat k hk
  rwa [MR.mk_add] at this
/-- What Live has made. -/
def Made3 (w : World) (n : Nat) (ts : List Th) (roots : List Int) (e : Ending) (w' : World) : Prop :=
  ∃ p' g' h' wb, e = .returned (.tuple #[ptr p', .slice (some ⟨wb, 0, none⟩) roots.length roots.length]) ∧ (w.heap.size ≤ p' ∧ w.heap.size ≤ g' ∧ w.heap.size ≤ h' ∧ w.heap.size ≤ wb ∧ wb ≠ p' ∧ wb ≠ g' ∧ wb ≠ h') ∧
    Ar w' p' g' h' n (MP.liveT ts roots) ∧ MM.Row w' wb 42 (U64s (MP.liveW ts roots)) ∧ MM.Far [] w w'
section
variable {w : World} {p g h n : Nat} {ts : List Th}
set_option maxHeartbeats 2000000 in
theorem live_any (hA : Ar w p g h n ts) (hn : 1 ≤ n) (roots : List Int) (A : Option Addr) (m c : Nat) (hm : roots.length = m) (hm4 : m ≤ 17592186044416) (hs : MM.Src w [] A (U64s roots)) (hu : ∀ x ∈ roots, WP.U x) :
    Calls Try.prog 7 #[ptr p, .slice A m c] w (Made3 w n ts roots) := by
  subst hm
  have hm1 := run_make_row' (P := Try.prog) 23 42 (.int .u64 0) 8 words_slice word_info rfl .i64 .i64 roots.length (by omega) (by omega)
  have HA := Lib.hid hA
  have HS := Lib.hid hs
  have HU := Lib.hid hu
  have hp1 := hA.head.lt
  have hg1 := hA.words.lt
  have hh1 := hA.kinds.lt
  have hLw : (MP.liveW ts roots).length = roots.length := MP.liveW_len _ _
  have HLw := Lib.hid hLw
  clear hA hs hu
  go_enter Try.func7, Try.ntmps7
  go_wp2_with (fail)
  have HM := Lib.hid (made_half w (MP.liveW ts roots))
  have hF1 : MM.Far [] w (w.alloc (.cells (madeCells #[.int .u64 0] roots.length) 42)) := (MM.Far.refl [] w).alloc _
  rw [hLw] at HM
  have hB1 : (w.alloc (.cells (madeCells #[.int .u64 0] roots.length) 42)).heap.size = w.heap.size + 1 := by simp
  generalize w.alloc (.cells (madeCells #[.int .u64 0] roots.length) 42) = w1 at HM hF1 hB1 ⊢
  refine (new_copier (HA.out.far hF1 (by simp) (by simp) (by simp)) hn).mono ?_
  rintro e w2 ⟨cb, mb, p', g', h', rfl, hC2, hF2⟩
  rw [hB1] at hC2
  have hnew := hC2.new
  have HC2 := Lib.hid hC2
  have hF02 := hF1.trans hF2 (by simp)
  clear hC2 hm1 hLw
  go_wp2_with (fail)
  go_loopw [23] (fun s23 wr => ∃ (k : Nat), k ≤ roots.length ∧ s23 = .int .i64 k ∧ Co wr (w.heap.size + 1) cb mb p g h n ts p' g' h' (MP.rts ts ⟨[], []⟩ (roots.take k)) ∧ MM.Row wr w.heap.size 42 (U64s (half (MP.liveW ts roots) k)) ∧ MM.Far [] w wr) (fun s23 _ => roots.length - (intOf s23).toNat)
  case atStart =>
    exact ⟨0, Nat.zero_le _, rfl, HC2.out, HM.out.far hF2 (by simp), hF02⟩
  case round =>
    obtain ⟨k, hk, rfl, hC, hR, hF⟩ := hrel
    by_cases hlt : k < roots.length
    · obtain ⟨rb, off, rfl, hrb, _, hcs⟩ := src_at HS.out (by omega)
      have hcell : wr.cell? ⟨rb, off + k, none⟩ = some (.int .u64 roots[k]) := by
        rw [hF.cell (p := ⟨rb, off + k, none⟩) hrb (by simp)]; exact hcs k hlt
      have hux := HU.out _ (List.getElem_mem hlt)
      have HW := Lib.hid (word_any hC hux)
      have hlk : k < (MP.liveW ts roots).length := by rw [HLw.out]; exact hlt
      have HEnd := Lib.hid (fun (w4 : World) (hC4 : Co w4 (w.heap.size + 1) cb mb p g h n ts p' g' h' (MP.cwS ts (MP.rts ts ⟨[], []⟩ (roots.take k)) roots[k])) (hF4 : MM.Far [mb, p', g', h'] wr w4) =>
        show (∃ o, w4.cell? ⟨w.heap.size, k, none⟩ = some o) ∧ w4.frozen? ⟨w.heap.size, k, none⟩ = false ∧ Co (w4.setCell ⟨w.heap.size, k, none⟩ (.int .u64 (MP.cwW ts (MP.rts ts ⟨[], []⟩ (roots.take k)) roots[k]))) (w.heap.size + 1) cb mb p g h n ts p' g' h' (MP.rts ts ⟨[], []⟩ (roots.take (k + 1))) ∧
          MM.Row (w4.setCell ⟨w.heap.size, k, none⟩ (.int .u64 (MP.cwW ts (MP.rts ts ⟨[], []⟩ (roots.take k)) roots[k]))) w.heap.size 42 (U64s (half (MP.liveW ts roots) (k + 1))) ∧ MM.Far [] w (w4.setCell ⟨w.heap.size, k, none⟩ (.int .u64 (MP.cwW ts (MP.rts ts ⟨[], []⟩ (roots.take k)) roots[k]))) from by
          have hR4 := hR.far hF4 (by simp; omega)
          refine ⟨half_cell hR4 hlk, hR4.frozen k, ?_, ?_, ?_⟩
          · rw [rts_succ ts _ roots k hlt]
            exact hC4.far' ((MM.Far.refl [w.heap.size] w4).setCell (by simp) _) (by simp; omega)
          · have := half_put hR4 hlk
            have e := rtw_at ts ⟨[], []⟩ roots k hlt hlk
            unfold MP.liveW at this ⊢
            rw [e] at this
            exact this
          · exact (hF.trans hF4 (by simp; omega)).setCell (by simp) _)
      generalize MP.cwW ts (MP.rts ts ⟨[], []⟩ (roots.take k)) roots[k] = y at HW HEnd
      have hy := Lib.hid hux
      generalize hx : roots[k] = x at HW HEnd hcell
      clear hC hR hF hux hx hcs hy
      go_wp2_with (first
        | (go_at_call 23; refine HW.out.mono ?_; rintro e w4 ⟨rfl, hC4, hF4⟩; have HE := Lib.hid (HEnd.out w4 hC4 hF4); obtain ⟨o4, ho4⟩ := HE.out.1; have hz4 := HE.out.2.1; clear hC4 hF4))
      go_roundw
      case rel => exact ⟨k + 1, by omega, by go_num, HE.out.2.2⟩
      case measure => simp [intOf]; omega
    · obtain rfl : k = roots.length := by omega
      rw [List.take_length] at hC
      have hR2 : MM.Row wr w.heap.size 42 (U64s (MP.liveW ts roots)) := by
        have := hR
        rw [← HLw.out, half_all] at this
        exact this
      have HF := Lib.hid (fields_all hC)
      have HR := Lib.hid hR2
      have HFw := Lib.hid hF
      clear hC hR hR2 hF
      go_wp2_with (first
        | (go_at_call 24; refine HF.out.mono ?_; rintro e w5 ⟨rfl, hC5, hF5⟩; have c1 := hC5.head.at (i := 1) rfl; have HC5 := Lib.hid hC5; have HF5 := Lib.hid hF5; clear hC5 hF5))
      go_ret2
      refine ⟨p', g', h', w.heap.size, rfl, by omega, HC5.out.dst, HR.out.far HF5.out (by simp; omega), HFw.out.trans HF5.out (by simp; omega)⟩
theorem reach_any (hA : Ar w p g h n ts) (hn : 1 ≤ n) (roots : List Int) (A : Option Addr) (m c : Nat) (hm : roots.length = m) (hm4 : m ≤ 17592186044416) (hs : MM.Src w [] A (U64s roots)) (hu : ∀ x ∈ roots, WP.U x) :
    Calls Try.prog 11 #[ptr p, .slice A m c] w fun e w' => e = .returned (.int .i64 (MP.reach ts roots)) ∧ MM.Far [] w w' := by
  have HL := Lib.hid (live_any hA hn roots A m c hm hm4 hs hu)
  clear hA hs hu hm
  go_enter Try.func11, Try.ntmps11
  go_wp2_with (first
    | (go_at_call 7; refine HL.out.mono ?_; rintro e w1 ⟨p', g', h', wb, rfl, _, hA1, _, hF1⟩; have HA1 := Lib.hid hA1; have HF1 := Lib.hid hF1; clear hA1 hF1)
    | (go_at_call 17; refine (used_any HA1.out).mono ?_; rintro e w' ⟨rfl, rfl⟩))
  go_ret
  exact ⟨rfl, HF1.out⟩
end
/-! ### of no arena -/
theorem live_nil {w : World} (roots : List Int) (A : Option Addr) (m c : Nat) (hm : roots.length = m) (h0 : 0 < m) (hm4 : m ≤ 17592186044416) (hs : MM.Src w [] A (U64s roots)) :
    Calls Try.prog 7 #[.pointer none, .slice A m c] w fun e w' => ∃ wb, e = .returned (.tuple #[.pointer none, .slice (some ⟨wb, 0, none⟩) m m]) ∧ w.heap.size ≤ wb ∧ MM.Row w' wb 42 (U64s roots) ∧ MM.Far [] w w' := by
  subst hm
  have hm1 := run_make_row' (P := Try.prog) 23 42 (.int .u64 0) 8 words_slice word_info rfl .i64 .i64 roots.length (by omega) (by omega)
  have HM := Lib.hid (made_half w roots)
  have hF1 : MM.Far [] w (w.alloc (.cells (madeCells #[.int .u64 0] roots.length) 42)) := (MM.Far.refl [] w).alloc _
  obtain ⟨ad, rfl, _, hal, hcs⟩ := (hs.far hF1 (by simp)) (by simpa [U64s] using h0)
  have HC := Lib.hid hcs
  have HF := Lib.hid hF1
  have HG : Hid ((w.alloc (.cells (madeCells #[.int .u64 0] roots.length) 42)).heap[w.heap.size]? = some (.cells (U64s (half roots 0)).toArray 42 (0, 0))) := HM.out
  clear hcs hF1 hs hal
  go_enter Try.func7, Try.ntmps7
  go_wp2_with (first
      | (refine wpList_copy_own ?_ (.tmp 15) (.tmp 16) 23 23 ?_ 42 words_slice word_size w.heap.size 0 roots.length roots.length ad roots.length c ?_ ?_ (U64s (half roots 0)).toArray 42 HG.out (U64s roots) ?_ HC.out ?_ (u64s_one _) ?_
         · rfl
         · rfl
         · rfl
         · rfl
         · simp [U64s]
         · simp [U64s, half]))
  go_ret2
  refine ⟨w.heap.size, rfl, Nat.le_refl _, ?_, HF.out.setRow (by simp) _⟩
  have := HM.out.setRow ((U64s (half roots 0)).take 0 ++ (U64s roots ++ (U64s (half roots 0)).drop (0 + (U64s roots).length)))
  simp only [List.take_zero, List.nil_append, Nat.zero_add] at this ⊢
  have e : (U64s (half roots 0)).drop (U64s roots).length = [] := List.drop_eq_nil_of_le (by simp [U64s, half])
  rw [e, List.append_nil] at this ⊢
  exact this
theorem reach_nil {w : World} (roots : List Int) (A : Option Addr) (m c : Nat) (hm : roots.length = m) (h0 : 0 < m) (hm4 : m ≤ 17592186044416) (hs : MM.Src w [] A (U64s roots)) :
    Calls Try.prog 11 #[.pointer none, .slice A m c] w fun e w' => e = .returned (.int .i64 0) ∧ MM.Far [] w w' := by
  have HL := Lib.hid (live_nil roots A m c hm h0 hm4 hs)
  clear hs hm
  go_enter Try.func11, Try.ntmps11
  go_wp2_with (first
    | (go_at_call 7; refine HL.out.mono ?_; rintro e w1 ⟨wb, rfl, _, _, hF1⟩; have HF1 := Lib.hid hF1; clear hF1)
    | (go_at_call 17; refine (used_nil _).mono ?_; rintro e w' ⟨rfl, rfl⟩))
  go_ret
  exact ⟨rfl, HF1.out⟩
end MW
end Go.Proofs.Ytcfepiihjbbnaaa
