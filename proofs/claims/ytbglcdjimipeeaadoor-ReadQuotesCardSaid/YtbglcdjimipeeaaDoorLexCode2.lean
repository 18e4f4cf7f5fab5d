/-
  Contracts of the code's own parts of layer 5: nameChars, gap: a range over a text, rune by rune. No condition.
-/
import Derived.Test.YtbglcdjimipeeaaDoorLexCode1
import Derived.Test.YtbglcdjimipeeaaDoorLexGap
namespace Go.Proofs.YtbglcdjimipeeaaDoor
open Go.RowKit
namespace LW
open LX
/-- An iterator over s stands at pos, in the first block that is new since w. -/
structure It (w : World) (s : ByteArray) (pos : Nat) (wr : World) : Prop where
  far : MM.Far [] w wr
  it : wr.heap[w.heap.size]? = some (.stringIter s pos)
theorem It.begin (w : World) (s : ByteArray) : It w s 0 (w.iter s 0) := ⟨iter_far _ _ _, World.iter_heap w s 0⟩
theorem It.next {w wr : World} {s : ByteArray} {pos : Nat} (h : It w s pos wr) (p : Nat) : It w s p (wr.iterAt w.heap.size s p) := by
  refine ⟨?_, Lib.iterAt_heap wr _ s pos p h.it⟩
  refine h.far.trans (S' := [w.heap.size]) ⟨rfl, rfl, rfl, by rw [Lib.iterAt_size]; exact Nat.le_refl _, fun k _ hn => Lib.iterAt_other wr _ k s p (by simpa using hn)⟩ ?_
  intro b hb hlt
  simp at hb; omega
theorem It.to {w wr w2 : World} {s : ByteArray} {pos : Nat} (h : It w s pos wr) (f : MM.Far [] wr w2) : It w s pos w2 := by
  refine ⟨h.far.trans f (by simp), ?_⟩
  rw [f.block _ (Array.getElem?_eq_some_iff.1 h.it).1 (by simp)]
  exact h.it
theorem It.pos {w wr : World} {s : ByteArray} {pos : Nat} (h : It w s pos wr) : wr.iterPos w.heap.size = pos := by
  unfold World.iterPos; rw [h.it]
theorem ret_num {k : IntKind} {a b : Int} (h : a = b) : Ending.returned (.int k a) = .returned (.int k b) := by rw [h]
theorem let_high {c : UInt8} (h : 128 ≤ c.toNat) : let_ c = false := by
  have : ∀ c : Fin 256, 128 ≤ c.1 → let_ (UInt8.ofNat c.1) = false := by decide +kernel
  have h2 := this ⟨c.toNat, c.toNat_lt⟩ h
  simpa using h2
set_option maxHeartbeats 2000000 in
theorem chars_any (s : ByteArray) (w : World) : Calls Tryd.prog 18 #[.string s] w fun e w' => e = .returned (.int .i64 ((LX.word (bts s)).length : Int)) ∧ MM.Far [] w w' := by
  obtain ⟨n, hn⟩ : ∃ n, (LX.word (bts s)).length = n := ⟨_, rfl⟩
  have hle : n ≤ s.size := by
    have := word_le (bts s)
    rw [bts_len] at this; omega
  have hyes : ∀ j (h : j < s.size), j < n → let_ s[j] = true := by
    intro j h hj
    obtain ⟨x, h1, h2⟩ := tw_yes (p := let_) (l := bts s) (j := j) (by unfold word at hn; omega)
    rw [data_at s j h] at h1
    cases h1; exact h2
  have hno : ∀ (h : n < s.size), let_ s[n] = false := by
    intro h
    unfold word at hn
    obtain ⟨x, h1, h2⟩ := tw_no (p := let_) (l := bts s) (by rw [bts_len]; omega)
    rw [hn, data_at s n h] at h1
    cases h1; exact h2
  rw [hn]
  have HY := Lib.hid hyes
  have HN := Lib.hid hno
  have HB := Lib.hid (It.begin w s)
  clear hyes hno hn
  go_enter Tryd.func18, Tryd.ntmps18
  go_wp2
  go_loopw [] (fun wr => ∃ pos : Nat, pos ≤ n ∧ Hid (It w s pos wr)) (fun wr => s.size - wr.iterPos w.heap.size)
  case atStart => exact ⟨0, by omega, HB⟩
  case round =>
    obtain ⟨pos, hp, hI⟩ := hrel
    have hit := hI.out.it
    have HP := Lib.hid hI.out.pos
    by_cases hlt : pos < s.size
    · by_cases ha : (s[pos]).toNat < 128
      · have hnx : ∀ ty, (Instr.next (.pointer (some ⟨w.heap.size, 0, none⟩)) true ty).run Tryd.prog wr = _ := fun ty => Lib.run_next_ascii_at wr w.heap.size s pos ty hit hlt ha
        have HI2 := Lib.hid (hI.out.next (pos + 1))
        by_cases hpn : pos < n
        · have hL := name_low s[pos] ha
          rw [HY.out pos hlt hpn] at hL
          have HL := Lib.hid hL
          clear hL hit ha hI
          go_wp2_with (go_at_call 22; refine (HL.out _).mono ?_; rintro e w2 ⟨rfl, hF⟩; have HI3 := Lib.hid (HI2.out.to hF); clear hF)
          go_roundw
          case rel => exact ⟨pos + 1, by omega, HI3⟩
          case measure => rw [HI3.out.pos, HP.out]; omega
        · obtain rfl : pos = n := by omega
          have hL := name_low s[pos] ha
          rw [HN.out hlt] at hL
          have HL := Lib.hid hL
          clear hL hit ha hI hpn
          go_wp2_with (go_at_call 22; refine (HL.out _).mono ?_; rintro e w2 ⟨rfl, hF⟩; have HI3 := Lib.hid (HI2.out.to hF); clear hF)
          go_ret
          exact ⟨rfl, HI3.out.far⟩
      · have ha : 128 ≤ (s[pos]).toNat := by omega
        have hpn : pos = n := by
          have : ¬ pos < n := by
            intro h
            have h1 := HY.out pos hlt h
            rw [let_high ha] at h1; cases h1
          omega
        subst hpn
        have hd := (decode_high s pos hlt ha).1
        have hnx : ∀ ty, (Instr.next (.pointer (some ⟨w.heap.size, 0, none⟩)) true ty).run Tryd.prog wr = _ := fun ty => Lib.run_next_any_at wr w.heap.size s pos ty hit hlt
        have HI2 := Lib.hid (hI.out.next (pos + (Utf8.decode s pos).2))
        generalize Utf8.decode s pos = d at *
        have HL := Lib.hid (name_high (d.1 : Int) (by omega))
        clear hit ha hI hd
        go_wp2_with (go_at_call 22; refine (HL.out _).mono ?_; rintro e w2 ⟨rfl, hF⟩; have HI3 := Lib.hid (HI2.out.to hF); clear hF)
        go_ret
        exact ⟨rfl, HI3.out.far⟩
    · obtain rfl : pos = n := by omega
      have HE : Hid (s.size = pos) := Lib.hid (by omega)
      have hnx : ∀ ty, (Instr.next (.pointer (some ⟨w.heap.size, 0, none⟩)) true ty).run Tryd.prog wr = _ := fun ty => Lib.run_next_end_at wr w.heap.size s pos ty hit hlt
      clear hit
      go_wp2
      go_ret
      exact ⟨ret_num (by rw [HE.out]), hI.out.far⟩
theorem drop_at0 (s : ByteArray) (i : Nat) (h : i < s.size) : (bts s).drop i = s[i] :: (bts s).drop (i + 1) := drop_cons s i h
def GI (s : ByteArray) (w : World) (G : Nat) (cm : Bool) (pos : Nat) (wr : World) : Prop := It w s pos wr ∧ pos + gapF cm ((bts s).drop pos) = G
theorem GI.go {s : ByteArray} {w wr w2 : World} {G pos p : Nat} {cm cm2 : Bool} (h : GI s w G cm pos wr) (h2 : It w s p w2) (e : gapF cm ((bts s).drop pos) = p - pos + gapF cm2 ((bts s).drop p)) (hp : pos ≤ p) : GI s w G cm2 p w2 := ⟨h2, by have := h.2; omega⟩
theorem hi_gap (s : ByteArray) (pos : Nat) (h : pos < s.size) (ha : 128 ≤ (s[pos]'h).toNat) : gapF true ((bts s).drop pos) = (Utf8.decode s pos).2 + gapF true ((bts s).drop (pos + (Utf8.decode s pos).2)) := by
  rw [gapF_hi (Utf8.decode s pos).2 ((bts s).drop pos) (fun j hj => ?_), List.drop_drop]
  obtain ⟨hj2, h2⟩ := decode_bytes s pos h ha j hj
  exact ⟨_, drop_at s pos j hj2, h2⟩
theorem dec_in (s : ByteArray) (pos : Nat) (h : pos < s.size) (ha : 128 ≤ (s[pos]'h).toNat) : pos + (Utf8.decode s pos).2 ≤ s.size := by
  have h1 := (decode_high s pos h ha).2
  obtain ⟨hj, _⟩ := decode_bytes s pos h ha ((Utf8.decode s pos).2 - 1) (by omega)
  omega
theorem not_eq {c : UInt8} {n : Int} (h : c.toNat ≠ n.toNat) (hn : 0 ≤ n) : ((c.toNat : Int) == n) = false := by rw [beq_eq_false_iff_ne]; omega
set_option maxHeartbeats 4000000 in
theorem gap_any (s : ByteArray) (w : World) : Calls Tryd.prog 11 #[.string s] w fun e w' => e = .returned (.int .i64 ((gapF false (bts s) : Nat) : Int)) ∧ MM.Far [] w w' := by
  obtain ⟨G, hG⟩ : ∃ G, gapF false (bts s) = G := ⟨_, rfl⟩
  have hle : G ≤ s.size := by
    have := gapF_le false (bts s)
    rw [bts_len] at this; omega
  have HB : Hid (GI s w G false 0 (w.iter s 0)) := Lib.hid ⟨It.begin w s, by rw [List.drop_zero, Nat.zero_add]; exact hG⟩
  rw [hG]
  clear hG
  go_enter Tryd.func11, Tryd.ntmps11
  go_wp2
  go_loopw [3] (fun s3 wr => ∃ (pos : Nat) (cm : Bool), pos ≤ s.size ∧ s3 = .bool cm ∧ Hid (GI s w G cm pos wr)) (fun _ wr => s.size - wr.iterPos w.heap.size)
  case atStart => exact ⟨0, false, by omega, rfl, HB⟩
  case round =>
    obtain ⟨pos, cm, hp, rfl, hI⟩ := hrel
    have hit := hI.out.1.it
    have HP := Lib.hid hI.out.1.pos
    by_cases hlt : pos < s.size
    · by_cases ha : (s[pos]).toNat < 128
      · have hnx : ∀ ty, (Instr.next (.pointer (some ⟨w.heap.size, 0, none⟩)) true ty).run Tryd.prog wr = _ := fun ty => Lib.run_next_ascii_at wr w.heap.size s pos ty hit hlt ha
        have HI2 := Lib.hid (hI.out.1.next (pos + 1))
        have hd := drop_cons s pos hlt
        by_cases h10 : s[pos] = 10
        · have HN : Hid (GI s w G false (pos + 1) (wr.iterAt w.heap.size s (pos + 1))) := Lib.hid (hI.out.go HI2.out (by rw [hd, h10, gapF_nl]; omega) (by omega))
          have d10 := eq_yes h10 (n := 10) rfl
          clear hd h10 hit ha
          go_wp2
          go_roundw
          case rel => exact ⟨pos + 1, false, by omega, rfl, HN⟩
          case measure => rw [HI2.out.pos, HP.out]; omega
        · have d10 := eq_no h10 (n := 10) rfl
          by_cases h59 : s[pos] = 59
          · have HN : Hid (GI s w G true (pos + 1) (wr.iterAt w.heap.size s (pos + 1))) := Lib.hid (hI.out.go HI2.out (by rw [hd, h59, gapF_note]; omega) (by omega))
            have d59 := eq_yes h59 (n := 59) rfl
            clear hd h10 h59 hit ha
            go_wp2
            go_roundw
            case rel => exact ⟨pos + 1, true, by omega, rfl, HN⟩
            case measure => rw [HI2.out.pos, HP.out]; omega
          · have d59 := eq_no h59 (n := 59) rfl
            cases cm with
            | true =>
              have HN : Hid (GI s w G true (pos + 1) (wr.iterAt w.heap.size s (pos + 1))) := Lib.hid (hI.out.go HI2.out (by rw [hd, gapF_in _ h10 h59]; omega) (by omega))
              clear hd h10 h59 hit ha
              go_wp2
              go_roundw
              case rel => exact ⟨pos + 1, true, by omega, rfl, HN⟩
              case measure => rw [HI2.out.pos, HP.out]; omega
            | false =>
              by_cases h32 : s[pos] = 32
              · have HN : Hid (GI s w G false (pos + 1) (wr.iterAt w.heap.size s (pos + 1))) := Lib.hid (hI.out.go HI2.out (by rw [hd, gapF_blank _ _ (.inl h32)]; omega) (by omega))
                have d32 := eq_yes h32 (n := 32) rfl
                have d32' : (((s[pos]).toNat : Int) != 32) = false := by rw [bne, d32]; rfl
                clear hd h10 h59 h32 hit ha
                go_wp2
                go_roundw
                case rel => exact ⟨pos + 1, false, by omega, rfl, HN⟩
                case measure => rw [HI2.out.pos, HP.out]; omega
              · have d32 := eq_no h32 (n := 32) rfl
                have d32' : (((s[pos]).toNat : Int) != 32) = true := by rw [bne, d32]; rfl
                have n32 : ¬ (((s[pos]).toNat : Int) = 32) := by simpa using d32
                by_cases h9 : s[pos] = 9
                · have HN : Hid (GI s w G false (pos + 1) (wr.iterAt w.heap.size s (pos + 1))) := Lib.hid (hI.out.go HI2.out (by rw [hd, gapF_blank _ _ (.inr h9)]; omega) (by omega))
                  have d9 := eq_yes h9 (n := 9) rfl
                  have d9' : (((s[pos]).toNat : Int) != 9) = false := by rw [bne, d9]; rfl
                  clear hd h10 h59 h32 h9 hit ha
                  go_wp2
                  go_roundw
                  case rel => exact ⟨pos + 1, false, by omega, rfl, HN⟩
                  case measure => rw [HI2.out.pos, HP.out]; omega
                · have d9 := eq_no h9 (n := 9) rfl
                  have d9' : (((s[pos]).toNat : Int) != 9) = true := by rw [bne, d9]; rfl
                  have n9 : ¬ (((s[pos]).toNat : Int) = 9) := by simpa using d9
                  have HE : Hid (pos = G) := Lib.hid (by have := hI.out.2; rw [hd, gapF_end _ h10 h59 h32 h9] at this; omega)
                  clear hd h10 h59 h32 h9 hit ha
                  go_wp2
                  go_ret
                  exact ⟨ret_num (by rw [HE.out]), HI2.out.far⟩
      · have ha : 128 ≤ (s[pos]).toNat := by omega
        have hnx : ∀ ty, (Instr.next (.pointer (some ⟨w.heap.size, 0, none⟩)) true ty).run Tryd.prog wr = _ := fun ty => Lib.run_next_any_at wr w.heap.size s pos ty hit hlt
        have HI2 := Lib.hid (hI.out.1.next (pos + (Utf8.decode s pos).2))
        obtain ⟨hd1, hd2⟩ := decode_high s pos hlt ha
        cases cm with
        | true =>
          have hin := dec_in s pos hlt ha
          have HN : Hid (GI s w G true (pos + (Utf8.decode s pos).2) (wr.iterAt w.heap.size s (pos + (Utf8.decode s pos).2))) := Lib.hid (hI.out.go HI2.out (by rw [hi_gap s pos hlt ha]; omega) (by omega))
          generalize Utf8.decode s pos = d at *
          have d10 : ((d.1 : Int) == 10) = false := by rw [beq_eq_false_iff_ne]; omega
          have d59 : ((d.1 : Int) == 59) = false := by rw [beq_eq_false_iff_ne]; omega
          clear hit ha
          go_wp2
          go_roundw
          case rel => exact ⟨pos + d.2, true, hin, rfl, HN⟩
          case measure => rw [HI2.out.pos, HP.out]; omega
        | false =>
          have HE : Hid (pos = G) := Lib.hid (by
            have := hI.out.2
            have n (x : UInt8) (hx : x.toNat < 128) : s[pos] ≠ x := by intro e; rw [e] at ha; omega
            rw [drop_cons s pos hlt, gapF_end _ (n 10 (by decide)) (n 59 (by decide)) (n 32 (by decide)) (n 9 (by decide))] at this
            omega)
          generalize Utf8.decode s pos = d at *
          have d10 : ((d.1 : Int) == 10) = false := by rw [beq_eq_false_iff_ne]; omega
          have d59 : ((d.1 : Int) == 59) = false := by rw [beq_eq_false_iff_ne]; omega
          have d32 : ((d.1 : Int) == 32) = false := by rw [beq_eq_false_iff_ne]; omega
          have d9 : ((d.1 : Int) == 9) = false := by rw [beq_eq_false_iff_ne]; omega
          have d32' : ((d.1 : Int) != 32) = true := by rw [bne, d32]; rfl
          have d9' : ((d.1 : Int) != 9) = true := by rw [bne, d9]; rfl
          have n32 : ¬ ((d.1 : Int) = 32) := by omega
          have n9 : ¬ ((d.1 : Int) = 9) := by omega
          clear hit ha hd1 hd2
          go_wp2
          go_ret
          exact ⟨ret_num (by rw [HE.out]), HI2.out.far⟩
    · have HE : Hid (s.size = G) := Lib.hid (by
        have := hI.out.2
        rw [List.drop_eq_nil_of_le (by rw [bts_len]; omega)] at this
        simp [gapF] at this; omega)
      have HF := Lib.hid hI.out.1.far
      have hnx : ∀ ty, (Instr.next (.pointer (some ⟨w.heap.size, 0, none⟩)) true ty).run Tryd.prog wr = _ := fun ty => Lib.run_next_end_at wr w.heap.size s pos ty hit hlt
      clear hit hI
      go_wp2
      go_ret
      exact ⟨ret_num (by rw [HE.out]), HF.out⟩
end LW
end Go.Proofs.YtbglcdjimipeeaaDoor
