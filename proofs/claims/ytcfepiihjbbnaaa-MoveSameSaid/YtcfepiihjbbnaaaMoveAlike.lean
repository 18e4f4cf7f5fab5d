/-
  Contract of the statements' comparison of an arena with the document's. Condition: both are as one list of things says.
-/
import Derived.Test.YtcfepiihjbbnaaaMoveShown
import Derived.Test.YtcfepiihjbbnaaaMoveLaws1
import Derived.Test.YtcfepiihjbbnaaaRefWalks3
namespace Go.Proofs.Ytcfepiihjbbnaaa
open Go.RowKit
namespace MW
open AW AP RP RW AL ML
theorem len_at_ {ts : List Th} {x : Int} {i : Nat} (h : AW.look ts x = some i) : lenN ts x = (th ts i).l.length := by
  unfold lenN; rw [h]
theorem get_at_ {ts : List Th} {x : Int} {i : Nat} (h : AW.look ts x = some i) {j : Nat} (hj : j < (th ts i).l.length) : getW ts x j = (th ts i).l[j] ∧ getE ts x j = 0 := by
  unfold getW getE
  rw [h]
  simp [hj]
theorem kind_at_ {ts : List Th} {x : Int} {i : Nat} (h : AW.look ts x = some i) : kindN ts x = (th ts i).k := by
  unfold kindN; rw [h]
set_option maxRecDepth 100000 in
set_option maxHeartbeats 4000000 in
theorem alike_any {w : World} {p g h n base q : Nat} {v : Value} {ts : List Th} {hs : List Value} (hA : Ar w p g h n ts) (hR : Rr w base q n v ts hs) :
    Calls Try.prog 10 #[ptr p, ptr q] w fun e w' => e = .returned (.bool true) ∧ MM.Far [] w w' := by
  have r0 := hR.head.at (i := 0) rfl
  have r1 := hR.head.at (i := 1) rfl
  have r2 := hR.head.at (i := 2) rfl
  obtain ⟨A0, c, ev, _, hlc, hcm, _, hc⟩ := MO.form hR.row
  rw [ev] at r2
  unfold maxLen at hcm
  obtain ⟨N, hN⟩ : ∃ N, ts.length = N := ⟨_, rfl⟩
  have hN6 : N ≤ 65536 := by
    have := len_le_sz ts
    have := hR.ok.room
    have := hR.ok.size
    omega
  have hn6 := hR.ok.size
  rw [hN] at r2 hlc
  have HN := Lib.hid hN
  have HE := Lib.hid ev
  have HA := Lib.hid (fun (d : Nat) => hA.far ((MM.Far.refl [] w).drewN d) (by simp) (by simp) (by simp))
  have HAF := Lib.hid (fun (w' : World) (f : MM.Far [] w w') => hA.far f (by simp) (by simp) (by simp))
  have HRF := Lib.hid (fun (w' : World) (f : MM.Far [] w w') => hR.far (S := []) f (by simp))
  have HO := Lib.hid hR.ok
  clear hA hR hN ev hc
  go_enter Try.func10, Try.ntmps10
  go_wp2_with (fail)
  go_quiet ((first | (go_at_call 17; exact quiet_d (used_any (HA.out _))) | (go_at_call 26; exact quiet_d (size_any (HA.out _)))))
  go_wp2_with (fail)
  go_loopw [33] (fun i wr => ∃ k : Nat, k ≤ N ∧ i = .int .i64 (k : Int) ∧ Hid (MM.Far [] w wr)) (fun i _ => N - (intOf i).toNat)
  case atStart => exact ⟨0, by omega, rfl, Lib.hid ((MM.Far.refl [] w).drewN _)⟩
  case round =>
    obtain ⟨k, hk, rfl, hF⟩ := hrel
    by_cases hlt : k < N
    · have hkl : k < ts.length := by rw [HN.out]; exact hlt
      obtain ⟨gb, c', A, d, e, hg1, hg2, cell0, cell1, cell2, hhd, hkid, hA'⟩ := (HRF.out wr hF.out).at hkl
      have ee := HE.out.symm.trans e
      injection ee with ee _ ec
      subst ee
      subst ec
      obtain ⟨L, hL⟩ : ∃ L, (th ts k).l.length = L := ⟨_, rfl⟩
      have hL255 : L ≤ 255 := by rw [← hL]; exact (HO.out.each k hkl).2.2.1
      have hK9 := (HO.out.each k hkl).2.1
      have hK1 := (HO.out.each k hkl).1
      rw [hL] at cell2 hkid
      have hoff : off ts k ≤ 65536 := by
        have h1 := sz_take_le ts k
        have h2 := HO.out.room
        unfold off; omega
      have hor := at_or (off ts k) hoff
      have hpl : pl ts k = WP.ofW 1 (off ts k : Nat) := rfl
      rw [← hpl] at hor
      have HKd := Lib.hid (fun (w' : World) (f : MM.Far [] w w') => kind_to (HAF.out w' f) (pl ts k) (th ts k).k (pl_u ts k) (kind_at_ (look_pl HO.out hkl)))
      have HLn := Lib.hid (fun (w' : World) (f : MM.Far [] w w') => len_to (HAF.out w' f) (pl ts k) L (pl_u ts k) ((len_at_ (look_pl HO.out hkl)).trans (congrArg Int.ofNat hL)))
      have HGt := Lib.hid (fun (j : Nat) (hj : j < (th ts k).l.length) (w' : World) (f : MM.Far [] w w') => get_to (HAF.out w' f) (pl ts k) j (th ts k).l[j] 0 (pl_u ts k) (get_at_ (look_pl HO.out hkl) hj).1 (get_at_ (look_pl HO.out hkl) hj).2)
      have HKid := Lib.hid (fun (w' : World) (f : MM.Far [] w w') => (show w'.ownsRow base 42 1 (.slice A L d) L (U64s (th ts k).l) from by
        obtain ⟨_, _, A3, d3, _, _, _, _, _, _, hhd3, hkid3, _⟩ := (HRF.out w' f).at hkl
        rw [hhd] at hhd3
        rw [hL] at hhd3 hkid3
        injection hhd3 with h3
        injection h3 with h3 _ h4
        subst h3
        subst h4
        exact hkid3))
      have HA' := Lib.hid hA'
      generalize pl ts k = X at *
      generalize off ts k = o at *
      generalize (th ts k).k = kk at *
      generalize (th ts k).l = l at *
      have HF := Lib.hid hF.out
      have HL := Lib.hid hL
      clear hpl hF hhd hA' e hL
      go_wp2_with (fail)
      have hB := MM.Row.new wr 68 [.int .i64 o, .int .i64 kk, .slice A L d]
      have b1 := hB.at (i := 1) rfl
      have b2 := hB.at (i := 2) rfl
      have HF2 := Lib.hid (fun (d9 : Nat) => (HF.out.alloc (.cells #[.int .i64 o, .int .i64 kk, .slice A L d] 68)).drewN d9)
      clear hB hkid
      go_quiet ((first | (go_at_call 13; exact quiet_d (HKd.out _ (HF2.out _))) | (go_at_call 15; exact quiet_d (HLn.out _ (HF2.out _)))))
      go_wp2_with (fail)
      go_loopw [60] (fun i w3 => ∃ j : Nat, j ≤ L ∧ i = .int .i64 (j : Int) ∧ Hid (MM.Far [] w w3)) (fun i _ => L - (intOf i).toNat)
      case atStart => exact ⟨0, by omega, rfl, Lib.hid (HF2.out _)⟩
      case round =>
        rename World => w3
        obtain ⟨j, hj, rfl, hF3⟩ := hrel
        by_cases hlj : j < L
        · have hjl : j < l.length := by rw [HL.out]; exact hlj
          obtain ⟨gq, hgq, _, _⟩ := HA'.out (by omega)
          subst hgq
          have cw := (HKid.out w3 hF3.out).cellAt j (by omega)
          rw [show (U64s l)[j]? = some (.int .u64 l[j]) from by simp [U64s, hjl]] at cw
          have HG := Lib.hid (HGt.out j hjl w3 hF3.out)
          generalize l[j] = y at cw HG
          go_wp2_with (go_at_call 16; refine HG.out.mono ?_; rintro e w' ⟨rfl, rfl⟩)
          go_roundw
          case rel => exact ⟨j + 1, by omega, by go_num, hF3⟩
          case measure => simp [intOf]; omega
        · obtain rfl : j = L := by omega
          go_wp2_with (fail)
          go_roundw
          case rel => exact ⟨k + 1, by omega, by go_num, hF3⟩
          case measure => simp [intOf]; omega
    · go_wp2_with (fail)
      go_ret
      exact ⟨rfl, hF.out⟩
end MW
end Go.Proofs.Ytcfepiihjbbnaaa
