/-
  The walk of ArenaRoom: things are made till there is no room, and a nil arena has none. Condition: the argument is a slice of numbers that fit their kind.
-/
import Derived.Test.YtfjijcepggmigaaArenaApp
import Derived.Deep.DeepCutAuto
namespace Go.Proofs.Ytfjijcepggmigaa
open Go.RowKit
namespace AL
open AW
theorem u8_of {x : Int} (h : (Lit.int .u8 x).wf = true) : 0 ≤ x ∧ x ≤ 255 := by
  simp [Lit.wf, IntKind.min, IntKind.max, IntKind.signed, IntKind.bits] at h
  omega
/-- The first numbers of a slice that came in, cell by cell. -/
theorem cell_at {k : IntKind} {a : Option Addr} {len cap : Nat} {zs : List Int} {w w' : World} (hz : MR.Ints k w a len cap zs) (hF : MM.Far [] w w') (i : Nat) (hi : i < len) : ∃ b off, a = some ⟨b, off, none⟩ ∧ w'.cell? ⟨b, off + i, none⟩ = some (.int k (zs.getD i 0)) := by
  have hp : 0 < (zs.map (Value.int k)).length := by rw [List.length_map, hz.len_]; omega
  obtain ⟨ad, e, _, hl, hc⟩ := (hz.src.far hF (by simp)) hp
  obtain ⟨b, off, spot⟩ := ad
  have hil : i < zs.length := by rw [hz.len_]; omega
  have h0 := hc 0 (.int k (zs.getD 0 0)) (by rw [List.getElem?_map, List.getElem?_eq_getElem (by omega)]; simp [List.getD, List.getElem?_eq_getElem (show 0 < zs.length by omega)])
  have hs : spot = none := by simpa [Addr.add] using World.cell?_spot h0
  subst hs
  refine ⟨b, off, e, ?_⟩
  have h1 := hc i (.int k (zs.getD i 0)) (by rw [List.getElem?_map, List.getElem?_eq_getElem hil]; simp [List.getD, List.getElem?_eq_getElem hil])
  have e2 : (⟨b, off, none⟩ : Addr).add i = ⟨b, off + i, none⟩ := by
    unfold Addr.add; split
    · rename_i h; subst h; rfl
    · rfl
  rwa [e2] at h1
set_option maxRecDepth 100000 in
set_option maxHeartbeats 4000000 in
theorem room (s : Int) (a : Option Addr) (len cap : Nat) (zs : List Int) (w : World) (hs : (Lit.int .u8 s).wf = true) (hz : MR.Ints .u8 w a len cap zs) :
    Calls Try.prog 5 #[.int .u8 s, .slice a len cap] w fun e w' => e = .returned (.bool true) ∧ Below w.heap.size w w' := by
  have hle := hz.le
  have hmax := hz.max
  unfold maxLen at hmax
  obtain ⟨hs0, hs1⟩ := u8_of hs
  have HZ := Lib.hid hz
  have HL := Lib.hid hz.len_
  have hnil := hz.nil
  clear hs hz
  go_enter Try.func5, Try.ntmps5
  go_wp2_with (fail)
  refine (shown_any w).mono ?_
  rintro e w0 ⟨rfl, hF0⟩
  obtain ⟨n, hn⟩ : ∃ n : Nat, s % 200 + 1 = n := ⟨(s % 200 + 1).toNat, by omega⟩
  have hn1 : 1 ≤ n := by omega
  have hn2 : n ≤ 200 := by omega
  go_wp2_with (fail)
  refine (new_ok w0 n hn1 (by omega)).mono ?_
  rintro e w1 ⟨p, g, h, rfl, hp, hg, hh, hA1, hF1⟩
  have HA1 := Lib.hid hA1
  go_upto_region 7 with ((go_at_call 24; refine (size_any HA1.out).mono ?_; rintro e w' ⟨rfl, rfl⟩))
  obtain ⟨m, hm⟩ : ∃ m, m = min len 100 := ⟨_, rfl⟩
  have hm1 : m ≤ len := by omega
  have hm2 : m ≤ 100 := by omega
  go_cut [48, 49, 50] (fun s48 s49 s50 wx => s48 = .slice a m cap ∧ s49 = .int .i64 m ∧ s50 = .int .i64 0 ∧ wx = w1)
  case first =>
    cases a with
    | none =>
      obtain rfl : cap = 0 := hnil rfl
      obtain rfl : len = 0 := by omega
      obtain rfl : m = 0 := by omega
      clear hm
      go_wp2
      go_meet
      exact ⟨rfl, rfl, rfl, rfl⟩
    | some ad =>
      by_cases h20 : len ≤ 100
      · obtain rfl : m = len := by omega
        clear hm
        go_wp2
        go_meet
        exact ⟨rfl, rfl, rfl, rfl⟩
      · obtain rfl : m = 100 := by omega
        clear hm
        go_wp2
        go_meet
        exact ⟨rfl, rfl, rfl, rfl⟩
  case rest =>
    obtain ⟨rfl, rfl, rfl, hwc⟩ := hcut
    subst hwc
    clear hm
    have hp1 := HA1.out.head.lt
    have hg1 := HA1.out.words.lt
    have hh1 := HA1.out.kinds.lt
    have s0 := hF0.size
    go_wp2_with (fail)
    go_loopw [9, 50] (fun u i wr => ∃ k : Nat, k ≤ m ∧ i = .int .i64 k ∧ ∃ ts, u = .int .i64 (AP.sz ts : Nat) ∧ Ar wr p g h n ts ∧ MM.Far [p, g, h] wc wr) (fun _ i _ => m - (intOf i).toNat)
    case atStart => exact ⟨0, Nat.zero_le _, rfl, [], rfl, HA1.out, MM.Far.refl _ _⟩
    case round =>
      obtain ⟨k, hk, rfl, ts, rfl, hAr, hFr⟩ := hrel
      have hroom : AP.sz ts ≤ n := hAr.ok.room
      by_cases hlt : k < m
      · have hFw : MM.Far [] w wr := (hF0.trans hF1 (by simp)).trans hFr (by simp; omega)
        obtain ⟨b, off, rfl, hcell⟩ := cell_at HZ.out hFw k (by omega)
        have hzk : 0 ≤ zs.getD k 0 ∧ zs.getD k 0 ≤ 255 := by
          have hkl : k < zs.length := by rw [HL.out]; omega
          have := HZ.out.wf (zs.getD k 0) (by simp [List.getD, List.getElem?_eq_getElem hkl])
          exact u8_of this
        generalize zs.getD k 0 = z at hcell hzk
        obtain ⟨c, hc⟩ : ∃ c : Nat, z % 10 = c := ⟨(z % 10).toNat, by omega⟩
        have hc9 : c < 10 := by omega
        have hmk := run_make_row' (P := Try.prog) 34 33 (.int .u64 0) 8 words_slice word_info rfl .u8 .u8 c (by omega) (by omega)
        have hAr2 := hAr.far ((MM.Far.refl [] wr).alloc (.cells (madeCells #[.int .u64 0] c) 33)) (by simp) (by simp) (by simp)
        have hsrc : MM.Src (wr.alloc (.cells (madeCells #[.int .u64 0] c) 33)) [p, g, h] (some ⟨wr.heap.size, 0, none⟩) (U64s (List.replicate c 0)) := by
          rw [made_list]
          have s1 := hFr.size
          exact MM.Src.row (MM.Row.new wr _ _) (by simp; omega) _ (fun j u hu => by rw [← hu]; simp [U64s])
        have hu0 : ∀ x ∈ List.replicate c (0 : Int), WP.U x := by intro x hx; have := List.eq_of_mem_replicate hx; subst this; unfold WP.U; omega
        have HR := Lib.hid hAr
        have HR2 := Lib.hid hAr2
        have HS := Lib.hid hsrc
        clear hAr hAr2 hsrc
        by_cases hr : n ≤ AP.sz ts + c
        · have h20 : allE n ts 1 c = 20 := by unfold allE; rw [if_neg (by omega), if_pos hr]
          have HC := Lib.hid (alloc_to HR2.out 1 _ c c (List.replicate c 0) 0 20 ts (by simp) (by omega) hu0 (by unfold allW; rw [if_neg (by omega)]) h20 (by unfold allT; rw [if_neg (by simp; omega)]) HS.out)
          clear h20
          go_wp2_with (first | (go_at_call 13; refine HC.out.mono ?_; rintro e w' ⟨rfl, hA3, hF3⟩; have HA3 := Lib.hid hA3) | (go_at_call 23; refine (used_any HA3.out).mono ?_; rintro e w' ⟨rfl, rfl⟩))
          go_roundw
          case rel => exact ⟨k + 1, by omega, by go_num, ts, rfl, hA3, (hFr.alloc _).trans hF3 (fun x hx _ => hx)⟩
          case measure => simp [intOf]; omega
        · have h00 : allE n ts 1 c = 0 := by unfold allE; rw [if_neg (by omega), if_neg (by omega)]
          have hsz : AP.sz ts ≤ 200 := by omega
          have hbits : bits .or .u64 ((AP.sz ts : Int) * 8) 1 = WP.ofW 1 (AP.sz ts) := by
            have := WP.mk_of 1 (AP.sz ts) (by rw [WP.ofB_iff]; omega)
            rw [IntKind.wrap_u64] at this
            exact this
          have HC := Lib.hid (alloc_to HR2.out 1 _ c c (List.replicate c 0) (WP.ofW 1 (AP.sz ts)) 0 (ts ++ [⟨1, List.replicate c 0⟩]) (by simp) (by omega) hu0 (by unfold allW; rw [if_pos h00]) h00 (by unfold allT; rw [if_pos (by simpa using h00)]) HS.out)
          have HZ2 := Lib.hid (AP.sz_snoc ts ⟨1, List.replicate c 0⟩)
          have hr2 : AP.sz ts + c < n := by omega
          have HB := Lib.hid hbits
          have ht : decide ((n : Int) < (AP.sz ts : Int) + c + 1) = false := by simp; omega
          clear h00 hbits hr hr2
          go_wp2_with (fail)
          refine HC.out.mono ?_
          rintro e w' ⟨rfl, hA3, hF3⟩
          have hbits := HB.out
          go_wp2_with (fail)
          go_roundw
          case rel =>
            refine ⟨k + 1, by omega, by go_num, ts ++ [⟨1, List.replicate c 0⟩], ?_, hA3, (hFr.alloc _).trans hF3 (fun x hx _ => hx)⟩
            have := HZ2.out
            simp only [List.length_replicate] at this
            rw [this]; go_num
          case measure => simp [intOf]; omega
      · have hFw : MM.Far [] w wr := (hF0.trans hF1 (by simp)).trans hFr (by simp; omega)
        have HR := Lib.hid hAr
        clear hAr
        go_wp2_with (first
          | (go_at_call 13; (with_reducible refine (alloc_nil 1 none 0 0 (by omega) (by omega) (by omega) _).mono ?_); rintro e w' ⟨rfl, rfl⟩)
          | (go_at_call 13; (with_reducible refine (alloc_bad _ (.pointer none) 0 none 0 0 (by omega) (by omega)).mono ?_); rintro e w' ⟨rfl, rfl⟩)
          | (go_at_call 17; refine (get_nil 1 (by unfold WP.U; omega) 0 _).mono ?_; rintro e w' ⟨rfl, rfl⟩)
          | (go_at_call 15; refine (set_nil 1 (by unfold WP.U; omega) 0 0 _).mono ?_; rintro e w' ⟨rfl, rfl⟩)
          | (go_at_call 19; refine (kind_nil 1 (by unfold WP.U; omega) _).mono ?_; rintro e w' ⟨rfl, rfl⟩)
          | (go_at_call 21; refine (len_nil 1 (by unfold WP.U; omega) _).mono ?_; rintro e w' ⟨rfl, rfl⟩)
          | (go_at_call 24; refine (size_nil _).mono ?_; rintro e w' ⟨rfl, rfl⟩)
          | (go_at_call 23; (with_reducible refine (used_nil _).mono ?_); rintro e w' ⟨rfl, rfl⟩)
          | (go_at_call 23; (with_reducible refine (used_any HR.out).mono ?_); rintro e w' ⟨rfl, rfl⟩))
        go_ret
        exact ⟨rfl, hFw.below_nil⟩
end AL
end Go.Proofs.Ytfjijcepggmigaa
