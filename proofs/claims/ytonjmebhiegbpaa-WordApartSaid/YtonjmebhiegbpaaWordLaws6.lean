/-
  The walk of layer 1's statement WordApart: it answers true for any two numbers. No condition.
-/
import Derived.Test.YtonjmebhiegbpaaProg
import Derived.Test.YtonjmebhiegbpaaWordPlain
import Derived.Test.YtonjmebhiegbpaaWordPlain2
import Derived.Test.YtonjmebhiegbpaaWordPlain3
import Derived.Test.YtonjmebhiegbpaaWordPlain6
import Derived.Test.YtonjmebhiegbpaaWordPlain7
import Derived.Test.YtonjmebhiegbpaaMapBool
import Derived.Test.YtonjmebhiegbpaaWordWalks1
import Derived.Test.YtonjmebhiegbpaaWordWalks2
import Derived.Test.YtonjmebhiegbpaaWordShown
import Derived.Lib.Hide
import Derived.Maps.OwnOps
import Derived.Maps.AppendAt
import Derived.Deep.DeepCutAuto
namespace Go.Proofs.Ytonjmebhiegbpaa
open Go.RowKit Go.Maps
namespace WL
open WW
theorem word_info : (Try.prog.info? 23).map (fun i => (i.zero, i.size, i.bytes)) = some (some (.int .u64 0), 1, 8) := by kernel_rfl
theorem word_keyed : Keyed Try.prog 23 := int_keyed Try.underlying23
theorem bool_zero (w : World) : (zeroValue 4).run Try.prog w = .ok (.bool false) w := by kernel_rfl
theorem cell_new_at (w : World) (cs : Array Value) (t : TypeId) : ∀ j u, cs.toList[j]? = some u → (w.alloc (.cells cs t)).cell? ((⟨w.heap.size, 0, none⟩ : Addr).add j) = some u := by
  intro j u hj
  have e : ((⟨w.heap.size, 0, none⟩ : Addr).add j) = ⟨w.heap.size, j, none⟩ := by unfold Addr.add; by_cases h : j = 0 <;> simp [h]
  rw [e, cell_of_row _ _ j cs t (0, 0) (heap_alloc_new w _)]
  simpa using hj
theorem kinds_block (w : World) (i : Nat) (u : Value) {B : Nat} {t : TypeId} {cs : Array Value} (h : w.heap[B]? = some (.cells cs t (0, 0))) (hu : cs[i]? = some u) : w.cell? ⟨B, i, none⟩ = some u := by
  rw [cell_of_row _ _ i cs t (0, 0) h]; exact hu
theorem own_ge {w : World} {base : Nat} {e : TypeId} {size : Nat} {v : Value} {n : Nat} {xs : List Value} (h : w.ownsRow base e size v n xs) : ∀ k, v.ownBlock = some k → base ≤ k := by
  intro k hk
  rcases h.2 with ⟨rfl, _⟩ | ⟨g, cap, cur, rfl, hg, _⟩
  · simp [Value.ownBlock] at hk
  · simp [Value.ownBlock] at hk; omega
theorem own_lt {w : World} {base : Nat} {e : TypeId} {size : Nat} {v : Value} {n : Nat} {xs : List Value} (h : w.ownsRow base e size v n xs) : ∀ k, v.ownBlock = some k → k < w.heap.size := by
  intro k hk
  rcases h.2 with ⟨rfl, _⟩ | ⟨g, cap, cur, rfl, hg, hh, _⟩
  · simp [Value.ownBlock] at hk
  · simp [Value.ownBlock] at hk
    have := (Array.getElem?_eq_some_iff.1 hh).1
    omega
theorem app_keeps {w wr w1 : World} {o : Obj} {e : TypeId} {v : Value} {n : Nat} {xs : List Value} {cs : Array Value} {t : TypeId} (hown : wr.ownsRow (w.heap.size + 1) e 1 v n xs) (hblk : wr.heap[w.heap.size]? = some (.cells cs t (0, 0)))
    (hbel : Below w.heap.size w wr) (hsz : w.heap.size + 1 ≤ wr.heap.size) (hg : (wr.alloc o).grownBy w1 v.ownBlock) : w1.heap[w.heap.size]? = some (.cells cs t (0, 0)) ∧ Below w.heap.size w w1 ∧ w.heap.size + 1 ≤ w1.heap.size := by
  have h1 : (wr.alloc o).heap[w.heap.size]? = some (.cells cs t (0, 0)) := by rw [heap_alloc_old wr o (by omega)]; exact hblk
  refine ⟨?_, (hbel.alloc (by omega) o).grown hg (by simp; omega) (fun k hk => by have := own_ge hown k hk; omega), ?_⟩
  · rw [hg.block w.heap.size (by simp; omega) (fun e => by have := own_ge hown _ e.symm; omega)]; exact h1
  · have := hg.size; simp at this; omega
def Rel1 (a : Int) (w : World) (v i : Value) (wr : World) : Prop :=
  ∃ j : Nat, j ≤ 3 ∧ i = .int .i64 (j : Int) ∧ wr.ownsRow (w.heap.size + 1) 23 1 v (WP.W1 a j).length (WP.vs (WP.W1 a j)) ∧
    wr.heap[w.heap.size]? = some (.cells #[.int .i64 1, .int .i64 3, .int .i64 4] 3 (0, 0)) ∧ Below w.heap.size w wr ∧ w.heap.size + 1 ≤ wr.heap.size
def Rel2 (L : List Int) (W0 : World) (i : Value) (wr : World) : Prop :=
  ∃ j : Nat, j ≤ L.length ∧ i = .int .i64 (j : Int) ∧ wr.ownsMap Try.prog 23 (plainElem Try.prog 4) W0.heap.size j (WP.DM L j) ∧ Below W0.heap.size W0 wr
theorem own_form {w : World} {base : Nat} {e : TypeId} {v : Value} {n : Nat} {xs : List Value} (h : w.ownsRow base e 1 v n xs) (hn : 0 < n) : ∃ g cap, v = .slice (some ⟨g, 0, none⟩) n cap ∧ base ≤ g ∧ g < w.heap.size ∧
    ∀ j u, xs[j]? = some u → w.cell? ⟨g, j, none⟩ = some u := by
  have h0 := h
  rcases h.2 with ⟨_, h1⟩ | ⟨g, cap, cur, rfl, hg, hh, _⟩
  · omega
  · refine ⟨g, cap, rfl, hg, (Array.getElem?_eq_some_iff.1 hh).1, fun j u hu => ?_⟩
    have := h0.cells (g := g) (by simp [Value.ownBlock]) j u hu
    have e : ((⟨g, 0, none⟩ : Addr).add j) = ⟨g, j, none⟩ := by unfold Addr.add; by_cases h : j = 0 <;> simp [h]
    rw [e] at this; exact this
theorem kinds_at (wr : World) (B j : Nat) (hj : j < 3) (h : wr.heap[B]? = some (.cells #[.int .i64 1, .int .i64 3, .int .i64 4] 3 (0, 0))) : wr.cell? ⟨B, j, none⟩ = some (.int .i64 (WP.kAt j)) := by
  have hj' : j = 0 ∨ j = 1 ∨ j = 2 := by omega
  rcases hj' with rfl | rfl | rfl
  · exact kinds_block wr 0 _ h rfl
  · exact kinds_block wr 1 _ h rfl
  · exact kinds_block wr 2 _ h rfl
set_option maxRecDepth 100000 in
set_option maxHeartbeats 4000000 in
theorem apart (a b : Int) (w : World) : Calls Try.prog 9 #[.int .i64 a, .int .i64 b] w fun e w' => e = .returned (.bool true) ∧ Below w.heap.size w w' := by
  obtain ⟨i0, hi0, hz0, hz1, hz2⟩ := info_parts word_info
  have hmm := @run_makeMap Try.prog
  have key : (WP.inR a = false ∧ WP.intE a = 10) ∨ (WP.inR a = true ∧ WP.intE a = 0 ∧ ((WP.intE b = 10) ∨ (WP.intE b = 0 ∧ (WP.intW a == WP.intW b) = false ∧ (a == b) = false) ∨ a = b)) := by
    cases ha : WP.inR a
    · exact .inl ⟨rfl, WP.intE_no a ha⟩
    · refine .inr ⟨rfl, by simp [WP.intE, ha], ?_⟩
      cases hb : WP.inR b
      · exact .inl (WP.intE_no b hb)
      · by_cases e : a = b
        · exact .inr (.inr e)
        · exact .inr (.inl ⟨by simp [WP.intE, hb], by rw [WP.int_apart a b ha hb]; exact beq_eq_false_iff_ne.2 (e), beq_eq_false_iff_ne.2 (e)⟩)
  rcases key with ⟨ha, ea⟩ | ⟨ha, ea, eb | ⟨eb, hab, hab2⟩ | rfl⟩
  all_goals
    have HA := Lib.hid ha
    clear ha
    go_enter Try.func9, Try.ntmps9
    go_wp2_with (first | (go_at_call 11; refine (int_any _ _).mono ?_; rintro e w' ⟨rfl, rfl⟩) | (go_at_call 15; refine (shown_any _).mono ?_; rintro e w' ⟨rfl, rfl⟩))
    go_loopw [10, 46] (fun v i wr => Rel1 a w v i wr) (fun _ i _ => (3 - intOf i).toNat)
    case atStart => exact ⟨0, by omega, rfl, ⟨by simp [WP.W1, WP.vs], .inl ⟨rfl, rfl⟩⟩, heap_alloc_new w _, (Below.refl _ _).alloc (Nat.le_refl _) _, by simp⟩
  all_goals
    case round =>
    obtain ⟨j, hj, rfl, hown, hblk, hbel, hsz⟩ := hrel
    by_cases hlt : j < 3
    · have c0 := kinds_at wr _ j hlt hblk
      have hl := WP.W1_len a j
      cases hO : WP.ofB (WP.kAt j) a
      · have E := Lib.hid (WP.W1_no a j hO)
        have o1 := WP.of_no _ a hO
        clear hO
        go_wp2_with (first | (go_at_call 13; refine (of_any _ _ _).mono ?_; rintro e w' ⟨rfl, rfl⟩))
        go_roundw
        case rel => exact ⟨j + 1, by omega, by go_num, by rw [E.out]; exact hown, hblk, hbel, hsz⟩
        case measure => simp [intOf]; omega
      · have E := Lib.hid (WP.W1_yes a j hO)
        have o1 := (WP.of_ok _ a hO).1
        clear hO
        go_wp2_with (first | (go_at_call 13; refine (of_any _ _ _).mono ?_; rintro e w' ⟨rfl, rfl⟩) | (at_builtin; refine wpList_append_own _ rfl (.tmp 58) (.tmp 60) 39 rfl (w.heap.size + 1) 23 i0 (.int .u64 0) 1 8 Try.underlying39 hi0 hz0 hz1 hz2 rfl (by omega) _ _ _ rfl (hown.alloc _) ⟨wr.heap.size, 0, none⟩ 1 1 [.int .u64 (WP.ofW (WP.kAt j) a)] rfl rfl (cell_one_new _ _ _) (WP.vs_one [WP.ofW (WP.kAt j) a]) (by unfold maxLen; omega) (by omega) (by simp; omega) ?_; intro v1 w1 hown1 hgrow1 hnil1))
        obtain ⟨k1, k2, k3⟩ := app_keeps hown hblk hbel hsz hgrow1
        go_roundw
        case rel => exact ⟨j + 1, by omega, by go_num, by rw [E.out]; simpa [WP.vs] using hown1, k1, k2, k3⟩
        case measure => simp [intOf]; omega
    · obtain rfl : j = 3 := by omega
      have hl := WP.W1_len a 3
      go_upto_if 64 with fail
      go_cut [10] (fun s10 wx => wx.ownsRow (w.heap.size + 1) 23 1 s10 (WP.W2 a).length (WP.vs (WP.W2 a)) ∧ Below w.heap.size w wx ∧ w.heap.size + 1 ≤ wx.heap.size)
      case first =>
        first
          | (have E := Lib.hid (WP.W2_no a HA.out)
             go_wp2_with fail
             go_meet
             exact ⟨by rw [E.out]; exact hown, hbel, hsz⟩)
          | (have E := Lib.hid (WP.W2_yes a HA.out)
             go_wp2_with (first | (at_builtin; refine wpList_append_own _ rfl (.tmp 65) (.tmp 67) 39 rfl (w.heap.size + 1) 23 i0 (.int .u64 0) 1 8 Try.underlying39 hi0 hz0 hz1 hz2 rfl (by omega) _ _ _ rfl (hown.alloc _) ⟨wr.heap.size, 0, none⟩ 1 1 [.int .u64 (WP.intW a)] rfl rfl (cell_one_new _ _ _) (WP.vs_one [WP.intW a]) (by unfold maxLen; omega) (by omega) (by simp; omega) ?_; intro v1 w1 hown1 hgrow1 hnil1))
             obtain ⟨k1, k2, k3⟩ := app_keeps hown hblk hbel hsz hgrow1
             go_meet
             exact ⟨by rw [E.out]; simpa [WP.vs] using hown1, k2, k3⟩)
      case rest =>
        obtain ⟨hown2, hbel2, hsz2⟩ := hcut
        have hl2 := WP.W2_len a
        go_wp2_with (first | (at_builtin; refine wpList_append_own _ rfl (.tmp 69) (.tmp 70) 39 rfl (w.heap.size + 1) 23 i0 (.int .u64 0) 1 8 Try.underlying39 hi0 hz0 hz1 hz2 rfl (by omega) _ _ _ rfl (hown2.alloc _) ⟨wc.heap.size, 0, none⟩ 4 4 [.int .u64 2, .int .u64 18, .int .u64 10, .int .u64 26] rfl rfl (cell_new_at _ #[.int .u64 2, .int .u64 18, .int .u64 10, .int .u64 26] _) (WP.vs_one [2, 18, 10, 26]) (by unfold maxLen; omega) (by omega) (by simp; omega) ?_; intro v3 w3 hown3 hgrow3 hnil3; obtain ⟨g, cap, rfl, hg3, hh3, hgl3⟩ := own_form hown3 (by omega)))
        have hL : (WP.W3 a).length = (WP.W2 a).length + 4 := WP.W3_len a
        have hb3 : Below w.heap.size w w3 := (hbel2.alloc (by omega) _).grown hgrow3 (by simp; omega) (fun k hk => by have := own_ge hown2 k hk; omega)
        go_loopw [17, 75] (fun _ i wr => Rel2 (WP.W3 a) w3 i wr) (fun _ i _ => ((WP.W2 a).length + 4 - intOf i).toNat)
        case atStart => exact ⟨0, by omega, rfl, World.ownsMap_made w3 _ _ _, (Below.refl _ _).alloc (Nat.le_refl _) _⟩
        case round =>
        obtain ⟨j, hj, rfl, hmap, hbm⟩ := hrel
        by_cases hlt : j < (WP.W3 a).length
        · have hc0 : w3.cell? ⟨g, j, none⟩ = some (.int .u64 ((WP.W3 a).getD j 0)) := hgl3 j _ (by rw [← WP.vs_at _ j hlt]; simp [WP.vs, WP.W3])
          rw [← hbm.cell (by omega)] at hc0
          have hm := WP.W3_may a _ (WP.getD_mem _ j hlt)
          have hu := WP.W3_u a _ (WP.getD_mem _ j hlt)
          generalize hx : (WP.W3 a).getD j 0 = x at hc0 hm hu
          have Hx := Lib.hid hx
          clear hx
          have hlc : (Lit.int .u64 x).wf = true := by unfold WP.U at hu; simp [Lit.wf, IntKind.min, IntKind.max, IntKind.signed, IntKind.bits]; omega
          have hkey := keyOf_int_mk (P := Try.prog) Try.underlying23 hlc
          have hnot := WP.DM_not (WP.W3 a) j j hlt (Nat.le_refl _) (WP.W3_nodup a) (.lit (.bool false))
          rw [Hx.out] at hnot
          go_wp2_with (first
            | (at_lookup; refine MB.wpList_lookup_not _ rfl (.tmp 79) (.tmp 80) 41 rfl 23 4 word_keyed Try.underlying41 Try.underlying4 (bool_zero _) w3.heap.size j (WP.DM (WP.W3 a) j) rfl hmap _ _ rfl hkey hnot ?_)
            | (at_mapUpdate; refine wpList_mapUpdate_own _ rfl (.tmp 87) (.tmp 88) (.const (.bool true)) 41 rfl 23 4 word_keyed Try.underlying41 _ w3.heap.size j (WP.DM (WP.W3 a) j) rfl hmap (by unfold maxLen; omega) _ _ _ rfl rfl hkey (.lit (.bool true)) [] (plainElem_bool Try.underlying4 true) ?_; intro w5 hmap5 hgrow5)
            | (go_at_call 22; refine (may_any _ hu _).mono ?_; rintro e w' ⟨rfl, rfl⟩))
          go_roundw
          case rel => exact ⟨j + 1, by omega, by go_num, by unfold WP.DM; rw [Hx.out]; exact hmap5, hbm.grown hgrow5 hbm.size (fun k hk => by simp at hk; omega)⟩
          case measure => simp [intOf]; omega
        · go_wp2_with fail
          go_ret
          exact ⟨rfl, hb3.trans (hbm.mono (by have := hb3.size; omega))⟩
end WL
end Go.Proofs.Ytonjmebhiegbpaa
