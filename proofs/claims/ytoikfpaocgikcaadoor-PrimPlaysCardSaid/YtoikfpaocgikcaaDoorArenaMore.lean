/-
  Several texts in one: ArenaWalks4, ArenaWalks5, ArenaShown. Each one's own head tells its conditions.
-/
import Derived.Test.YtoikfpaocgikcaaDoorWordAll
import Derived.RegionTactic
import Derived.ChangeAlike
import Derived.Deep.DeepCutAuto
/-
  Contracts of layer 2's New and Alloc. Conditions: the arena's rows are as the document's list of things says; what is handed over lies elsewhere.
-/
namespace Go.Proofs.YtoikfpaocgikcaaDoor
open Go.RowKit
namespace AW
def allE (n : Nat) (ts : List AP.Th) (k : Int) (m : Nat) : Int := if k < 1 ∨ 9 < k ∨ 255 < m then 1 else if n ≤ AP.sz ts + m then 20 else 0
def allW (n : Nat) (ts : List AP.Th) (k : Int) (m : Nat) : Int := if allE n ts k m = 0 then WP.ofW 1 (AP.sz ts) else 0
def allT (n : Nat) (ts : List AP.Th) (k : Int) (fs : List Int) : List AP.Th := if allE n ts k fs.length = 0 then ts ++ [⟨k, fs⟩] else ts
section
variable {w : World} {p g h n : Nat} {ts : List AP.Th}
theorem ok_snoc (hO : Ok n ts) (k : Int) (fs : List Int) (h1 : 1 ≤ k) (h9 : k ≤ 9) (hm : fs.length ≤ 255) (hr : AP.sz ts + fs.length < n) (hu : ∀ x ∈ fs, WP.U x) : Ok n (ts ++ [⟨k, fs⟩]) := by
  refine ⟨hO.size, by rw [AP.sz_snoc]; simp; omega, fun i hi => ?_⟩
  by_cases e : i < ts.length
  · rw [AP.th_append_old _ _ _ e]; exact hO.each i e
  · have : i = ts.length := by simp at hi; omega
    subst this
    rw [AP.th_append_new]; exact ⟨h1, h9, hm, hu⟩
/-- The arena behind the three stores: a thing of so many words, each 0. -/
theorem ar_three (hA : Ar w p g h n ts) (k : Int) (m : Nat) (h1 : 1 ≤ k) (h9 : k ≤ 9) (hm : m ≤ 255) (hr : AP.sz ts + m < n) :
    Ar (((w.setCell ⟨p, 2, none⟩ (.int .i64 (AP.sz ts + (1 + m) : Int))).setCell ⟨h, AP.sz ts, none⟩ (.int .u8 k)).setCell ⟨g, AP.sz ts, none⟩ (.int .u64 m)) p g h n (ts ++ [⟨k, List.replicate m 0⟩]) := by
  have hne := hA.ne
  refine ⟨ok_snoc hA.ok k _ h1 h9 (by simpa using hm) (by simpa using hr) (by intro x hx; have := List.eq_of_mem_replicate hx; subst this; unfold WP.U; omega), ?_, ?_, ?_⟩
  · have := ((hA.head.put 2 (.int .i64 (AP.sz ts + (1 + m) : Int))).other (p := ⟨h, AP.sz ts, none⟩) hne.2.1 (.int .u8 k)).other (p := ⟨g, AP.sz ts, none⟩) hne.1 (.int .u64 m)
    rw [AP.sz_snoc]
    simp only [List.length_replicate]
    rw [show ((AP.sz ts + m + 1 : Nat) : Int) = (AP.sz ts + (1 + m) : Int) from by omega]
    exact this
  · have := (((hA.words.other (p := ⟨p, 2, none⟩) hne.1.symm (.int .i64 (AP.sz ts + (1 + m) : Int))).other (p := ⟨h, AP.sz ts, none⟩) hne.2.2 (.int .u8 k)).put (AP.sz ts) (.int .u64 m))
    rw [AP.words_zero n ts k m (by omega)]
    unfold U64s at this ⊢
    rw [List.map_set]; exact this
  · have := (((hA.kinds.other (p := ⟨p, 2, none⟩) hne.2.1.symm (.int .i64 (AP.sz ts + (1 + m) : Int))).put (AP.sz ts) (.int .u8 k)).other (p := ⟨g, AP.sz ts, none⟩) hne.2.2.symm (.int .u64 m))
    rw [AP.kinds_new n ts _ (by simp; omega)]
    unfold U8s at this ⊢
    rw [List.map_set]; exact this
theorem alloc_bad (w : World) (pv : Value) (k : Int) (A : Option Addr) (m c : Nat) (hm : m ≤ 9223372036854775807) (hb : k < 1 ∨ 9 < k ∨ 255 < m) :
    Calls Tryd.prog 12 #[pv, .int .i64 k, .slice A m c] w fun e w' => e = .returned (.tuple #[.int .u64 0, .int .i64 1]) ∧ w = w' := by
  by_cases h1 : k < 1
  · clear hb
    go_enter Tryd.func12, Tryd.ntmps12
    go_wp2
    go_ret2
    exact ⟨rfl, rfl⟩
  · by_cases h9 : 9 < k
    · clear hb
      go_enter Tryd.func12, Tryd.ntmps12
      go_wp2
      go_ret2
      exact ⟨rfl, rfl⟩
    · have h5 : 255 < m := by omega
      clear hb
      go_enter Tryd.func12, Tryd.ntmps12
      go_wp2
      go_ret2
      exact ⟨rfl, rfl⟩
theorem alloc_full (hA : Ar w p g h n ts) (k : Int) (A : Option Addr) (m c : Nat) (h1 : 1 ≤ k) (h9 : k ≤ 9) (hm : m ≤ 255) (hr : n ≤ AP.sz ts + m) :
    Calls Tryd.prog 12 #[ptr p, .int .i64 k, .slice A m c] w fun e w' => e = .returned (.tuple #[.int .u64 0, .int .i64 20]) ∧ w = w' := by
  have hs : AP.sz ts ≤ n := hA.ok.room
  have hn6 : n ≤ 65536 := hA.ok.size
  have HA := Lib.hid hA
  clear hA
  go_enter Tryd.func12, Tryd.ntmps12
  go_wp2_with (first | (go_at_call 18; refine (size_any HA.out).mono ?_; rintro e w' ⟨rfl, rfl⟩) | (go_at_call 16; refine (used_any HA.out).mono ?_; rintro e w' ⟨rfl, rfl⟩))
  go_ret2
  exact ⟨rfl, rfl⟩
theorem words_slice : Tryd.prog.underlying 32 = some (.slice 36) := by kernel_rfl
theorem word_size : (Tryd.prog.info? 36).map (·.size) = some 1 := by kernel_rfl
theorem u64s_one (l : List Int) : ∀ v ∈ U64s l, v.oneCell' = true := by
  intro v hv
  obtain ⟨x, _, rfl⟩ := List.mem_map.1 hv
  rfl
theorem of_at (s : Nat) (h : s ≤ 65536) (w : World) : Calls Tryd.prog 20 #[.int .i64 1, .int .i64 s] w fun e w' => e = .returned (.tuple #[.int .u64 (WP.ofW 1 s), .int .i64 0]) ∧ w = w' := by
  refine (WW.of_any 1 s w).mono ?_
  rintro e w' ⟨rfl, rfl⟩
  have : WP.ofB 1 s = true := by rw [WP.ofB_iff]; omega
  exact ⟨by simp [WP.ofE, this], rfl⟩
theorem alloc_ok (hA : Ar w p g h n ts) (k : Int) (A : Option Addr) (c : Nat) (fs : List Int) (h1 : 1 ≤ k) (h9 : k ≤ 9) (hm : fs.length ≤ 255) (hr : AP.sz ts + fs.length < n) (hu : ∀ x ∈ fs, WP.U x) (hs : MM.Src w [p, g, h] A (U64s fs)) :
    Calls Tryd.prog 12 #[ptr p, .int .i64 k, .slice A fs.length c] w fun e w' => e = .returned (.tuple #[.int .u64 (WP.ofW 1 (AP.sz ts)), .int .i64 0]) ∧ Ar w' p g h n (ts ++ [⟨k, fs⟩]) ∧ MM.Far [p, g, h] w w' := by
  have hne := hA.ne
  have hn6 : n ≤ 65536 := hA.ok.size
  have hc0 := hA.head.at (i := 0) rfl
  have hc1 := hA.head.at (i := 1) rfl
  have hc2 := hA.head.at (i := 2) rfl
  have hf2 := hA.head.frozen 2
  have hfk := hA.kinds.frozen (AP.sz ts)
  have hfw := hA.words.frozen (AP.sz ts)
  have hlk : (w.cell? ⟨h, AP.sz ts, none⟩).isSome = true := by
    rw [hA.kinds.cell]; unfold U8s; simp [AP.len_kinds n ts (by omega)]; omega
  have hlw : (w.cell? ⟨g, AP.sz ts, none⟩).isSome = true := by
    rw [hA.words.cell]; unfold U64s; simp [AP.len_words n ts (by omega)]; omega
  obtain ⟨vk, hvk⟩ := Option.isSome_iff_exists.1 hlk
  obtain ⟨vw, hvw⟩ := Option.isSome_iff_exists.1 hlw
  clear hlk hlw
  have hph : p ≠ h := hne.2.1
  have hpg : p ≠ g := hne.1
  have hgh : g ≠ h := hne.2.2
  have HA := Lib.hid hA
  have H3 := Lib.hid (ar_three hA k fs.length h1 h9 hm hr)
  clear hA hne
  go_enter Tryd.func12, Tryd.ntmps12
  go_wp2_with (first | (go_at_call 18; refine (size_any HA.out).mono ?_; rintro e w' ⟨rfl, rfl⟩) | (go_at_call 16; refine (used_any HA.out).mono ?_; rintro e w' ⟨rfl, rfl⟩))
  have hF : MM.Far [p, g, h] w (((w.setCell ⟨p, 2, none⟩ (.int .i64 (AP.sz ts + (1 + fs.length) : Int))).setCell ⟨h, AP.sz ts, none⟩ (.int .u8 k)).setCell ⟨g, AP.sz ts, none⟩ (.int .u64 fs.length)) :=
    (((MM.Far.refl _ _).setCell (by simp) _).setCell (by simp) _).setCell (by simp) _
  generalize (((w.setCell ⟨p, 2, none⟩ (.int .i64 (AP.sz ts + (1 + fs.length) : Int))).setCell ⟨h, AP.sz ts, none⟩ (.int .u8 k)).setCell ⟨g, AP.sz ts, none⟩ (.int .u64 fs.length)) = w3 at H3 hF ⊢
  have HI : Hid (AP.idx (ts ++ [⟨k, List.replicate fs.length 0⟩]) (AP.sz ts) = some ts.length) := by
    have := AP.idx_append ts ⟨k, List.replicate fs.length 0⟩ (AP.sz ts)
    rw [if_pos rfl] at this; exact this
  have HL : Hid ((AP.th (ts ++ [⟨k, List.replicate fs.length 0⟩]) ts.length).l.length = fs.length) := by
    have := AP.th_append_new ts ⟨k, List.replicate fs.length 0⟩
    show _ = _
    rw [this]; simp
  have hss : AP.sz ts ≤ 65536 := by omega
  clear hc0 hc1 hc2 hf2 hfk hfw hvk hvw
  rcases Nat.eq_zero_or_pos fs.length with h0 | h0
  · have hfs : fs = [] := List.eq_nil_of_length_eq_zero h0
    subst hfs
    clear h0
    refine (fields_zero H3.out ts.length (AP.sz ts) HI.out HL.out).mono ?_
    rintro e w' ⟨⟨ad, rfl⟩, rfl⟩
    go_wp2_with (first
      | (with_reducible refine wpList_copy_nothing rfl _ _ 32 32 rfl 36 words_slice word_size ad A 0 0 0 c rfl rfl rfl ?_)
      | (go_at_call 20; refine (of_at _ hss _).mono ?_; rintro e w' ⟨rfl, rfl⟩))
    go_ret2
    exact ⟨rfl, H3.out, hF⟩
  · refine (fields_pos H3.out ts.length (AP.sz ts) HI.out fs.length HL.out h0).mono ?_
    rintro e w' ⟨rfl, rfl⟩
    obtain ⟨ad, rfl, had, hal, hcells⟩ := (hs.far hF (by simp)) (by simpa [U64s] using h0)
    have HC := Lib.hid hcells
    clear hcells
    have hlen : (AP.words n (ts ++ [⟨k, List.replicate fs.length 0⟩])).length = n := AP.len_words _ _ (by rw [AP.sz_snoc]; simp; omega)
    have HLn := Lib.hid hlen
    clear hlen
    have HG : Hid (w3.heap[g]? = some (.cells (U64s (AP.words n (ts ++ [⟨k, List.replicate fs.length 0⟩]))).toArray 36 (0, 0))) := H3.out.words
    go_wp2_with (first
      | (refine wpList_copy_own ?_ (.tmp 61) (.tmp 62) 32 32 ?_ 36 words_slice word_size g (AP.sz ts + 1) fs.length fs.length ad fs.length c ?_ ?_ (U64s (AP.words n (ts ++ [⟨k, List.replicate fs.length 0⟩]))).toArray 36 HG.out (U64s fs) ?_ HC.out ?_ (u64s_one _) ?_
         · rfl
         · rfl
         · rfl
         · rfl
         · simp [U64s]
         · have := HLn.out; simp [U64s]; omega)
      | (go_at_call 20; refine (of_at _ hss _).mono ?_; rintro e w' ⟨rfl, rfl⟩))
    go_ret2
    have hne3 := H3.out.ne
    refine ⟨rfl, ⟨ok_snoc HA.out.ok k fs h1 h9 hm hr hu, ?_, ?_, ?_⟩, hF.setRow (by simp) _⟩
    · have := H3.out.head
      rw [AP.sz_snoc] at this ⊢
      simp only [List.length_replicate] at this
      exact this.setRow_other hne3.1 _
    · rw [AP.words_copy n ts k fs (by omega)]
      have := H3.out.words.setRow (((U64s (AP.words n (ts ++ [⟨k, List.replicate fs.length 0⟩])))).take (AP.sz ts + 1) ++ (U64s fs ++ ((U64s (AP.words n (ts ++ [⟨k, List.replicate fs.length 0⟩])))).drop (AP.sz ts + 1 + (U64s fs).length)))
      simp only [U64s, List.map_append, List.map_take, List.map_drop, List.length_map] at this ⊢
      exact this
    · have := H3.out.kinds
      have e : AP.kinds n (ts ++ [⟨k, List.replicate fs.length 0⟩]) = AP.kinds n (ts ++ [⟨k, fs⟩]) := by
        rw [AP.kinds_new n ts _ (by simp; omega), AP.kinds_new n ts _ (by simp; omega)]
      rw [e] at this
      exact this.setRow_other hne3.2.2.symm _
end
end AW
end Go.Proofs.YtoikfpaocgikcaaDoor
/-
  Contracts of layer 2's New, and of a nil arena. No condition.
-/
namespace Go.Proofs.YtoikfpaocgikcaaDoor
open Go.RowKit
namespace AW
/-- A new arena. -/
def Made (w : World) (n : Nat) (e : Ending) (w' : World) : Prop :=
  ∃ p g h, e = .returned (.tuple #[ptr p, .int .i64 0]) ∧ w.heap.size ≤ p ∧ w.heap.size ≤ g ∧ w.heap.size ≤ h ∧ Ar w' p g h n [] ∧ MM.Far [] w w'
theorem new_bad (w : World) (n : Int) (hb : n < 1 ∨ 65536 < n) : Calls Tryd.prog 10 #[.int .i64 n] w fun e w' => e = .returned (.tuple #[.pointer none, .int .i64 1]) ∧ w = w' := by
  by_cases h1 : n < 1
  · clear hb
    go_enter Tryd.func10, Tryd.ntmps10
    go_wp2
    go_ret2
    exact ⟨rfl, rfl⟩
  · have h2 : 65536 < n := by omega
    clear hb
    go_enter Tryd.func10, Tryd.ntmps10
    go_wp2
    go_ret2
    exact ⟨rfl, rfl⟩
theorem word_info : (Tryd.prog.info? 36).map (fun i => (i.zero, i.size, i.bytes)) = some (some (.int .u64 0), 1, 8) := by kernel_rfl
theorem kind_info : (Tryd.prog.info? 5).map (fun i => (i.zero, i.size, i.bytes)) = some (some (.int .u8 0), 1, 1) := by kernel_rfl
theorem kinds_slice : Tryd.prog.underlying 53 = some (.slice 5) := by kernel_rfl
theorem made_list (z : Value) (n : Nat) : madeCells #[z] n = (List.replicate n z).toArray := by
  apply Array.ext
  · simp [size_madeCells]
  · intro i h1 h2
    simp [madeCells, Nat.mod_one]
theorem ok_nil (n : Nat) (h2 : n ≤ 65536) : Ok n [] := ⟨h2, by simp [AP.sz], fun i hi => by simp at hi⟩
theorem words_nil (n : Nat) : U64s (AP.words n []) = List.replicate n (.int .u64 0) := by simp [U64s, AP.words, AP.fw, AP.sz]
theorem kinds_nil (n : Nat) : U8s (AP.kinds n []) = List.replicate n (.int .u8 0) := by simp [U8s, AP.kinds, AP.fk, AP.sz]
theorem made_one (w : World) (n : Nat) (h2 : n ≤ 65536) : Ar ((((w.alloc (.cells (madeCells #[.int .u64 0] n) 36)).alloc (.cells (madeCells #[.int .u8 0] n) 5)).alloc
    (.cells #[.slice (some ⟨w.heap.size, 0, none⟩) n n, .slice (some ⟨w.heap.size + 1, 0, none⟩) n n, .int .i64 0] 55)).drew) (w.heap.size + 1 + 1) w.heap.size (w.heap.size + 1) n [] := by
  rw [made_list, made_list]
  have hs : (w.alloc (.cells (List.replicate n (.int .u64 0)).toArray 36)).heap.size = w.heap.size + 1 := by simp
  have hs2 : ((w.alloc (.cells (List.replicate n (.int .u64 0)).toArray 36)).alloc (.cells (List.replicate n (.int .u8 0)).toArray 5)).heap.size = w.heap.size + 1 + 1 := by simp
  refine ⟨ok_nil n h2, ?_, ?_, ?_⟩
  · rw [← hs2]
    exact (MM.Row.new _ _ [.slice (some ⟨w.heap.size, 0, none⟩) n n, .slice (some ⟨w.heap.size + 1, 0, none⟩) n n, .int .i64 0]).drew
  · rw [words_nil]
    exact (((MM.Row.new _ _ _).alloc _).alloc _).drew
  · rw [kinds_nil, ← hs]
    exact ((MM.Row.new _ _ _).alloc _).drew
theorem made_two (w : World) (n : Nat) (h2 : n ≤ 65536) : Ar ((((w.alloc (.cells (madeCells #[.int .u8 0] n) 5)).alloc (.cells (madeCells #[.int .u64 0] n) 36)).alloc
    (.cells #[.slice (some ⟨w.heap.size + 1, 0, none⟩) n n, .slice (some ⟨w.heap.size, 0, none⟩) n n, .int .i64 0] 55)).drew) (w.heap.size + 1 + 1) (w.heap.size + 1) w.heap.size n [] := by
  rw [made_list, made_list]
  have hs : (w.alloc (.cells (List.replicate n (.int .u8 0)).toArray 5)).heap.size = w.heap.size + 1 := by simp
  have hs2 : ((w.alloc (.cells (List.replicate n (.int .u8 0)).toArray 5)).alloc (.cells (List.replicate n (.int .u64 0)).toArray 36)).heap.size = w.heap.size + 1 + 1 := by simp
  refine ⟨ok_nil n h2, ?_, ?_, ?_⟩
  · rw [← hs2]
    exact (MM.Row.new _ _ [.slice (some ⟨w.heap.size + 1, 0, none⟩) n n, .slice (some ⟨w.heap.size, 0, none⟩) n n, .int .i64 0]).drew
  · rw [words_nil, ← hs]
    exact ((MM.Row.new _ _ _).alloc _).drew
  · rw [kinds_nil]
    exact (((MM.Row.new _ _ _).alloc _).alloc _).drew
theorem new_ok (w : World) (n : Nat) (h1 : 1 ≤ n) (h2 : n ≤ 65536) : Calls Tryd.prog 10 #[.int .i64 n] w (Made w n) := by
  have hm1 := run_make_row' (P := Tryd.prog) 32 36 (.int .u64 0) 8 words_slice word_info rfl .i64 .i64 n (by omega) (by omega)
  have hm2 := run_make_row' (P := Tryd.prog) 53 5 (.int .u8 0) 1 kinds_slice kind_info rfl .i64 .i64 n (by omega) (by omega)
  go_enter Tryd.func10, Tryd.ntmps10
  go_wp2
  go_region
  · go_wp2
    go_ret2
    exact ⟨_, _, _, rfl, by omega, by omega, by omega, made_one w n h2, ((((MM.Far.refl _ _).alloc _).alloc _).alloc _).drew⟩
  · go_wp2
    go_ret2
    exact ⟨_, _, _, rfl, by omega, by omega, by omega, made_two w n h2, ((((MM.Far.refl _ _).alloc _).alloc _).alloc _).drew⟩
/-! ### a nil arena -/
theorem find_nil (x : Int) (hx : WP.U x) (w : World) : Calls Tryd.prog 57 #[.pointer none, .int .u64 x] w fun e w' => e = .returned (.tuple #[.int .i64 0, .bool false]) ∧ w = w' := by
  obtain ⟨a, ha, hal⟩ := toN_nat x hx
  have HX := Lib.hid hx
  clear hx
  cases hb : WP.toB 1 x
  all_goals
    go_enter Tryd.func57, Tryd.ntmps57
    go_wp2_with (first | (go_at_call 47; refine (WW.to_any _ _ HX.out _).mono ?_; rintro e w' ⟨rfl, rfl⟩) | (go_at_call 16; refine (used_nil _).mono ?_; rintro e w' ⟨rfl, rfl⟩))
    go_ret2
    exact ⟨rfl, rfl⟩
theorem kind_nil (x : Int) (hx : WP.U x) (w : World) : Calls Tryd.prog 44 #[.pointer none, .int .u64 x] w fun e w' => e = .returned (.int .i64 0) ∧ w = w' := by
  have HX := Lib.hid hx
  clear hx
  go_enter Tryd.func44, Tryd.ntmps44
  go_wp2_with (first | (go_at_call 57; refine (find_nil _ HX.out _).mono ?_; rintro e w' ⟨rfl, rfl⟩))
  go_ret
  exact ⟨rfl, rfl⟩
theorem len_nil (x : Int) (hx : WP.U x) (w : World) : Calls Tryd.prog 45 #[.pointer none, .int .u64 x] w fun e w' => e = .returned (.int .i64 0) ∧ w = w' := by
  have HX := Lib.hid hx
  clear hx
  go_enter Tryd.func45, Tryd.ntmps45
  go_wp2_with (first | (go_at_call 57; refine (find_nil _ HX.out _).mono ?_; rintro e w' ⟨rfl, rfl⟩))
  go_ret
  exact ⟨rfl, rfl⟩
theorem field_nil (x : Int) (hx : WP.U x) (j : Int) (w : World) : Calls Tryd.prog 58 #[.pointer none, .int .u64 x, .int .i64 j] w fun e w' => e = .returned (.tuple #[.pointer none, .int .i64 2]) ∧ w = w' := by
  have HX := Lib.hid hx
  clear hx
  go_enter Tryd.func58, Tryd.ntmps58
  go_wp2_with (first | (go_at_call 57; refine (find_nil _ HX.out _).mono ?_; rintro e w' ⟨rfl, rfl⟩))
  go_ret2
  exact ⟨rfl, rfl⟩
theorem get_nil (x : Int) (hx : WP.U x) (j : Int) (w : World) : Calls Tryd.prog 46 #[.pointer none, .int .u64 x, .int .i64 j] w fun e w' => e = .returned (.tuple #[.int .u64 0, .int .i64 2]) ∧ w = w' := by
  have HX := Lib.hid hx
  clear hx
  go_enter Tryd.func46, Tryd.ntmps46
  go_wp2_with (first | (go_at_call 58; refine (field_nil _ HX.out _ _).mono ?_; rintro e w' ⟨rfl, rfl⟩))
  go_ret2
  exact ⟨rfl, rfl⟩
theorem alloc_nil (k : Int) (A : Option Addr) (m c : Nat) (h1 : 1 ≤ k) (h9 : k ≤ 9) (hm : m ≤ 255) (w : World) : Calls Tryd.prog 12 #[.pointer none, .int .i64 k, .slice A m c] w fun e w' => e = .returned (.tuple #[.int .u64 0, .int .i64 20]) ∧ w = w' := by
  go_enter Tryd.func12, Tryd.ntmps12
  go_wp2_with (first | (go_at_call 18; refine (size_nil _).mono ?_; rintro e w' ⟨rfl, rfl⟩) | (go_at_call 16; refine (used_nil _).mono ?_; rintro e w' ⟨rfl, rfl⟩))
  go_ret2
  exact ⟨rfl, rfl⟩
/-- Alloc, whatever it is handed. -/
theorem alloc_any {w : World} {p g h n : Nat} {ts : List AP.Th} (hA : Ar w p g h n ts) (k : Int) (A : Option Addr) (c : Nat) (fs : List Int) (hm : fs.length ≤ 9223372036854775807) (hu : ∀ x ∈ fs, WP.U x) (hs : MM.Src w [p, g, h] A (U64s fs)) :
    Calls Tryd.prog 12 #[ptr p, .int .i64 k, .slice A fs.length c] w fun e w' => e = .returned (.tuple #[.int .u64 (allW n ts k fs.length), .int .i64 (allE n ts k fs.length)]) ∧ Ar w' p g h n (allT n ts k fs) ∧ MM.Far [p, g, h] w w' := by
  by_cases hb : k < 1 ∨ 9 < k ∨ 255 < fs.length
  · refine (alloc_bad w _ k A fs.length c hm hb).mono ?_
    rintro e w' ⟨rfl, rfl⟩
    have e1 : allE n ts k fs.length = 1 := by unfold allE; rw [if_pos hb]
    refine ⟨by simp [allW, e1], by unfold allT; rw [if_neg (by omega)]; exact hA, MM.Far.refl _ _⟩
  · by_cases hr : n ≤ AP.sz ts + fs.length
    · refine (alloc_full hA k A fs.length c (by omega) (by omega) (by omega) hr).mono ?_
      rintro e w' ⟨rfl, rfl⟩
      have e1 : allE n ts k fs.length = 20 := by unfold allE; rw [if_neg hb, if_pos hr]
      refine ⟨by simp [allW, e1], by unfold allT; rw [if_neg (by omega)]; exact hA, MM.Far.refl _ _⟩
    · refine (alloc_ok hA k A c fs (by omega) (by omega) (by omega) (by omega) hu hs).mono ?_
      rintro e w' ⟨rfl, h1, h2⟩
      have e1 : allE n ts k fs.length = 0 := by unfold allE; rw [if_neg hb, if_neg hr]
      refine ⟨by simp [allW, e1], by unfold allT; rw [if_pos e1]; exact h1, h2⟩
end AW
end Go.Proofs.YtoikfpaocgikcaaDoor
/-
  The document's examples of layer 2 come out as the statements' head says. No condition.
-/
namespace Go.Proofs.YtoikfpaocgikcaaDoor
open Go.RowKit
namespace AW
theorem new_int (w : World) (k : Int) (h1 : 1 ≤ k) (h2 : k ≤ 65536) : Calls Tryd.prog 10 #[.int .i64 k] w (Made w k.toNat) := by
  obtain ⟨n, rfl⟩ : ∃ n : Nat, k = n := ⟨k.toNat, by omega⟩
  rw [Int.toNat_natCast]
  exact new_ok w n (by omega) (by omega)
/-- Alloc, its answers spelled as the caller wants them. -/
theorem alloc_to {w : World} {p g h n : Nat} {ts : List AP.Th} (hA : Ar w p g h n ts) (k : Int) (A : Option Addr) (m c : Nat) (fs : List Int) (W E : Int) (T : List AP.Th) (hm : fs.length = m) (hm3 : m ≤ 9223372036854775807) (hu : ∀ x ∈ fs, WP.U x)
    (hW : allW n ts k m = W) (hE : allE n ts k m = E) (hT : allT n ts k fs = T) (hs : MM.Src w [p, g, h] A (U64s fs)) :
    Calls Tryd.prog 12 #[ptr p, .int .i64 k, .slice A m c] w fun e w' => e = .returned (.tuple #[.int .u64 W, .int .i64 E]) ∧ Ar w' p g h n T ∧ MM.Far [p, g, h] w w' := by
  subst hm hW hE hT
  exact alloc_any hA k A c fs hm3 hu hs
theorem u_all (l : List Int) (h : l.all (fun x => decide (0 ≤ x) && decide (x < 18446744073709551616)) = true) : ∀ x ∈ l, WP.U x := by
  intro x hx
  have := List.all_eq_true.1 h x hx
  simp at this
  exact this
end AW
end Go.Proofs.YtoikfpaocgikcaaDoor
