/-
  The landed timers' Put, Due, Remove. Conditions: 64 timers or fewer; numbers fit.
-/
import Derived.Test.YtcodmpibhlojaaaTimC
import Derived.Deep.Cut
import Derived.Deep.DeepCutAuto
namespace Go.Proofs.Ytcodmpibhlojaaa
open Go.RowKit Go.Lib
namespace TW
open TM TR MM TL
section
variable {w : World} {p : Nat} {S : List Nat} {v : Value} {l : List Ti} {c : Nat}
theorem kp_to {W w1 w2 : World} {p : Nat} {v : Value} (hp : p < W.heap.size) (h : w1.cell? ⟨p, 0, none⟩ = some v ∧ Far [] W w1) (k : Far [] w1 w2) : w2.cell? ⟨p, 0, none⟩ = some v ∧ Far [] W w2 :=
  ⟨(k.cell (p := ⟨p, 0, none⟩) (Nat.lt_of_lt_of_le hp h.2.size) (by simp)).trans h.1, h.2.trans k (by simp)⟩
theorem kp_new {W w1 : World} {p : Nat} {v : Value} {o : Obj} (hp : p < W.heap.size) (h : w1.cell? ⟨p, 0, none⟩ = some v ∧ Far [] W w1) : (w1.alloc o).cell? ⟨p, 0, none⟩ = some v ∧ Far [] W (w1.alloc o) := kp_to hp h ((Far.refl [] w1).alloc o)
abbrev later (d : Int) (y : Ti) : Bool := decide (d < y.d)
set_option maxHeartbeats 1000000 in
theorem placeOf_any (h : Tm w p S v l c) (hlen : l.length ≤ 64) (d : Int) : Calls Try.prog 20 #[ptr p, .int .i64 d] w fun e w' => e = .returned (.int .i64 (ix (later d) l : Nat)) ∧ Far [] w w' := by
  have hF : Far [] w (w.alloc (.cells #[.int .i64 d] 3)) := (Far.refl [] w).alloc _
  have hr := Row.new w 3 [.int .i64 d]
  have hcell := hr.at (i := 0) rfl
  have h1 := h.nil hF
  have hlt := hr.lt
  have h0 := h1.head.at (i := 0) rfl
  obtain ⟨b, hb⟩ : ∃ b, b = w.heap.size := ⟨_, rfl⟩
  have hp : ∀ W x, Far [] (w.alloc (.cells #[.int .i64 d] 3)) W → Calls Try.prog 29 (#[.agg (cs x).toArray] ++ #[ptr w.heap.size]) W fun e w' => e = .returned (.bool (later d x)) ∧ Far [] W w' := fun W x hW =>
    placeOf1_any w.heap.size d W x ((hW.cell (p := ⟨w.heap.size, 0, none⟩) hlt (by simp)).trans hcell) (Nat.lt_of_lt_of_le hlt hW.size)
  have HI := Lib.hid (idx_any 29 #[ptr w.heap.size] (later d) (fun args w => by kernel_rfl) _ v l h1.row hlen hp)
  have HL : Hid (∀ W, Far [] (w.alloc (.cells #[.int .i64 d] 3)) W → Calls Try.prog 18 #[ptr p] W fun e w' => e = .returned (.int .i64 l.length) ∧ W = w') := fun W hW => len_any (h1.nil hW)
  have HF := Lib.hid hF
  have hle := ix_le (later d) l
  by_cases hx : ix (later d) l < l.length
  · rw [if_pos hx] at HI
    obtain ⟨k, hk⟩ : ∃ k, k = ix (later d) l := ⟨_, rfl⟩
    rw [← hk] at HI hx ⊢
    clear h h1 hr hcell hlt hp hF HL hle hk hb
    have hneg : ¬ ((k : Int) < 0) := by omega
    go_enter Try.func20, Try.ntmps20
    go_wp2_with (go_at_call 28; refine HI.out.mono ?_; rintro e w1 ⟨rfl, hF1⟩; have HF1 := Lib.hid hF1; clear hF1)
    go_ret
    exact ⟨rfl, HF.out.trans HF1.out (by simp)⟩
  · rw [if_neg hx] at HI
    have hxl : ix (later d) l = l.length := by omega
    rw [hxl]
    clear h h1 hr hcell hlt hp hF hle hx hxl hb
    go_enter Try.func20, Try.ntmps20
    go_wp2_with (first
      | (go_at_call 28; refine HI.out.mono ?_; rintro e w1 ⟨rfl, hF1⟩; have HF1 := Lib.hid hF1; clear hF1)
      | (go_at_call 18; refine (HL.out _ HF1.out).mono ?_; rintro e w2 ⟨rfl, rfl⟩))
    go_ret
    exact ⟨rfl, HF.out.trans HF1.out (by simp)⟩
theorem put_nil (w : World) (d x : Int) : Calls Try.prog 10 #[.pointer none, .int .i64 d, .int .i64 x] w fun e w' => e = .returned (.tuple #[.int .i64 0, .int .i64 2]) ∧ w = w' := by
  go_enter Try.func10, Try.ntmps10
  go_wp2
  go_ret2
  exact ⟨rfl, rfl⟩
theorem put_full (h : Tm w p S v l c) (hlen : 64 ≤ l.length) (d x : Int) : Calls Try.prog 10 #[ptr p, .int .i64 d, .int .i64 x] w fun e w' => e = .returned (.tuple #[.int .i64 0, .int .i64 140]) ∧ w = w' := by
  have H := Lib.hid h
  have hge : (64 : Int) ≤ (l.length : Int) := by omega
  clear h hlen
  go_enter Try.func10, Try.ntmps10
  go_wp2_with (go_at_call 18; refine (len_any H.out).mono ?_; rintro e w' ⟨rfl, rfl⟩)
  go_ret2
  exact ⟨rfl, rfl⟩
set_option maxHeartbeats 2000000 in
theorem put_any (h : Tm w p S v l c) (hlen : l.length < 64) (hc : c < 1000000000) (d x : Int) : Calls Try.prog 10 #[ptr p, .int .i64 d, .int .i64 x] w fun e w' => e = .returned (.tuple #[.int .i64 c, .int .i64 0]) ∧ Nx w p S (ins ⟨d, x, c⟩ l) (c + 1) w' := by
  have hnp : v.ownBlock ≠ some p := own_row_ne h.row h.head (by decide)
  have h1 := h.head.at (i := 1) rfl
  have f1 := h.head.frozen 1
  have HL := Lib.hid (len_any h)
  have hge : ¬ ((64 : Int) ≤ (l.length : Int)) := by omega
  have hcw : IntKind.i64.wrap ((c : Int) + 1) = (c : Int) + 1 := by rw [IntKind.wrap_i64]; omega
  obtain ⟨W, hW⟩ : ∃ W, W = w.setCell ⟨p, 1, none⟩ (.int .i64 ((c : Int) + 1)) := ⟨_, rfl⟩
  have hTW : Tm W p S v l (c + 1) := by
    rw [hW]
    have hr := h.head.put 1 (.int .i64 ((c : Int) + 1))
    have hF : Far [p] w (w.setCell ⟨p, 1, none⟩ (.int .i64 ((c : Int) + 1))) := (Far.refl [p] w).setCell (fun _ => by simp) _
    exact ⟨by simpa using hr, own_far h.row hF (fun b hb => by intro e; rw [List.mem_singleton.1 e] at hb; exact hnp hb), h.mem, h.own, fun b hb => Nat.lt_of_lt_of_le (h.lt b hb) hF.size⟩
  have hFW : Far S w W := by rw [hW]; exact (Far.refl S w).setCell (fun _ => h.mem) _
  have hpl : ∀ V, Far [] W V → Calls Try.prog 20 #[ptr p, .int .i64 d] V fun e w' => e = .returned (.int .i64 (ix (later d) l : Nat)) ∧ Far [] V w' := fun V hV => placeOf_any (hTW.nil hV) (by omega) d
  have hin : ∀ V vb, Far [] W V → W.heap.size ≤ vb → Row V vb 52 [.int .i64 d, .int .i64 x, .int .i64 c] → Calls Try.prog 19 #[v, .int .i64 (ix (later d) l : Nat), .slice (some ⟨vb, 0, none⟩) 1 1] V fun e w' =>
      ∃ A n k, e = .returned (.slice A n k) ∧ Row w' p 49 [v, .int .i64 ((c : Int) + 1)] ∧ Hid (Nx w p S (ins ⟨d, x, c⟩ l) (c + 1) (w'.setCell ⟨p, 0, none⟩ (.slice A n k))) := by
    intro V vb hV hvb hR
    have hTV := hTW.nil hV
    refine (ins_any V v l (ix (later d) l) ⟨d, x, c⟩ vb (ix_le _ _) hTV.row (by omega) hR (fun e => ?_)).mono ?_
    · have := hTW.lt vb (hTW.own vb e)
      omega
    · rintro e w' ⟨v', rfl, h2, h3, h4⟩
      have hpn : p ∉ v.ownBlock.toList := fun hm => hnp (by simpa using hm)
      have hr2 : Row w' p 49 [v, .int .i64 ((c : Int) + 1)] := by simpa using hTV.head.far h3 hpn
      have hpl' : p < V.heap.size := hTV.head.lt
      obtain ⟨A, k, hv', _⟩ := MO.form h2
      refine ⟨A, _, k, by rw [hv'], hr2, ?_⟩
      rw [← hv']
      have hF2 : Far [p] w' (w'.setCell ⟨p, 0, none⟩ v') := (Far.refl [p] w').setCell (fun _ => by simp) _
      have hp2 : v'.ownBlock ≠ some p := own_row_ne h2 hr2 (by decide)
      refine (show Nx w p S _ _ _ from ⟨S ++ v'.ownBlock.toList, v', ⟨by simpa using hr2.put 0 v', ?_, by simp [h.mem], fun b hb => by simp [hb], fun b hb => ?_⟩, ?_, fun b hb => ?_⟩)
      · rw [ins_len]
        have e : l.take (ix (later d) l) ++ ⟨d, x, c⟩ :: l.drop (ix (later d) l) = ins ⟨d, x, c⟩ l := (ins_at ⟨d, x, c⟩ l).symm
        rw [e] at h2
        exact own_far h2 hF2 (fun b hb => by intro e; rw [List.mem_singleton.1 e] at hb; exact hp2 hb)
      · rcases List.mem_append.1 hb with hb | hb
        · exact Nat.lt_of_lt_of_le (hTV.lt b hb) (Nat.le_trans h3.size hF2.size)
        · exact Nat.lt_of_lt_of_le (own_lt h2 b (by simpa using hb)).1 hF2.size
      · refine (((hFW.trans (hV.mono (S' := S) (by simp)) (fun b hb _ => hb)).trans (h3.mono (S' := S) ?_) (fun b hb _ => hb))).trans (hF2.mono (S' := S) ?_) (fun b hb _ => hb)
        · intro b hb _; exact h.own b (by simpa using hb)
        · intro b hb _; rw [List.mem_singleton.1 hb]; exact h.mem
      · rcases List.mem_append.1 hb with hb | hb
        · exact .inl hb
        · have hb' : v'.ownBlock = some b := by simpa using hb
          rcases h4 b hb' with h5 | h5
          · exact .inl (h.own b h5)
          · exact .inr (Nat.le_trans (Nat.le_trans hFW.size hV.size) h5)
  have HP := Lib.hid hpl
  have HN := Lib.hid hin
  have h0W := hTW.head.at (i := 0) rfl
  have HT := Lib.hid hTW
  generalize hk : ix (later d) l = k at *
  clear h hlen hpl hin hTW hFW hnp hk
  go_enter Try.func10, Try.ntmps10
  go_upto_region 7 with (go_at_call 18; refine HL.out.mono ?_; rintro e w' ⟨rfl, rfl⟩)
  rw [← hW]
  clear hW HL
  have hFd := (Far.refl [] W).drew
  have hpW := HT.out.head.lt
  have h0d : W.drew.cell? ⟨p, 0, none⟩ = some v := h0W
  have hkd : ((W.alloc (.cells #[.int .i64 d, .int .i64 x, .int .i64 c] 52)).drew).cell? ⟨p, 0, none⟩ = some v ∧ Far [] W ((W.alloc (.cells #[.int .i64 d, .int .i64 x, .int .i64 c] 52)).drew) := kp_new (o := .cells #[.int .i64 d, .int .i64 x, .int .i64 c] 52) hpW ⟨h0d, hFd⟩
  obtain ⟨hkd1, hkd2⟩ := hkd
  go_region_with (first
    | (go_at_call 20; (with_reducible refine (HP.out _ hFd).mono ?_); rintro e w1 ⟨rfl, hF1⟩; obtain ⟨hk1, hk2⟩ := kp_to hpW ⟨h0d, hFd⟩ hF1; have hk5 := (kp_new (o := .cells #[.int .i64 d, .int .i64 x, .int .i64 c] 52) hpW ⟨hk1, hk2⟩).1)
    | (go_at_call 20; (with_reducible refine (HP.out _ hkd2).mono ?_); rintro e w1 ⟨rfl, hF1⟩; obtain ⟨hk1, hk2⟩ := kp_to hpW ⟨hkd1, hkd2⟩ hF1)
    | (go_at_call 19; (with_reducible refine (HN.out _ _ (hk2.alloc _) hk2.size (Row.new _ _ [_, _, _])).mono ?_); rintro e w2 ⟨A2, n2, k2, rfl, hR2, hQ2⟩; have hk3 := hR2.at (i := 0) rfl; have f3 := hR2.frozen 0)
    | (go_at_call 19; (with_reducible refine (HN.out _ _ hk2 (Nat.le_refl _) ((Row.new W _ [_, _, _]).drew.far hF1 (by simp))).mono ?_); rintro e w2 ⟨A2, n2, k2, rfl, hR2, hQ2⟩; have hk3 := hR2.at (i := 0) rfl; have f3 := hR2.frozen 0)
    | fail)
  all_goals
    go_wp2
    go_ret2
    exact ⟨rfl, hQ2.out⟩
end
end TW
end Go.Proofs.Ytcodmpibhlojaaa
