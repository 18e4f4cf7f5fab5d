/-
  The landed timers' take, Due, Remove. Conditions: 64 timers or fewer.
-/
import Derived.Test.YtcodmpibhlojaaaTimC2
namespace Go.Proofs.Ytcodmpibhlojaaa
open Go.RowKit Go.Lib
namespace TW
open TM TR MM TL
def tkV : Option (Int × List Ti) → Value
  | none => .tuple #[.int .i64 0, .bool false]
  | some (i, _) => .tuple #[.int .i64 i, .bool true]
def tkL (l : List Ti) : Option (Int × List Ti) → List Ti
  | none => l
  | some (_, r) => r
section
variable {w : World} {p : Nat} {S : List Nat} {v : Value} {l : List Ti} {c : Nat}
set_option maxHeartbeats 1000000 in
theorem take_any (h : Tm w p S v l c) (hlen : l.length ≤ 64) (g : Nat) (lb : Array Value) (P : Ti → Bool) (eg : ∀ args w, (callFunc g args).run Try.prog w = .ok (.enter g args) w)
    (hp : ∀ W x, Far [] w W → Calls Try.prog g (#[.agg (cs x).toArray] ++ lb) W fun e w' => e = .returned (.bool (P x)) ∧ Far [] W w') :
    Calls Try.prog 21 #[ptr p, .func (.func g) #[] lb] w fun e w' => e = .returned (tkV (tk P l)) ∧ Nx w p S (tkL l (tk P l)) c w' := by
  have hnp : v.ownBlock ≠ some p := own_row_ne h.row h.head (by decide)
  have h0 := h.head.at (i := 0) rfl
  have HI := Lib.hid (idx_any g lb P eg w v l h.row hlen hp)
  have hplt := h.head.lt
  by_cases hx : ix P l < l.length
  · rw [if_pos hx] at HI
    rw [tk_some P l hx]
    rcases own_cases h.row with ⟨_, h1⟩ | ⟨b, cap, cur, rfl, hb, _, _, _, hc4⟩
    · rw [h1] at hx; simp at hx
    · have hit := (load_one hb hc4 _ hx).2.1
      have hblt : b < w.heap.size := (Array.getElem?_eq_some_iff.1 hb).1
      have hD : ∀ W, Far [] w W → Calls Try.prog 30 #[.slice (some ⟨b, 0, none⟩) l.length cap, .int .i64 (ix P l : Nat), .int .i64 ((ix P l : Nat) + 1 : Int)] W fun e w' =>
          ∃ A n k, e = .returned (.slice A n k) ∧ w'.cell? ⟨p, 0, none⟩ = some (.slice (some ⟨b, 0, none⟩) l.length cap) ∧ w'.frozen? ⟨p, 0, none⟩ = false ∧ Hid (Nx w p S (l.eraseIdx (ix P l)) c (w'.setCell ⟨p, 0, none⟩ (.slice A n k))) := by
        intro W hW
        have hTW := h.nil hW
        rw [show ((ix P l : Nat) + 1 : Int) = ((ix P l + 1 : Nat) : Int) by omega]
        refine (del_any W _ l (ix P l) (ix P l + 1) hx rfl hTW.row hlen).mono ?_
        rintro e w' ⟨v', rfl, h2, h3, h4⟩
        have hpn : p ∉ (Value.slice (some ⟨b, 0, none⟩) l.length cap).ownBlock.toList := fun hm => hnp (by simpa using hm)
        have hr2 : Row w' p 49 [.slice (some ⟨b, 0, none⟩) l.length cap, .int .i64 (c : Int)] := hTW.head.far h3 hpn
        have hp2 : v'.ownBlock ≠ some p := by rw [h4]; exact hnp
        obtain ⟨A, k, hv', _⟩ := MO.form h2
        refine ⟨A, _, k, by rw [hv'], hr2.at (i := 0) rfl, hr2.frozen 0, ?_⟩
        rw [← hv']
        have hF2 : Far [p] w' (w'.setCell ⟨p, 0, none⟩ v') := (Far.refl [p] w').setCell (fun _ => by simp) _
        refine (show Nx w p S _ _ _ from ⟨S, v', ⟨by simpa using hr2.put 0 v', ?_, h.mem, fun b' hb' => h.own b' (by rw [← h4]; exact hb'), fun b' hb' => ?_⟩, ?_, fun b' hb' => .inl hb'⟩)
        · exact own_far h2 hF2 (fun b' hb' => by intro e; rw [List.mem_singleton.1 e] at hb'; exact hp2 hb')
        · exact Nat.lt_of_lt_of_le (hTW.lt b' hb') (Nat.le_trans h3.size hF2.size)
        · refine ((hW.mono (S' := S) (by simp)).trans (h3.mono (S' := S) ?_) (fun b' hb' _ => hb')).trans (hF2.mono (S' := S) ?_) (fun b' hb' _ => hb')
          · intro b' hb' _; exact h.own b' (by simpa using hb')
          · intro b' hb' _; rw [List.mem_singleton.1 hb']; exact h.mem
      have HD := Lib.hid hD
      have hto : ∀ w1, Far [] w w1 → w1.cell? ⟨p, 0, none⟩ = some (.slice (some ⟨b, 0, none⟩) l.length cap) ∧ w1.cell? ⟨b, ix P l * 3 + 1, none⟩ = some (.int .i64 l[ix P l].it) := fun w1 hw =>
        ⟨(hw.cell (p := ⟨p, 0, none⟩) hplt (by simp)).trans h0, (hw.cell (p := ⟨b, ix P l * 3 + 1, none⟩) hblt (by simp)).trans hit⟩
      have HT := Lib.hid hto
      have hk64 : l.length ≤ 64 := hlen
      simp only [tkV, tkL]
      generalize hit' : l[ix P l].it = it at *
      generalize hr' : l.eraseIdx (ix P l) = r at *
      have hneg : ¬ ((ix P l : Int) < 0) := by omega
      have hkx : (ix P l : Int) < (l.length : Int) := by omega
      have hwr : IntKind.i64.wrap ((ix P l : Int) + 1) = (ix P l : Int) + 1 := by rw [IntKind.wrap_i64]; omega
      clear h hp hnp hit hb hc4 hD hto hit' hr' hblt hplt hlen
      go_enter Try.func21, Try.ntmps21
      go_wp2_with (first
        | (go_at_call 28; refine HI.out.mono ?_; rintro e w1 ⟨rfl, hF1⟩; have HF1 := Lib.hid hF1; obtain ⟨y0, y1⟩ := HT.out w1 hF1; clear hF1)
        | (go_at_call 30; refine (HD.out _ HF1.out).mono ?_; rintro e w2 ⟨A2, n2, k2, rfl, z0, z1, hQ2⟩))
      all_goals
        go_ret2
        exact ⟨rfl, hQ2.out⟩
  · rw [if_neg hx] at HI
    rw [tk_none P l hx]
    simp only [tkV, tkL]
    have H := Lib.hid h
    clear h hp hnp
    go_enter Try.func21, Try.ntmps21
    go_wp2_with (go_at_call 28; refine HI.out.mono ?_; rintro e w1 ⟨rfl, hF1⟩; have HF1 := Lib.hid hF1; clear hF1)
    go_ret2
    exact ⟨rfl, Nx.stay H.out HF1.out⟩
theorem take_nil (w : World) (f : Value) : Calls Try.prog 21 #[.pointer none, f] w fun e w' => e = .returned (.tuple #[.int .i64 0, .bool false]) ∧ w = w' := by
  go_enter Try.func21, Try.ntmps21
  go_wp2
  go_ret2
  exact ⟨rfl, rfl⟩
theorem due_any (h : Tm w p S v l c) (hlen : l.length ≤ 64) (d : Int) : Calls Try.prog 12 #[ptr p, .int .i64 d] w fun e w' => e = .returned (tkV (tk (dueB d) l)) ∧ Nx w p S (tkL l (tk (dueB d) l)) c w' := by
  have hF : Far [] w (w.alloc (.cells #[.int .i64 d] 3)) := (Far.refl [] w).alloc _
  have hr := Row.new w 3 [.int .i64 d]
  have hlt := hr.lt
  have HC := Lib.hid (take_any (h.nil hF) hlen 22 #[ptr w.heap.size] (dueB d) (fun args w => by kernel_rfl) (fun W x hW =>
    due1_any w.heap.size d W x ((hW.cell (p := ⟨w.heap.size, 0, none⟩) hlt (by simp)).trans (hr.at (i := 0) rfl)) (Nat.lt_of_lt_of_le hlt hW.size)))
  have HF := Lib.hid hF
  generalize hR : tk (dueB d) l = R at *
  clear h hr hF hlt hR
  obtain ⟨a, b, hab⟩ : ∃ a b, tkV R = .tuple #[.int .i64 a, .bool b] := by
    rcases R with _ | ⟨a, r⟩
    · exact ⟨0, false, rfl⟩
    · exact ⟨a, true, rfl⟩
  rw [hab] at HC ⊢
  go_enter Try.func12, Try.ntmps12
  go_wp2_with (go_at_call 21; refine HC.out.mono ?_; rintro e w1 ⟨rfl, hQ1⟩; have HQ1 := Lib.hid hQ1; clear hQ1)
  go_ret2
  exact ⟨rfl, HQ1.out.behind HF.out⟩
theorem remove_any (h : Tm w p S v l c) (hlen : l.length ≤ 64) (d : Int) : Calls Try.prog 14 #[ptr p, .int .i64 d] w fun e w' => e = .returned (tkV (tk (isN d) l)) ∧ Nx w p S (tkL l (tk (isN d) l)) c w' := by
  have hF : Far [] w (w.alloc (.cells #[.int .i64 d] 3)) := (Far.refl [] w).alloc _
  have hr := Row.new w 3 [.int .i64 d]
  have hlt := hr.lt
  have HC := Lib.hid (take_any (h.nil hF) hlen 25 #[ptr w.heap.size] (isN d) (fun args w => by kernel_rfl) (fun W x hW =>
    remove1_any w.heap.size d W x ((hW.cell (p := ⟨w.heap.size, 0, none⟩) hlt (by simp)).trans (hr.at (i := 0) rfl)) (Nat.lt_of_lt_of_le hlt hW.size)))
  have HF := Lib.hid hF
  generalize hR : tk (isN d) l = R at *
  clear h hr hF hlt hR
  obtain ⟨a, b, hab⟩ : ∃ a b, tkV R = .tuple #[.int .i64 a, .bool b] := by
    rcases R with _ | ⟨a, r⟩
    · exact ⟨0, false, rfl⟩
    · exact ⟨a, true, rfl⟩
  rw [hab] at HC ⊢
  go_enter Try.func14, Try.ntmps14
  go_wp2_with (go_at_call 21; refine HC.out.mono ?_; rintro e w1 ⟨rfl, hQ1⟩; have HQ1 := Lib.hid hQ1; clear hQ1)
  go_ret2
  exact ⟨rfl, HQ1.out.behind HF.out⟩
end
theorem due_nil (w : World) (d : Int) : Calls Try.prog 12 #[.pointer none, .int .i64 d] w fun e w' => e = .returned (.tuple #[.int .i64 0, .bool false]) ∧ Far [] w w' := by
  have HF := Lib.hid ((Far.refl [] w).alloc (.cells #[.int .i64 d] 3))
  go_enter Try.func12, Try.ntmps12
  go_wp2_with (go_at_call 21; refine (take_nil _ _).mono ?_; rintro e w1 ⟨rfl, rfl⟩)
  go_ret2
  exact ⟨rfl, HF.out⟩
theorem remove_nil (w : World) (d : Int) : Calls Try.prog 14 #[.pointer none, .int .i64 d] w fun e w' => e = .returned (.tuple #[.int .i64 0, .bool false]) ∧ Far [] w w' := by
  have HF := Lib.hid ((Far.refl [] w).alloc (.cells #[.int .i64 d] 3))
  go_enter Try.func14, Try.ntmps14
  go_wp2_with (go_at_call 21; refine (take_nil _ _).mono ?_; rintro e w1 ⟨rfl, rfl⟩)
  go_ret2
  exact ⟨rfl, HF.out⟩
end TW
end Go.Proofs.Ytcodmpibhlojaaa
