/-
  Rows of things each of which has the place of the next one: what is reached, and what is told of it. Condition: there are few of them.
-/
import Derived.Test.YtokpiljbcbemlaaMoveEnd
namespace Go.Proofs.Ytokpiljbcbemlaa
namespace MP
open Go.RowKit AP AW
def nx (N : Nat) (c : Bool) (i : Nat) : Int := if i + 1 < N then 24 * ((i : Int) + 1) + 1 else if c = true then 1 else 2
def lk (N : Nat) (c : Bool) (M i : Nat) : Int := if i < M then nx N c i else 2
def cth (N : Nat) (c : Bool) (M i : Nat) : Th := ⟨1, [8 * (i : Int), lk N c M i]⟩
def chain (N : Nat) (c : Bool) (M : Nat) : List Th := (List.range N).map (cth N c M)
def raws (k : Nat) : List Th := (List.range k).map (fun (i : Nat) => ⟨1, [8 * (i : Int), 2]⟩)
theorem raws_snoc (k : Nat) : raws (k + 1) = raws k ++ [⟨1, [8 * (k : Int), 2]⟩] := by unfold raws; rw [List.range_succ, List.map_append]; rfl
theorem raws_sz (k : Nat) : sz (raws k) = 3 * k := by
  induction k with
  | zero => rfl
  | succ k ih => rw [raws_snoc, sz_snoc, ih]; simp; omega
theorem chain_zero (N : Nat) (c : Bool) : chain N c 0 = raws N := by
  unfold chain raws; apply List.map_congr_left; intro i _; simp [cth, lk]
theorem chain_len (N : Nat) (c : Bool) (M : Nat) : (chain N c M).length = N := by simp [chain]
theorem chain_th (N : Nat) (c : Bool) (M i : Nat) (h : i < N) : th (chain N c M) i = cth N c M i := by simp [th, chain, List.getD, h]
theorem chain_off (N : Nat) (c : Bool) (M i : Nat) (h : i ≤ N) : sz ((chain N c M).take i) = 3 * i := by
  induction i with
  | zero => simp [sz]
  | succ i ih =>
    rw [List.take_add_one, th_get _ (by rw [chain_len]; omega), Option.toList_some, sz_snoc, ih (by omega), chain_th _ _ _ _ (by omega)]
    simp [cth]; omega
theorem chain_sz (N : Nat) (c : Bool) (M : Nat) : sz (chain N c M) = 3 * N := by
  have := chain_off N c M N (Nat.le_refl _)
  rwa [List.take_of_length_le (by rw [chain_len]; exact Nat.le_refl _)] at this
def ad (i : Nat) : Int := 24 * (i : Int) + 1
theorem chain_pl (N : Nat) (c : Bool) (M i : Nat) (h : i ≤ N) (hN : N ≤ 1000) : pl (chain N c M) i = ad i := by
  unfold pl; rw [chain_off _ _ _ _ h]
  have : WP.ofB 1 ((3 * i : Nat) : Int) = true := by rw [WP.ofB_iff]; omega
  unfold WP.ofW; rw [if_pos this]; unfold ad; omega
theorem chain_put (N : Nat) (c : Bool) (M : Nat) (h : M < N) : put (chain N c M) M 1 (nx N c M) = chain N c (M + 1) := by
  refine th_ext (by rw [len_put, chain_len, chain_len]) (fun p hp => ?_)
  rw [chain_len] at hp
  by_cases e : p = M
  · subst e
    rw [th_put_same _ _ _ _ (by rw [chain_len]; exact hp), chain_th _ _ _ _ hp, chain_th _ _ _ _ hp]
    simp [cth, lk]
  · rw [th_put_other _ _ _ _ _ e, chain_th _ _ _ _ hp, chain_th _ _ _ _ hp]
    have : (p < M + 1) = (p < M) := by simp; omega
    simp [cth, lk, this]
theorem chain_last (N : Nat) (M : Nat) (h : M + 1 = N) : chain N false M = chain N false (M + 1) := by
  unfold chain
  apply List.map_congr_left
  intro i hi
  simp at hi
  by_cases e : i = M
  · subst e; simp [cth, lk, nx]; omega
  · have : (i < M + 1) = (i < M) := by simp; omega
    simp [cth, lk, this]
theorem ad_to (i : Nat) (h : i ≤ 1000) : WP.toB 1 (ad i) = true ∧ WP.toN 1 (ad i) = ((3 * i : Nat) : Int) := by
  have hb : WP.toB 1 (ad i) = true := by rw [WP.toB_iff]; unfold ad; omega
  refine ⟨hb, ?_⟩
  unfold WP.toN; rw [if_pos hb]; unfold ad; omega
section
variable {N : Nat} {c : Bool}
theorem chain_look (hN : N ≤ 1000) (M : Nat) {i : Nat} (h : i < N) : AW.look (chain N c M) (ad i) = some i := by
  obtain ⟨h1, h2⟩ := ad_to i (by omega)
  unfold AW.look; rw [if_pos h1, h2, Int.toNat_natCast]
  have := idx_off (chain N c M) i (by rw [chain_len]; exact h)
  rwa [chain_off _ _ _ _ (by omega)] at this
theorem look_even (T : List Th) {x : Int} (h : x % 8 ≠ 1) : AW.look T x = none := by
  have : WP.toB 1 x = false := by rw [← Bool.not_eq_true, WP.toB_iff]; omega
  unfold AW.look; rw [this]; rfl
theorem bare_even {x : Int} (h : x % 8 ≠ 1) : bareW x = x := by
  have : WP.toB 1 x = false := by rw [← Bool.not_eq_true, WP.toB_iff]; omega
  unfold bareW; rw [this]; rfl
theorem nx_in (i : Nat) : nx N c i = if i + 1 < N then ad (i + 1) else if c = true then ad 0 else 2 := by
  unfold nx ad; simp
/-- What is reached from thing k on. -/
theorem chain_reach (hN : N ≤ 1000) {k : Nat} (hk : k < N) (i : Nat) : R (chain N c N) [ad k] i ↔ i < N ∧ (c = true ∨ k ≤ i) := by
  have hw : ∀ j, j < N → (th (chain N c N) j).l = [8 * (j : Int), nx N c j] := by intro j hj; rw [chain_th _ _ _ _ hj]; simp [cth, lk, hj]
  have up : ∀ b d, R (chain N c N) [ad k] b → b + d < N → R (chain N c N) [ad k] (b + d) := by
    intro b d hb
    induction d with
    | zero => intro _; exact hb
    | succ d ih =>
      intro hd
      refine .step (ih (by omega)) (x := nx N c (b + d)) (by rw [hw _ (by omega)]; simp) ?_
      rw [nx_in, if_pos (by omega)]
      exact chain_look hN N (by omega)
  have r0 : R (chain N c N) [ad k] k := .root (List.mem_singleton.2 rfl) (chain_look hN N hk)
  constructor
  · intro hr
    induction hr with
    | root hx hl =>
      simp at hx; subst hx
      rw [chain_look hN N hk] at hl; cases hl
      exact ⟨hk, .inr (Nat.le_refl _)⟩
    | step _ hx hl ih =>
      rw [hw _ ih.1] at hx
      simp only [List.mem_cons, List.not_mem_nil, or_false] at hx
      rcases hx with rfl | rfl
      · rw [look_even _ (by omega)] at hl; cases hl
      · rw [nx_in] at hl
        split at hl
        · rename_i h1
          rw [chain_look hN N h1] at hl; cases hl
          refine ⟨h1, ?_⟩
          rcases ih.2 with h2 | h2
          · exact .inl h2
          · exact .inr (by omega)
        · split at hl
          · rename_i hc
            rw [chain_look hN N (by omega)] at hl; cases hl
            exact ⟨by omega, .inl hc⟩
          · rw [look_even _ (by omega)] at hl; cases hl
  · rintro ⟨hi, hc⟩
    by_cases hki : k ≤ i
    · have := up k (i - k) r0 (by omega)
      rwa [show k + (i - k) = i by omega] at this
    · have hct : c = true := by rcases hc with h | h; exact h; exact absurd h hki
      have rl : R (chain N c N) [ad k] (N - 1) := by
        have := up k (N - 1 - k) r0 (by omega)
        rwa [show k + (N - 1 - k) = N - 1 by omega] at this
      have rz : R (chain N c N) [ad k] 0 := by
        refine .step rl (x := nx N c (N - 1)) (by rw [hw _ (by omega)]; simp) ?_
        rw [nx_in, if_neg (by omega), if_pos hct]
        exact chain_look hN N (by omega)
      have := up 0 i rz (by omega)
      rwa [Nat.zero_add] at this
theorem chain_ok {n : Nat} (h : 3 * N ≤ n) (hn : n ≤ 65536) (hN : N ≤ 1000) (M : Nat) : Ok n (chain N c M) := by
  refine ⟨hn, by rw [chain_sz]; exact h, fun i hi => ?_⟩
  rw [chain_len] at hi
  rw [chain_th _ _ _ _ hi]
  refine ⟨by simp [cth], by simp [cth], by simp [cth], fun x hx => ?_⟩
  simp only [cth, List.mem_cons, List.not_mem_nil, or_false] at hx
  rcases hx with rfl | rfl
  · unfold WP.U; omega
  · unfold lk nx WP.U
    split
    · split
      · omega
      · split <;> omega
    · omega
theorem wts_three (l : List Nat) (h : ∀ i ∈ l, i < N) : wts (chain N c N) l = 3 * l.length := by
  induction l with
  | nil => rfl
  | cons i l ih =>
    rw [wts_cons, ih (fun j hj => h j (List.mem_cons_of_mem _ hj))]
    unfold wt
    rw [chain_th _ _ _ _ (h i (List.mem_cons_self ..))]
    simp [cth]; omega
def want (N : Nat) (c : Bool) (k : Nat) : Nat := if c = true then N else N - k
theorem chain_used {n : Nat} (h : 3 * N ≤ n) (hn : n ≤ 65536) (hN : N ≤ 1000) {k : Nat} (hk : k < N) : reach (chain N c N) [ad k] = 3 * want N c k := by
  have hL := live (chain_ok (c := c) h hn hN N) [ad k]
  rw [reach_wts (chain_ok (c := c) h hn hN N)]
  have e : wts (chain N c N) (liveS (chain N c N) [ad k]).od = wts (chain N c N) ((List.range (want N c k)).map (fun i => if c = true then i else k + i)) := by
    refine wts_same _ hL.inv.nodup ?_ (fun i => ?_)
    · refine List.pairwise_map.2 (List.nodup_range.imp ?_)
      intro a b hab e
      by_cases hc : c = true
      · rw [if_pos hc, if_pos hc] at e; exact hab e
      · rw [if_neg hc, if_neg hc] at e; exact hab (by omega)
    · rw [hL.reach, chain_reach hN hk]
      simp only [List.mem_map, List.mem_range, want]
      constructor
      · rintro ⟨h1, h2⟩
        by_cases hc : c = true
        · exact ⟨i, by rw [if_pos hc]; exact h1, by rw [if_pos hc]⟩
        · refine ⟨i - k, ?_, ?_⟩
          · rw [if_neg hc]
            rcases h2 with h2 | h2
            · exact absurd h2 hc
            · omega
          · rw [if_neg hc]
            rcases h2 with h2 | h2
            · exact absurd h2 hc
            · omega
      · rintro ⟨j, hj, rfl⟩
        by_cases hc : c = true
        · rw [if_pos hc] at hj ⊢; exact ⟨hj, .inl hc⟩
        · rw [if_neg hc] at hj ⊢; exact ⟨by omega, .inr (by omega)⟩
  rw [e, wts_three]
  · simp
  · intro i hi
    simp only [List.mem_map, List.mem_range, want] at hi
    obtain ⟨j, hj, rfl⟩ := hi
    split at hj <;> rename_i hc
    · rw [if_pos hc]; exact hj
    · rw [if_neg hc]; omega
/-- The word from which the i-th thing is told. -/
def wv (N : Nat) (c : Bool) (k i : Nat) : Int := if c = true ∨ k + i < N then phi (chain N c N) (liveS (chain N c N) [ad k]) (ad ((k + i) % N)) else 2
theorem chain_get {n : Nat} (h : 3 * N ≤ n) (hn : n ≤ 65536) (hN : N ≤ 1000) {k : Nat} (hk : k < N) {i : Nat} (hi : i < want N c k) :
    ∃ p, AW.look (liveT (chain N c N) [ad k]) (wv N c k i) = some p ∧ (th (liveT (chain N c N) [ad k]) p).l = [8 * (((k + i) % N : Nat) : Int), wv N c k (i + 1)] := by
  have hO := chain_ok (c := c) h hn hN N
  have hL := live hO [ad k]
  have hin : c = true ∨ k + i < N := by
    unfold want at hi
    split at hi
    · exact .inl (by assumption)
    · exact .inr (by omega)
  have hmN : (k + i) % N < N := Nat.mod_lt _ (by omega)
  have hm : R (chain N c N) [ad k] ((k + i) % N) := by
    rw [chain_reach hN hk]
    refine ⟨hmN, ?_⟩
    rcases hin with hc | hc
    · exact .inl hc
    · right; rw [Nat.mod_eq_of_lt hc]; omega
  have hod := (hL.reach _).2 hm
  have hlk := chain_look (c := c) hN N hmN
  obtain ⟨p, hp⟩ := pos_isSome hod
  refine ⟨p, ?_, ?_⟩
  · unfold wv
    rw [if_pos hin, phi_some hlk hp]
    exact look_pl (ok hO hL.inv) (by rw [hL.inv.len]; exact (pos_some hp).1)
  · have hd := hL.done p _ (pos_some hp).2
    unfold liveT
    rw [hd, chain_th _ _ _ _ hmN]
    simp only [cth, lk, hmN, if_true, List.map_cons, List.map_nil]
    have e1 : phi (chain N c N) (liveS (chain N c N) [ad k]) (8 * (((k + i) % N : Nat) : Int)) = 8 * (((k + i) % N : Nat) : Int) := by
      rw [phi_none _ (look_even _ (by omega)), bare_even (by omega)]
    rw [e1]
    have e2 : phi (chain N c N) (liveS (chain N c N) [ad k]) (nx N c ((k + i) % N)) = wv N c k (i + 1) := by
      rw [nx_in]
      unfold wv
      by_cases h1 : (k + i) % N + 1 < N
      · rw [if_pos h1]
        have h2 : (k + (i + 1)) % N = (k + i) % N + 1 := by
          rw [← Nat.add_assoc, ← Nat.mod_add_mod, Nat.mod_eq_of_lt h1]
        have h3 : c = true ∨ k + (i + 1) < N := by
          rcases hin with hc | hc
          · exact .inl hc
          · right; rw [Nat.mod_eq_of_lt hc] at h1; omega
        rw [if_pos h3, h2]
      · rw [if_neg h1]
        have hlast : (k + i) % N = N - 1 := by omega
        by_cases hc : c = true
        · rw [if_pos hc, if_pos (.inl hc)]
          have h2 : (k + (i + 1)) % N = 0 := by
            rw [← Nat.add_assoc, ← Nat.mod_add_mod, hlast, show N - 1 + 1 = N by omega, Nat.mod_self]
          rw [h2]
        · rw [if_neg hc]
          have hlt : k + i < N := by rcases hin with h | h; exact absurd h hc; exact h
          rw [Nat.mod_eq_of_lt hlt] at hlast
          rw [if_neg (by intro hh; rcases hh with h | h; exact hc h; omega), phi_none _ (look_even _ (by omega)), bare_even (by omega)]
    rw [e2]
end
end MP
end Go.Proofs.Ytokpiljbcbemlaa
