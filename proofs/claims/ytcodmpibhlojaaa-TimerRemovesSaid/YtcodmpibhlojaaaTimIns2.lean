/-
  slices.Insert ahead of the end: in a new row where there is no room, in place where there is. Conditions: as in TimIns.
-/
import Derived.Test.YtcodmpibhlojaaaTimIns
namespace Go.Proofs.Ytcodmpibhlojaaa
open Go.RowKit Go.Lib
namespace TL
open TM TR MM
theorem lay_len {n : Nat} (cur : Array Value) (o : Nat) (cs : List Value) (h : o + cs.length ≤ n) (hc : cur.size = n) : (cur.toList.take o ++ cs ++ cur.toList.drop (o + cs.length)).toArray.size = n := by
  simp
  omega
theorem lay_get (cur : Array Value) (o : Nat) (cs : List Value) (h : o + cs.length ≤ cur.size) (k : Nat) :
    (cur.toList.take o ++ cs ++ cur.toList.drop (o + cs.length))[k]? = if k < o then cur.toList[k]? else if k < o + cs.length then cs[k - o]? else cur.toList[k]? := by
  have h0 : (cur.toList.take o).length = o := by simp; omega
  by_cases h1 : k < o
  · rw [if_pos h1, List.append_assoc, List.getElem?_append_left (by omega), List.getElem?_take, if_pos h1]
  · rw [if_neg h1]
    by_cases h2 : k < o + cs.length
    · rw [if_pos h2, List.append_assoc, List.getElem?_append_right (by omega), h0, List.getElem?_append_left (by omega)]
    · rw [if_neg h2, List.append_assoc, List.getElem?_append_right (by omega), h0, List.getElem?_append_right (by omega), List.getElem?_drop]
      congr 1
      omega
theorem ins_row (l : List Ti) (i : Nat) (hi : i ≤ l.length) (x : Ti) (r : List Value) (h1 : ∀ k, k < i * 3 → r[k]? = (en l)[k]?) (h2 : ∀ k, k < 3 → r[i * 3 + k]? = (cs x)[k]?) (h3 : ∀ k, k < (l.length - i) * 3 → r[(i + 1) * 3 + k]? = (en l)[i * 3 + k]?) :
    r.take ((l.length + 1) * 3) = en (l.take i ++ x :: l.drop i) := by
  apply List.ext_getElem?
  intro k
  have e0 : (en (l.take i)).length = i * 3 := by rw [en_len, List.length_take, Nat.min_eq_left hi]
  rw [List.getElem?_take, en_app, en_cons, ← List.append_assoc]
  by_cases c1 : k < i * 3
  · rw [if_pos (by omega), h1 k c1, List.append_assoc, List.getElem?_append_left (by omega), ← en_take, List.getElem?_take, if_pos c1]
  · by_cases c2 : k < (i + 1) * 3
    · rw [if_pos (by omega), List.append_assoc, List.getElem?_append_right (by omega), List.getElem?_append_left (by simp [cs]; omega), e0]
      have := h2 (k - i * 3) (by omega)
      rw [show i * 3 + (k - i * 3) = k by omega] at this
      exact this
    · have e1 : (en (l.take i) ++ cs x).length = (i + 1) * 3 := by simp [e0, cs]; omega
      rw [List.getElem?_append_right (by omega), e1, ← en_drop, List.getElem?_drop]
      by_cases c3 : k < (l.length + 1) * 3
      · rw [if_pos c3]
        have := h3 (k - (i + 1) * 3) (by omega)
        rw [show (i + 1) * 3 + (k - (i + 1) * 3) = k by omega] at this
        exact this
      · rw [if_neg c3, List.getElem?_eq_none (by rw [en_len]; omega)]
set_option maxHeartbeats 4000000 in
set_option maxRecDepth 100000 in
theorem ins_shift (w : World) (b cap : Nat) (cur : Array Value) (l : List Ti) (i : Nat) (x : Ti) (vb : Nat) (hi : i < l.length) (hlen : l.length ≤ 64) (hroom : l.length + 1 ≤ cap) (hc2 : cap ≤ maxLen)
    (hb : w.heap[b]? = some (.cells cur 52 (0, 0))) (hc3 : cur.size = cap * 3) (hc4 : cur.toList.take (l.length * 3) = en l) (hx : Row w vb 52 (cs x)) (hne : vb ≠ b) :
    Calls Try.prog 19 #[.slice (some ⟨b, 0, none⟩) l.length cap, .int .i64 i, .slice (some ⟨vb, 0, none⟩) 1 1] w (InsQ w (.slice (some ⟨b, 0, none⟩) l.length cap) l i x) := by
  have hce : ∀ k, k < l.length * 3 → cur.toList[k]? = (en l)[k]? := fun k hk => by rw [← hc4, List.getElem?_take, if_pos hk]
  have hlt : b < w.heap.size := (Array.getElem?_eq_some_iff.1 hb).1
  obtain ⟨n, hn⟩ : ∃ n, n = l.length := ⟨_, rfl⟩
  have hbd : w.drew.heap[b]? = some (.cells cur 52 (0, 0)) := hb
  have hsz : ∀ w : World, (Go.sizeOf 52).run Try.prog w = .ok 3 w := fun w => by kernel_rfl
  have hov : ∀ lb cb, (callFunc 26 #[.slice (some ⟨vb, 0, none⟩) 1 1, .slice (some ⟨b, (i + 1) * 3, none⟩) lb cb]).run Try.prog w = .ok (.value (.bool false)) w := fun lb cb => by
    rw [run_callFunc_extern Try.func26 (by kernel_rfl) (by kernel_rfl) (by kernel_rfl) (e := Extern.SlicesOverlaps.overlaps #[47, 47] #[4]) (by kernel_rfl),
      Lib.run_overlaps_apart w 47 4 52 tims_slice 3 hsz ⟨vb, 0, none⟩ ⟨b, (i + 1) * 3, none⟩ 1 1 lb cb hne 52 52 3 cur.size (by unfold World.shape?; rw [hx]; rfl) (by unfold World.shape?; rw [hb]) (by omega) (hx.frozen _) (hx.frozen _)]
    rfl
  have hd : (en (l.drop i)).length = (n - i) * 3 := by rw [en_len, List.length_drop, hn]
  obtain ⟨cur1, hcur1⟩ : ∃ cur1 : Array Value, cur1 = (cur.toList.take ((i + 1) * 3) ++ en (l.drop i) ++ cur.toList.drop ((i + 1) * 3 + (en (l.drop i)).length)).toArray := ⟨_, rfl⟩
  obtain ⟨W1, hW1⟩ : ∃ W1, W1 = w.drew.setRow b cur1 := ⟨_, rfl⟩
  have hs1 : cur1.size = cap * 3 := by rw [hcur1]; exact lay_len cur _ _ (by rw [hd]; omega) hc3
  have hb1 : W1.heap[b]? = some (.cells cur1 52 (0, 0)) := by rw [hW1]; exact setRow_heap _ b _ _ _ _ hbd
  have hx1 : Row W1 vb 52 (cs x) := by rw [hW1]; exact Row.setRow_other hx.drew hne _
  obtain ⟨cur2, hcur2⟩ : ∃ cur2 : Array Value, cur2 = (cur1.toList.take (i * 3) ++ cs x ++ cur1.toList.drop (i * 3 + (cs x).length)).toArray := ⟨_, rfl⟩
  obtain ⟨W2, hW2⟩ : ∃ W2, W2 = W1.setRow b cur2 := ⟨_, rfl⟩
  have hs2 : cur2.size = cap * 3 := by rw [hcur2]; exact lay_len cur1 _ _ (by simp [cs]; omega) hs1
  have hb2 : W2.heap[b]? = some (.cells cur2 52 (0, 0)) := by rw [hW2]; exact setRow_heap _ b _ _ _ _ hb1
  have hcp1 : ∀ ty, (Builtin.copy_ #[47, 47] ty #[.slice (some ⟨b, (i + 1) * 3, none⟩) (n + 1 - (i + 1)) (cap - (i + 1)), .slice (some ⟨b, i * 3, none⟩) (n + 1 - i) (cap - i)]).run Try.prog w.drew = .ok (goInt ((n - i : Nat))) W1 := fun ty => by
    rw [hW1, hcur1]
    refine run_copy_k w.drew _ _ ty 52 3 b ((i + 1) * 3) _ _ ⟨b, i * 3, none⟩ _ _ cur _ (en (l.drop i)) tims_slice tim_size hbd (n - i) (by simp only [Nat.min_def]; split <;> omega) hd ?_ (by rw [hd, hc3]; omega) (en_one _)
    intro k u hu
    rw [Addr.add_lit, cell_cur hbd, hce _ (by have := (List.getElem?_eq_some_iff.1 hu).1; omega)]
    rw [← en_drop, List.getElem?_drop] at hu
    exact hu
  have hcp2 : ∀ ty, (Builtin.copy_ #[47, 47] ty #[.slice (some ⟨b, i * 3, none⟩) (n + 1 - i) (cap - i), .slice (some ⟨vb, 0, none⟩) 1 1]).run Try.prog W1 = .ok (goInt ((1 : Nat))) W2 := fun ty => by
    rw [hW2, hcur2]
    refine run_copy_k W1 _ _ ty 52 3 b (i * 3) _ _ ⟨vb, 0, none⟩ _ _ cur1 _ (cs x) tims_slice tim_size hb1 1 (by simp only [Nat.min_def]; split <;> omega) rfl ?_ (by rw [hs1]; simp [cs]; omega) (fun u hu => en_one [x] u (by simpa [en] using hu))
    intro k u hu
    rw [head_add]
    exact hx1.at hu
  have hQ : InsQ w (.slice (some ⟨b, 0, none⟩) l.length cap) l i x (.returned (.slice (some ⟨b, 0, none⟩) (n + 1) cap)) W2 := by
    refine ⟨_, rfl, ⟨?_, .inr ⟨b, cap, cur2, by rw [hn], Nat.zero_le _, hb2, by omega, hc2, hs2, ?_⟩⟩, ?_, fun b' hb' => .inl hb'⟩
    · rw [en_len]; simp; omega
    · refine ins_row l i (by omega) x _ (fun k hk => ?_) (fun k hk => ?_) (fun k hk => ?_)
      · rw [hcur2]
        simp only []
        rw [lay_get _ _ _ (by rw [hs1]; simp [cs]; omega), if_pos hk, hcur1]
        simp only []
        rw [lay_get _ _ _ (by rw [hc3, hd]; omega), if_pos (by omega), hce _ (by omega)]
      · rw [hcur2]
        simp only []
        rw [lay_get _ _ _ (by rw [hs1]; simp [cs]; omega), if_neg (by omega), if_pos (by simp [cs]; omega)]
        congr 1
        omega
      · rw [hcur2]
        simp only []
        rw [lay_get _ _ _ (by rw [hs1]; simp [cs]; omega), if_neg (by omega), if_neg (by simp [cs]; omega), hcur1]
        simp only []
        rw [lay_get _ _ _ (by rw [hc3, hd]; omega), if_neg (by omega), if_pos (by rw [hd]; omega), ← en_drop, List.getElem?_drop]
        congr 1
        omega
    · rw [hW2, hW1]
      exact ((Far.refl [b] w).drew.setRow (fun _ => by simp) _).setRow (fun _ => by simp) _
  have HQ := Lib.hid hQ
  have HC1 := Lib.hid hcp1
  have hcp3 := hcp2 3
  have hin : i ≤ n := by omega
  have hinl : i < n := by omega
  have hni : ¬ (i : Int) = (n : Int) := by omega
  have hci : ¬ cap = i := by omega
  have hci1 : ¬ cap = i + 1 := by omega
  have hnc : n ≤ cap := by omega
  have hn1 : n + 1 ≤ cap := by omega
  have hn64 : n ≤ 64 := by omega
  have hgt : ¬ ((cap : Int) < (n : Int) + 1) := by omega
  have htn : ((i : Int) + 1).toNat = i + 1 := by omega
  have hw1 : IntKind.i64.wrap ((i : Int) + 1) = (i : Int) + 1 := by rw [IntKind.wrap_i64]; omega
  have hc1' : (0 : Int) ≤ (i : Int) + 1 := by omega
  have hc2' : ¬ ((i : Int) + 1 < 0) := by omega
  have hb3 : i + 1 ≤ n + 1 := by omega
  have hb4 : (i : Int) ≤ (n : Int) := by omega
  have hb5 : (i : Int) ≤ (n : Int) + 1 := by omega
  have htn2 : ((n : Int) + 1).toNat = n + 1 := by omega
  have mixed : Try.prog.follows .mixedOrders = true := by kernel_rfl
  clear hQ hcp1 hcp2 hs2 hb2 hW2 hcur2 hx1 hb1 hs1 hW1 hcur1 hd hbd hce hb hc3 hc4 hx hsz
  rw [← hn] at HQ ⊢
  clear hn hi hlen
  go_enter Try.func19, Try.ntmps19
  go_wp2_with (simp only [hov])
  go_region_law (refine step_copy rfl _ _ 47 rfl _ _ (by simp [Act.eval, Act.put]) (by simp [Act.eval, Act.put]) HC1.out ?_)
  all_goals
    go_wp2
    go_ret
    exact HQ.out
end TL
end Go.Proofs.Ytcodmpibhlojaaa
