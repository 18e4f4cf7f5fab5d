/-
  slices.IndexFunc, Delete (of one) and Insert (of one) over a row of timers that the call has made. Conditions: 64 timers or fewer.
-/
import Derived.Test.YtcodmpibhlojaaaProg
import Derived.Test.YtcodmpibhlojaaaTimRow
import Derived.Lib.Hide
import Derived.Lib.Walk
import Derived.Lib.Overlaps
import Derived.Deep.RegionLaw
import Derived.Laws.Externs
import Derived.WalkKit
import Derived.Deep.LoopGhost
import Derived.Shelf.Abstract
import Derived.Shelf.RegionOpenPlain
namespace Go.Proofs.Ytcodmpibhlojaaa
open Go.RowKit Go.Lib
namespace TL
open TM TR MM
theorem tim_info : (Try.prog.info? 52).map (fun i => (i.zero, i.size, i.bytes)) = some (some (.agg #[.int .i64 0, .int .i64 0, .int .i64 0]), 3, 24) := by kernel_rfl
theorem tims_slice : Try.prog.underlying 47 = some (.slice 52) := by kernel_rfl
theorem tim_size : (Try.prog.info? 52).map (·.size) = some 3 := by kernel_rfl
theorem tim_zero (w : World) : (zeroValue 52).run Try.prog w = .ok (.agg #[.int .i64 0, .int .i64 0, .int .i64 0]) w := by kernel_rfl
/-- A row of timers: nil, or a block. -/
theorem own_cases {w : World} {v : Value} {l : List Ti} (h : w.ownsRow 0 52 3 v l.length (en l)) :
    (v = .slice none 0 0 ∧ l = []) ∨ ∃ b cap cur, v = .slice (some ⟨b, 0, none⟩) l.length cap ∧ w.heap[b]? = some (.cells cur 52 (0, 0)) ∧ l.length ≤ cap ∧ cap ≤ maxLen ∧ cur.size = cap * 3 ∧ cur.toList.take (l.length * 3) = en l := by
  rcases h.2 with ⟨h1, h2⟩ | ⟨b, cap, cur, h1, _, h3, h4, h5, h6, h7⟩
  · exact .inl ⟨h1, List.eq_nil_of_length_eq_zero h2⟩
  · exact .inr ⟨b, cap, cur, h1, h3, h4, h5, h6, h7⟩
theorem cell_cur {w : World} {b : Nat} {cur : Array Value} {t : TypeId} (h : w.heap[b]? = some (.cells cur t (0, 0))) (i : Nat) : w.cell? ⟨b, i, none⟩ = cur.toList[i]? := by
  have : Row w b t cur.toList := by unfold Row; simpa using h
  exact this.cell i
theorem load_one {w : World} {b : Nat} {cur : Array Value} {t : TypeId} {l : List Ti} (h : w.heap[b]? = some (.cells cur t (0, 0))) (he : cur.toList.take (l.length * 3) = en l) (k : Nat) (hk : k < l.length) :
    w.cell? ⟨b, k * 3, none⟩ = some (.int .i64 l[k].d) ∧ w.cell? ⟨b, k * 3 + 1, none⟩ = some (.int .i64 l[k].it) ∧ w.cell? ⟨b, k * 3 + 2, none⟩ = some (.int .i64 l[k].n) := by
  have go : ∀ i v, (cs l[k])[i]? = some v → w.cell? ⟨b, k * 3 + i, none⟩ = some v := fun i v hi => by
    rw [cell_cur h]
    have h1 := en_at l k hk i v hi
    rw [← he, List.getElem?_take] at h1
    split at h1
    · exact h1
    · cases h1
  exact ⟨go 0 _ rfl, go 1 _ rfl, go 2 _ rfl⟩
set_option maxHeartbeats 2000000 in
theorem idx_any (g : Nat) (lb : Array Value) (p : Ti → Bool) (eg : ∀ args w, (callFunc g args).run Try.prog w = .ok (.enter g args) w) (w : World) (v : Value) (l : List Ti)
    (hown : w.ownsRow 0 52 3 v l.length (en l)) (hlen : l.length ≤ 64)
    (hp : ∀ W x, Far [] w W → Calls Try.prog g (#[.agg (cs x).toArray] ++ lb) W fun e w' => e = .returned (.bool (p x)) ∧ Far [] W w') :
    Calls Try.prog 28 #[v, .func (.func g) #[] lb] w fun e w' =>
      e = .returned (.int .i64 (if ix p l < l.length then ((ix p l : Nat) : Int) else -1)) ∧ Far [] w w' := by
  rcases own_cases hown with ⟨rfl, rfl⟩ | ⟨b, cap, cur, rfl, hb, hc1, hc2, hc3, hc4⟩
  · clear hp hown
    go_enter Try.func28, Try.ntmps28
    go_wp2
    go_loopg [5, 8] 0 (fun gg _ s8 wr => s8 = .int .i64 0 ∧ wr = w)
    case atStart => exact ⟨rfl, rfl⟩
    case round =>
      obtain ⟨rfl, rfl⟩ := hrel
      go_wp2
      go_ret
      exact ⟨rfl, Far.refl _ _⟩
  · have hlt : b < w.heap.size := (Array.getElem?_eq_some_iff.1 hb).1
    have hrow : ∀ (W : World), Far [] w W → ∀ j (hj : j < l.length), W.cell? ⟨b, j * 3, none⟩ = some (.int .i64 l[j].d) ∧ W.cell? ⟨b, j * 3 + 1, none⟩ = some (.int .i64 l[j].it) ∧ W.cell? ⟨b, j * 3 + 2, none⟩ = some (.int .i64 l[j].n) := fun W hW j hj => load_one ((hW.block b hlt (by simp)).trans hb) hc4 j hj
    obtain ⟨n, hn⟩ : ∃ n, n = l.length := ⟨_, rfl⟩
    obtain ⟨R, hR⟩ : ∃ R : Int, R = if ix p l < l.length then ((ix p l : Nat) : Int) else -1 := ⟨_, rfl⟩
    have hR' := Lib.hid hR
    rw [← hR, ← hn]
    have hn' := Lib.hid hn
    clear hR
    have hlen' : n ≤ 64 := by omega
    clear hown hb hc1 hc2 hc3 hc4 hn
    go_enter Try.func28, Try.ntmps28
    go_wp2
    go_loopg [5, 8] n (fun gg _ s8 wr => ∃ kk : Nat, kk ≤ n ∧ n - kk ≤ gg ∧ s8 = .int .i64 kk ∧ Far [] w wr ∧ Aside (∀ j (h : j < l.length), j < kk → p (l[j]'h) = false))
    case atStart => exact ⟨0, Nat.zero_le _, by omega, rfl, Far.refl _ w, fun j _ hj => absurd hj (Nat.not_lt_zero _)⟩
    case round =>
      obtain ⟨kk, hkk, hg, rfl, BW, A⟩ := hrel
      by_cases hlt : kk < n
      · have hltz : (kk : Int) < (n : Int) := by omega
        have hkl : kk < l.length := by have := hn'.out; omega
        obtain ⟨l2, l3, l4⟩ := hrow wr BW kk hkl
        have hcall := hp wr l[kk] BW
        clear hrow hp
        have Hbw := Lib.hid BW
        clear BW
        generalize hy : l[kk] = y at l2 l3 l4 hcall
        have B : Aside (l[kk] = y) := hy
        clear hy
        cases hq : p y with
        | true =>
          rw [hq] at hcall
          go_wp2_with (go_at_fn g; refine hcall.mono ?_; rintro e w' ⟨rfl, hb'⟩)
          go_ret
          have hix : ix p l = kk := ix_of p l kk (by omega) A.out (fun h => by rw [B.out]; exact hq)
          refine ⟨?_, Hbw.out.trans hb' (by simp)⟩
          rw [hR'.out, hix, if_pos hkl]
          rfl
        | false =>
          rw [hq] at hcall
          go_wp2_with (go_at_fn g; refine hcall.mono ?_; rintro e w' ⟨rfl, hb'⟩)
          go_roundg (n - (kk + 1))
          case measure => omega
          case rel =>
            refine ⟨kk + 1, by omega, by omega, by go_num, Hbw.out.trans hb' (by simp), (show Aside _ from fun j hjl hj => ?_)⟩
            by_cases e : j = kk
            · subst e
              rw [B.out]; exact hq
            · exact A.out j hjl (by omega)
      · have hltz : ¬ (kk : Int) < (n : Int) := by omega
        have : kk = n := by omega
        subst this
        go_wp2
        go_ret
        have hix : ix p l = kk := ix_of p l kk (by have := hn'.out; omega) A.out (fun h => by have := hn'.out; omega)
        refine ⟨?_, BW⟩
        rw [hR'.out, hix, if_neg (by have := hn'.out; omega)]
        rfl
end TL
end Go.Proofs.Ytcodmpibhlojaaa
