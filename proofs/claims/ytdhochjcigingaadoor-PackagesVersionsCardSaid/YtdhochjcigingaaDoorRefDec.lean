/- The document's Decimal (67). -/
import Derived.Test.YtdhochjcigingaaDoorBackA
import Derived.Deep.RegionHeld3
import Derived.Laws.BytesArg
namespace Go.Proofs.YtdhochjcigingaaDoor
open Go.RowKit
set_option linter.all false

/-- 'string(b)' of one byte in a block. -/
theorem conv_one {W : World} {B n : Nat} (hn : n < 10) (h : W.cell? ⟨B, 0, none⟩ = some (.int .u8 (48 + (n : Int)))) :
    (convert 44 9 (.slice (some ⟨B, 0, none⟩) 1 1)).run Tryd.prog W = .ok (.string ⟨#[UInt8.ofNat (48 + n)]⟩) W := by
  rw [run_convert_bytes_arg (P := Tryd.prog) W 44 5 (by kernel_rfl) (by kernel_rfl) B 0 1 1 [48 + (n : Int)] rfl (by
    intro i hi
    have : i = 0 := by omega
    subst this
    exact h) 9 (by kernel_rfl)]
  have : (48 + (n : Int)).toNat = 48 + n := by omega
  simp [strOfNums, this]

theorem conv_new1 (w : World) {n : Nat} (hn : n < 10) : (convert 44 9 (.slice (some ⟨w.heap.size, 0, none⟩) 1 1)).run Tryd.prog (w.alloc (.cells #[.int .u8 (48 + (n : Int))] 5)) = .ok (.string ⟨#[UInt8.ofNat (48 + n)]⟩) (w.alloc (.cells #[.int .u8 (48 + (n : Int))] 5)) :=
  conv_one hn (by simp)

set_option maxRecDepth 100000 in
set_option maxHeartbeats 1000000 in
theorem refdec_one (n : Nat) (h : n < 10) (w : World) : Calls Tryd.prog 67 #[.int .i64 (n : Int)] w (StrP [UInt8.ofNat (48 + n)] w) := by
  have h1 : (n : Int) < 10 := by omega
  have h2 : (0 : Int) ≤ (n : Int) := by omega
  have cv := conv_new1 w h
  generalize UInt8.ofNat (48 + n) = u at *
  go_enter Tryd.func67, Tryd.ntmps67
  go_wp2_with fail
  go_ret
  exact ⟨rfl, (Below.refl _ _).alloc (Nat.le_refl _) _⟩

theorem cell_new1 {w : World} {r : Nat} (W : World) (_h : Below w.heap.size w W) : (W.alloc (.cells #[.int .u8 (48 + (r : Int))] 5)).cell? ⟨W.heap.size, 0, none⟩ = some (.int .u8 (48 + (r : Int))) := by simp

set_option maxRecDepth 100000 in
set_option maxHeartbeats 4000000 in
theorem refdec_step (n : Nat) (h : ¬ n < 10) (hn : n < 1000000) (l : List UInt8) (hl : l.length ≤ 30) (ih : ∀ W, Calls Tryd.prog 67 #[.int .i64 ((n / 10 : Nat) : Int)] W (StrP l W)) (w : World) : Calls Tryd.prog 67 #[.int .i64 (n : Int)] w (StrP (l ++ [UInt8.ofNat (48 + n % 10)]) w) := by
  have h1 : ¬ (n : Int) < 10 := by omega
  have h2 : (0 : Int) ≤ (n : Int) := by omega
  have hq : Int.tdiv (n : Int) 10 = ((n / 10 : Nat) : Int) := by rw [Int.tdiv_eq_ediv_of_nonneg h2]; omega
  have hr : Int.tmod (n : Int) 10 = ((n % 10 : Nat) : Int) := by rw [Int.tmod_eq_emod_of_nonneg h2]; omega
  have ha : n % 10 < 10 := by omega
  have hd : n / 10 < 1000000 := by omega
  generalize n / 10 = d at *
  generalize n % 10 = r at *
  have q2 : ¬ (9223372036854775807 < l.length + 1) := by omega
  have cA := fun W => conv_new1 W ha
  generalize hu : UInt8.ofNat (48 + r) = u at *
  have hr1 : (0 : Int) ≤ (r : Int) := by omega
  have hr2 : (r : Int) < 10 := by omega
  have wr1 : IntKind.i64.wrap (d : Int) = d := IntWalk.i64_in _ (by omega)
  have wr2 : IntKind.i64.wrap (48 + (r : Int)) = 48 + (r : Int) := IntWalk.i64_in _ (by omega)
  have wr3 : IntKind.u8.wrap (48 + (r : Int)) = 48 + (r : Int) := by simp [IntKind.wrap, IntKind.bits, IntKind.signed]; omega
  clear hl hn
  go_enter Tryd.func67, Tryd.ntmps67
  go_wp2_with fail
  have hB := (Below.refl w.heap.size w).drew
  refine wp_region_held_drew (S := fun W => Below w.heap.size w W) (by kernel_rfl) hB (fun hHeld => ?_)
  generalize w.drew = wd at *
  refine wpAnyH_take (i := 0) (oi := ?ot0) (v := .int .i64 (n : Int)) ?ht0 (by kernel_rfl) (by kernel_rfl) (by kernel_rfl) ?qt0 (Or.inl ⟨?wt0, ?yt0⟩) hHeld ?rt0
  case ht0 => simp only [List.getElem?_toArray, List.getElem?_cons_succ, List.getElem?_cons_zero]; rfl
  case wt0 => rfl
  case yt0 => intro w1 hSw; clear hSw; first | (go_simp; done) | (go_simp; with_reducible rfl)
  case qt0 => intro _ _ _ h; exact h
  try simp only [Act.put, List.setIfInBounds_toArray, List.set_cons_zero, List.set_cons_succ]
  refine wpAnyH_take (i := 1) (oi := ?ot1) (v := .int .i64 (d : Int)) ?ht1 (by kernel_rfl) (by kernel_rfl) (by kernel_rfl) ?qt1 (Or.inl ⟨?wt1, ?yt1⟩) hHeld ?rt1
  case ht1 => simp only [List.getElem?_toArray, List.getElem?_cons_succ, List.getElem?_cons_zero]; rfl
  case wt1 => rfl
  case yt1 => intro w1 hSw; clear hSw; first | (go_simp; done) | (go_simp; with_reducible rfl)
  case qt1 => intro _ _ _ h; exact h
  try simp only [Act.put, List.setIfInBounds_toArray, List.set_cons_zero, List.set_cons_succ]
  refine wpAnyH_take (i := 3) (oi := ?ot3) (v := .int .i64 (n : Int)) ?ht3 (by kernel_rfl) (by kernel_rfl) (by kernel_rfl) ?qt3 (Or.inl ⟨?wt3, ?yt3⟩) hHeld ?rt3
  case ht3 => simp only [List.getElem?_toArray, List.getElem?_cons_succ, List.getElem?_cons_zero]; rfl
  case wt3 => rfl
  case yt3 => intro w1 hSw; clear hSw; first | (go_simp; done) | (go_simp; with_reducible rfl)
  case qt3 => intro _ _ _ h; exact h
  try simp only [Act.put, List.setIfInBounds_toArray, List.set_cons_zero, List.set_cons_succ]
  refine wpAnyH_take (i := 4) (oi := ?ot4) (v := .int .i64 (r : Int)) ?ht4 (by kernel_rfl) (by kernel_rfl) (by kernel_rfl) ?qt4 (Or.inl ⟨?wt4, ?yt4⟩) hHeld ?rt4
  case ht4 => simp only [List.getElem?_toArray, List.getElem?_cons_succ, List.getElem?_cons_zero]; rfl
  case wt4 => rfl
  case yt4 => intro w1 hSw; clear hSw; first | (go_simp; done) | (go_simp; with_reducible rfl)
  case qt4 => intro _ _ _ h; exact h
  try simp only [Act.put, List.setIfInBounds_toArray, List.set_cons_zero, List.set_cons_succ]
  refine wpAnyH_take (i := 5) (oi := ?ot5) (v := .int .i64 (48 + (r : Int))) ?ht5 (by kernel_rfl) (by kernel_rfl) (by kernel_rfl) ?qt5 (Or.inl ⟨?wt5, ?yt5⟩) hHeld ?rt5
  case ht5 => simp only [List.getElem?_toArray, List.getElem?_cons_succ, List.getElem?_cons_zero]; rfl
  case wt5 => rfl
  case yt5 => intro w1 hSw; clear hSw; first | (go_simp; done) | (go_simp; with_reducible rfl)
  case qt5 => intro _ _ _ h; exact h
  try simp only [Act.put, List.setIfInBounds_toArray, List.set_cons_zero, List.set_cons_succ]
  refine wpAnyH_take (i := 6) (oi := ?ot6) (v := .int .u8 (48 + (r : Int))) ?ht6 (by kernel_rfl) (by kernel_rfl) (by kernel_rfl) ?qt6 (Or.inl ⟨?wt6, ?yt6⟩) hHeld ?rt6
  case ht6 => simp only [List.getElem?_toArray, List.getElem?_cons_succ, List.getElem?_cons_zero]; rfl
  case wt6 => rfl
  case yt6 => intro w1 hSw; clear hSw; first | (go_simp; done) | (go_simp; with_reducible rfl)
  case qt6 => intro _ _ _ h; exact h
  try simp only [Act.put, List.setIfInBounds_toArray, List.set_cons_zero, List.set_cons_succ]
  refine wpAnyH_ready (rs := [2, 7]) (by kernel_rfl) (by simp) ?_
  refine (AllReadyH.cons (o := ?o1_2) ?h1_2 (fun K hK => ?s1_2) (AllReadyH.cons (o := ?o1_7) ?h1_7 (fun K hK => ?s1_7) AllReadyH.nil))
  case h1_2 => simp only [List.getElem?_toArray, List.getElem?_cons_succ, List.getElem?_cons_zero]; rfl
  case h1_7 => simp only [List.getElem?_toArray, List.getElem?_cons_succ, List.getElem?_cons_zero]; rfl
  case s1_2 =>
    go_simp
    refine (ih _).mono ?_; rintro e w1 ⟨rfl, hb⟩
    have hB1 := hB.trans (hb.mono hB.size)
    refine hK.out _ _ hB1 (fun hHeld2 => ?_)
    try have hc := (hb.cell (p := ⟨_, 0, none⟩) (block_lt_of_cell hc)).trans hc
    clear hHeld hK K hB hb; have hHeld := hHeld2; have hB := hB1; clear hHeld2 hB1
    try simp only [Act.put, List.setIfInBounds_toArray, List.set_cons_zero, List.set_cons_succ]
    refine wpAnyH_ready (rs := [7]) (by kernel_rfl) (by simp) ?_
    refine (AllReadyH.cons (o := ?o2_7) ?h2_7 (fun K hK => ?s2_7) AllReadyH.nil)
    case h2_7 => simp only [List.getElem?_toArray, List.getElem?_cons_succ, List.getElem?_cons_zero]; rfl
    case s2_7 =>
      go_simp
      have hB1 := hB.alloc hB.size (.cells #[.int .u8 (48 + (r : Int))] 5)
      refine hK.out _ _ hB1 (fun hHeld2 => ?_)
      have hc := cell_new1 (r := r) _ hB
      clear hHeld hK K hB; have hHeld := hHeld2; have hB := hB1; clear hHeld2 hB1
      try simp only [Act.put, List.setIfInBounds_toArray, List.set_cons_zero, List.set_cons_succ]
      refine wpAnyH_ready (rs := [8]) (by kernel_rfl) (by simp) ?_
      refine (AllReadyH.cons (o := ?o3_8) ?h3_8 (fun K hK => ?s3_8) AllReadyH.nil)
      case h3_8 => simp only [List.getElem?_toArray, List.getElem?_cons_succ, List.getElem?_cons_zero]; rfl
      case s3_8 =>
        have cv := conv_one ha hc
        rw [hu] at cv
        go_simp
        refine hK.out _ _ hB (fun hHeld2 => ?_)
        clear cv hHeld hK K; have hHeld := hHeld2; clear hHeld2
        try simp only [Act.put, List.setIfInBounds_toArray, List.set_cons_zero, List.set_cons_succ]
        refine wpAnyH_ready (rs := [9]) (by kernel_rfl) (by simp) ?_
        refine (AllReadyH.cons (o := ?o4_9) ?h4_9 (fun K hK => ?s4_9) AllReadyH.nil)
        case h4_9 => simp only [List.getElem?_toArray, List.getElem?_cons_succ, List.getElem?_cons_zero]; rfl
        case s4_9 =>
          go_simp
          refine hK.out _ _ hB (fun hHeld2 => ?_)
          clear hHeld hK K; have hHeld := hHeld2; clear hHeld2
          try simp only [Act.put, List.setIfInBounds_toArray, List.set_cons_zero, List.set_cons_succ]
          refine wpAnyH_ready (rs := [10]) (by kernel_rfl) (by simp) ?_
          refine (AllReadyH.cons (o := ?o5_10) ?h5_10 (fun K hK => ?s5_10) AllReadyH.nil)
          case h5_10 => simp only [List.getElem?_toArray, List.getElem?_cons_succ, List.getElem?_cons_zero]; rfl
          case s5_10 =>
            go_simp
            refine hK.out _ _ hB (fun hHeld2 => ?_)
            clear hHeld hK K; have hHeld := hHeld2; clear hHeld2
            try simp only [Act.put, List.setIfInBounds_toArray, List.set_cons_zero, List.set_cons_succ]
            refine wpAnyH_done (by kernel_rfl) ?_ _
            have HB := Lib.hid hB; clear hB hHeld hc
            go_wp2_with fail
            go_ret
            exact ⟨rfl, HB.out⟩
  case s1_7 =>
    go_simp
    have hB1 := hB.alloc hB.size (.cells #[.int .u8 (48 + (r : Int))] 5)
    refine hK.out _ _ hB1 (fun hHeld2 => ?_)
    have hc := cell_new1 (r := r) _ hB
    clear hHeld hK K hB; have hHeld := hHeld2; have hB := hB1; clear hHeld2 hB1
    try simp only [Act.put, List.setIfInBounds_toArray, List.set_cons_zero, List.set_cons_succ]
    refine wpAnyH_ready (rs := [2, 8]) (by kernel_rfl) (by simp) ?_
    refine (AllReadyH.cons (o := ?o6_2) ?h6_2 (fun K hK => ?s6_2) (AllReadyH.cons (o := ?o6_8) ?h6_8 (fun K hK => ?s6_8) AllReadyH.nil))
    case h6_2 => simp only [List.getElem?_toArray, List.getElem?_cons_succ, List.getElem?_cons_zero]; rfl
    case h6_8 => simp only [List.getElem?_toArray, List.getElem?_cons_succ, List.getElem?_cons_zero]; rfl
    case s6_2 =>
      go_simp
      refine (ih _).mono ?_; rintro e w1 ⟨rfl, hb⟩
      have hB1 := hB.trans (hb.mono hB.size)
      refine hK.out _ _ hB1 (fun hHeld2 => ?_)
      try have hc := (hb.cell (p := ⟨_, 0, none⟩) (block_lt_of_cell hc)).trans hc
      clear hHeld hK K hB hb; have hHeld := hHeld2; have hB := hB1; clear hHeld2 hB1
      try simp only [Act.put, List.setIfInBounds_toArray, List.set_cons_zero, List.set_cons_succ]
      refine wpAnyH_ready (rs := [8]) (by kernel_rfl) (by simp) ?_
      refine (AllReadyH.cons (o := ?o7_8) ?h7_8 (fun K hK => ?s7_8) AllReadyH.nil)
      case h7_8 => simp only [List.getElem?_toArray, List.getElem?_cons_succ, List.getElem?_cons_zero]; rfl
      case s7_8 =>
        have cv := conv_one ha hc
        rw [hu] at cv
        go_simp
        refine hK.out _ _ hB (fun hHeld2 => ?_)
        clear cv hHeld hK K; have hHeld := hHeld2; clear hHeld2
        try simp only [Act.put, List.setIfInBounds_toArray, List.set_cons_zero, List.set_cons_succ]
        refine wpAnyH_ready (rs := [9]) (by kernel_rfl) (by simp) ?_
        refine (AllReadyH.cons (o := ?o8_9) ?h8_9 (fun K hK => ?s8_9) AllReadyH.nil)
        case h8_9 => simp only [List.getElem?_toArray, List.getElem?_cons_succ, List.getElem?_cons_zero]; rfl
        case s8_9 =>
          go_simp
          refine hK.out _ _ hB (fun hHeld2 => ?_)
          clear hHeld hK K; have hHeld := hHeld2; clear hHeld2
          try simp only [Act.put, List.setIfInBounds_toArray, List.set_cons_zero, List.set_cons_succ]
          refine wpAnyH_ready (rs := [10]) (by kernel_rfl) (by simp) ?_
          refine (AllReadyH.cons (o := ?o9_10) ?h9_10 (fun K hK => ?s9_10) AllReadyH.nil)
          case h9_10 => simp only [List.getElem?_toArray, List.getElem?_cons_succ, List.getElem?_cons_zero]; rfl
          case s9_10 =>
            go_simp
            refine hK.out _ _ hB (fun hHeld2 => ?_)
            clear hHeld hK K; have hHeld := hHeld2; clear hHeld2
            try simp only [Act.put, List.setIfInBounds_toArray, List.set_cons_zero, List.set_cons_succ]
            refine wpAnyH_done (by kernel_rfl) ?_ _
            have HB := Lib.hid hB; clear hB hHeld hc
            go_wp2_with fail
            go_ret
            exact ⟨rfl, HB.out⟩
    case s6_8 =>
      have cv := conv_one ha hc
      rw [hu] at cv
      go_simp
      refine hK.out _ _ hB (fun hHeld2 => ?_)
      clear cv hHeld hK K; have hHeld := hHeld2; clear hHeld2
      try simp only [Act.put, List.setIfInBounds_toArray, List.set_cons_zero, List.set_cons_succ]
      refine wpAnyH_ready (rs := [2]) (by kernel_rfl) (by simp) ?_
      refine (AllReadyH.cons (o := ?o10_2) ?h10_2 (fun K hK => ?s10_2) AllReadyH.nil)
      case h10_2 => simp only [List.getElem?_toArray, List.getElem?_cons_succ, List.getElem?_cons_zero]; rfl
      case s10_2 =>
        go_simp
        refine (ih _).mono ?_; rintro e w1 ⟨rfl, hb⟩
        have hB1 := hB.trans (hb.mono hB.size)
        refine hK.out _ _ hB1 (fun hHeld2 => ?_)
        try have hc := (hb.cell (p := ⟨_, 0, none⟩) (block_lt_of_cell hc)).trans hc
        clear hHeld hK K hB hb; have hHeld := hHeld2; have hB := hB1; clear hHeld2 hB1
        try simp only [Act.put, List.setIfInBounds_toArray, List.set_cons_zero, List.set_cons_succ]
        refine wpAnyH_ready (rs := [9]) (by kernel_rfl) (by simp) ?_
        refine (AllReadyH.cons (o := ?o11_9) ?h11_9 (fun K hK => ?s11_9) AllReadyH.nil)
        case h11_9 => simp only [List.getElem?_toArray, List.getElem?_cons_succ, List.getElem?_cons_zero]; rfl
        case s11_9 =>
          go_simp
          refine hK.out _ _ hB (fun hHeld2 => ?_)
          clear hHeld hK K; have hHeld := hHeld2; clear hHeld2
          try simp only [Act.put, List.setIfInBounds_toArray, List.set_cons_zero, List.set_cons_succ]
          refine wpAnyH_ready (rs := [10]) (by kernel_rfl) (by simp) ?_
          refine (AllReadyH.cons (o := ?o12_10) ?h12_10 (fun K hK => ?s12_10) AllReadyH.nil)
          case h12_10 => simp only [List.getElem?_toArray, List.getElem?_cons_succ, List.getElem?_cons_zero]; rfl
          case s12_10 =>
            go_simp
            refine hK.out _ _ hB (fun hHeld2 => ?_)
            clear hHeld hK K; have hHeld := hHeld2; clear hHeld2
            try simp only [Act.put, List.setIfInBounds_toArray, List.set_cons_zero, List.set_cons_succ]
            refine wpAnyH_done (by kernel_rfl) ?_ _
            have HB := Lib.hid hB; clear hB hHeld hc
            go_wp2_with fail
            go_ret
            exact ⟨rfl, HB.out⟩

theorem decD_len (f : Nat) : ∀ u, (decD f u).length ≤ f := by
  induction f with
  | zero => intro u; simp [decD]
  | succ f ih =>
    intro u
    unfold decD
    split
    · simp
    · have := ih (u / 10); simp; omega
theorem refdec_any (f : Nat) (hf : f ≤ 5) : ∀ n : Nat, n < 10 ^ (f + 1) → ∀ w, Calls Tryd.prog 67 #[.int .i64 (n : Int)] w (StrP (decD (f + 1) n) w) := by
  induction f with
  | zero =>
    intro n hn w
    have h : n < 10 := by simpa using hn
    unfold decD; rw [if_pos h]
    exact refdec_one n h w
  | succ f ih =>
    intro n hn w
    unfold decD
    by_cases h : n < 10
    · rw [if_pos h]; exact refdec_one n h w
    · rw [if_neg h]
      have hp : 10 ^ (f + 1 + 1) ≤ 10 ^ 6 := Nat.pow_le_pow_right (by omega) (by omega)
      have hl := decD_len (f + 1) (n / 10)
      exact refdec_step n h (by omega) (decD (f + 1) (n / 10)) (by omega) (fun W => ih (by omega) (n / 10) (by rw [Nat.pow_succ] at hn; omega) W) w
theorem refdecimal_any (b : Int) (h0 : 0 ≤ b) (h1 : b ≤ 16384) (w : World) : Calls Tryd.prog 67 #[.int .i64 b] w (StrP (Lib.itoa b) w) := by
  rw [itoa_eq b h0 h1]
  obtain ⟨n, rfl⟩ : ∃ n : Nat, b = n := ⟨b.toNat, by omega⟩
  rw [Int.toNat_natCast]
  exact refdec_any 4 (by omega) n (by omega) w

end Go.Proofs.YtdhochjcigingaaDoor
