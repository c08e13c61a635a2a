/- The walk of the reference's Decode. -/
import Derived.Test.YtogcpjkgliijmaaRDec
namespace Go.Proofs.Ytogcpjkgliijmaa
open Go.RowKit
attribute [local go_sem ↓] Go.wp_at_zero Go.wp_at_succ

set_option maxRecDepth 100000 in
set_option maxHeartbeats 8000000 in
theorem refdecode_walk (s : List UInt8) (i : Nat) (w : World) (hi : i ≤ s.length) (hs : s.length ≤ 100000) {D : Dec} {er n : Int} (hD : Hid (decAt s i = (D, er))) (hn : Hid (n = if er = 0 then (i : Int) + 12 else 0)) :
    Calls Try.prog 54 #[.string ⟨s.toArray⟩, .int .i64 i] w fun e w' => e = .returned (.tuple #[D.val, .int .i64 n, .int .i64 er]) ∧ Below w.heap.size w w' := by
  have f0 : decide ((i : Int) < 0) = false := by rw [decide_eq_false_iff_not]; omega
  have f1 : decide (s.length < i) = false := by rw [decide_eq_false_iff_not]; omega
  obtain ⟨R, hR⟩ : ∃ R, R = w.heap.size := ⟨_, rfl⟩
  have hI : DI w (w.alloc (.cells #[.int .i64 0, .int .i64 0, .int .i64 0, .int .i64 0, .int .i64 0] 27)) R := by
    subst hR
    exact ⟨heap_alloc_new _ _, (Below.refl _ _).alloc (Nat.le_refl _) _, rfl⟩
  have HI := Lib.hid hI; have HR := Lib.hid hR
  obtain ⟨⟨y0, y1, y2, y3, y4⟩, yf⟩ := hI.cells
  clear hI
  by_cases hsh : s.length < i + 12
  · have hd : decAt s i = (dz, 1) := by unfold decAt; rw [if_pos hsh]
    rw [hD.out] at hd
    injection hd with hd1 hd2
    subst hd1; subst hd2
    have hn0 : n = 0 := by rw [hn.out, if_neg (by decide)]
    subst hn0
    have f2 : decide ((s.length : Int) - i < 12) = true := by rw [decide_eq_true_eq]; omega
    clear hD hn HR
    go_enter Try.func54, Try.ntmps54
    go_upto_region 1 with (fail)
    rw [← hR]
    generalize w.alloc (.cells #[.int .i64 0, .int .i64 0, .int .i64 0, .int .i64 0, .int .i64 0] 27) = W at *
    clear hR
    go_wp2_with fail
    exact rdec_fin dz HI.out rfl rfl rfl rfl
  · obtain ⟨b, hb⟩ : ∃ b, b = (s.drop i).take 12 := ⟨_, rfl⟩
    have hbl : b.length = 12 := by rw [hb]; simp; omega
    have hd : decAt s i = dec12 b := by unfold decAt; rw [if_neg hsh, hb]
    rw [hD.out] at hd
    have f2 : decide ((s.length : Int) - i < 12) = false := by rw [decide_eq_false_iff_not]; omega
    have f2' : decide ((i : Int) + 12 ≤ s.length) = true := by rw [decide_eq_true_eq]; omega
    have f2'' : (i : Int) + 12 ≤ s.length := by omega
    have x1 : (⟨s.toArray⟩ : ByteArray).extract i (i + 8) = ⟨(b.take 8).toArray⟩ := by
      rw [ext_part, hb, List.take_take, List.drop_take, show i + 8 - i = 8 by omega]; rfl
    have x2 : (⟨s.toArray⟩ : ByteArray).extract (i + 8) (i + 12) = ⟨(b.drop 8).toArray⟩ := by
      rw [ext_part, hb, List.drop_take, List.drop_take, List.drop_drop, show i + 12 - (i + 8) = 4 by omega]
    have HDD := Lib.hid hd; have HBL := Lib.hid hbl
    clear hD hd hb
    have b8 : (b.take 8).length = 8 := by rw [List.length_take, HBL.out]; rfl
    have b4 : (b.drop 8).length = 4 := by rw [List.length_drop, HBL.out]
    have g1 : IntKind.i64.wrap ((i : Int) + 8) = (i : Int) + 8 := IntWalk.i64_in ((i : Int) + 8) (by omega)
    have g2 : IntKind.i64.wrap ((i : Int) + 12) = (i : Int) + 12 := IntWalk.i64_in ((i : Int) + 12) (by omega)
    have g3 : ((i : Int) + 8).toNat = i + 8 := by omega
    have g4 : ((i : Int) + 12).toNat = i + 12 := by omega
    have g5 : (0 : Int) ≤ (i : Int) + 8 := by omega
    have g6 : (i : Int) + 8 ≤ (i : Int) + 12 := by omega
    have cS := fun W => refsum_any ⟨(b.take 8).toArray⟩ W (by rw [ba_size, b8]; decide)
    change ∀ W, Calls Try.prog 56 _ W fun e w' => e = .returned (.int .i64 (sumS (b.take 8) : Nat)) ∧ w' = W at cS
    have cV := fun W => value_any W (b.drop 8) (by omega)
    have CS := Lib.hid cS; have CV := Lib.hid cV
    clear cS cV hbl b4
    go_enter Try.func54, Try.ntmps54
    go_upto_region 1 with (fail)
    rw [← hR]
    generalize w.alloc (.cells #[.int .i64 0, .int .i64 0, .int .i64 0, .int .i64 0, .int .i64 0] 27) = W at *
    clear hR y0 y1 y2 y3 y4 yf
    go_wp2_with fail
    go_region_held3 (fun _ => True) (trivial)
      (first | (go_at_call 56; refine (CS.out _).mono ?_; rintro e w' ⟨rfl, rfl⟩) | (go_at_call 67; refine (CV.out _).mono ?_; rintro e w' ⟨rfl, rfl⟩))
    have hDI3 : DI w W.drew R := ⟨HI.out.res, HI.out.below.drew, HI.out.eq⟩
    have HDI3 := Lib.hid hDI3
    generalize W.drew = W3 at *
    clear hDI3 HI x1 x2 g1 g2 g3 g4 g5 g6 CS CV f2 f2' f2''
    by_cases hsum : valS (b.drop 8) = sumS (b.take 8)
    · have f3 : (((sumS (b.take 8) : Nat) : Int) != ((valS (b.drop 8) : Nat) : Int)) = false := by rw [hsum]; simp
      have hd : dec12 b = if (fieldsS b).ok = true then (fieldsS b, 0) else (dz, 57) := by unfold dec12; rw [if_pos hsum]
      have HD2 := Lib.hid (HDD.out.trans hd)
      clear hd hsum HDD
      have z1 : (⟨(b.take 8).toArray⟩ : ByteArray).extract 0 3 = ⟨(b.take 3).toArray⟩ := by rw [ext_part, List.take_take]; rfl
      have z2 : (⟨(b.take 8).toArray⟩ : ByteArray).extract 3 5 = ⟨((b.drop 3).take 2).toArray⟩ := by rw [ext_part, List.take_take, List.drop_take]; rfl
      have z3 : (⟨(b.take 8).toArray⟩ : ByteArray).extract 5 6 = ⟨((b.drop 5).take 1).toArray⟩ := by rw [ext_part, List.take_take, List.drop_take]; rfl
      have z4 : (⟨(b.take 8).toArray⟩ : ByteArray).extract 6 7 = ⟨((b.drop 6).take 1).toArray⟩ := by rw [ext_part, List.take_take, List.drop_take]; rfl
      have z5 : (⟨(b.take 8).toArray⟩ : ByteArray).extract 7 8 = ⟨((b.drop 7).take 1).toArray⟩ := by rw [ext_part, List.take_take, List.drop_take]; rfl
      go_wp2_with fail
      obtain ⟨F, hF⟩ : ∃ F, F = fieldsS b := ⟨_, rfl⟩
      have e1 : ((valS (b.take 3) : Nat) : Int) = F.day := by rw [hF]; rfl
      have e2 : ((valS ((b.drop 3).take 2) : Nat) : Int) = F.known := by rw [hF]; rfl
      have e3 : ((valS ((b.drop 5).take 1) : Nat) : Int) = F.kind := by rw [hF]; rfl
      have e4 : ((valS ((b.drop 6).take 1) : Nat) : Int) = F.subj := by rw [hF]; rfl
      have e5 : ((valS ((b.drop 7).take 1) : Nat) : Int) = F.value := by rw [hF]; rfl
      rw [← hF] at HD2
      clear hF
      have HE := Lib.hid (And.intro e1 (And.intro e2 (And.intro e3 (And.intro e4 e5))))
      clear e1 e2 e3 e4 e5
      go_region_held3 (fun _ => True) (trivial)
        ((go_at_call 67; refine (value_any _ _ (by simp only [List.length_take]; omega)).mono ?_; rintro e w' ⟨rfl, rfl⟩))
      all_goals
        rw [HE.out.1, HE.out.2.1, HE.out.2.2.1, HE.out.2.2.2.1, HE.out.2.2.2.2]
        have hDI5 : DI w (W3.alloc (.cells #[.int .i64 F.day, .int .i64 F.known, .int .i64 F.kind, .int .i64 F.subj, .int .i64 F.value] 27)).drew R := HDI3.out.step ((Below.refl W3.heap.size W3).alloc (Nat.le_refl _) _).drew
        have q0 : (W3.alloc (.cells #[.int .i64 F.day, .int .i64 F.known, .int .i64 F.kind, .int .i64 F.subj, .int .i64 F.value] 27)).drew.cell? ⟨W3.heap.size, 0, none⟩ = some (.int .i64 F.day) := by simp
        have q1 : (W3.alloc (.cells #[.int .i64 F.day, .int .i64 F.known, .int .i64 F.kind, .int .i64 F.subj, .int .i64 F.value] 27)).drew.cell? ⟨W3.heap.size, 1, none⟩ = some (.int .i64 F.known) := by simp
        have q2 : (W3.alloc (.cells #[.int .i64 F.day, .int .i64 F.known, .int .i64 F.kind, .int .i64 F.subj, .int .i64 F.value] 27)).drew.cell? ⟨W3.heap.size, 2, none⟩ = some (.int .i64 F.kind) := by simp
        have q3 : (W3.alloc (.cells #[.int .i64 F.day, .int .i64 F.known, .int .i64 F.kind, .int .i64 F.subj, .int .i64 F.value] 27)).drew.cell? ⟨W3.heap.size, 3, none⟩ = some (.int .i64 F.subj) := by simp
        have q4 : (W3.alloc (.cells #[.int .i64 F.day, .int .i64 F.known, .int .i64 F.kind, .int .i64 F.subj, .int .i64 F.value] 27)).drew.cell? ⟨W3.heap.size, 4, none⟩ = some (.int .i64 F.value) := by simp
        generalize (W3.alloc (.cells #[.int .i64 F.day, .int .i64 F.known, .int .i64 F.kind, .int .i64 F.subj, .int .i64 F.value] 27)).drew = W5 at *
        generalize W3.heap.size = X at *
        have cV := refvalid_any F W5 (q := F.ok) rfl
        unfold Dec.val at cV
        have HDI5 := Lib.hid hDI5
        clear hDI5 HDI3 HE
        cases hok : F.ok
        · rw [hok] at cV
          have CV := Lib.hid cV
          have hd := HD2.out
          rw [hok, if_neg (by decide)] at hd
          injection hd with hd1 hd2
          subst hd1; subst hd2
          have hn0 : n = 0 := by rw [hn.out, if_neg (by decide)]
          subst hn0
          clear hok cV hn HD2
          go_wp2_with fail
          refine CV.out.mono ?_; rintro e W6 ⟨rfl, hb6⟩
          have hDI6 := HDI5.out.step hb6
          obtain ⟨⟨y0, y1, y2, y3, y4⟩, yf⟩ := hDI6.cells
          have HDI6 := Lib.hid hDI6
          clear hDI6 hb6 CV q0 q1 q2 q3 q4
          go_wp2_with fail
          exact rdec_fin dz HDI6.out rfl rfl rfl rfl
        · rw [hok] at cV
          have CV := Lib.hid cV
          have hd := HD2.out
          rw [hok, if_pos rfl] at hd
          injection hd with hd1 hd2
          subst hd1; subst hd2
          have hn0 : n = (i : Int) + 12 := by rw [hn.out, if_pos rfl]
          subst hn0
          clear hok cV hn HD2
          go_wp2_with fail
          refine CV.out.mono ?_; rintro e W6 ⟨rfl, hb6⟩
          have hDI6 := HDI5.out.step hb6
          obtain ⟨⟨y0, y1, y2, y3, y4⟩, yf⟩ := hDI6.cells
          have z0 := cell_later hb6 q0
          have z1 := cell_later hb6 q1
          have z2 := cell_later hb6 q2
          have z3 := cell_later hb6 q3
          have z4 := cell_later hb6 q4
          have HDI6 := Lib.hid hDI6
          clear hDI6 hb6 CV q0 q1 q2 q3 q4
          go_wp2_with fail
          exact rdec_fin D HDI6.out rfl rfl rfl rfl
    · have f3 : (((sumS (b.take 8) : Nat) : Int) != ((valS (b.drop 8) : Nat) : Int)) = true := by rw [bne_iff_ne]; omega
      have hd : dec12 b = (dz, 58) := by unfold dec12; rw [if_neg hsum]
      have hd2 := HDD.out.trans hd
      injection hd2 with hd1 hd2
      subst hd1; subst hd2
      have hn0 : n = 0 := by rw [hn.out, if_neg (by decide)]
      subst hn0
      obtain ⟨⟨y0, y1, y2, y3, y4⟩, yf⟩ := HDI3.out.cells
      clear hd hsum HDD hn
      go_wp2_with fail
      exact rdec_fin dz HDI3.out rfl rfl rfl rfl

theorem refdecode_any (s : List UInt8) (i : Nat) (w : World) (hi : i ≤ s.length) (hs : s.length ≤ 100000) {D : Dec} {er n : Int} (hD : decAt s i = (D, er)) (hn : n = if er = 0 then (i : Int) + 12 else 0) :
    Calls Try.prog 54 #[.string ⟨s.toArray⟩, .int .i64 i] w fun e w' => e = .returned (.tuple #[D.val, .int .i64 n, .int .i64 er]) ∧ Below w.heap.size w w' :=
  refdecode_walk s i w hi hs (Lib.hid hD) (Lib.hid hn)
end Go.Proofs.Ytogcpjkgliijmaa
