/- From the rows' condition to the tables; and the wrap of a row that keeps both the condition and the world's shape. -/
import Derived.Test.YtdhochjcigingaaDoorRows
import Derived.Test.YtdhochjcigingaaDoorBase
import Derived.Lib.LaidU8
import Derived.MakeChecks
import Derived.LaidMore
import Derived.OpenShut
import Derived.Handed
import Derived.Stop.Joined
import Derived.Shelf.Vars
namespace Go.Proofs.YtdhochjcigingaaDoor
set_option linter.all false
open Go.RowKit Go.Lib

def laid7 : List (String × DataW Unit) := [("math/bits.deBruijn32tab", Rows.laid_math_bits_deBruijn32tab), ("math/bits.deBruijn64tab", Rows.laid_math_bits_deBruijn64tab), ("internal/strconv.uint64pow10", Rows.laid_internal_strconv_uint64pow10), ("strconv.ErrRange", Rows.laid_strconv_ErrRange), ("strconv.ErrSyntax", Rows.laid_strconv_ErrSyntax), ("cipherplan/catalog.algorithms", Rows.laid_cipherplan_catalog_algorithms), ("cipherplan/catalog.rows", Rows.laid_cipherplan_catalog_rows)]

theorem cell1 {cs : List Value} {o : Nat} {v : Value} (h : (cs.drop o).take 1 = [v]) : cs[o]? = some v := by
  have := congrArg (·[0]?) h
  simpa [List.getElem?_take, List.getElem?_drop] using this

theorem c9 : Tryd.prog.cellsOf 9 = 1 := by kernel_rfl
theorem c5 : Tryd.prog.cellsOf 5 = 1 := by kernel_rfl
theorem c71 : Tryd.prog.cellsOf 71 = 1 := by kernel_rfl
theorem c86 : Tryd.prog.cellsOf 86 = 3 := by kernel_rfl
theorem c96 : Tryd.prog.cellsOf 96 = 2 := by kernel_rfl
theorem c98 : Tryd.prog.cellsOf 98 = 9 := by kernel_rfl
theorem c94 : Tryd.prog.cellsOf 94 = 69 := by kernel_rfl
theorem c99 : Tryd.prog.cellsOf 99 = 153 := by kernel_rfl

section
variable {W : World} {fuel : Nat} {cs : List Value} {p : List MemPlace}

theorem str_at {o : Nat} {x : DataW Unit × List MemPlace} {s : List UInt8} (h : DataW.trod (fun _ => ()) Tryd.prog W 0 (fun _ => true) false fuel 9 ((cs.drop o).take 1) = some x) (e : x.1 = .lit (.string s)) : cs[o]? = some (.string ⟨s.toArray⟩) := by
  obtain ⟨b, hb, hx, _⟩ := DataW.trod_string Tryd.underlying9 h
  rw [hx] at e
  have : b.data.toList = s := by simpa using e
  rw [cell1 hb, ← this]
theorem int_at {t : TypeId} {k : IntKind} (ht : Tryd.prog.underlying t = some (.int k)) {o : Nat} {x : DataW Unit × List MemPlace} {n : Int} (h : DataW.trod (fun _ => ()) Tryd.prog W 0 (fun _ => true) false fuel t ((cs.drop o).take 1) = some x) (e : x.1 = .lit (.int k n)) : cs[o]? = some (.int k n) := by
  obtain ⟨z, hb, hx, _⟩ := DataW.trod_int ht h
  rw [hx] at e
  have : z = n := by simpa using e
  rw [cell1 hb, this]

theorem named_at {s : List UInt8} {k t : Int} (h : DataW.trod (fun _ => ()) Tryd.prog W 0 (fun _ => true) false fuel 86 cs = some (.agg [.lit (.string s), .lit (.int .u8 k), .lit (.int .u16 t)], p)) : ∀ j, j < 3 → cs[j]? = (algCells (s, k, t))[j]? := by
  obtain ⟨xs, n, rfl, hx, _, _, hall⟩ := DataW.trod_struct Tryd.underlying86 h
  have hx3 : xs.map (·.1) = [.lit (.string s), .lit (.int .u8 k), .lit (.int .u16 t)] := by
    have := congrArg Prod.fst hx
    simpa using this.symm
  obtain ⟨x0, x1, x2, rfl⟩ : ∃ x0 x1 x2, xs = [x0, x1, x2] := by
    match xs, hx3 with
    | [x0, x1, x2], _ => exact ⟨x0, x1, x2, rfl⟩
  simp only [List.map_cons, List.map_nil, List.cons.injEq, and_true] at hx3
  obtain ⟨e0, e1, e2⟩ := hx3
  have f0 := hall 0 _ rfl
  have f1 := hall 1 _ rfl
  have f2 := hall 2 _ rfl
  change DataW.trod _ _ _ _ _ _ _ 9 ((cs.drop 0).take (Tryd.prog.cellsOf 9)) = some x0 at f0
  change DataW.trod _ _ _ _ _ _ _ 5 ((cs.drop 1).take (Tryd.prog.cellsOf 5)) = some x1 at f1
  change DataW.trod _ _ _ _ _ _ _ 71 ((cs.drop 2).take (Tryd.prog.cellsOf 71)) = some x2 at f2
  rw [c9] at f0; rw [c5] at f1; rw [c71] at f2
  have g0 := str_at f0 e0
  have g1 := int_at Tryd.underlying5 f1 e1
  have g2 := int_at Tryd.underlying71 f2 e2
  intro j hj
  match j, hj with
  | 0, _ => exact g0
  | 1, _ => exact g1
  | 2, _ => exact g2

theorem use_at {o : Nat} {x : DataW Unit × List MemPlace} {a b : Int} (h : DataW.trod (fun _ => ()) Tryd.prog W 0 (fun _ => true) false fuel 96 ((cs.drop o).take 2) = some x) (e : x.1 = .agg [.lit (.int .u8 a), .lit (.int .u16 b)]) : cs[o]? = some (.int .u8 a) ∧ cs[o + 1]? = some (.int .u16 b) := by
  obtain ⟨xs, n, rfl, hx, _, _, hall⟩ := DataW.trod_struct Tryd.underlying96 h
  have hx3 : xs.map (·.1) = [.lit (.int .u8 a), .lit (.int .u16 b)] := by
    rw [hx] at e
    simpa using e
  obtain ⟨x0, x1, rfl⟩ : ∃ x0 x1, xs = [x0, x1] := by
    match xs, hx3 with
    | [x0, x1], _ => exact ⟨x0, x1, rfl⟩
  simp only [List.map_cons, List.map_nil, List.cons.injEq, and_true] at hx3
  obtain ⟨e0, e1⟩ := hx3
  have f0 := hall 0 _ rfl
  have f1 := hall 1 _ rfl
  change DataW.trod _ _ _ _ _ _ _ 5 ((((cs.drop o).take 2).drop 0).take (Tryd.prog.cellsOf 5)) = some x0 at f0
  change DataW.trod _ _ _ _ _ _ _ 71 ((((cs.drop o).take 2).drop 1).take (Tryd.prog.cellsOf 71)) = some x1 at f1
  rw [c5] at f0; rw [c71] at f1
  have g0 := int_at Tryd.underlying5 f0 e0
  have g1 := int_at Tryd.underlying71 f1 e1
  simp only [List.getElem?_take, List.getElem?_drop] at g0 g1
  exact ⟨by simpa using g0, by simpa using g1⟩

def rowD (r : SRow) : DataW Unit := .agg [.lit (.string r.name), .agg [.lit (.int .u8 r.xa), .lit (.int .u16 r.xb)], .agg [.lit (.int .u8 r.ca), .lit (.int .u16 r.cb)], .lit (.int .u8 r.sign), .lit (.int .u8 r.mac), .lit (.int .u8 r.least), .lit (.int .u8 r.most)]
def algD (r : List UInt8 × Int × Int) : DataW Unit := .agg [.lit (.string r.1), .lit (.int .u8 r.2.1), .lit (.int .u16 r.2.2)]

theorem srow_at {r : SRow} (h : DataW.trod (fun _ => ()) Tryd.prog W 0 (fun _ => true) false fuel 98 cs = some (rowD r, p)) : ∀ j, j < 9 → cs[j]? = (rowCells r)[j]? := by
  obtain ⟨xs, n, rfl, hx, _, _, hall⟩ := DataW.trod_struct Tryd.underlying98 h
  have hx3 : xs.map (·.1) = [.lit (.string r.name), .agg [.lit (.int .u8 r.xa), .lit (.int .u16 r.xb)], .agg [.lit (.int .u8 r.ca), .lit (.int .u16 r.cb)], .lit (.int .u8 r.sign), .lit (.int .u8 r.mac), .lit (.int .u8 r.least), .lit (.int .u8 r.most)] := by
    have := congrArg Prod.fst hx
    simpa [rowD] using this.symm
  obtain ⟨x0, x1, x2, x3, x4, x5, x6, rfl⟩ : ∃ x0 x1 x2 x3 x4 x5 x6, xs = [x0, x1, x2, x3, x4, x5, x6] := by
    match xs, hx3 with
    | [x0, x1, x2, x3, x4, x5, x6], _ => exact ⟨x0, x1, x2, x3, x4, x5, x6, rfl⟩
  simp only [List.map_cons, List.map_nil, List.cons.injEq, and_true] at hx3
  obtain ⟨e0, e1, e2, e3, e4, e5, e6⟩ := hx3
  have f0 := hall 0 _ rfl
  have f1 := hall 1 _ rfl
  have f2 := hall 2 _ rfl
  have f3 := hall 3 _ rfl
  have f4 := hall 4 _ rfl
  have f5 := hall 5 _ rfl
  have f6 := hall 6 _ rfl
  change DataW.trod _ _ _ _ _ _ _ 9 ((cs.drop 0).take (Tryd.prog.cellsOf 9)) = some x0 at f0
  change DataW.trod _ _ _ _ _ _ _ 96 ((cs.drop 1).take (Tryd.prog.cellsOf 96)) = some x1 at f1
  change DataW.trod _ _ _ _ _ _ _ 96 ((cs.drop 3).take (Tryd.prog.cellsOf 96)) = some x2 at f2
  change DataW.trod _ _ _ _ _ _ _ 5 ((cs.drop 5).take (Tryd.prog.cellsOf 5)) = some x3 at f3
  change DataW.trod _ _ _ _ _ _ _ 5 ((cs.drop 6).take (Tryd.prog.cellsOf 5)) = some x4 at f4
  change DataW.trod _ _ _ _ _ _ _ 5 ((cs.drop 7).take (Tryd.prog.cellsOf 5)) = some x5 at f5
  change DataW.trod _ _ _ _ _ _ _ 5 ((cs.drop 8).take (Tryd.prog.cellsOf 5)) = some x6 at f6
  rw [c9] at f0; rw [c96] at f1 f2; rw [c5] at f3 f4 f5 f6
  have g0 := str_at f0 e0
  obtain ⟨g1, g1'⟩ := use_at f1 e1
  obtain ⟨g2, g2'⟩ := use_at f2 e2
  have g3 := int_at Tryd.underlying5 f3 e3
  have g4 := int_at Tryd.underlying5 f4 e4
  have g5 := int_at Tryd.underlying5 f5 e5
  have g6 := int_at Tryd.underlying5 f6 e6
  intro j hj
  match j, hj with
  | 0, _ => exact g0
  | 1, _ => exact g1
  | 2, _ => exact g1'
  | 3, _ => exact g2
  | 4, _ => exact g2'
  | 5, _ => exact g3
  | 6, _ => exact g4
  | 7, _ => exact g5
  | 8, _ => exact g6

/-- An array of equal pieces, read piece by piece. -/
theorem cells_of_pieces {α : Type} (f : α → List Value) (k : Nat) (hk : 0 < k) (hf : ∀ x, (f x).length = k) (l : List α) (hl : cs.length = l.length * k) (h : ∀ i (hi : i < l.length) j, j < k → cs[i * k + j]? = (f l[i])[j]?) : cs = l.flatMap f := by
  have hfl : (l.flatMap f).length = l.length * k := by
    clear h hl
    induction l with
    | nil => simp
    | cons a l ih => rw [List.flatMap_cons, List.length_append, ih, hf, List.length_cons, Nat.succ_mul]; omega
  apply List.ext_getElem?
  intro o
  by_cases ho : o < l.length * k
  · have e : o = o / k * k + o % k := by rw [Nat.mul_comm]; exact (Nat.div_add_mod o k).symm
    have hi : o / k < l.length := Nat.div_lt_of_lt_mul (by rw [Nat.mul_comm]; exact ho)
    have hj : o % k < k := Nat.mod_lt _ hk
    rw [e, h _ hi _ hj, flatn_get f k hf l _ hi _ hj]
  · rw [List.getElem?_eq_none (by omega), List.getElem?_eq_none (by omega)]

theorem alg_cells (h : DataW.trod (fun _ => ()) Tryd.prog W 0 (fun _ => true) false fuel 94 cs = some (.agg (algL.map algD), p)) : cs = algC := by
  obtain ⟨xs, m, rfl, hx, hcl, _, hall⟩ := DataW.trod_array Tryd.underlying94 h
  have hx3 : xs.map (·.1) = algL.map algD := by
    have := congrArg Prod.fst hx
    simpa using this.symm
  rw [c94] at hcl
  rw [c86] at hall
  refine cells_of_pieces algCells 3 (by omega) (fun _ => rfl) algL hcl fun i hi j hj => ?_
  have hi' : i < 23 := hi
  have h1 := hall i hi'
  obtain ⟨b, hb⟩ : ∃ b, xs[i]? = some b := by
    cases hb : xs[i]? with
    | none =>
      have := congrArg (·[i]?) hx3
      simp [hb, List.getElem?_eq_getElem hi] at this
    | some b => exact ⟨b, rfl⟩
  have hb1 : b.1 = algD algL[i] := by
    have := congrArg (·[i]?) hx3
    rw [List.getElem?_map, List.getElem?_map, hb, List.getElem?_eq_getElem hi] at this
    exact Option.some.inj this
  rw [hb] at h1
  have h2 : DataW.trod (fun _ => ()) Tryd.prog W 0 (fun _ => true) false m 86 ((cs.drop (i * 3)).take 3) = some (algD algL[i], b.2) := by rw [h1, ← hb1]
  have h3 := named_at (s := algL[i].1) (k := algL[i].2.1) (t := algL[i].2.2) h2 j hj
  simp only [List.getElem?_take, List.getElem?_drop, if_pos hj] at h3
  exact h3

theorem row_cells (h : DataW.trod (fun _ => ()) Tryd.prog W 0 (fun _ => true) false fuel 99 cs = some (.agg (rowL.map rowD), p)) : cs = rowC := by
  obtain ⟨xs, m, rfl, hx, hcl, _, hall⟩ := DataW.trod_array Tryd.underlying99 h
  have hx3 : xs.map (·.1) = rowL.map rowD := by
    have := congrArg Prod.fst hx
    simpa using this.symm
  rw [c99] at hcl
  rw [c98] at hall
  refine cells_of_pieces rowCells 9 (by omega) (fun _ => rfl) rowL hcl fun i hi j hj => ?_
  have hi' : i < 17 := hi
  have h1 := hall i hi'
  obtain ⟨b, hb⟩ : ∃ b, xs[i]? = some b := by
    cases hb : xs[i]? with
    | none =>
      have := congrArg (·[i]?) hx3
      simp [hb, List.getElem?_eq_getElem hi] at this
    | some b => exact ⟨b, rfl⟩
  have hb1 : b.1 = rowD rowL[i] := by
    have := congrArg (·[i]?) hx3
    rw [List.getElem?_map, List.getElem?_map, hb, List.getElem?_eq_getElem hi] at this
    exact Option.some.inj this
  rw [hb] at h1
  have h2 : DataW.trod (fun _ => ()) Tryd.prog W 0 (fun _ => true) false m 98 ((cs.drop (i * 9)).take 9) = some (rowD rowL[i], b.2) := by rw [h1, ← hb1]
  have h3 := srow_at h2 j hj
  simp only [List.getElem?_take, List.getElem?_drop, if_pos hj] at h3
  exact h3
end

/-- What a listed variable's reading gives, and that its block is not marked. -/
theorem reads_free {P : Program} {w : World} : ∀ {l : List (String × DataW Unit)} {ps : List MemPlace}, DataW.LaidVars P w l ps → ∀ n d, (n, d) ∈ l →
    ∃ g t cs fuel p, P.globalNamed n = some g ∧ (P.globals[g]?).map (·.type) = some t ∧ w.var? P n = some cs ∧ DataW.trod (fun _ => ()) P w 0 (fun _ => true) false fuel t cs.toList = some (d, p) ∧ ∀ x ∈ MemPlace.row ⟨g, 0, none⟩ cs.size, x ∈ ps
  | [], _, _, _, _, hm => by cases hm
  | (n', d') :: r, ps, h, n, d, hm => by
    obtain ⟨g, t, cs, fuel, p, q, h1, h2, h3, h4, h5, h6⟩ := h
    rcases List.mem_cons.1 hm with e | e
    · cases e
      exact ⟨g, t, cs, fuel, p, h1, h2, h3, h4, fun x hx => by rw [h6]; simp [hx]⟩
    · obtain ⟨g', t', cs', fuel', p', k1, k2, k3, k4, k5⟩ := reads_free h5 n d e
      exact ⟨g', t', cs', fuel', p', k1, k2, k3, k4, fun x hx => by rw [h6]; simp [k5 x hx]⟩

theorem block_of_var {P : Program} {w : World} {n : String} {g : Nat} {cs : Array Value} (hg : P.globalNamed n = some g) (h : w.var? P n = some cs) : ∃ t f, w.heap[g]? = some (.cells cs t f) := by
  unfold World.var? at h
  rw [hg] at h
  simp only [Option.bind_some] at h
  split at h
  · rename_i c t f hh
    cases h
    exact ⟨t, f, hh⟩
  · cases h

theorem alg_data : Rows.laid_cipherplan_catalog_algorithms = (.agg (algL.map algD) : DataW Unit) := by kernel_rfl
theorem row_data : Rows.laid_cipherplan_catalog_rows = (.agg (rowL.map rowD) : DataW Unit) := by kernel_rfl
theorem pow_data : Rows.laid_internal_strconv_uint64pow10 = (tabData .u64 pow10Tab : DataW Unit) := by kernel_rfl
theorem n0 : Tryd.prog.globalNamed "cipherplan/catalog.algorithms" = some 0 := by kernel_rfl
theorem n1 : Tryd.prog.globalNamed "cipherplan/catalog.rows" = some 1 := by kernel_rfl
theorem n3 : Tryd.prog.globalNamed "strconv.ErrSyntax" = some 3 := by kernel_rfl
theorem n4 : Tryd.prog.globalNamed "strconv.ErrRange" = some 4 := by kernel_rfl
theorem n5 : Tryd.prog.globalNamed "internal/strconv.uint64pow10" = some 5 := by kernel_rfl
theorem n9 : Tryd.prog.globalNamed "math/bits.deBruijn64tab" = some 9 := by kernel_rfl
theorem y0 : (Tryd.prog.globals[0]?).map (·.type) = some 94 := by kernel_rfl
theorem y1 : (Tryd.prog.globals[1]?).map (·.type) = some 99 := by kernel_rfl
theorem y3 : (Tryd.prog.globals[3]?).map (·.type) = some 79 := by kernel_rfl
theorem y4 : (Tryd.prog.globals[4]?).map (·.type) = some 79 := by kernel_rfl
theorem y5 : (Tryd.prog.globals[5]?).map (·.type) = some 179 := by kernel_rfl
theorem c146 : Tryd.prog.cellsOf 146 = 1 := by kernel_rfl
theorem c179 : Tryd.prog.cellsOf 179 = 20 := by kernel_rfl

theorem err_cell {W : World} {g : Nat} {n : String} {d : DataW Unit} {s : String} {e : DataW Unit} (hd : d = .iface s e) (hg : Tryd.prog.globalNamed n = some g) (hy : (Tryd.prog.globals[g]?).map (·.type) = some 79) {t : TypeId} {cs : Array Value} {fuel : Nat} {p : List MemPlace} (ht : (Tryd.prog.globals[g]?).map (·.type) = some t) (hv : W.var? Tryd.prog n = some cs)
    (h : DataW.trod (fun _ => ()) Tryd.prog W 0 (fun _ => true) false fuel t cs.toList = some (d, p)) : ∃ te pe, W.cell? ⟨g, 0, none⟩ = some (.iface te pe) := by
  obtain rfl := Option.some.inj (hy.symm.trans ht)
  subst hd
  obtain ⟨_, tp, v, hcs, _⟩ := iface_of_trod Tryd.underlying79 h
  exact ⟨tp, v, by rw [World.var?_cell hg hv 0, ← Array.getElem?_toList, hcs]; rfl⟩

theorem free_block {W : World} {ps : List MemPlace} {g : Nat} {cs : Array Value} {t : TypeId} {f : Nat × Nat} (hfz : ∀ b off, MemPlace.cell b off ∈ ps → (∃ c t, W.heap[b]? = some (.cells c t (0, 0))) ∧ ∀ u v, W.cell? ⟨b, off, none⟩ = some (.iface u v) → Value.okWide Tryd.prog W .any 0 u v) (hp : ∀ x ∈ MemPlace.row ⟨g, 0, none⟩ cs.size, x ∈ ps) (h0 : 0 < cs.size) (hb : W.heap[g]? = some (.cells cs t f)) : W.heap[g]? = some (.cells cs t (0, 0)) := by
  have hm : MemPlace.cell g 0 ∈ ps := hp _ (by unfold MemPlace.row; rw [List.mem_map]; exact ⟨0, by simpa using h0, rfl⟩)
  obtain ⟨⟨c, t', hc⟩, _⟩ := hfz g 0 hm
  rw [hb] at hc
  injection hc with hc
  injection hc with e1 e2 e3
  rw [hb, e3]

theorem tabs_of_laid {W : World} (h : laidMetH Tryd.prog laid7 W) (hs : W.ShapedOpen Tryd.prog) : ∃ m, Tabs m W := by
  rw [MakeChecks.laidMetH_plain _ _ _ (by kernel_rfl)] at h
  obtain ⟨ps, hv, _, hfz⟩ := h
  have r0 := reads_free hv "cipherplan/catalog.algorithms" _ (.tail _ (.tail _ (.tail _ (.tail _ (.tail _ (.head _))))))
  have r1 := reads_free hv "cipherplan/catalog.rows" _ (.tail _ (.tail _ (.tail _ (.tail _ (.tail _ (.tail _ (.head _)))))))
  have r3 := reads_free hv "strconv.ErrSyntax" _ (.tail _ (.tail _ (.tail _ (.tail _ (.head _)))))
  have r4 := reads_free hv "strconv.ErrRange" _ (.tail _ (.tail _ (.tail _ (.head _))))
  have r5 := reads_free hv "internal/strconv.uint64pow10" _ (.tail _ (.tail _ (.head _)))
  have r9 := reads_free hv "math/bits.deBruijn64tab" _ (.tail _ (.head _))
  obtain ⟨m, hm⟩ := cell_of_shapedOpen_int (g := 2) (zero := #[.int .i64 0]) (t := 3) hs (of_decide_eq_true (by kernel_rfl)) (by kernel_rfl) rfl (by kernel_rfl) (by kernel_rfl) Tryd.underlying3
  refine ⟨m, ?_, ?_, hm, ?_, ?_, ?_, ?_⟩
  · obtain ⟨g, t, cs, fuel, p, hg, ht, hvar, hd, hp⟩ := r0
    obtain rfl := Option.some.inj (n0.symm.trans hg)
    obtain rfl := Option.some.inj (y0.symm.trans ht)
    rw [alg_data] at hd
    have hcs := alg_cells hd
    obtain ⟨t', f, hb⟩ := block_of_var hg hvar
    have hce : cs = algC.toArray := by rw [← hcs]
    have hz : 0 < cs.size := by rw [hce]; exact of_decide_eq_true (by kernel_rfl)
    have := free_block hfz hp hz hb
    rw [hce] at this
    exact ⟨t', this⟩
  · obtain ⟨g, t, cs, fuel, p, hg, ht, hvar, hd, hp⟩ := r1
    obtain rfl := Option.some.inj (n1.symm.trans hg)
    obtain rfl := Option.some.inj (y1.symm.trans ht)
    rw [row_data] at hd
    have hcs := row_cells hd
    obtain ⟨t', f, hb⟩ := block_of_var hg hvar
    have hce : cs = rowC.toArray := by rw [← hcs]
    have hz : 0 < cs.size := by rw [hce]; exact of_decide_eq_true (by kernel_rfl)
    have := free_block hfz hp hz hb
    rw [hce] at this
    exact ⟨t', this⟩
  · obtain ⟨g, t, cs, fuel, p, hg, ht, hvar, hd, hp⟩ := r3
    obtain rfl := Option.some.inj (n3.symm.trans hg)
    exact err_cell rfl n3 y3 ht hvar hd
  · obtain ⟨g, t, cs, fuel, p, hg, ht, hvar, hd, hp⟩ := r4
    obtain rfl := Option.some.inj (n4.symm.trans hg)
    exact err_cell rfl n4 y4 ht hvar hd
  · obtain ⟨g, t, cs, fuel, p, hg, ht, hvar, hd, hp⟩ := r5
    obtain rfl := Option.some.inj (n5.symm.trans hg)
    obtain rfl := Option.some.inj (y5.symm.trans ht)
    rw [pow_data] at hd
    unfold Lib.TabIs
    rw [hvar, ← cells_of_tab Tryd.underlying179 Tryd.underlying146 c146 c179 hd]
  · obtain ⟨g, t, cs, fuel, p, hg, ht, hvar, hd, hp⟩ := r9
    obtain rfl := Option.some.inj (n9.symm.trans hg)
    obtain ⟨t', f, hb⟩ := block_of_var hg hvar
    have := (Array.getElem?_eq_some_iff.1 hb).1
    omega

/-- The wrap: the condition and the world's shape, both handed to the contract. -/
theorem handed_both {H : Type} {enc : TypeId × Value → H} {a : Assume} {C : Checked} {os : Os} {f : FuncId} {fn : Func} {s : ChangeSpec} {conds : List PathCond} {apart fresh handsOn again : Bool} {X : World → Prop}
    (hX : ∀ (w w' : World), w.heap = w'.heap → X w → X w')
    (own : ownKnob C.prog.godebug = none) (started : os.Started) (noInit : C.prog.inits.idxOf? f = none) (hfn : C.prog.funcs[f]? = some fn)
    (witness : ∃ (w : World) (tape : Tape) (i : Input), w.os = os ∧ (w.forCall tape i).Shaped C.prog ∧ i.vars = [] ∧ Input.okWide C.prog (w.forCall tape i) .any w.heap.size f i ∧
      ((s.pre enc C.prog fn conds apart (w.forCall tape i).memory i.args ∧ X (w.forCall tape i).memory) ∧ sizedMet enc C.prog fn (OpenSpec.ofChange s) apart (w.forCall tape i).memory i.args) ∧ a.holds C.prog (lone (Frame.enter C.prog f i.args .normal) [] (w.forCall tape i)))
    (contract : ∀ (W : World) (base : Nat) (args : Array Value) (ds gs : List (DataW H)) (before : List MemPlace),
      (∀ (j : Nat) t v, fn.params[j]? = some t → args[j]? = some v → Value.okWide C.prog W .any base t v) →
      DataW.Whole enc C.prog fn.params.toList s.vars apart W args.toList ds gs before → X W → W.ShapedOpen C.prog →
      Calls C.prog f args W fun e W' => ∃ v, e = .returned v ∧ s.post enc C.prog fn apart fresh handsOn again W args v W') :
    ReturnsInHanded a C os f .any (fun w args => (s.pre enc C.prog fn conds apart w args ∧ X w) ∧ sizedMet enc C.prog fn (OpenSpec.ofChange s) apart w args) (s.post enc C.prog fn apart fresh handsOn again) := by
  refine returnsInHanded_of_calls own started noInit witness ?_
  intro w tape i _ hsh _ hok hpre _
  obtain ⟨_, _, _, fn', hfn', _, _, _, _, hval⟩ := hok
  obtain rfl : fn' = fn := Option.some.inj (hfn'.symm.trans hfn)
  obtain ⟨⟨⟨ds, gs, before, hw, _⟩, hx⟩, _⟩ := hpre
  refine (contract (w.forCall tape i) w.heap.size i.args ds gs before hval (DataW.Whole.of_heap (w' := w.forCall tape i) (by rfl) hw) (hX _ _ (by rfl) hx) hsh).mono fun e W' ⟨v, he, hp⟩ => ?_
  subst he
  exact ChangeSpec.post_blind hp
end Go.Proofs.YtdhochjcigingaaDoor
