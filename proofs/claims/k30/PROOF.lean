import PyProof.Rows.All
import Wide.All
import OpenK.AllK
import Wide.FinOn
import HandS.ForMost
import HandS.Wide
import HandS.Codes
import HandS.IsInst
import HandS.TupAny
import HandS.Walk
import HandS.Conv
import HandS.Style
import HandS.Zip
import HandS.Strs
import HandS.SetFor
import HandS.SortInts
import HandS.Flow
import KE.GoesEnum
import HandS.SortKw
import KE.DataMinMax
import HandS.ForExc
import HandS.ExcInit
import HandS.ExcField
import HandS.ExcIs
import HandS.TryMany
import KE.KTypeName
import KE.KExcIs
import KE.GoesZip
import KE.GoesMore
import HandS.Lambda
import HandS.TupMul
import HandS.TupLe
import PySem.Challenge.RW_trackworth_k30_layers_part_a_row
set_option Elab.async false
set_option linter.all false
set_option maxRecDepth 100000
set_option maxHeartbeats 4000000
set_option maxHeartbeats 4000000
namespace Tw
open PySem PySem.Spec PyProof.Rows L2
open C8 (pss_cut tCut)
/-! ### data -/
def pi (ns : List Int) : List PyData := ns.map PyData.int
theorem dpAll_ints {K : PySem.W.Frag} {H : Hp} : ∀ ns : List Int, DpAll K H (ns.map V.int) (pi ns)
  | [] => .nil
  | n :: r => .cons (.int n) (dpAll_ints r)
theorem dp_lstI {K : PySem.W.Frag} {H : Hp} {a : Addr} {ns : List Int} (h : SqL K H a (ns.map V.int)) : Dp K H (.ref a) (.list (pi ns)) := .lst h (dpAll_ints ns)
theorem dp_tupI {K : PySem.W.Frag} {H : Hp} {a : Addr} {ns : List Int} (h : SqT K H a (ns.map V.int)) : Dp K H (.ref a) (.tuple (pi ns)) := .tup h (dpAll_ints ns)
theorem lay_ints : ∀ ns : List Int, PyData.canLayAll0 (pi ns) = true
  | [] => by simp [pi, PyData.canLayAll0]
  | n :: r => by
    have ih := lay_ints r
    simp only [pi, List.map_cons, PyData.canLayAll0, PyData.canLay0, Bool.true_and]
    exact ih
theorem depth_ints : ∀ ns : List Int, PyData.depthAll (pi ns) = 0
  | [] => by simp [pi, PyData.depthAll]
  | n :: r => by
    have ih := depth_ints r
    simp only [pi, List.map_cons, PyData.depthAll, PyData.depth]
    unfold pi at ih
    omega
theorem shaped_mk {d : PyData} (h1 : d.canLay0 = true) (h2 : d.depth ≤ 64) : SeqAt.shaped d = true := by
  unfold SeqAt.shaped
  rw [h1, decide_eq_true h2]
  rfl
theorem shaped_lstI (ns : List Int) : SeqAt.shaped (.list (pi ns)) = true := shaped_mk (by simp only [PyData.canLay0]; exact lay_ints ns) (by simp only [PyData.depth, depth_ints]; decide)
theorem shaped_tupI (ns : List Int) : SeqAt.shaped (.tuple (pi ns)) = true := shaped_mk (by simp only [PyData.canLay0]; exact lay_ints ns) (by simp only [PyData.depth, depth_ints]; decide)
theorem eqv_ints : ∀ ns ms : List Int, PyData.eqvAll (pi ns) (pi ms) = decide (ns = ms)
  | [], [] => by simp [pi, PyData.eqvAll]
  | [], m :: ms => by simp [pi, PyData.eqvAll]
  | n :: ns, [] => by simp [pi, PyData.eqvAll]
  | n :: ns, m :: ms => by
    have ih := eqv_ints ns ms
    unfold pi at ih
    simp only [pi, List.map_cons, PyData.eqvAll, PyData.eqv, ih]
    by_cases h : n = m
    · by_cases h2 : ns = ms
      · simp [h, h2]
      · simp [h, h2]
    · simp [h]
theorem eqv_lstI (ns ms : List Int) : PyData.eqv (.list (pi ns)) (.list (pi ms)) = decide (ns = ms) := by simp only [PyData.eqv]; exact eqv_ints ns ms
theorem eqv_tupI (ns ms : List Int) : PyData.eqv (.tuple (pi ns)) (.tuple (pi ms)) = decide (ns = ms) := by simp only [PyData.eqv]; exact eqv_ints ns ms
/-! ### heaps: all but p and q is kept -/
def Keep (p q : Addr) (H H' : Hp) : Prop := ∀ b o, H b = some o → b ≠ p → b ≠ q → H' b = some o
theorem Keep.refl {p q : Addr} {H : Hp} : Keep p q H H := fun _ _ h _ _ => h
theorem Keep.trans {p q : Addr} {H H1 H2 : Hp} (a : Keep p q H H1) (b : Keep p q H1 H2) : Keep p q H H2 := fun x o h n1 n2 => b x o (a x o h n1 n2) n1 n2
theorem Keep.new {p q x : Addr} {o : HO} {H H1 : Hp} (a : Keep p q H H1) (n : H1 x = none) : Keep p q H (upd H1 x o) := fun b u h n1 n2 => by
  have := a b u h n1 n2
  rw [upd_ne (ne_of_none this n)]; exact this
theorem Keep.atp {p q : Addr} {o : HO} {H H1 : Hp} (a : Keep p q H H1) : Keep p q H (upd H1 p o) := fun b u h n1 n2 => by
  rw [upd_ne n1]; exact a b u h n1 n2
theorem Keep.atq {p q : Addr} {o : HO} {H H1 : Hp} (a : Keep p q H H1) : Keep p q H (upd H1 q o) := fun b u h n1 n2 => by
  rw [upd_ne n2]; exact a b u h n1 n2
/-- a change at an object that H did not have -/
theorem Keep.mut {p q x : Addr} {o : HO} {H H1 : Hp} (a : Keep p q H H1) (n : H x = none) : Keep p q H (upd H1 x o) := fun b u h n1 n2 => by
  rw [upd_ne (ne_of_none h n)]; exact a b u h n1 n2
theorem Keep.of {p q : Addr} {H H1 : Hp} (a : ∀ b o, H b = some o → H1 b = some o) : Keep p q H H1 := fun b u h _ _ => a b u h
theorem Keep.free {p q x : Addr} {H H1 : Hp} (a : Keep p q H H1) (n1 : x ≠ p) (n2 : x ≠ q) (h : H1 x = none) : H x = none := by
  cases e : H x with
  | none => rfl
  | some o =>
    rw [a x o e n1 n2] at h
    cases h
theorem same_upd {H : Hp} {p : Addr} {o : HO} (h : H p = none) : Same H (upd H p o) := fun b x e => by
  rw [upd_ne (ne_of_none e h)]
  exact e
/-- a change at an object that H did not have -/
theorem _root_.L2.Same.mutN {H H1 : Hp} {x : Addr} {o : HO} (a : Same H H1) (n : H x = none) : Same H (upd H1 x o) := fun b u h => by
  rw [upd_ne (ne_of_none h n)]; exact a b u h
theorem seq_get {K : PySem.W.Frag} {H H' : Hp} {a : Addr} {xs : List V} (k : ∀ o, H a = some o → H' a = some o) (h : SqL K H a xs) : SqL K H' a xs := by
  rcases h with h | h
  · rcases h with h | ⟨o, h⟩
    · exact .inl (.inl (k _ h))
    · exact .inl (.inr ⟨o, k _ h⟩)
  · exact .inr h
theorem seqT_get {K : PySem.W.Frag} {H H' : Hp} {a : Addr} {xs : List V} (k : ∀ o, H a = some o → H' a = some o) (h : SqT K H a xs) : SqT K H' a xs := by
  rcases h with h | h
  · rcases h with h | ⟨o, h⟩
    · exact .inl (.inl (k _ h))
    · exact .inl (.inr ⟨o, k _ h⟩)
  · exact .inr h
theorem _root_.L2.Same.seqT {K : PySem.W.Frag} {H H' : Hp} {a : Addr} {xs : List V} (e : Same H H') (h : SqT K H a xs) : SqT K H' a xs := seqT_get (e a) h
theorem lenI {ns : List Int} {n : Nat} (h : ns.length ≤ n) (hn : n ≤ 16777216) : (ns.map V.int).length ≤ sizeLine := by
  rw [List.length_map, sizeLine_eq]; omega
theorem getI {ns : List Int} {i : Nat} {y : V} (h : (ns.map V.int)[i]? = some y) : ∃ n, y = .int n ∧ ns[i]? = some n := by
  rw [List.getElem?_map] at h
  cases e : ns[i]? with
  | none => rw [e] at h; cases h
  | some n => rw [e] at h; exact ⟨n, (Option.some.inj h).symm, rfl⟩
/-! ### the draws' state: p the list of three, q the list of the further cells -/
def Pool (H : Hp) (p q : Addr) : Prop := ∃ (a b : Int) (cs : List Int), H p = some (.lst [.int a, .int b, .ref q]) ∧ H q = some (.lst (cs.map V.int)) ∧ p ≠ q ∧ 0 ≤ a ∧ 0 ≤ b ∧ b < 4294967296 ∧ cs.length ≤ 63
theorem Pool.same {H H' : Hp} {p q : Addr} (h : Pool H p q) (s : ∀ b o, H b = some o → H' b = some o) : Pool H' p q := by
  obtain ⟨a, b, cs, h1, h2, r⟩ := h
  exact ⟨a, b, cs, s _ _ h1, s _ _ h2, r⟩
theorem Pool.new {H : Hp} {p q x : Addr} {o : HO} (h : Pool H p q) (n : H x = none) : Pool (upd H x o) p q := h.same fun b u e => by
  rw [upd_ne (ne_of_none e n)]; exact e
theorem Pool.nep {H : Hp} {p q x : Addr} (h : Pool H p q) (n : H x = none) : x ≠ p := by
  obtain ⟨_, _, _, h1, _⟩ := h
  exact (ne_of_none h1 n).symm
theorem Pool.neq {H : Hp} {p q x : Addr} (h : Pool H p q) (n : H x = none) : x ≠ q := by
  obtain ⟨_, _, _, _, h2, _⟩ := h
  exact (ne_of_none h2 n).symm
theorem Pool.mut {H : Hp} {p q x : Addr} {o : HO} (h : Pool H p q) (n1 : x ≠ p) (n2 : x ≠ q) : Pool (upd H x o) p q := by
  obtain ⟨a, b, cs, h1, h2, r⟩ := h
  exact ⟨a, b, cs, by rw [upd_ne n1.symm]; exact h1, by rw [upd_ne n2.symm]; exact h2, r⟩
def spDraw : Sp := fun vs H Q _ => ∃ (p q : Addr) (m : Int), vs = [.ref p, .int m] ∧ Pool H p q ∧ 1 ≤ m ∧ m < 1073741824 ∧
  ∀ (H' : Hp) (r : Int), Keep p q H H' → Pool H' p q → 0 ≤ r → r < m → Q (.int r) H'
/-- a def of the top: where it stands, what it promises -/
structure Cal (P : Program) (w : World) (K : PySem.W.Frag) (mg : Str → Option Value) (base : Heap) (k : Nat) (x : Str) (ps : List Str) (sp : Sp) : Prop where
  ex : ∃ (f : Addr) (fd : FuncData), FnOk P w K mg base CX0 k f fd ps sp ∧ mg x = some (.ref f) ∧ PySem.W.keepIn K (.ref f) = true ∧ Binds K fd ps []
section
variable {X : Cx} {k n : Nat} {x : Str} {ps : List Str} {sp : Sp} {p pos : Pos} {e : Expr} {es : List Expr} {t : TA}
theorem pe_cal (C : Cal X.prog X.w X.K X.mg X.base k x ps sp) (hr : Room n X.A) (ha : PA X (e :: es) t) (hle : k ≤ n := by decide) (hg : Gl X x := by rfl) (hdb : (x == ("__debug__" : Str)) = false := by decide)
    (he : starEach (e :: es) X.env = (false, eval e X.env) :: starEach es X.env := by rfl) (hpl : (backTo pos (starEach es X.env)).any (·.1) = false := by rfl) :
    PE X (.Call (.Name x p) (e :: es) [] pos) (tCall sp [] (fun _ _ _ => False) t) := by
  obtain ⟨f, fd, F, hm, hk, hb⟩ := C.ex
  exact pe_call F (hr.mono hle) hg hm hk hb .nil pass0 ha hdb he hpl
end
/-- the built-ins that no name of the module hides -/
structure Nms (mg : Str → Option Value) : Prop where
  len : mg "len" = none
  intN : mg "int" = none
  boolN : mg "bool" = none
  listN : mg "list" = none
  tupleN : mg "tuple" = none
  rangeN : mg "range" = none
  isinstanceN : mg "isinstance" = none
  enumerateN : mg "enumerate" = none
  zipN : mg "zip" = none
  sumN : mg "sum" = none
  maxN : mg "max" = none
  minN : mg "min" = none
  sortedN : mg "sorted" = none
/-! ### data of any kind: its type -/
def tyD : PyData → String
  | .none => "NoneType"
  | .bool _ => "bool"
  | .int _ => "int"
  | .str _ => "str"
  | .list _ => "list"
  | .tuple _ => "tuple"
  | .dict _ => "dict"
theorem sqL_ty {K : PySem.W.Frag} {H : Hp} {a : Addr} {xs : List V} (h : SqL K H a xs) : TyX K H (.ref a) (.type "list") := by
  rcases h with (h | ⟨o, h⟩) | ⟨o, its, n, hk, hc, _⟩
  · exact .base (.lst h)
  · exact .base (.frz h)
  · exact .kList hk hc
theorem sqT_ty {K : PySem.W.Frag} {H : Hp} {a : Addr} {xs : List V} (h : SqT K H a xs) : TyX K H (.ref a) (.type "tuple") := by
  rcases h with (h | ⟨o, h⟩) | ⟨o, its, n, hk, hc, _⟩
  · exact .base (.tup h)
  · exact .fTuple h
  · exact .kTuple hk hc
theorem dp_ty {K : PySem.W.Frag} {H : Hp} {v : V} {d : PyData} (h : Dp K H v d) : TyX K H v (.type (tyD d)) := by
  cases h with
  | non => exact .base .non
  | bl b => exact .base (.bl b)
  | int i => exact .base (.int i)
  | str x => exact .base (.str x)
  | lst h _ => exact sqL_ty h
  | tup h _ => exact sqT_ty h
def isBl : PyData → Bool
  | .bool _ => true
  | _ => false
def isIn : PyData → Bool
  | .bool _ => true
  | .int _ => true
  | _ => false
def isTu : PyData → Bool
  | .tuple _ => true
  | _ => false
theorem kit_int {K : PySem.W.Frag} (d : PyData) : PySem.W.kitOne K (.type (tyD d)) (.type "int") = some (isIn d) := by
  cases d <;> first | exact kit_ty (show kitB "NoneType" "int" = some false by decide +kernel) | exact kit_ty (show kitB "bool" "int" = some true by decide +kernel) | exact kit_ty (show kitB "int" "int" = some true by decide +kernel) | exact kit_ty (show kitB "str" "int" = some false by decide +kernel) | exact kit_ty (show kitB "list" "int" = some false by decide +kernel) | exact kit_ty (show kitB "tuple" "int" = some false by decide +kernel) | exact kit_ty (show kitB "dict" "int" = some false by decide +kernel)
theorem kit_bool {K : PySem.W.Frag} (d : PyData) : PySem.W.kitOne K (.type (tyD d)) (.type "bool") = some (isBl d) := by
  cases d <;> first | exact kit_ty (show kitB "NoneType" "bool" = some false by decide +kernel) | exact kit_ty (show kitB "bool" "bool" = some true by decide +kernel) | exact kit_ty (show kitB "int" "bool" = some false by decide +kernel) | exact kit_ty (show kitB "str" "bool" = some false by decide +kernel) | exact kit_ty (show kitB "list" "bool" = some false by decide +kernel) | exact kit_ty (show kitB "tuple" "bool" = some false by decide +kernel) | exact kit_ty (show kitB "dict" "bool" = some false by decide +kernel)
theorem kit_tuple {K : PySem.W.Frag} (d : PyData) : PySem.W.kitOne K (.type (tyD d)) (.type "tuple") = some (isTu d) := by
  cases d <;> first | exact kit_ty (show kitB "NoneType" "tuple" = some false by decide +kernel) | exact kit_ty (show kitB "bool" "tuple" = some false by decide +kernel) | exact kit_ty (show kitB "int" "tuple" = some false by decide +kernel) | exact kit_ty (show kitB "str" "tuple" = some false by decide +kernel) | exact kit_ty (show kitB "list" "tuple" = some false by decide +kernel) | exact kit_ty (show kitB "tuple" "tuple" = some true by decide +kernel) | exact kit_ty (show kitB "dict" "tuple" = some false by decide +kernel)
/-- low <= thing <= high, of a number that is no truth value -/
def inD (lo hi : Int) : PyData → Bool
  | .int i => decide (lo ≤ i) && decide (i ≤ hi)
  | _ => false
mutual
theorem dp_mono {K : PySem.W.Frag} {H H' : Hp} (k : ∀ a o, H a = some o → H' a = some o) : ∀ (d : PyData) (v : V), Dp K H v d → Dp K H' v d
  | .none, _, h => by cases h; exact .non
  | .bool b, _, h => by cases h; exact .bl b
  | .int i, _, h => by cases h; exact .int i
  | .str x, _, h => by cases h; exact .str x
  | .list ds, _, h => by
    cases h with
    | lst hs ha => exact .lst (seq_get (k _) hs) (dpAll_mono k ds _ ha)
  | .tuple ds, _, h => by
    cases h with
    | tup hs ha => exact .tup (seqT_get (k _) hs) (dpAll_mono k ds _ ha)
  | .dict _, _, h => by cases h
theorem dpAll_mono {K : PySem.W.Frag} {H H' : Hp} (k : ∀ a o, H a = some o → H' a = some o) : ∀ (ds : List PyData) (vs : List V), DpAll K H vs ds → DpAll K H' vs ds
  | [], _, h => by cases h; exact .nil
  | d :: ds, _, h => by
    cases h with
    | cons h1 h2 => exact .cons (dp_mono k d _ h1) (dpAll_mono k ds _ h2)
end
theorem dpAll_len {K : PySem.W.Frag} {H : Hp} : ∀ {vs : List V} {ds : List PyData}, DpAll K H vs ds → vs.length = ds.length
  | _, _, .nil => rfl
  | _, _, .cons _ h => by rw [List.length_cons, List.length_cons, dpAll_len h]
theorem dpAll_get {K : PySem.W.Frag} {H : Hp} : ∀ {vs : List V} {ds : List PyData} {i : Nat} {x : V}, DpAll K H vs ds → vs[i]? = some x → ∃ d, ds[i]? = some d ∧ Dp K H x d
  | _, _, i, x, .nil, e => by simp at e
  | _, _, 0, x, .cons h _, e => by simp at e; subst e; exact ⟨_, rfl, h⟩
  | _, _, i + 1, x, .cons _ h, e => by
    obtain ⟨d, h1, h2⟩ := dpAll_get (i := i) (x := x) h (by simpa using e)
    exact ⟨d, by simpa using h1, h2⟩
theorem dpAll_pi {K : PySem.W.Frag} {H : Hp} : ∀ {vs : List V} {ns : List Int}, DpAll K H vs (pi ns) → vs = ns.map V.int
  | [], [], _ => rfl
  | _ :: _, [], h => by cases h
  | [], _ :: _, h => by cases h
  | v :: vs, n :: ns, h => by
    cases h with
    | cons h1 h2 =>
      cases h1
      rw [dpAll_pi h2]; rfl
/-- the class of the program's own error x -/
def ecOf (mg : Str → Option Value) (x : Str) : Addr := match mg x with
  | some (.ref a) => a
  | _ => 0
theorem ecOf_eq {mg : Str → Option Value} {x : Str} {a : Addr} (h : mg x = some (.ref a)) : ecOf mg x = a := by
  unfold ecOf
  rw [h]
/-! ### rows -/
def IsRow (ns : List Int) : Prop := ns.Nodup ∧ (∀ x ∈ ns, 0 ≤ x ∧ x < ns.length) ∧ ns.length ≤ 400
/-- the first j items are different wagons of a row of n -/
def RowPre (n j : Nat) (ds : List PyData) : Prop := ∃ ns : List Int, ds.take j = pi ns ∧ ns.length = j ∧ ns.Nodup ∧ ∀ x ∈ ns, 0 ≤ x ∧ x < (n : Int)
/-- what made_row finds wrong -/
def RowBad (d : PyData) (i : Int) : Prop := (i = -1 ∧ ∀ ds, d = .tuple ds → 400 < ds.length) ∨
  ∃ (ds : List PyData) (j : Nat), d = .tuple ds ∧ ds.length ≤ 400 ∧ i = (j : Int) ∧ j < ds.length ∧ RowPre ds.length j ds ∧ ¬ RowPre ds.length (j + 1) ds
theorem pi_len (ns : List Int) : (pi ns).length = ns.length := List.length_map ..
theorem pi_inj : ∀ {ns ms : List Int}, pi ns = pi ms → ns = ms
  | [], [], _ => rfl
  | [], _ :: _, h => by cases h
  | _ :: _, [], h => by cases h
  | n :: ns, m :: ms, h => by
    have h' : PyData.int n :: pi ns = PyData.int m :: pi ms := h
    injection h' with h1 h2
    injection h1 with h1
    rw [h1, pi_inj h2]
theorem isRow_pre {ns : List Int} (h : IsRow ns) {j : Nat} (hj : j ≤ ns.length) : RowPre ns.length j (pi ns) := by
  refine ⟨ns.take j, ?_, by rw [List.length_take]; omega, h.1.sublist (List.take_sublist ..), fun x hx => h.2.1 x (List.mem_of_mem_take hx)⟩
  unfold pi
  rw [List.map_take]
theorem isRow_notBad {ns : List Int} (h : IsRow ns) {i : Int} (b : RowBad (.tuple (pi ns)) i) : False := by
  rcases b with ⟨_, b⟩ | ⟨ds, j, e, hl, _, hj, _, b⟩
  · have z := b _ rfl
    rw [pi_len] at z
    have := h.2.2
    omega
  · injection e with e
    subst e
    rw [pi_len] at hj b
    exact b (isRow_pre h hj)
theorem rowPre_all {ds : List PyData} (hl : ds.length ≤ 400) (h : RowPre ds.length ds.length ds) : ∃ ns, ds = pi ns ∧ IsRow ns := by
  obtain ⟨ns, e, hn, nd, hb⟩ := h
  rw [List.take_length] at e
  exact ⟨ns, e, nd, fun x hx => by rw [hn]; exact hb x hx, by omega⟩
end Tw

set_option maxHeartbeats 4000000
namespace Tw
open PySem PySem.Spec PyProof.Rows L2
/-! ### enumerate(t), t a tuple -/
set_option maxHeartbeats 4000000 in
theorem meetsEnumB {v : Value} {ob : Obj} {Hh : Heap → Prop} (Bg : Begins v ob Hh) : Meets (Builtin.«enumerate.__new__» ⟨[.type "enumerate", v], []⟩) (fun _ Rr st => Hh st.heap ∧
      Rr (.ok (.ret (.ref (st.heap.push ob).objs.size))) { st with heap := (st.heap.push ob).push { cls := .type "enumerate", data := .fields #[.none, .bool false, .ref st.heap.objs.size, rawInt 0, .none, .none] } }) :=
  .of_wp fun pr wo Ar Rr st hyp => by
    obtain ⟨hp, g, d, tk, os⟩ := st; obtain ⟨hh1, hyp⟩ := hyp
    have hsubE := sub_enumerate
    have itq : ∀ {Aq : Around} {Eq : Value → Shared → Prop} {Qq : Value → Shared → Prop}, Qq (.ref hp.objs.size) ⟨hp.push ob, g, d, tk, os⟩ → wpAny (model pr wo) Aq (pyIter v) Qq Eq ⟨hp, g, d, tk, os⟩ := fun z => Bg.iter pr wo _ _ ⟨hp, g, d, tk, os⟩ _ hh1 z
    wp_walk using itq
    refine wpAny_stack_any fun stk => wpAny_pure ?_
    split
    · rename_i cc _ _ _ _ _
      cases (cc == Value.type "enumerate") <;> (wp_walk using itq; exact ⟨_, rfl, hyp⟩)
    · wp_walk using itq; exact ⟨_, rfl, hyp⟩
section
variable {prog : Program} {w : World} {A : Around} {E : Value → Shared → Prop} {s : Shared}
theorem callEnumT {a : Addr} {items : Array Value} {Q : Value → Shared → Prop} (ht : s.heap.IsTuple a items)
    (h : ∀ h', IsEnum h' (s.heap.objs.size + 1) s.heap.objs.size 0 .none → h'.IsTupleIter s.heap.objs.size a 0 → (∀ b o, s.heap.get? b = some o → h'.get? b = some o) → Q (.ref (s.heap.objs.size + 1)) { s with heap := h' }) :
    wpAny (model prog w) A (call (.type "enumerate") [.ref a]) Q E s := by
  refine callType_new F.called_enumerate (by decide) (F.typeCall_enumerate_1 _) (F.newCall_enumerate_1 _) (fun obj => F.args_object_init_2 obj _) F.entry_enumerate_new (meetsEnumB (begins_tuple a items)) ⟨ht, ?_⟩
  have hz : (s.heap.push { cls := .type "tuple_iterator", data := .fields #[.ref a, .int 0 0] }).objs.size = s.heap.objs.size + 1 := Heap.size_push ..
  show _ ∧ _
  rw [hz]
  have he : IsEnum ((s.heap.push { cls := .type "tuple_iterator", data := .fields #[.ref a, .int 0 0] }).push { cls := .type "enumerate", data := .fields #[.none, .bool false, .ref s.heap.objs.size, rawInt 0, .none, .none] }) (s.heap.objs.size + 1) s.heap.objs.size 0 .none := by
    have q := Heap.get?_push_size (s.heap.push { cls := .type "tuple_iterator", data := .fields #[.ref a, .int 0 0] }) (o := { cls := .type "enumerate", data := .fields #[.none, .bool false, .ref s.heap.objs.size, rawInt 0, .none, .none] }) rfl
    rw [hz] at q; exact q
  exact ⟨⟨_, he, rfl⟩, h _ he ⟨_, Heap.get?_push_of_some _ (Heap.get?_push_size _ rfl), rfl, rfl⟩ fun b o y => Heap.get?_push_of_some _ (Heap.get?_push_of_some _ y)⟩
end
section
variable {prog : Program} {w : World} {A : Around} {E : Value → Shared → Prop} {s : Shared}
theorem wpAny_pyNext_enum_end_tup {e it a : Addr} {i : Nat} {items : Array Value} {old : Value} {Q : Option Value → Shared → Prop} (hh : A.handled = none) (he : IsEnum s.heap e it i old) (hit : s.heap.IsTupleIter it a i) (ht : s.heap.IsTuple a items) (hx : items.size ≤ i)
    (hQ : ∀ h', Heap.ExtBut it s.heap h' → Q none { s with heap := h' }) : wpAny (model prog w) A (pyNext (.ref e)) Q E s := by
  let D : Draws prog w A.in1 it [it, a] i (fun _ _ => False) (fun n h => n = i ∧ h.IsTupleIter it a i ∧ h.IsTuple a items) :=
    { live := fun _ _ st => let ⟨o, ho, _⟩ := st.2.1; ⟨o, ho⟩
      frame := fun _ _ _ st hk => ⟨st.1, st.2.1.at fun o z => hk it (by simp) o z, st.2.2.at fun o z => hk a (by simp) o z⟩
      item := fun j s Q E hj st _ => absurd st.1 (Nat.ne_of_lt hj)
      done := fun s Q E st hE => wpAny_nextOf_tuple_end hh st.2.1 st.2.2 (by simpa using hx) hE }
  exact wpAny_pyNext_enum_endD D he ⟨rfl, hit, ht⟩ hQ
end
/-- the tuple at a, each item in a new pair with its place -/
def IteT (K : PySem.W.Frag) (a : Addr) : It :=
  ⟨fun i H => ∃ (xs : List V) (x : V), SqT K H a xs ∧ xs[i]? = some x, fun i H v H' => ∃ T x, v = .ref T ∧ H T = none ∧ H' = upd H T (.tup [.int (i : Nat), x]) ∧ ∀ xs, SqT K H a xs → xs[i]? = some x, fun i H => ∃ xs : List V, SqT K H a xs ∧ xs.length ≤ i⟩
theorem turnEnumT {P : Program} {w : World} {K : PySem.W.Frag} {elts : List Expr} {kk : Nat} {tpos : Pos} (a e it : Addr) :
    Turn P w K (.Tuple elts kk tpos) (IteT K a) [e, it] e (fun i h => (∃ old, IsEnum h e it ((i : Nat) : Int) old) ∧ h.IsTupleIter it a i ∧ e ≠ it ∧ a ≠ it ∧ e ≠ a) where
  mem := List.mem_cons_self
  obj := fun i h st b hb => by
    obtain ⟨⟨old, he⟩, ⟨o, ho, hc, hd⟩, _⟩ := st
    rcases List.mem_cons.mp hb with z | z
    · subst z; exact ⟨_, he, fun v q => nomatch q⟩
    · have z' := List.mem_singleton.mp z
      subst z'; exact ⟨o, ho, fun v q => by rw [hd] at q; cases q⟩
  keep := fun i h h' st kp => by
    obtain ⟨⟨old, he⟩, hi, r⟩ := st
    exact ⟨⟨old, kp e List.mem_cons_self _ he⟩, hi.at fun o z => kp it (List.mem_cons_of_mem _ List.mem_cons_self) o z, r⟩
  item := by
    intro X hP hw hK hc i pins s σ H E I hf st hg
    subst hP hw hK
    obtain ⟨⟨old, he⟩, hit, hne, hat, hea⟩ := st
    obtain ⟨xs, x, hq, hx⟩ := hg
    obtain ⟨its, rv, pt, hz⟩ := I.tuple hq
    obtain ⟨u, hu, ru⟩ := rv.get hx
    have lte : e < s.heap.objs.size := Heap.lt_size he
    have lti : it < s.heap.objs.size := by
      obtain ⟨_, z, _⟩ := hit
      exact Heap.lt_size z
    have hlt : i < its.toArray.size := by
      have z := (List.getElem?_eq_some_iff.mp hu).1
      simpa using z
    refine wpAny_pyNext_enum_itemC (Draws.tuple (A := X.A.in1) (I.ok.hd hc) it a hat its.toArray) he ⟨hit, pt⟩ hlt hne ?_ fun x1 h1 tk1 hx1 out1 st1 new1 sz1 kp1 => ?_
    · intro z
      rcases List.mem_cons.mp z with z | z
      · exact hne z
      · exact hea (List.mem_singleton.mp z)
    have ex : x1 = u := by
      have z : its[i]? = some x1 := by simpa using hx1
      rw [hu] at z
      exact (Option.some.inj z).symm
    subst ex
    refine ⟨_, rfl, wpAny_letOwnedTupleGo_enum (s := { s with heap := h1, toks := tk1 + 1 }) out1 fun h2 he2 sb => ?_⟩
    have new2 : h2.get? s.heap.objs.size = some { cls := .type "tuple", data := .seq #[.int i tk1, x1] } := (sb.2 _ (Nat.ne_of_gt lte)).trans new1
    have okT : ObjOk X.prog X.w (upd H s.heap.objs.size (.tup [.int (i : Nat), x])) h2 s.heap.objs.size (.tup [.int (i : Nat), x]) := ⟨by show 2 ≤ sizeLine; decide, [.int i tk1, x1], .cons ⟨_, rfl⟩ (.cons ru .nil), ⟨_, new2, rfl, _, rfl⟩⟩
    have ne_of_mem : ∀ {b : Addr}, b ∉ [e, it] → b ≠ e ∧ b ≠ it := fun {b} hb => ⟨fun z => hb (by rw [z]; exact List.mem_cons_self), fun z => hb (by rw [z]; exact List.mem_cons_of_mem _ List.mem_cons_self)⟩
    have I1 : Inv X pins σ (upd H s.heap.objs.size (.tup [.int (i : Nat), x])) { s with heap := h2, toks := tk1 + 1 } :=
      I.turnedNew (ch := [e, it]) (fun b ob hb z => (sb.2 b (ne_of_mem hb).1).trans (kp1 b ob (ne_of_mem hb).1 (ne_of_mem hb).2 z)) hf (Nat.le_refl _) okT
    refine ⟨.ref s.heap.objs.size, _, I1, rfl, ⟨_, x, rfl, I.hok.fresh (Nat.le_refl _), rfl, fun ys hy => by rw [I.tuple_inj hy hq]; exact hx⟩, ⟨⟨x1, ?_⟩, st1.1.at fun o z => (sb.2 it (Ne.symm hne)).trans z, hne, hat, hea⟩, fun b hb => ?_⟩
    · rw [show ((i + 1 : Nat) : Int) = (i : Int) + 1 by omega]; exact he2
    · have ltb : b < s.heap.objs.size := by
        rcases List.mem_cons.mp hb with z | z
        · rw [z]; exact lte
        · rw [List.mem_singleton.mp z]; exact lti
      rw [upd_ne (Nat.ne_of_lt ltb)]; exact (hf b hb).1
  done := by
    intro X hP hw hK hc i pins s σ H E I hf st hg
    subst hP hw hK
    obtain ⟨⟨old, he⟩, hit, hne, hat, hea⟩ := st
    obtain ⟨xs, hq, hx⟩ := hg
    obtain ⟨its, rv, pt, hz⟩ := I.tuple hq
    have hl := rv.length
    have f1 := hf it (List.mem_cons_of_mem _ List.mem_cons_self)
    obtain ⟨g0, g1, g2, g3, g4, g5⟩ := f1
    exact wpAny_pyNext_enum_end_tup (I.ok.hd hc) he hit pt (by simp; omega) fun h' eb => ⟨rfl, I.turned (t' := s.toks) (fun b o hb z => eb b o hb z) g0 g1 g3 g4 g5⟩
  self := fun A i s Q E st h => let ⟨⟨_, he⟩, _⟩ := st; wpAny_pyIter_enum he h
def iEnumT (K : PySem.W.Frag) (ta : TA) : TI := fun σ H R => ta σ H fun vs H1 => ∃ a xs, vs = [.ref a] ∧ SqT K H1 a xs ∧ R (IteT K a) H1
theorem pi_enumT {X : Cx} {e : Expr} {ta : TA} {p pos tpos : Pos} {elts : List Expr} {kk : Nat} (hg : Gl X "enumerate") (hm : X.mg "enumerate" = none) (ha : PA X [e] ta) (hs : starEach [e] X.env = [(false, eval e X.env)] := by rfl) :
    PI X (.Tuple elts kk tpos) (.Call (.Name "enumerate" p) [e] [] pos) (iEnumT X.K ta) := by
  refine ⟨fun pins s σ H R I h => ?_⟩
  refine Call_ (ld_blt I hg hm boot_enumerate (PyProof.Rows.callWith_type1 (thn (ha.run pos pins s σ H _ I h) fun us s1 ⟨vs, H1, I1, r1, q1⟩ => ?_) hs rfl))
  obtain ⟨a, xs, ex, hq, q⟩ := q1
  subst ex
  cases r1 with
  | cons r rr =>
    cases rr; cases r
    obtain ⟨its, rv, pt, hz⟩ := I1.tuple hq
    have lta : a < s1.heap.objs.size := by
      obtain ⟨_, z, _⟩ := pt
      exact Heap.lt_size z
    refine callEnumT (show s1.heap.IsTuple a its.toArray from pt) fun h' he hit kp => wpAny_pyIter_enum he ?_
    have I2 : Inv X pins σ H1 { s1 with heap := h' } := I1.kept (t' := s1.toks) kp
    refine ⟨s1.heap.objs.size + 1, [s1.heap.objs.size + 1, s1.heap.objs.size], _, _, H1, rfl, I2, turnEnumT a (s1.heap.objs.size + 1) s1.heap.objs.size, ⟨⟨.none, he⟩, hit, Nat.succ_ne_self _, Nat.ne_of_lt lta, Nat.ne_of_gt (Nat.lt_succ_of_lt lta)⟩, fun b hb => ?_, q⟩
    have le : s1.heap.objs.size ≤ b := by
      rcases List.mem_cons.mp hb with z | z
      · rw [z]; exact Nat.le_succ _
      · rw [List.mem_singleton.mp z]; exact Nat.le_refl _
    exact I1.fpOk le (I1.hok.fresh le)
/-- the walk -/
theorem walk_enumT {K : PySem.W.Frag} {a : Addr} {xs : List V} : Walk (IteT K a) xs.length (fun H => SqT K H a xs) (fun i H v H' => ∃ T x, v = .ref T ∧ H T = none ∧ H' = upd H T (.tup [.int (i : Nat), x]) ∧ xs[i]? = some x) where
  goes := fun i H hi h => ⟨xs, xs[i], h, List.getElem?_eq_getElem hi⟩
  stops := fun H h => ⟨xs, h, Nat.le_refl _⟩
  yields := fun i H x H' hi h y => by
    obtain ⟨T, z, e1, e2, e3, e4⟩ := y
    exact ⟨T, z, e1, e2, e3, e4 xs h⟩
end Tw

set_option maxHeartbeats 4000000
namespace Tw
open PySem PySem.Spec PyProof.Rows L2
/-! ### max of a tuple of ints, with default= and without -/
theorem alike_ints (ns : List Int) : PySem.W.AlikeAll (pi ns) := by
  refine ⟨fun x hx y hy => ?_, fun x hx => ?_⟩
  · obtain ⟨i, _, rfl⟩ := List.mem_map.mp hx
    obtain ⟨j, _, rfl⟩ := List.mem_map.mp hy
    rfl
  · obtain ⟨i, _, rfl⟩ := List.mem_map.mp hx
    intro z; cases z
theorem foldmax : ∀ (ns : List Int) (n : Int), (ns.foldl max n ∈ n :: ns) ∧ ∀ y ∈ n :: ns, y ≤ ns.foldl max n
  | [], n => ⟨List.mem_cons_self, fun y hy => by
    rcases List.mem_cons.mp hy with h | h
    · rw [h]; exact Int.le_refl _
    · cases h⟩
  | m :: ms, n => by
    obtain ⟨h1, h2⟩ := foldmax ms (max n m)
    show (ms.foldl max (max n m) ∈ n :: m :: ms) ∧ ∀ y ∈ n :: m :: ms, y ≤ ms.foldl max (max n m)
    have h3 := h2 (max n m) List.mem_cons_self
    refine ⟨?_, fun y hy => ?_⟩
    · rcases List.mem_cons.mp h1 with h | h
      · rw [h]
        by_cases c : n ≤ m
        · rw [Int.max_eq_right c]; exact List.mem_cons_of_mem _ List.mem_cons_self
        · rw [Int.max_eq_left (by omega)]; exact List.mem_cons_self
      · exact List.mem_cons_of_mem _ (List.mem_cons_of_mem _ h)
    · rcases List.mem_cons.mp hy with h | h
      · rw [h]; omega
      · rcases List.mem_cons.mp h with h | h
        · rw [h]; omega
        · exact h2 y (List.mem_cons_of_mem _ h)
theorem maxD_pi (n : Int) (ns : List Int) : ∃ m, PySem.W.maxD (.int n) (pi ns) = .int m ∧ m ∈ n :: ns ∧ ∀ y ∈ n :: ns, y ≤ m :=
  ⟨_, PySem.W.maxD_ints n ns, foldmax ns n⟩
section
variable {X : Cx}
def rMaxT (K : PySem.W.Frag) : List V → Hp → VK → Prop := fun vs H Q => ∃ (a : Addr) (ns : List Int), vs = [V.ref a] ∧ SqT K H a (ns.map V.int) ∧ 0 < ns.length ∧ ∀ m, m ∈ ns → (∀ y, y ∈ ns → y ≤ m) → Q (.int m) H
theorem cr_maxT (hc : X.calm = true) (hu : X.A.units + 64 < cLine) : CallR X (.builtin "max") (rMaxT X.K) := by
  intro pins s σ H vs us Q I r h
  obtain ⟨a, ns, rfl, hs, hne, q⟩ := h
  obtain ⟨its, rv, hl, _⟩ := I.tuple hs
  rw [Vals.ref1 r]
  obtain ⟨as, hr⟩ := Dp.readsAll I (pi ns) _ its (dpAll_ints ns) rv
  cases ns with
  | nil => exact absurd hne (Nat.lt_irrefl 0)
  | cons n ns =>
    obtain ⟨m, e1, e2, e3⟩ := maxD_pi n ns
    refine PySem.W.max_tuple_data (x := .int n) (xs := pi ns) (I.ok.hd hc) (show s.heap.IsTuple a its.toArray from hl) (show ReadsAll s.heap its.toArray.toList (pi (n :: ns)) as by simpa using hr) (alike_ints (n :: ns)) (by
      have z := depth_ints (n :: ns)
      show X.A.units + 1 + PyData.depthAll (pi (n :: ns)) < cLine
      omega) fun i v h' tk bs _ rd kp => ?_
    rw [e1] at rd
    cases rd with
    | int i t => exact ⟨.int m, H, I.kept (t' := tk) kp, ⟨_, rfl⟩, q m e2 e3⟩
def rMaxTD (K : PySem.W.Frag) : List V → List V → Hp → VK → Prop := fun vs zs H Q => ∃ (a : Addr) (ns : List Int) (d : Int), vs = [V.ref a] ∧ zs = [.int d] ∧ SqT K H a (ns.map V.int) ∧ (ns = [] → Q (.int d) H) ∧ ∀ m, m ∈ ns → (∀ y, y ∈ ns → y ≤ m) → Q (.int m) H
theorem cr_maxTD (hc : X.calm = true) (hu : X.A.units + 64 < cLine) : CallRK X (.builtin "max") ["default"] (rMaxTD X.K) := by
  intro pins s σ H vs zs us ws Q I r rz h
  obtain ⟨a, ns, d, rfl, rfl, hs, q0, q⟩ := h
  obtain ⟨its, rv, hl, _⟩ := I.tuple hs
  rw [Vals.ref1 r]
  cases rz with
  | cons rd rn =>
    cases rn
    obtain ⟨t, rfl⟩ := rd
    obtain ⟨as, hr⟩ := Dp.readsAll I (pi ns) _ its (dpAll_ints ns) rv
    refine PySem.W.max_tuple_default (xs := pi ns) (I.ok.hd hc) (show s.heap.IsTuple a its.toArray from hl) (by simpa using hr) (alike_ints ns) (by
      have z := depth_ints ns
      omega) (fun e h' tk kp => ?_) fun y ys i v h' tk bs e _ rd kp => ?_
    · have e' : ns = [] := List.map_eq_nil_iff.mp e
      exact ⟨.int d, H, I.kept (t' := tk) kp, ⟨_, rfl⟩, q0 e'⟩
    · cases ns with
      | nil => cases e
      | cons n ns =>
        have e' : PyData.int n :: pi ns = y :: ys := e
        injection e' with e1 e2
        subst e1 e2
        obtain ⟨m, e1, e2, e3⟩ := maxD_pi n ns
        rw [e1] at rd
        cases rd with
        | int i t => exact ⟨.int m, H, I.kept (t' := tk) kp, ⟨_, rfl⟩, q m e2 e3⟩
end
end Tw

set_option maxHeartbeats 4000000
namespace Tw
open PySem PySem.Spec PyProof.Rows L2
open PySem.W PySem.Calls Builtin Builtin.ObjectAttr Builtin.Getset_descriptor
/-! ### self.__class__.__name__ of an own error that is being made -/
def nameIn (K : PySem.W.Frag) (C : Addr) : Option Value := (K.lookup C).bind fun o => (o.slots[2]?).join
structure KindC (K : PySem.W.Frag) (C : Addr) (nm : Str) : Prop where
  ex : ExcC K C
  rd : readsIn K C (.type "type") = true
  fc : findCls K (.ref C) (.type "type") "__name__" = some (.get (.builtin "getset_descriptor.__get__") (.builtin "type.__name__") (.ref C) (.type "type"))
  nm : ∃ tk, nameIn K C = some (.str nm tk)
section
variable {prog : Program} {w : World} {A : Around} {E : Value → Shared → Prop} {s : Shared} {K : Frag} {x C : Addr} {ox : Obj} {od : Option Obj}
theorem getattr_class {expr : Bool} {Q : Value → Shared → Prop} (X : K.In s.heap) (I : PySem.W.InstAt s.heap x ox C od) (T : ExcC K C) (h : Q (.ref C) { s with toks := s.toks + 1 }) : wpAny (model prog w) A (getAttr (.ref x) "__class__" expr) Q E s := by
  have hcl : (clsIn K C).isSome = true := by obtain ⟨cd, hc, _⟩ := any_some T.hd; rw [hc]; rfl
  have hf : findObj K C od "__class__" = some (.bind (.builtin "getset_descriptor.__get__") (.builtin "object.__class__")) := findObj_dataE hcl T.ha T.hn T.ht
  obtain ⟨hp, g, d, t, os⟩ := s
  have L0 := I.type (M := model prog w)
  have L1 := looks_findIn (M := model prog w) X T.hg
  have L2 := looks_findIn (M := model prog w) X T.hk
  have L3 := looks_find (M := model prog w) X I hf
  have sub : Looks (model prog w) hp (isInstance (.ref x) (.type "BaseException")) true := L0.andThen (looks_subIn X T.hs)
  have hx0 : (expr && onTheHeap (Value.builtin "BaseException.__getattribute__")) = false := by cases expr <;> rfl
  have hx2 : (Value.builtin "BaseException.__getattribute__" == Value.builtin "object.__getattribute__") = false := by decide +kernel
  have hx1 : (onTheHeap (Value.ref C) && Value.builtin "BaseException.__getattribute__" == Value.builtin "object.__getattribute__") = false := by rw [hx2]; rfl
  unfold getAttr getAttrBy
  refine wpAny_bind (wpAny_mkText (wpAny_holding (wpAny_bind (L0.at (wpAny_bind (L1.at ?_))))))
  show wpAny _ _ (if (onTheHeap (Value.ref C) && Value.builtin "BaseException.__getattribute__" == Value.builtin "object.__getattribute__") = true then _ else _) _ _ _
  rw [hx1, if_neg Bool.false_ne_true]
  unfold getAttrByItsOwn hookBefore
  refine wpAny_bind ?_
  rw [if_pos (show onTheHeap (Value.ref C) = true from rfl)]
  refine L2.at ?_
  refine wpAny_bind (wpAny_attempt (wpAny_holding ?_))
  unfold callGetattribute
  rw [hx0, if_neg Bool.false_ne_true]
  unfold boundAndCalled
  rw [PySem.F.excAttr_ValueError.ga.bind (.ref x)]
  refine wpAny_bind (wpAny_pure ?_)
  show wpAny _ _ (call (.builtin "BaseException.__getattribute__") [.ref x, .str "__class__" t]) _ _ _
  refine wpAny_call (codeAny_call_builtin PySem.F.excAttr_ValueError.ga.plain PySem.F.entry_bexc_ga ?_)
  refine @PySem.W.check_slot (model prog w) _ _ ⟨hp, g, d, t + 1, os⟩ "BaseException.__getattribute__" "BaseException" "__getattribute__" (.ref x) [.str "__class__" t] [] _ (by decide +kernel) (by decide +kernel) sub (PySem.F.args_bexc_ga (.ref x) (.str "__class__" t)) ?_
  unfold Builtin.«object.__getattribute__»
  refine wpAny_bind (wpAny_of_eq (a := ((Value.ref x : Value), [Value.str "__class__" t])) (by first | rfl | (simp only [slotArgs]; rfl)) ?_)
  refine wpAny_bind (wpAny_pure (wpAny_bind (L0.at (wpAny_bind (L3.at ?_)))))
  refine wpAny_bind (wpAny_holding (wpAny_call (class_get (s := ⟨hp, g, d, t + 1, os⟩) (ox := ox) (od := od) X I T.hm ?_)))
  refine wpAny_pure ?_
  show wpAny _ _ (handedOut (.ref C)) _ _ _
  rw [handedOut_of (show handedIn (.ref C) = true from rfl)]
  first | exact wpAny_pure h | exact wpAny_pure (wpAny_pure h)
theorem slot_looks {M : Model} {v : Value} (X : K.In s.heap) (e : nameIn K C = some v) : Looks M s.heap (PySem.slotAt C 2) (some v) := by
  unfold nameIn at e
  obtain ⟨o, ho, e⟩ := Option.bind_eq_some_iff.mp e
  intro A' Q' E' s' k q
  unfold PySem.slotAt
  refine wpAny_bind (wpAny_loadPart (k _ _ (X _ _ ho)) (wpAny_pure ?_))
  rw [e]
  exact q
theorem own_name_get {R : Result → Shared → Prop} {tp : Value} {nm : Str} {tk : Tok} (X : K.In s.heap) (ht : typeIn K (.ref C) = some (.type "type")) (hn : nameIn K C = some (.str nm tk)) (h : R (.ok (.ret (.str nm tk))) s) :
    codeAny (model prog w) A (.call (.builtin "getset_descriptor.__get__") ⟨[.builtin "type.__name__", .ref C, tp], []⟩) R s := by
  obtain ⟨hh, g, dr, t, os⟩ := s
  have L0 : Looks (model prog w) hh (typeOf (.ref C)) (.type "type") := looks_typeIn X ht
  have L1 : Looks (model prog w) hh (isSubtype (.type "type") (.type "type")) true := Looks.of_pure (by rw [isSubtype_type]; kernel_rfl)
  have L2 := slot_looks (M := model prog w) (s := ⟨hh, g, dr, t, os⟩) X hn
  refine codeAny_call_builtin KF.slot_gs.plain KF.entry_gs (KF.slot_gs.check _ _ _ _ _ _ _ _ ktyn_type (KF.args_gs _ _ _) ?_)
  unfold Builtin.«getset_descriptor.__get__» descrGet
  rw [dga_obj]
  refine wpAny_bind (wpAny_pure ?_)
  unfold descrGetter descrCheckInstance descrNameAndClass isInstance
  simp only [ktyn_owner]
  repeat lk
  refine ⟨Code.quiet_builtin _ (by decide +kernel), codeAny_builtin ktyn_entry ?_⟩
  unfold Builtin.«type.__name__»
  dsimp only
  unfold keptObject
  refine wpAny_bind (L2.at ?_)
  first
    | exact wpAny_pure h
    | exact wpAny_bind (wpAny_pure h)
    | exact wpAny_bind (wpAny_pure (wpAny_pure h))
theorem own_name {expr : Bool} {Q : Value → Shared → Prop} {nm : Str} {tk : Tok} (X : K.In s.heap) (hr : readsIn K C (.type "type") = true) (e : findCls K (.ref C) (.type "type") "__name__" = some (.get (.builtin "getset_descriptor.__get__") (.builtin "type.__name__") (.ref C) (.type "type")))
    (ht : typeIn K (.ref C) = some (.type "type")) (hn : nameIn K C = some (.str nm tk)) (h : Q (.str nm tk) { s with toks := s.toks + 1 }) : wpAny (model prog w) A (getAttr (.ref C) "__name__" expr) Q E s := by
  refine cls_bind X hr e ?_
  refine wpAny_call (own_name_get (s := { s with toks := s.toks + 1 }) X ht hn ?_)
  exact handed_on rfl h
end
def tKind (K : PySem.W.Frag) (to : TE) : TE := fun σ H Q => to σ H fun x H1 => ∃ (a C dx : Addr) (fs : List (Str × V)) (nm : Str), x = .ref a ∧ H1 a = some (exo a C (some dx)) ∧ H1 dx = some (exd dx fs) ∧ KindC K C nm ∧ PySem.W.typeIn K (.ref C) = some (.type "type") ∧ Q (.str nm) H1
theorem pe_kind {X : Cx} {o : Expr} {to : TE} {p1 p2 : Pos} (ho : PE X o to) (hb : attributeBase o "__class__" X.env (eval o X.env) = eval o X.env := by rfl)
    (hb2 : attributeBase (.Attribute o "__class__" p1) "__name__" X.env (eval (.Attribute o "__class__" p1) X.env) = eval (.Attribute o "__class__" p1) X.env := by rfl) :
    PE X (.Attribute (.Attribute o "__class__" p1) "__name__" p2) (tKind X.K to) := by
  refine ⟨fun pins s σ H Q I h => ?_⟩
  refine attr_of hb2 (attr_of hb (thn (ho.run pins s σ H _ I h) fun u s1 hh => ?_))
  obtain ⟨x, H1, I1, rx, a, C, dx, fs, nm, ex, ea, ed, T, ty, q⟩ := hh
  subst ex
  obtain rfl : u = Value.ref a := rx
  obtain ⟨t1, hobj⟩ := exo_at I1.hok ea
  obtain ⟨mA, hns, hr⟩ := exd_at I1.hok ed
  obtain ⟨oD, es, ep, hoD, _⟩ := id hns
  obtain ⟨tk, hn⟩ := T.nm
  have J : PySem.W.InstAt s1.heap a _ C (some oD) := ⟨hobj, rfl, rfl, hoD⟩
  refine getattr_class I1.kIn J T.ex ?_
  have I2 := I1.tok (s1.toks + 1)
  refine own_name I2.kIn T.rd T.fc ty hn ?_
  exact ⟨.str nm, H1, I2.tok _, ⟨_, rfl⟩, q⟩
end Tw
namespace Tw
open PySem PySem.Spec PyProof.Rows L2
/-! ### the program's own errors: what and kind -/
/-- the fields of such an error -/
abbrev efs (c : Str) (v : V) : List (Str × V) := [("kind", .str c), ("what", v)]
def sp_init (K : PySem.W.Frag) : Sp := fun vs H Q _ => ∃ (a C : Addr) (v : V) (c : Str), vs = [.ref a, v] ∧ OexC K C ∧ PySem.W.findIn K (.ref C) "what" = some none ∧ PySem.W.findIn K (.ref C) "kind" = some none ∧ KindC K C c ∧ H a = some (exo a C none) ∧
  ∀ dx, H dx = none → dx ≠ a → Q .non (upd (upd H dx (exd dx (efs c v))) a (exo a C (some dx)))
structure Err (P : Program) (w : World) (K : PySem.W.Frag) (mg : Str → Option Value) (base : Heap) (x : Str) (C : Addr) : Prop where
  mgC : mg x = some (.ref C)
  ox : OexC K C
  noW : PySem.W.findIn K (.ref C) "what" = some none
  noK : PySem.W.findIn K (.ref C) "kind" = some none
  kd : KindC K C x
  ini : ∃ (fI : Addr) (fd : FuncData), PySem.W.findIn K (.ref C) "__init__" = some (some (.ref fI)) ∧ PySem.W.typeIn K (.ref fI) = some (.type "function") ∧ FnOk P w K mg base CX0 1 fI fd ["self", "what"] (sp_init K) ∧ Binds K fd ["self", "what"] []
  te : PySem.W.exmOne K (.ref C) (.ref C) = some true
/-- what the making of such an error asks, behind its argument -/
theorem err_ans {K : PySem.W.Frag} {C : Addr} {c : Str} {v : V} {H1 : Hp} {Q : XK} (ox : OexC K C) (noW : PySem.W.findIn K (.ref C) "what" = some none) (noK : PySem.W.findIn K (.ref C) "kind" = some none) (kd : KindC K C c) (h : ∀ d, H1 d = none → Q (.ref C) (some d) (upd H1 d (.xd (efs c v)))) :
    [v].length ≤ 1000 ∧ ∀ a, H1 a = none → sp_init K (.ref a :: ([v] ++ [])) (upd H1 a (exo a C none))
      (fun u H2 => u = .non ∧ ∃ (d : Addr) (fs : List (Str × V)), H2 a = some (exo a C (some d)) ∧ H2 d = some (exd d fs) ∧ H1 d = none ∧ Q (.ref C) (some d) (upd (del H2 a) d (.xd fs))) (fun _ _ _ => False) := by
  refine ⟨by show 1 ≤ 1000; decide, fun a na => ⟨a, C, v, c, rfl, ox, noW, noK, kd, upd_same, fun dx n1 n2 => ⟨rfl, dx, efs c v, upd_same, ?_, ?_, ?_⟩⟩⟩
  · rw [upd_ne n2, upd_same]
  · rw [upd_ne n2] at n1
    exact n1
  · have nd : H1 dx = none := by
      rw [upd_ne n2] at n1
      exact n1
    have e : upd (del (upd (upd (upd H1 a (exo a C none)) dx (exd dx (efs c v))) a (exo a C (some dx))) a) dx (.xd (efs c v)) = upd H1 dx (.xd (efs c v)) := by
      funext b
      by_cases h1 : b = dx
      · rw [h1, upd_same, upd_same]
      · rw [upd_ne h1, upd_ne h1]
        by_cases h2 : b = a
        · rw [h2, del_same, na]
        · rw [del_ne h2, upd_ne h2, upd_ne h1, upd_ne h2]
    rw [e]
    exact h dx nd
section
variable {X : Cx} {n : Nat} {x : Str} {C : Addr} {p pos pos2 : Pos} {e : Expr} {ta : TA} {W : WX}
theorem pmk_err (R : Err X.prog X.w X.K X.mg X.base x C) (hr : Room n X.A) (ha : PA X [e] ta) (hle : 2 ≤ n := by decide) (hg : Gl X x := by rfl)
    (hdb : (x == ("__debug__" : Str)) = false := by decide) (he : starEach (e :: []) X.env = (false, eval e X.env) :: starEach [] X.env := by rfl) (hpl : (backTo pos (starEach [] X.env)).any (·.1) = false := by rfl) :
    PMk X (.Call (.Name x p) [e] [] pos) (tMkO C (sp_init X.K) [] ta) := by
  obtain ⟨fI, fd, iC, tI, F1, hb⟩ := R.ini
  exact pmk_oex (CX := CX0) R.ox iC tI F1 (hr.mono hle) hb .nil pass0 hg R.mgC ha hdb he hpl
/-- raise X(e) -/
theorem ps_err (hc : X.calm = true) (R : Err X.prog X.w X.K X.mg X.base x C) (hr : Room n X.A) (tk : Takes X W) (ha : PA X [e] ta) (hle : 2 ≤ n := by decide) (hg : Gl X x := by rfl)
    (hdb : (x == ("__debug__" : Str)) = false := by decide) (he : starEach (e :: []) X.env = (false, eval e X.env) :: starEach [] X.env := by rfl) (hpl : (backTo pos (starEach [] X.env)).any (·.1) = false := by rfl) :
    PS X (.Raise (some (.Call (.Name x p) [e] [] pos)) none pos2) (fun _ σ H => tMkO C (sp_init X.K) [] ta σ H fun cls d H' => W cls d σ H') := ps_raise hc tk (pmk_err R hr ha hle hg hdb he hpl)
end
/-- Refused.__init__ read -/
theorem init_read {K : PySem.W.Frag} {vs : List V} {H : Hp} {Q : VK} {E : XK} {N : List Str} (h : sp_init K vs H Q E) (hN : N.length = 2) :
    (tSeq (tOst K "what" (tVar 0) (tVar 1)) (tOst K "kind" (tVar 0) (tKind K (tVar 0)))) { nx := fun _ H' => Q .non H', rt := Q } (L2.start N vs) H := by
  obtain ⟨a, C, v, c, rfl, ox, noW, noK, kd, ha, k⟩ := h
  have s0 : (L2.start N [.ref a, v])[0]? = some (some (.ref a)) := rfl
  have s1 : (L2.start N [.ref a, v])[1]? = some (some v) := rfl
  refine ⟨v, s1, .ref a, s0, a, C, rfl, ox, noW, .inl ⟨ha, fun dx n1 n2 => ?_⟩⟩
  have hdx : (upd (upd H dx (exd dx [("what", v)])) a (exo a C (some dx))) dx = some (exd dx [("what", v)]) := by rw [upd_ne n2, upd_same]
  refine ⟨.ref a, s0, a, C, dx, [("what", v)], c, rfl, upd_same, hdx, kd, ox.tyC, .ref a, s0, a, C, rfl, ox, noK, .inr ⟨dx, [("what", v)], upd_same, hdx, by show 1 ≤ 900; decide, ?_⟩⟩
  have e : upd (upd (upd H dx (exd dx [("what", v)])) a (exo a C (some dx))) dx (exd dx (efs c v)) = upd (upd H dx (exd dx (efs c v))) a (exo a C (some dx)) := by
    funext b
    by_cases h1 : b = dx
    · rw [h1, upd_same, upd_ne n2, upd_same]
    · rw [upd_ne h1]
      by_cases h2 : b = a
      · rw [h2, upd_same, upd_same]
      · rw [upd_ne h2, upd_ne h1, upd_ne h2, upd_ne h1]
  show Q .non (upd (upd (upd H dx (exd dx [("what", v)])) a (exo a C (some dx))) dx (exd dx (efs c v)))
  rw [e]
  exact k dx n1 n2
/-- a def that may raise -/
structure CalX (P : Program) (w : World) (K : PySem.W.Frag) (mg : Str → Option Value) (base : Heap) (k : Nat) (x : Str) (ps : List Str) (sp : Sp) : Prop where
  ex : ∃ (f : Addr) (fd : FuncData), FnOk P w K mg base (L2.CX P w) k f fd ps sp ∧ mg x = some (.ref f) ∧ PySem.W.keepIn K (.ref f) = true ∧ Binds K fd ps []
section
variable {X : Cx} {k n : Nat} {x : Str} {ps : List Str} {sp : Sp} {p pos : Pos} {e : Expr} {es : List Expr} {t : TA}
/-- its call where it raises nothing -/
theorem pe_calN (C : CalX X.prog X.w X.K X.mg X.base k x ps sp) (hr : Room n X.A) (ha : PA X (e :: es) t) (hle : k ≤ n := by decide) (hg : Gl X x := by rfl) (hdb : (x == ("__debug__" : Str)) = false := by decide)
    (he : starEach (e :: es) X.env = (false, eval e X.env) :: starEach es X.env := by rfl) (hpl : (backTo pos (starEach es X.env)).any (·.1) = false := by rfl) :
    PE X (.Call (.Name x p) (e :: es) [] pos) (tCall sp [] (fun _ _ _ => False) t) := by
  obtain ⟨f, fd, F, hm, hk, hb⟩ := C.ex
  refine pe_call F (hr.mono hle) hg hm hk hb .nil (fun pins σ H s e s' I z => ?_) ha hdb he hpl
  obtain ⟨_, _, _, _, _, _, _, _, _, _, _, _, z⟩ := z
  exact z.elim
/-- its call where what it raises goes on: in a def that may raise, or within a try -/
theorem pe_calW {W : WX} (C : CalX X.prog X.w X.K X.mg X.base k x ps sp) (hr : Room n X.A) (tk : Takes X W) (ha : PA X (e :: es) t) (hle : k ≤ n := by decide) (hg : Gl X x := by rfl) (hdb : (x == ("__debug__" : Str)) = false := by decide)
    (he : starEach (e :: es) X.env = (false, eval e X.env) :: starEach es X.env := by rfl) (hpl : (backTo pos (starEach es X.env)).any (·.1) = false := by rfl) :
    PE X (.Call (.Name x p) (e :: es) [] pos) (tCallS sp (WE W) t) := by
  obtain ⟨f, fd, F, hm, hk, hb⟩ := C.ex
  exact pe_callS F (hr.mono hle) hg hm hk hb (fun σ => passAt tk σ) ha hdb he hpl
end
end Tw

set_option maxHeartbeats 4000000
namespace Tw
open PySem PySem.Spec PyProof.Rows L2
/-! ### rows: every wagon has its place -/
theorem pigeon : ∀ (n : Nat) (l : List Int), l.Nodup → (∀ x ∈ l, 0 ≤ x ∧ x < (n : Int)) → l.length ≤ n
  | 0, l, _, hb => by
    cases l with
    | nil => exact Nat.le_refl _
    | cons x r =>
      have z := hb x List.mem_cons_self
      omega
  | n + 1, l, nd, hb => by
    by_cases c : (n : Int) ∈ l
    · have h1 := pigeon n (l.erase (n : Int)) (nd.erase _) (fun x hx => by
        have z := (nd.mem_erase_iff).mp hx
        have b := hb x z.2
        have ne := z.1
        omega)
      rw [List.length_erase_of_mem c] at h1
      omega
    · have h1 := pigeon n l nd (fun x hx => by
        have b := hb x hx
        have ne : x ≠ (n : Int) := fun e => c (e ▸ hx)
        omega)
      omega
theorem IsRow.all {ns : List Int} (h : IsRow ns) {w : Nat} (hw : w < ns.length) : (w : Int) ∈ ns := by
  refine Classical.byContradiction fun c => ?_
  have z := pigeon ns.length ((w : Int) :: ns) (List.nodup_cons.mpr ⟨c, h.1⟩) (fun x hx => by
    rcases List.mem_cons.mp hx with e | e
    · rw [e]; omega
    · exact h.2.1 x e)
  rw [List.length_cons] at z
  omega
theorem IsRow.ints {ns : List Int} (h : IsRow ns) {i : Nat} (hi : i < ns.length) : ∃ j : Nat, ns[i] = (j : Int) ∧ j < ns.length := by
  have z := h.2.1 _ (List.getElem_mem hi)
  exact ⟨ns[i].toNat, by omega, by omega⟩
/-- the place of each wagon -/
def placesOf (ns : List Int) : List Int := (List.range ns.length).map fun (w : Nat) => ((ns.idxOf (w : Int) : Nat) : Int)
theorem placesOf_len (ns : List Int) : (placesOf ns).length = ns.length := by simp [placesOf]
theorem idxOf_get {ns : List Int} (nd : ns.Nodup) {i : Nat} (hi : i < ns.length) : ns.idxOf ns[i] = i := by
  have h1 : ns.idxOf ns[i] < ns.length := List.idxOf_lt_length_of_mem (List.getElem_mem hi)
  have h2 : ns[ns.idxOf ns[i]] = ns[i] := List.getElem_idxOf h1
  exact (List.getElem_inj nd).mp h2
theorem placesOf_get {ns : List Int} {w : Nat} (hw : w < ns.length) : (placesOf ns)[w]? = some ((ns.idxOf (w : Int) : Nat) : Int) := by
  simp [placesOf, hw]
theorem placesOf_row {ns : List Int} (h : IsRow ns) : IsRow (placesOf ns) := by
  refine ⟨?_, ?_, by rw [placesOf_len]; exact h.2.2⟩
  · unfold placesOf
    rw [List.nodup_iff_pairwise_ne, List.pairwise_map]
    refine List.Pairwise.imp_of_mem ?_ (List.nodup_iff_pairwise_ne.mp List.nodup_range)
    intro a b ha hb hne e
    have la := List.idxOf_lt_length_of_mem (h.all (List.mem_range.mp ha))
    have lb := List.idxOf_lt_length_of_mem (h.all (List.mem_range.mp hb))
    have e' : ns.idxOf (a : Int) = ns.idxOf (b : Int) := by omega
    have ga : ns[ns.idxOf (a : Int)] = (a : Int) := List.getElem_idxOf la
    have gb : ns[ns.idxOf (b : Int)] = (b : Int) := List.getElem_idxOf lb
    have : (a : Int) = (b : Int) := by
      rw [← ga, ← gb]
      congr 1
    exact hne (by omega)
  · intro x hx
    unfold placesOf at hx
    obtain ⟨w, hw, rfl⟩ := List.mem_map.mp hx
    have l := List.idxOf_lt_length_of_mem (h.all (List.mem_range.mp hw))
    rw [placesOf_len]
    omega
theorem placesOf_at {ns : List Int} (h : IsRow ns) {p : Nat} (hp : p < ns.length) : (placesOf ns)[ns[p].toNat]? = some (p : Int) := by
  obtain ⟨j, ej, hj⟩ := h.ints hp
  have : ns[p].toNat = j := by omega
  rw [this, placesOf_get hj, ← ej, idxOf_get h.1 hp]
theorem placesOf_uniq {ns L : List Int} (h : IsRow ns) (hl : L.length = ns.length) (ha : ∀ p (hp : p < ns.length), L[ns[p].toNat]? = some (p : Int)) : L = placesOf ns := by
  apply List.ext_getElem?
  intro w
  by_cases hw : w < ns.length
  · obtain ⟨p, hp, e⟩ := List.getElem_of_mem (h.all hw)
    have h1 := ha p hp
    have h2 := placesOf_at h hp
    have ew : ns[p].toNat = w := by omega
    rw [ew] at h1 h2
    rw [h1, h2]
  · rw [List.getElem?_eq_none (by omega), List.getElem?_eq_none (by rw [placesOf_len]; omega)]
theorem placesOf_twice {ns : List Int} (h : IsRow ns) : placesOf (placesOf ns) = ns := by
  symm
  refine placesOf_uniq (placesOf_row h) (placesOf_len ns).symm fun p hp => ?_
  rw [placesOf_len] at hp
  have e := placesOf_get hp
  have e' : (placesOf ns)[p]'(by rw [placesOf_len]; exact hp) = ((ns.idxOf (p : Int) : Nat) : Int) := by
    rw [List.getElem?_eq_getElem (by rw [placesOf_len]; exact hp)] at e
    exact Option.some.inj e
  rw [e']
  have l := List.idxOf_lt_length_of_mem (h.all hp)
  rw [Int.toNat_natCast, List.getElem?_eq_getElem l, List.getElem_idxOf l]
/-- what stands behind i steps of «found[wagon] = place» -/
def PutOk (ns L : List Int) (i : Nat) : Prop := L.length = ns.length ∧ ∀ p (hp : p < ns.length), p < i → L[ns[p].toNat]? = some (p : Int)
theorem putOk_step {ns L : List Int} (h : IsRow ns) {i j : Nat} (hi : i < ns.length) (ej : ns[i] = (j : Int)) (p : PutOk ns L i) : PutOk ns (L.set j (i : Int)) (i + 1) := by
  refine ⟨by rw [List.length_set]; exact p.1, fun q hq hqi => ?_⟩
  obtain ⟨j', ej', hj'⟩ := h.ints hi
  have hj : j < ns.length := by omega
  by_cases c : q = i
  · subst c
    have : ns[q].toNat = j := by omega
    rw [this, List.getElem?_set_self (by rw [p.1]; exact hj)]
  · have ne : j ≠ ns[q].toNat := fun e => by
      obtain ⟨k, ek, _⟩ := h.ints hq
      have : ns[q] = ns[i] := by omega
      exact c ((List.getElem_inj h.1).mp this)
    rw [List.getElem?_set_ne ne]
    exact p.2 q hq (by omega)
theorem putOk_done {ns L : List Int} (h : IsRow ns) (p : PutOk ns L ns.length) : L = placesOf ns := placesOf_uniq h p.1 fun q hq => p.2 q hq hq
theorem range_row {n : Nat} (hn : n ≤ 400) : IsRow ((List.range n).map fun (j : Nat) => (j : Int)) := by
  refine ⟨?_, ?_, by simpa using hn⟩
  · rw [List.nodup_iff_pairwise_ne, List.pairwise_map]
    exact List.Pairwise.imp (fun h e => h (by omega)) (List.nodup_iff_pairwise_ne.mp List.nodup_range)
  · intro x hx
    obtain ⟨j, hj, rfl⟩ := List.mem_map.mp hx
    have := List.mem_range.mp hj
    simp only [List.length_map, List.length_range]
    omega
theorem IsRow.perm {ns ms : List Int} (h : IsRow ns) (p : ms.Perm ns) : IsRow ms :=
  ⟨p.nodup_iff.mpr h.1, fun x hx => by rw [p.length_eq]; exact h.2.1 x (p.mem_iff.mp hx), by rw [p.length_eq]; exact h.2.2⟩
theorem eraseIdx_mapI : ∀ (L : List Int) (j : Nat), (L.map V.int).eraseIdx j = (L.eraseIdx j).map V.int
  | [], _ => rfl
  | _ :: _, 0 => rfl
  | x :: r, j + 1 => by
    show V.int x :: (r.map V.int).eraseIdx j = V.int x :: (r.eraseIdx j).map V.int
    rw [eraseIdx_mapI r j]
theorem perm_eraseIdx : ∀ (L : List Int) (j : Nat) (h : j < L.length), L.Perm (L[j] :: L.eraseIdx j)
  | x :: r, 0, _ => .refl _
  | x :: r, j + 1, h => by
    have h2 : j < r.length := Nat.lt_of_succ_lt_succ h
    have ih := perm_eraseIdx r j h2
    show (x :: r).Perm (r[j] :: x :: r.eraseIdx j)
    exact (ih.cons x).trans (.swap _ _ _)
theorem swap_row {L : List Int} (h : IsRow L) {i j : Nat} (hi : i < L.length) (hj : j < L.length) : IsRow ((L.set i L[j]).set j L[i]) := by
  have len : ((L.set i L[j]).set j L[i]).length = L.length := by rw [List.length_set, List.length_set]
  have get : ∀ a (ha : a < ((L.set i L[j]).set j L[i]).length), ∃ b, ∃ hb : b < L.length, ((L.set i L[j]).set j L[i])[a] = L[b] ∧ b = (if a = j then i else if a = i then j else a) := fun a ha => by
    rw [List.getElem_set]
    by_cases c : a = j
    · exact ⟨i, hi, by rw [if_pos c.symm], by rw [if_pos c]⟩
    · rw [List.getElem_set]
      by_cases d : a = i
      · exact ⟨j, hj, by rw [if_neg (Ne.symm c), if_pos d.symm], by rw [if_neg c, if_pos d]⟩
      · exact ⟨a, by omega, by rw [if_neg (Ne.symm c), if_neg (Ne.symm d)], by rw [if_neg c, if_neg d]⟩
  refine ⟨?_, fun x hx => ?_, by rw [len]; exact h.2.2⟩
  · rw [List.nodup_iff_pairwise_ne, List.pairwise_iff_getElem]
    intro a b ha hb hab e
    obtain ⟨a', ha', ea, fa⟩ := get a ha
    obtain ⟨b', hb', eb, fb⟩ := get b hb
    have e2 : L[a'] = L[b'] := by rw [← ea, ← eb]; exact e
    have e3 := (List.getElem_inj h.1).mp e2
    rw [fa, fb] at e3
    split at e3 <;> split at e3 <;> (try split at e3) <;> (try split at e3) <;> omega
  · obtain ⟨a, ha, e⟩ := List.getElem_of_mem hx
    obtain ⟨b, hb, e2, _⟩ := get a ha
    rw [len, ← e, e2]
    exact h.2.1 _ (List.getElem_mem hb)
theorem rev_row {L : List Int} (h : IsRow L) : IsRow L.reverse := h.perm (List.reverse_perm L)
/-- 0, 1, .. -/
def rgI (n : Nat) : List Int := (List.range n).map fun (j : Nat) => (j : Int)
theorem rgI_len (n : Nat) : (rgI n).length = n := by simp [rgI]
theorem rgI_get {n i : Nat} (h : i < n) : (rgI n)[i]? = some (i : Int) := by simp [rgI, h]
theorem rgV_I (n : Nat) : rgV 0 (n : Int) = (rgI n).map V.int := by
  unfold rgV rgI
  rw [List.map_map, show ((n : Int) - 0).toNat = n by omega]
  apply List.map_congr_left
  intro j _
  show V.int (0 + (j : Int)) = V.int (j : Int)
  rw [Int.zero_add]
theorem rgI_row {n : Nat} (hn : n ≤ 400) : IsRow (rgI n) := range_row hn
theorem ixN_nat {n j : Nat} (hj : j < n) : ixN n (j : Int) = some j := by
  unfold ixN
  rw [if_pos (by omega), if_pos (by omega)]; simp
theorem seqIndex_nat {n j : Nat} (hj : j < n) : seqIndex? (j : Int) n = some j := by
  unfold seqIndex?
  have h0 : ¬ ((j : Int) < 0) := by omega
  have h1 : (j : Int) < (n : Int) := by omega
  have h2 : (0 : Int) ≤ (j : Int) := by omega
  simp [h0, h1, h2]
end Tw

set_option maxHeartbeats 4000000
namespace Tw
open PySem PySem.Spec PyProof.Rows L2
/-! ### tuples whose object is known to have no dict of its own: their methods may be called -/
def TupD (H : Hp) (p : Addr) (xs : List V) : Prop := ∃ o : Obj, o.dict = none ∧ o.cls = .type "tuple" ∧ H p = some (.frz o (.tup xs))
theorem TupD.new {H : Hp} {l : Addr} {ys : List V} {o : Obj} (od : o.dict = none) (oc : o.cls = .type "tuple") : TupD (upd H l (.frz o (.tup ys))) l ys := ⟨o, od, oc, upd_same⟩
theorem TupD.seqT {K : PySem.W.Frag} {H : Hp} {p : Addr} {xs : List V} (h : TupD H p xs) : SqT K H p xs := by
  obtain ⟨o, _, _, e⟩ := h
  exact .inl (.inr ⟨o, e⟩)
theorem TupD.same {H H' : Hp} {p : Addr} {xs : List V} (h : TupD H p xs) (s : ∀ o, H p = some o → H' p = some o) : TupD H' p xs := by
  obtain ⟨o, od, oc, e⟩ := h
  exact ⟨o, od, oc, s _ e⟩
theorem TupD.has {H : Hp} {p : Addr} {xs : List V} (h : TupD H p xs) : ∃ u, H p = some u := by
  obtain ⟨o, od, oc, e⟩ := h
  exact ⟨_, e⟩
theorem TupD.ne {H : Hp} {p q : Addr} {xs : List V} (h : TupD H p xs) (n : H q = none) : p ≠ q := by
  obtain ⟨o, e⟩ := h.has
  exact ne_of_none e n
theorem TupD.upd {H : Hp} {p q : Addr} {xs : List V} {u : HO} (h : TupD H p xs) (n : p ≠ q) : TupD (upd H q u) p xs := h.same fun o e => by rw [upd_ne n]; exact e
section
variable {X : Cx}
/-- tuple(xs) of a list -/
def rTupF (K : PySem.W.Frag) : List V → Hp → VK → Prop := fun xs H Q => ∃ (p : Addr) (ys : List V), xs = [.ref p] ∧ SqL K H p ys ∧ ∀ (l : Addr) (o : Obj), H l = none → o.dict = none → o.cls = .type "tuple" → Q (.ref l) (upd H l (.frz o (.tup ys)))
theorem call_tupF : CallR X (.type "tuple") (rTupF X.K) := by
  intro pins s σ H xs us Q I r h
  obtain ⟨p, ys, rfl, hq, q⟩ := h
  obtain ⟨u, rfl, rx⟩ := vals1 r
  cases rx
  obtain ⟨its, rv, pl, hz⟩ := I.list hq
  have hlen := rv.length
  refine call_tuple_list pl.isList (fun h' kp => ?_) (by simp only [List.size_toArray] <;> omega)
  have J1 : Inv X pins σ H { s with heap := h' } := I.kept (t' := s.toks) kp
  have J2 : Inv X pins σ (upd H h'.objs.size (.frz { cls := .type "tuple", data := .seq its.toArray } (.tup ys))) { s with heap := h'.push { cls := .type "tuple", data := .seq its.toArray } } :=
    J1.laid (t' := s.toks) (fun b o e => Heap.get?_push_of_some _ e) (Nat.le_refl _) ⟨Heap.get?_push_size _ rfl, hz, its, rv, IsTup.new _ _⟩
  exact ⟨.ref h'.objs.size, _, J2, rfl, q _ _ (J1.hok.fresh (Nat.le_refl _)) rfl rfl⟩
variable {o e : Expr} {es : List Expr} {to : TE} {t : TA} {name : Str} {apos cpos : Pos} {id : String} {r : V → List V → Hp → VK → Prop}
/-- o.m(e, ..), o such a tuple -/
def tBMT (r : V → List V → Hp → VK → Prop) (to : TE) (t : TA) : TE := fun σ H Q => to σ H fun x H1 => (∃ p xs, x = .ref p ∧ TupD H1 p xs) ∧ t σ H1 fun vs H2 => r x vs H2 Q
theorem pe_bmT (slot : Slot "tuple" name id) (hty : typeOf (.builtin id) = pure (.type "method_descriptor")) (hm : MtR X id r) (ho : PE X o to) (ha : PA X (e :: es) t)
    (hbase : attributeBase o name X.env (eval o X.env) = eval o X.env := by rfl)
    (hfew : ((backTo cpos (starEach (e :: es) X.env)).all (fun x => !x.1) && (backToKw cpos (keywordEach [] X.env)).all (fun x => x.1.isSome) && decide ((e :: es).length + ([] : List Keyword).length + (if ([] : List Keyword).isEmpty then 0 else 1) < 30)) = true := by rfl)
    (hline : (apos.endLine == cpos.line) = true := by rfl) (hs : starEach (e :: es) X.env = (false, eval e X.env) :: starEach es X.env := by rfl) (hplain : (backTo cpos (starEach es X.env)).any (·.1) = false := by rfl) :
    PE X (.Call (.Attribute o name apos) (e :: es) [] cpos) (tBMT r to t) := by
  refine ⟨fun pins s σ H Q I h => ?_⟩
  refine wpAny_Call_method_late hbase hfew hline rfl (thn (ho.run pins s σ H _ I h) fun v s1 ⟨x, H1, I1, r1, ty, q1⟩ => ?_)
  obtain ⟨p, xs, rfl, ob, od, oc, ep⟩ := ty
  cases r1
  obtain ⟨eg, _⟩ := I1.hok p _ ep
  refine ⟨"tuple", id, PySem.F.plainAttrs_tuple, slot, hty, ⟨ob, eg, oc⟩, fun a ea => by cases ea; exact ⟨ob, eg, od⟩, ?_⟩
  have hA := ha.run cpos pins s1 σ H1 _ I1 q1
  rw [hs] at hA ⊢
  refine Calls.callWith_builtin (by show (false || (backTo cpos (starEach es X.env)).any (·.1)) = false; rw [hplain] <;> rfl) (Calls.evalArgs_plain ?_)
  exact thn hA fun us s2 ⟨vs, H2, I2, r2, q2⟩ => hm pins s2 σ H2 (.ref p) vs (.ref p) us Q I2 rfl r2 q2
end
/-- (e, ..), the tuple's object known -/
def tTupD (t : TA) : TE := fun σ H Q => t σ H fun xs H1 => xs.length ≤ sizeLine ∧ ∀ (p : Addr) (o : Obj), H1 p = none → o.dict = none → o.cls = .type "tuple" → Q (.ref p) (L2.upd H1 p (.frz o (.tup xs)))
section
variable {X : Cx}
theorem pe_tupD {es : List Expr} {t : TA} {k : Nat} {pos : Pos} (ha : PA X es t) : PE X (.Tuple es k pos) (tTupD t) := by
  refine ⟨fun pins s σ H Q I hq => ?_⟩
  refine wpAny_Tuple_spliced (thn (ha.run pos pins s σ H _ I hq) fun us s1 ⟨ys, H1, I1, rv, sz, q⟩ => ⟨by rw [← rv.length]; exact sz, ?_⟩)
  have free := I1.hok.fresh (Nat.le_refl s1.heap.objs.size)
  refine ⟨.ref s1.heap.objs.size, L2.upd H1 s1.heap.objs.size (.frz { cls := .type "tuple", data := .seq us.toArray } (.tup ys)), I1.laid (t' := s1.toks) (fun b u z => Heap.get?_push_of_some _ z) (Nat.le_refl _) ?_, rfl, q _ _ free rfl rfl⟩
  exact ⟨Heap.get?_push_size _ rfl, sz, us, rv, ⟨_, Heap.get?_push_size _ rfl, rfl, _, rfl⟩⟩
end
/-! ### t.index(n), t a tuple of ints -/
theorem flat_intsV (ns : List Int) : (ns.map V.int).all flatV = true := by
  rw [List.all_map]
  exact List.all_eq_true.mpr fun _ _ => rfl
section
variable {X : Cx}
def rTupIdx (K : PySem.W.Frag) : V → List V → Hp → VK → Prop := fun x xs H Q => ∃ (p : Addr) (ns : List Int) (z : Int) (j : Nat), x = .ref p ∧ xs = [.int z] ∧ SqT K H p (ns.map V.int) ∧ ns[j]? = some z ∧ (∀ m, m < j → ns[m]? ≠ some z) ∧ Q (.int (j : Nat)) H
theorem mt_tupIdx : MtR X "tuple.index" (rTupIdx X.K) := by
  intro pins s σ H x xs v us Q I rx rs h
  obtain ⟨p, ns, z, j, rfl, rfl, hq, hy, hno, q⟩ := h
  cases rx
  obtain ⟨u, rfl, ru⟩ := vals1 rs
  obtain ⟨its, rv, pl, hz⟩ := I.tuple hq
  obtain ⟨⟨cls, dd, dt, sl⟩, ho, hc, n, hd⟩ := pl
  simp only at hc hd
  subst hc hd
  have hlen := rv.length
  have itemAt : ∀ (m : Nat) (hm : m < its.toArray.size), ∃ (y : Int) (t : Tok), ns[m]? = some y ∧ its.toArray[m] = Value.int y t := fun m hm => by
    have hm2 : m < its.length := by simpa using hm
    have hm3 : m < ns.length := by
      rw [List.length_map] at hlen
      omega
    obtain ⟨w2, hw2, t, hw3⟩ := rv.get (i := m) (x := .int ns[m]) (by simp [hm3])
    have e3 := (List.getElem?_eq_some_iff.mp hw2).2
    refine ⟨ns[m], t, List.getElem?_eq_getElem hm3, ?_⟩
    rw [← hw3, ← e3]
    simp
  have hj : j < its.toArray.size := by
    have z1 := (List.getElem?_eq_some_iff.mp hy).1
    rw [List.length_map] at hlen
    simpa [← hlen] using z1
  refine call_meets PySem.F.slot_tuple_index ⟨_, ho, rfl⟩ PySem.F.entry_tuple_index (PySem.F.args_tuple_index_2 _ _) (TI.tuple_indexAt p its.toArray n dd sl u (eqU (.int z)) j hj ?_ ?_) ⟨ho, fun w2 hw2 => mem_eqAt (x := .int z) ru rfl rv (flat_intsV ns) w2 (by simpa using hw2), ⟨.int (j : Nat), H, I.tok _, ⟨_, rfl⟩, q⟩⟩
  · obtain ⟨y, t, h1, h2⟩ := itemAt j hj
    rw [hy] at h1
    cases h1
    rw [h2]
    show (z == z) = true
    exact beq_self_eq_true z
  · intro m hm hmj
    obtain ⟨y, t, h1, h2⟩ := itemAt m hm
    rw [h2]
    show (y == z) = false
    exact beq_eq_false_iff_ne.mpr fun e => hno m hmj (e ▸ h1)
end
end Tw

set_option maxHeartbeats 4000000
namespace Tw
open PySem PySem.Spec PyProof.Rows L2
theorem walk_zipT {K : PySem.W.Frag} {a b : Addr} {xs ys : List V} {n : Nat} (hn : n = min xs.length ys.length) : Walk (RZ.ItzT K a b) n (fun H => SqT K H a xs ∧ SqT K H b ys) (YPair (fun i => xs[i]?) (fun i => ys[i]?)) where
  goes := fun i H hi q => by
    have h1 : i < xs.length := by omega
    have h2 : i < ys.length := by omega
    exact ⟨xs, ys, xs[i], ys[i], q.1, q.2, List.getElem?_eq_getElem h1, List.getElem?_eq_getElem h2⟩
  stops := fun H q => ⟨xs, ys, q.1, q.2, by omega⟩
  yields := fun i H x H' hi q y => by
    obtain ⟨T, u, v, e1, e2, e3, f1, f2⟩ := y
    exact ⟨T, u, v, e1, e2, e3, f1 xs q.1, f2 ys q.2⟩
theorem cut_tail (xs : List V) : cutV xs (some 1) none = xs.drop 1 := by
  unfold cutV
  rw [show HT.sIx xs.length 0 (some 1) = min 1 xs.length from HT.sIx_nat xs.length 0 1, HT.sIx_none]
  cases xs with
  | nil => rfl
  | cons x r =>
    rw [show min 1 (x :: r).length = 1 by rw [List.length_cons]; omega]
    show (List.take ((x :: r).length - 1) r) = r
    rw [List.length_cons, Nat.add_sub_cancel]
    exact List.take_length
section
variable {X : Cx}
/-- t[i:j] of a tuple, the same one or a new one -/
def rSlU (K : PySem.W.Frag) : V → Option Int → Option Int → Hp → VK → Prop := fun x lo hi H Q => ∃ (a : Addr) (xs : List V), x = .ref a ∧ SqT K H a xs ∧ ∀ (p : Addr) (H' : Hp), Same H H' → SqT K H' p (cutV xs lo hi) → Q (.ref p) H'
theorem sl_tupU : SlR X (rSlU X.K) := by
  intro pins s σ H x v vl vu lo hi sl Q I rx hs pl pu h
  obtain ⟨a, xs, rfl, hq, q⟩ := h
  refine sl_tupA pins s σ H _ v vl vu lo hi sl Q I rx hs pl pu ⟨a, xs, rfl, hq, fun w => q a H (Same.refl H) ?_, fun _ p np => q p _ (same_upd np) (.inl (.inl upd_same))⟩
  have e : cutV xs lo hi = xs := by
    unfold cutV
    rw [w.1, w.2, List.drop_zero, Nat.sub_zero, List.take_length]
  rw [e]
  exact hq
/-- t + u of tuples -/
def rCatU (K : PySem.W.Frag) : R2 := fun x y H Q => ∃ (a b : Addr) (xs ys : List V), x = .ref a ∧ y = .ref b ∧ SqT K H a xs ∧ SqT K H b ys ∧ xs.length + ys.length ≤ sizeLine ∧ ∀ (p : Addr) (H' : Hp), Same H H' → SqT K H' p (xs ++ ys) → Q (.ref p) H'
theorem op_catU : OpR X (binaryOp .Add) (rCatU X.K) := by
  intro pins s σ H x y v u Q I rx ry h
  obtain ⟨a, b, xs, ys, rfl, rfl, ha, hb, hz, q⟩ := h
  refine op_catA pins s σ H _ _ v u Q I rx ry ⟨a, b, xs, ys, rfl, rfl, ha, hb, hz, fun e => q b H (Same.refl H) (by rw [e]; exact hb), fun _ e => q a H (Same.refl H) (by rw [e, List.append_nil]; exact ha), fun _ _ p np => q p _ (same_upd np) (.inl (.inl upd_same))⟩
end
/-! ### rising -/
def stepsUp (ns : List Int) (i : Nat) : Prop := ∀ j, j < i → ∀ (h : j + 1 < ns.length), ns[j] < ns[j + 1]
theorem up_iff (ns : List Int) : stepsUp ns (ns.length - 1) ↔ ns.Pairwise (· < ·) := by
  constructor
  · intro h
    rw [List.pairwise_iff_getElem]
    have key : ∀ d i (hi : i + d + 1 < ns.length), ns[i] < ns[i + d + 1] := fun d => by
      induction d with
      | zero => intro i hi; exact h i (by omega) hi
      | succ d ih =>
        intro i hi
        have h1 := ih i (by omega)
        have h2 := h (i + d + 1) (by omega) hi
        show ns[i] < ns[i + d + 1 + 1]
        omega
    intro i j hi hj hij
    have := key (j - i - 1) i (by omega)
    have e : i + (j - i - 1) + 1 = j := by omega
    simp only [e] at this
    exact this
  · intro h j hj hl
    exact (List.pairwise_iff_getElem.mp h) j (j + 1) (by omega) hl (Nat.lt_succ_self j)
end Tw

set_option maxHeartbeats 4000000
namespace Tw
open PySem PySem.Spec PyProof.Rows L2
/-! ### layers of a row, by two words: the wagons of a layer rise; ahead of each wagon of a layer above 0 stands a greater one of the layer before -/
structure LayOk (ns : List Int) (ls : List Nat) : Prop where
  len : ls.length = ns.length
  rise : ∀ (i j : Nat) (hi : i < ns.length) (hj : j < ns.length), i < j → ls[i]? = ls[j]? → ns[i] < ns[j]
  above : ∀ (j c : Nat) (hj : j < ns.length), ls[j]? = some (c + 1) → ∃ i, ∃ hi : i < ns.length, i < j ∧ ls[i]? = some c ∧ ns[j] < ns[i]
/-- while the row is gone through: the last wagon of each layer -/
structure Tops (ns : List Int) (ls : List Nat) (T : List Int) (i : Nat) : Prop where
  len : ls.length = i
  le : i ≤ ns.length
  rise : ∀ (a b : Nat) (ha : a < ns.length) (hb : b < ns.length), a < b → b < i → ls[a]? = ls[b]? → ns[a] < ns[b]
  above : ∀ (b c : Nat) (hb : b < ns.length), b < i → ls[b]? = some (c + 1) → ∃ a, ∃ ha : a < ns.length, a < b ∧ ls[a]? = some c ∧ ns[b] < ns[a]
  dec : T.Pairwise (· > ·)
  low : ∀ (a l : Nat), ls[a]? = some l → l < T.length
  top : ∀ (c : Nat) (hc : c < T.length), ∃ a, ∃ ha : a < ns.length, a < i ∧ ls[a]? = some c ∧ ns[a] = T[c]
  most : ∀ (a c : Nat) (ha : a < ns.length) (hc : c < T.length), ls[a]? = some c → ns[a] ≤ T[c]
theorem tops_nil (ns : List Int) : Tops ns [] [] 0 :=
  ⟨rfl, Nat.zero_le _, fun _ _ _ _ _ h => absurd h (Nat.not_lt_zero _), fun _ _ _ h => absurd h (Nat.not_lt_zero _), .nil, fun a l h => by simp at h, fun c hc => absurd hc (Nat.not_lt_zero _), fun _ _ _ hc => absurd hc (Nat.not_lt_zero _)⟩
theorem cut_dec (w : Int) : ∀ T : List Int, T.Pairwise (· > ·) → ∀ c (hc : c < T.length), w < T[c] ↔ c < (T.filter fun t => decide (w < t)).length
  | [], _, c, hc => absurd hc (Nat.not_lt_zero _)
  | t :: r, h, c, hc => by
    rw [List.pairwise_cons] at h
    by_cases d : w < t
    · rw [List.filter_cons_of_pos (by simpa using d), List.length_cons]
      cases c with
      | zero => exact ⟨fun _ => Nat.succ_pos _, fun _ => d⟩
      | succ c =>
        have hc' : c < r.length := Nat.lt_of_succ_lt_succ hc
        have ih := cut_dec w r h.2 c hc'
        show w < r[c] ↔ c + 1 < _
        rw [ih]
        omega
    · have e : (t :: r).filter (fun t => decide (w < t)) = [] := by
        rw [List.filter_eq_nil_iff]
        intro x hx
        rcases List.mem_cons.mp hx with q | q
        · rw [q]; simpa using d
        · have := h.1 x q
          simp only [decide_eq_true_eq]
          omega
      rw [e]
      constructor
      · intro z
        have : (t :: r)[c] ∈ t :: r := List.getElem_mem hc
        rcases List.mem_cons.mp this with q | q
        · rw [q] at z; exact absurd z d
        · have := h.1 _ q
          omega
      · intro z; exact absurd z (Nat.not_lt_zero _)
/-- one wagon more -/
theorem tops_step {ns : List Int} (nd : ns.Nodup) {ls : List Nat} {T : List Int} {i : Nat} (h : Tops ns ls T i) (hi : i < ns.length) :
    Tops ns (ls ++ [(T.filter fun t => decide (ns[i] < t)).length]) (if (T.filter fun t => decide (ns[i] < t)).length = T.length then T ++ [ns[i]] else T.set (T.filter fun t => decide (ns[i] < t)).length ns[i]) (i + 1) := by
  have cut := cut_dec ns[i] T h.dec
  have hL : (T.filter fun t => decide (ns[i] < t)).length ≤ T.length := List.length_filter_le ..
  generalize eL : (T.filter fun t => decide (ns[i] < t)).length = L at cut hL ⊢
  have old : ∀ a, a < i → (ls ++ [L])[a]? = ls[a]? := fun a ha => List.getElem?_append_left (by rw [h.len]; exact ha)
  have new : (ls ++ [L])[i]? = some L := by rw [List.getElem?_append_right (by rw [h.len]; exact Nat.le_refl _), h.len, Nat.sub_self]; rfl
  have lt_of : ∀ {a l : Nat}, ls[a]? = some l → a < i := fun {a l} e => by
    have := (List.getElem?_eq_some_iff.mp e).1
    rw [h.len] at this; exact this
  have lelen : ∀ {a l : Nat}, (ls ++ [L])[a]? = some l → (a < i ∧ ls[a]? = some l) ∨ (a = i ∧ l = L) := fun {a l} e => by
    have z := (List.getElem?_eq_some_iff.mp e).1
    rw [List.length_append, h.len] at z
    simp only [List.length_singleton] at z
    by_cases c : a < i
    · rw [old a c] at e; exact .inl ⟨c, e⟩
    · have : a = i := by omega
      subst this
      rw [new] at e
      exact .inr ⟨rfl, (Option.some.inj e).symm⟩
  have decI := List.pairwise_iff_getElem.mp h.dec
  have ne_top : ∀ c (hc : c < T.length), T[c] ≠ ns[i] := fun c hc e => by
    obtain ⟨a, ha, hai, _, ea⟩ := h.top c hc
    have : ns[a] = ns[i] := by rw [ea, e]
    have := (List.getElem_inj nd).mp this
    omega
  have get : ∀ c, c < (if L = T.length then T ++ [ns[i]] else T.set L ns[i]).length → (if L = T.length then T ++ [ns[i]] else T.set L ns[i])[c]? = if c = L then some ns[i] else T[c]? := fun c hc => by
    by_cases e : L = T.length
    · rw [if_pos e] at hc ⊢
      rw [List.length_append, List.length_singleton] at hc
      by_cases d : c = L
      · rw [if_pos d, d, e, List.getElem?_append_right (Nat.le_refl _), Nat.sub_self]; rfl
      · rw [if_neg d, List.getElem?_append_left (by omega)]
    · rw [if_neg e] at hc ⊢
      rw [List.length_set] at hc
      by_cases d : c = L
      · rw [if_pos d, d, List.getElem?_set_self (by omega)]
      · rw [if_neg d, List.getElem?_set_ne (Ne.symm d)]
  have len' : (if L = T.length then T ++ [ns[i]] else T.set L ns[i]).length = max T.length (L + 1) := by
    by_cases e : L = T.length
    · rw [if_pos e, List.length_append, List.length_singleton]; omega
    · rw [if_neg e, List.length_set]; omega
  generalize (if L = T.length then T ++ [ns[i]] else T.set L ns[i]) = T' at get len' ⊢
  have get' : ∀ c (hc : c < T'.length), (c = L ∧ T'[c] = ns[i]) ∨ (c ≠ L ∧ ∃ hT : c < T.length, T'[c] = T[c]) := fun c hc => by
    have z := get c hc
    rw [List.getElem?_eq_getElem hc] at z
    by_cases d : c = L
    · rw [if_pos d] at z; exact .inl ⟨d, Option.some.inj z⟩
    · rw [if_neg d] at z
      obtain ⟨hT, e⟩ := List.getElem?_eq_some_iff.mp z.symm
      exact .inr ⟨d, hT, e.symm⟩
  refine ⟨by rw [List.length_append, h.len]; rfl, hi, ?_, ?_, ?_, ?_, ?_, ?_⟩
  · intro a b ha hb hab hbi e
    by_cases c : b < i
    · rw [old a (by omega), old b c] at e
      exact h.rise a b ha hb hab c e
    · have eb : b = i := by omega
      subst eb
      rw [new, old a hab] at e
      have hLT := h.low a L e
      have m := h.most a L ha hLT e
      have nc : ¬ ns[b] < T[L] := fun z => absurd ((cut L hLT).mp z) (Nat.lt_irrefl _)
      have := ne_top L hLT
      omega
  · intro b c hb hbi e
    rcases lelen e with ⟨c1, e1⟩ | ⟨c1, e1⟩
    · obtain ⟨a, ha, hab, ea, en⟩ := h.above b c hb c1 e1
      exact ⟨a, ha, hab, by rw [old a (by omega)]; exact ea, en⟩
    · subst c1
      have hcT : c < T.length := by omega
      obtain ⟨a, ha, hai, ea, en⟩ := h.top c hcT
      refine ⟨a, ha, hai, by rw [old a hai]; exact ea, ?_⟩
      rw [en]
      exact (cut c hcT).mpr (by omega)
  · rw [List.pairwise_iff_getElem]
    intro a b ha hb hab
    rcases get' a ha with ⟨ea, va⟩ | ⟨ea, hTa, va⟩ <;> rcases get' b hb with ⟨eb, vb⟩ | ⟨eb, hTb, vb⟩
    · omega
    · rw [va, vb]
      have nc : ¬ ns[i] < T[b] := fun z => by
        have := (cut b hTb).mp z
        omega
      have := ne_top b hTb
      omega
    · rw [va, vb]
      exact (cut a hTa).mpr (by omega)
    · rw [va, vb]
      exact decI a b hTa hTb hab
  · intro a l e
    rw [len']
    rcases lelen e with ⟨_, e1⟩ | ⟨_, e1⟩
    · have := h.low a l e1
      omega
    · omega
  · intro c hc
    rcases get' c hc with ⟨ec, vc⟩ | ⟨ec, hT, vc⟩
    · exact ⟨i, hi, Nat.lt_succ_self i, by rw [new, ec], vc.symm⟩
    · obtain ⟨a, ha, hai, ea, en⟩ := h.top c hT
      exact ⟨a, ha, Nat.lt_succ_of_lt hai, by rw [old a hai]; exact ea, by rw [vc]; exact en⟩
  · intro a c ha hc e
    rcases lelen e with ⟨c1, e1⟩ | ⟨c1, e1⟩
    · rcases get' c hc with ⟨ec, vc⟩ | ⟨ec, hT, vc⟩
      · rw [vc]
        have hLT := h.low a c e1
        have m := h.most a c ha hLT e1
        have nc : ¬ ns[i] < T[c] := fun z => by
          have := (cut c hLT).mp z
          omega
        omega
      · rw [vc]; exact h.most a c ha hT e1
    · subst c1
      rcases get' c hc with ⟨ec, vc⟩ | ⟨ec, hT, vc⟩
      · omega
      · exact absurd e1 ec
/-- layers(row), step by step: the layers so far, the tops -/
def layStep (s : List Nat × List Int) (w : Int) : List Nat × List Int :=
  (s.1 ++ [(s.2.filter fun t => decide (w < t)).length], if (s.2.filter fun t => decide (w < t)).length = s.2.length then s.2 ++ [w] else s.2.set (s.2.filter fun t => decide (w < t)).length w)
def layAt (ns : List Int) (i : Nat) : List Nat × List Int := (ns.take i).foldl layStep ([], [])
def layF (ns : List Int) : List Nat := (layAt ns ns.length).1
theorem layAt_succ {ns : List Int} {i : Nat} (hi : i < ns.length) : layAt ns (i + 1) = layStep (layAt ns i) ns[i] := by
  unfold layAt
  rw [List.take_add_one, List.getElem?_eq_getElem hi, List.foldl_append]
  rfl
theorem layAt_tops {ns : List Int} (nd : ns.Nodup) : ∀ i, i ≤ ns.length → Tops ns (layAt ns i).1 (layAt ns i).2 i
  | 0, _ => tops_nil ns
  | i + 1, h => by
    rw [layAt_succ h]
    exact tops_step nd (layAt_tops nd i (Nat.le_of_succ_le h)) h
theorem layAt_len {ns : List Int} (nd : ns.Nodup) {i : Nat} (hi : i ≤ ns.length) : (layAt ns i).2.length ≤ i := by
  have h := layAt_tops nd i hi
  have key : ∀ j, j ≤ i → j ≤ ns.length → (layAt ns j).2.length ≤ j := fun j => by
    induction j with
    | zero => intro _ _; exact Nat.le_refl _
    | succ j ih =>
      intro h1 h2
      rw [layAt_succ h2]
      unfold layStep
      dsimp only
      split
      · rw [List.length_append, List.length_singleton]
        have := ih (by omega) (by omega)
        omega
      · rw [List.length_set]
        have := ih (by omega) (by omega)
        omega
  exact key i (Nat.le_refl _) hi
theorem tops_done {ns : List Int} {ls : List Nat} {T : List Int} (h : Tops ns ls T ns.length) : LayOk ns ls :=
  ⟨h.len, fun i j hi hj hij e => h.rise i j hi hj hij hj e, fun j c hj e => h.above j c hj hj e⟩
theorem layF_ok {ns : List Int} (nd : ns.Nodup) : LayOk ns (layF ns) := tops_done (layAt_tops nd ns.length (Nat.le_refl _))
def nI (ls : List Nat) : List Int := ls.map fun (l : Nat) => (l : Int)
end Tw

set_option maxHeartbeats 4000000
namespace Tw
open PySem PySem.Spec PyProof.Rows L2
/-! ### falls(row), falling(row) -/
def fallsF (ns : List Int) : Nat := ((layF ns).map fun l => l + 1).foldl max 0
theorem foldmaxN : ∀ (l : List Nat) (a : Nat), (∀ x ∈ l, x ≤ l.foldl max a) ∧ a ≤ l.foldl max a ∧ (l.foldl max a = a ∨ l.foldl max a ∈ l)
  | [], a => ⟨fun x hx => (nomatch hx), Nat.le_refl _, .inl rfl⟩
  | y :: r, a => by
    obtain ⟨h1, h2, h3⟩ := foldmaxN r (max a y)
    show (∀ x ∈ y :: r, x ≤ r.foldl max (max a y)) ∧ a ≤ r.foldl max (max a y) ∧ (r.foldl max (max a y) = a ∨ r.foldl max (max a y) ∈ y :: r)
    refine ⟨fun x hx => ?_, by omega, ?_⟩
    · rcases List.mem_cons.mp hx with e | e
      · rw [e]; omega
      · exact h1 x e
    · rcases h3 with e | e
      · by_cases c : a ≤ y
        · right
          rw [e, Nat.max_eq_right c]; exact List.mem_cons_self
        · left
          rw [e, Nat.max_eq_left (by omega)]
      · right; exact List.mem_cons_of_mem _ e
theorem fallsF_lt {ns : List Int} {l : Nat} (h : l ∈ layF ns) : l < fallsF ns :=
  (foldmaxN _ 0).1 (l + 1) (List.mem_map.mpr ⟨l, h, rfl⟩)
theorem fallsF_top {ns : List Int} (h : 0 < fallsF ns) : fallsF ns - 1 ∈ layF ns := by
  rcases (foldmaxN ((layF ns).map fun l => l + 1) 0).2.2 with e | e
  · unfold fallsF at h
    omega
  · obtain ⟨l, hl, e2⟩ := List.mem_map.mp e
    have : fallsF ns - 1 = l := by
      unfold fallsF
      omega
    rw [this]
    exact hl
theorem fallsF_nil {ns : List Int} (nd : ns.Nodup) : fallsF ns = 0 ↔ ns = [] := by
  have hl := (layF_ok nd).len
  constructor
  · intro h
    cases ns with
    | nil => rfl
    | cons x r =>
      have h0 : 0 < (layF (x :: r)).length := by rw [hl]; exact Nat.succ_pos _
      have := fallsF_lt (List.getElem_mem h0)
      omega
  · rintro rfl
    rfl
theorem maxI_falls {ns : List Int} {m : Int} (hm : m ∈ nI (layF ns)) (hmax : ∀ y ∈ nI (layF ns), y ≤ m) : m + 1 = (fallsF ns : Int) := by
  unfold nI at hm hmax
  obtain ⟨l, hl, rfl⟩ := List.mem_map.mp hm
  have h1 := fallsF_lt hl
  have h2 := fallsF_top (ns := ns) (by omega)
  have h3 := hmax _ (List.mem_map.mpr ⟨_, h2, rfl⟩)
  omega
theorem idxOf_first : ∀ (l : List Nat) (x k : Nat), k < l.idxOf x → l[k]? ≠ some x
  | [], _, k, h => by
    rw [List.idxOf_nil] at h
    exact absurd h (Nat.not_lt_zero _)
  | y :: r, x, k, h => by
    rw [List.idxOf_cons] at h
    by_cases c : y = x
    · subst c
      simp at h
    · have c2 : (y == x) = false := beq_eq_false_iff_ne.mpr c
      rw [c2] at h
      cases k with
      | zero =>
        intro e
        exact c (Option.some.inj e)
      | succ k => exact idxOf_first r x k (Nat.lt_of_succ_lt_succ h)
/-- the places of the falling wagons below p: layer c, the wagon cur -/
def fallGo (ns : List Int) (ls : List Nat) : Nat → Nat → Int → List Nat
  | 0, _, _ => []
  | p + 1, c, cur => if ls[p]? = some (c - 1) ∧ 0 < c ∧ cur < ns.getD p 0 then p :: fallGo ns ls p (c - 1) (ns.getD p 0) else fallGo ns ls p c cur
def fallPos (ns : List Int) : List Nat := if fallsF ns = 0 then [] else
  (layF ns).idxOf (fallsF ns - 1) :: fallGo ns (layF ns) ((layF ns).idxOf (fallsF ns - 1)) (fallsF ns - 1) (ns.getD ((layF ns).idxOf (fallsF ns - 1)) 0)
def fallingF (ns : List Int) : List Int := (fallPos ns).reverse.map fun p => ns.getD p 0
theorem getD_get {ns : List Int} {i : Nat} (h : i < ns.length) : ns.getD i 0 = ns[i] := by
  rw [List.getD_eq_getElem?_getD, List.getElem?_eq_getElem h]; rfl
structure GoOk (ns : List Int) (ls : List Nat) (p c : Nat) (cur : Int) (R : List Nat) : Prop where
  len : R.length = c
  dec : R.Pairwise (· > ·)
  lt : ∀ x ∈ R, x < p
  lay : ∀ (k : Nat) (hk : k < R.length), ls[R[k]]? = some (c - 1 - k)
  val : (cur :: R.map fun p => ns.getD p 0).Pairwise (· < ·)
theorem fallGo_ok {ns : List Int} {ls : List Nat} (h : LayOk ns ls) : ∀ (p c : Nat) (cur : Int), p ≤ ns.length → (0 < c → ∃ i, ∃ hi : i < ns.length, i < p ∧ ls[i]? = some (c - 1) ∧ cur < ns[i]) → GoOk ns ls p c cur (fallGo ns ls p c cur)
  | 0, c, cur, _, hx => by
    have hc : c = 0 := by
      refine Nat.eq_zero_of_not_pos fun z => ?_
      obtain ⟨i, _, hi, _⟩ := hx z
      exact Nat.not_lt_zero _ hi
    subst hc
    exact ⟨rfl, .nil, fun x hx => (nomatch hx), fun k hk => absurd hk (Nat.not_lt_zero _), List.pairwise_cons.mpr ⟨fun x hx => (nomatch hx), .nil⟩⟩
  | p + 1, c, cur, hp, hx => by
    unfold fallGo
    have hpl : p < ns.length := hp
    by_cases cnd : ls[p]? = some (c - 1) ∧ 0 < c ∧ cur < ns.getD p 0
    · rw [if_pos cnd]
      obtain ⟨c1, c2, c3⟩ := cnd
      rw [getD_get hpl] at c3 ⊢
      have ih := fallGo_ok h p (c - 1) ns[p] (Nat.le_of_succ_le hp) (fun hc => by
        obtain ⟨i, hi, hip, e, hn⟩ := h.above p (c - 2) hpl (by rw [c1]; congr 1; omega)
        exact ⟨i, hi, hip, by rw [e]; congr 1, hn⟩)
      refine ⟨by rw [List.length_cons, ih.len]; omega, List.pairwise_cons.mpr ⟨fun x hx => ih.lt x hx, ih.dec⟩, fun x hx => ?_, fun k hk => ?_, ?_⟩
      · rcases List.mem_cons.mp hx with e | e
        · rw [e]; exact Nat.lt_succ_self p
        · exact Nat.lt_succ_of_lt (ih.lt x e)
      · cases k with
        | zero => exact c1
        | succ k =>
          have hk' : k < (fallGo ns ls p (c - 1) ns[p]).length := Nat.lt_of_succ_lt_succ hk
          have := ih.lay k hk'
          show ls[(fallGo ns ls p (c - 1) ns[p])[k]]? = some (c - 1 - (k + 1))
          rw [this]
          congr 1
          omega
      · rw [List.map_cons, getD_get hpl]
        have v := ih.val
        refine List.pairwise_cons.mpr ⟨fun x hx => ?_, v⟩
        rcases List.mem_cons.mp hx with e | e
        · rw [e]; exact c3
        · have := (List.pairwise_cons.mp v).1 x e
          omega
    · rw [if_neg cnd]
      have ih := fallGo_ok h p c cur (Nat.le_of_succ_le hp) (fun hc => by
        obtain ⟨i, hi, hip, e, hn⟩ := hx hc
        refine ⟨i, hi, ?_, e, hn⟩
        have : i ≠ p := fun z => by
          subst z
          exact cnd ⟨e, hc, by rw [getD_get hpl]; exact hn⟩
        omega)
      exact ⟨ih.len, ih.dec, fun x hx => Nat.lt_succ_of_lt (ih.lt x hx), ih.lay, ih.val⟩
/-- the places of falling(row), as they stand: ascending, layer k at the k-th, the wagons falling -/
structure FallOk (ns : List Int) (R : List Nat) : Prop where
  len : R.length = fallsF ns
  inc : R.Pairwise (· < ·)
  lt : ∀ x ∈ R, x < ns.length
  lay : ∀ (k : Nat) (hk : k < R.length), (layF ns)[R[k]]? = some k
  val : (R.map fun p => ns.getD p 0).Pairwise (· > ·)
theorem lastIdx {ns : List Int} (nd : ns.Nodup) (h : 0 < fallsF ns) : (layF ns).idxOf (fallsF ns - 1) < ns.length ∧ (layF ns)[(layF ns).idxOf (fallsF ns - 1)]? = some (fallsF ns - 1) := by
  have hm := fallsF_top h
  have h1 := List.idxOf_lt_length_of_mem hm
  refine ⟨by rw [← (layF_ok nd).len]; exact h1, ?_⟩
  rw [List.getElem?_eq_getElem h1, List.getElem_idxOf h1]
theorem fallPos_ok {ns : List Int} (nd : ns.Nodup) : FallOk ns (fallPos ns).reverse := by
  have L := layF_ok nd
  unfold fallPos
  by_cases h0 : fallsF ns = 0
  · rw [if_pos h0]
    exact ⟨by rw [h0]; rfl, .nil, fun x hx => (nomatch hx), fun k hk => absurd hk (Nat.not_lt_zero _), .nil⟩
  · rw [if_neg h0]
    obtain ⟨hl, hlay⟩ := lastIdx nd (Nat.pos_of_ne_zero h0)
    generalize (layF ns).idxOf (fallsF ns - 1) = last at hl hlay ⊢
    have G := fallGo_ok L last (fallsF ns - 1) (ns.getD last 0) (Nat.le_of_lt hl) (fun hc => by
      obtain ⟨i, hi, hip, e, hn⟩ := L.above last (fallsF ns - 2) hl (by rw [hlay]; congr 1; omega)
      exact ⟨i, hi, hip, by rw [e]; congr 1, by rw [getD_get hl]; exact hn⟩)
    generalize fallGo ns (layF ns) last (fallsF ns - 1) (ns.getD last 0) = R at G ⊢
    have lenR : (last :: R).length = fallsF ns := by rw [List.length_cons, G.len]; omega
    refine ⟨by rw [List.length_reverse]; exact lenR, ?_, fun x hx => ?_, fun k hk => ?_, ?_⟩
    · rw [List.pairwise_reverse]
      exact List.pairwise_cons.mpr ⟨fun x hx => G.lt x hx, G.dec⟩
    · rw [List.mem_reverse] at hx
      rcases List.mem_cons.mp hx with e | e
      · rw [e]; exact hl
      · have := G.lt x e
        omega
    · rw [List.length_reverse] at hk
      rw [List.getElem_reverse]
      have key : ∀ (j : Nat) (hj : j < (last :: R).length), j + k + 1 = (last :: R).length → (layF ns)[(last :: R)[j]]? = some k := fun j hj e => by
        cases j with
        | zero =>
          show (layF ns)[last]? = some k
          rw [hlay]; congr 1; omega
        | succ j =>
          have hj' : j < R.length := Nat.lt_of_succ_lt_succ hj
          show (layF ns)[R[j]]? = some k
          have eL : (last :: R).length = R.length + 1 := rfl
          have gl := G.len
          rw [G.lay j hj']; congr 1; omega
      exact key _ (by omega) (by omega)
    · rw [List.map_reverse, List.pairwise_reverse]
      exact G.val
end Tw

set_option maxHeartbeats 4000000
namespace Tw
open PySem PySem.Spec PyProof.Rows L2
/-! ### zip(t, l), t a tuple and l a list -/
def ItzM (K : PySem.W.Frag) (a b : Addr) : It where
  go := fun i H => ∃ (xs ys : List V) (x y : V), SqT K H a xs ∧ SqL K H b ys ∧ xs[i]? = some x ∧ ys[i]? = some y
  yld := fun i H v H' => ∃ T x y, v = .ref T ∧ H T = none ∧ H' = upd H T (.tup [x, y]) ∧ (∀ xs, SqT K H a xs → xs[i]? = some x) ∧ ∀ ys, SqL K H b ys → ys[i]? = some y
  stop := fun i H => ∃ xs ys : List V, SqT K H a xs ∧ SqL K H b ys ∧ i ≤ xs.length ∧ i ≤ ys.length ∧ (i = xs.length ∨ i = ys.length)
theorem turnZipM {P : Program} {w : World} {K : PySem.W.Frag} {elts : List Expr} {kk : Nat} {tpos : Pos} {a b z TI TO i1 i2 : Addr} (Z : ZipSep2 z TI TO i1 i2 [i1, a] [i2, b]) :
    Turn P w K (.Tuple elts kk tpos) (ItzM K a b) [z, TI, TO, i1, i2] z (fun i h => IsZip h z TI TO .none ∧ IsTupOf2 h TI (.ref i1) (.ref i2) ∧ (∃ u v, IsTupOf2 h TO u v) ∧ h.IsTupleIter i1 a i ∧ h.IsListIter i2 b i) where
  mem := by simp
  obj := fun i h st c hc => by
    obtain ⟨hz, hTI, ⟨_, _, hTO⟩, ⟨o1, e1, _, d1⟩, ⟨o2, e2, _, d2⟩⟩ := st
    simp only [List.mem_cons, List.not_mem_nil, or_false] at hc
    rcases hc with rfl | rfl | rfl | rfl | rfl
    · exact ⟨_, hz, fun v q => nomatch q⟩
    · exact ⟨_, hTI, fun v q => nomatch q⟩
    · exact ⟨_, hTO, fun v q => nomatch q⟩
    · exact ⟨o1, e1, fun v q => by rw [d1] at q; cases q⟩
    · exact ⟨o2, e2, fun v q => by rw [d2] at q; cases q⟩
  keep := fun i h h' st k => by
    obtain ⟨hz, hTI, ⟨u, v, hTO⟩, h1, h2⟩ := st
    exact ⟨k z (by simp) _ hz, k TI (by simp) _ hTI, ⟨u, v, k TO (by simp) _ hTO⟩, h1.at fun o q => k i1 (by simp) o q, h2.at fun o q => k i2 (by simp) o q⟩
  item := by
    intro X hP hw hK hc i pins s σ H E I hf st hg
    subst hP hw hK
    obtain ⟨hz, hTI, ⟨_, _, hTO⟩, h1, h2⟩ := st
    obtain ⟨xs, ys, x, y, hqx, hqy, hx, hy⟩ := hg
    obtain ⟨its, rv, p1, _⟩ := I.tuple hqx
    obtain ⟨its2, rv2, p2, _⟩ := I.list hqy
    obtain ⟨u, hu, ru⟩ := rv.get hx
    obtain ⟨u2, hu2, ru2⟩ := rv2.get hy
    have lz : z < s.heap.objs.size := Heap.lt_size hz
    have l1 : i < its.toArray.size := by
      have q := (List.getElem?_eq_some_iff.mp hu).1
      simpa using q
    have l2 : i < its2.toArray.size := by
      have q := (List.getElem?_eq_some_iff.mp hu2).1
      simpa using q
    have n1 : a ≠ i1 := fun e => by
      obtain ⟨o, eo, ec, _⟩ := h1
      obtain ⟨o', eo', ec', _⟩ := p1
      rw [e, eo] at eo'
      cases eo'
      rw [ec] at ec'
      exact absurd ec' (by decide)
    have n2 : b ≠ i2 := fun e => by
      obtain ⟨o, eo, ec, _⟩ := h2
      obtain ⟨o', eo', ec', _⟩ := p2.isList
      rw [e, eo] at eo'
      cases eo'
      rw [ec] at ec'
      exact absurd ec' (by decide)
    refine wpAny_pyNext_zipD2_item Z (Draws.tuple (A := X.A.in1) (I.ok.hd hc) i1 a n1 its.toArray) (Draws.list (A := X.A.in1) (I.ok.hd hc) i2 b n2 its2.toArray) hz hTI hTO ⟨h1, p1⟩ ⟨h2, p2.isList⟩ l1 l2 fun v1 v2 h1' tk1 hv1 hv2 z1 to1 s1 s2 new1 sz1 kp1 => ?_
    have e1 : v1 = u := by
      have q : its[i]? = some v1 := by simpa using hv1
      rw [hu] at q
      exact (Option.some.inj q).symm
    have e2 : v2 = u2 := by
      have q : its2[i]? = some v2 := by simpa using hv2
      rw [hu2] at q
      exact (Option.some.inj q).symm
    subst e1 e2
    refine ⟨_, rfl, wpAny_letOwnedTupleGo_zip (s := { s with heap := h1', toks := tk1 }) z1 fun h2' zz sb => ?_⟩
    have new2 : h2'.get? s.heap.objs.size = some { cls := .type "tuple", data := .seq #[v1, v2] } := (sb.2 _ (Nat.ne_of_gt lz)).trans new1
    have okT : ObjOk X.prog X.w (upd H s.heap.objs.size (.tup [x, y])) h2' s.heap.objs.size (.tup [x, y]) := ⟨by show 2 ≤ sizeLine; decide, [v1, v2], .cons ru (.cons ru2 .nil), ⟨_, new2, rfl, _, rfl⟩⟩
    have I1 : Inv X pins σ (upd H s.heap.objs.size (.tup [x, y])) { s with heap := h2', toks := tk1 } :=
      I.turnedNew (ch := [z, TI, TO, i1, i2]) (fun c o hb q => (sb.2 c (fun q' => hb (by simp [q']))).trans (kp1 c o (fun q' => hb (by simp [q'])) (fun q' => hb (by simp [q'])) (fun q' => hb (by simp [q'])) (fun q' => hb (by simp [q'])) q)) hf (Nat.le_refl _) okT
    refine ⟨.ref s.heap.objs.size, _, I1, rfl, ⟨_, x, y, rfl, I.hok.fresh (Nat.le_refl _), rfl, fun l hl => by rw [I.tuple_inj hl hqx]; exact hx, fun l hl => by rw [I.list_inj hl hqy]; exact hy⟩, ⟨zz, ?_, ⟨v1, v2, ?_⟩, ?_, ?_⟩, fun c hcm => ?_⟩
    · exact (sb.2 _ Z.TIz).trans (kp1 _ _ Z.TIz Z.TITO Z.TIi1 Z.TIi2 hTI)
    · exact (sb.2 _ Z.TOz).trans to1
    · exact s1.1.at fun o q => (sb.2 _ Z.zi1.symm).trans q
    · exact s2.1.at fun o q => (sb.2 _ Z.zi2.symm).trans q
    · have lt : c < s.heap.objs.size := by
        simp only [List.mem_cons, List.not_mem_nil, or_false] at hcm
        rcases hcm with rfl | rfl | rfl | rfl | rfl
        · exact lz
        · exact Heap.lt_size hTI
        · exact Heap.lt_size hTO
        · obtain ⟨_, q, _⟩ := h1; exact Heap.lt_size q
        · obtain ⟨_, q, _⟩ := h2; exact Heap.lt_size q
      rw [upd_ne (Nat.ne_of_lt lt)]
      exact (hf c hcm).1
  done := by
    intro X hP hw hK hc i pins s σ H E I hf st hg
    subst hP hw hK
    obtain ⟨hz, hTI, ⟨_, _, hTO⟩, h1, h2⟩ := st
    obtain ⟨xs, ys, hqx, hqy, le1, le2, hend⟩ := hg
    obtain ⟨its, rv, p1, _⟩ := I.tuple hqx
    obtain ⟨its2, rv2, p2, _⟩ := I.list hqy
    have g1 : its.toArray.size = xs.length := by rw [List.size_toArray, rv.length]
    have g2 : its2.toArray.size = ys.length := by rw [List.size_toArray, rv2.length]
    have n1 : a ≠ i1 := fun e => by
      obtain ⟨o, eo, ec, _⟩ := h1
      obtain ⟨o', eo', ec', _⟩ := p1
      rw [e, eo] at eo'
      cases eo'
      rw [ec] at ec'
      exact absurd ec' (by decide)
    have n2 : b ≠ i2 := fun e => by
      obtain ⟨o, eo, ec, _⟩ := h2
      obtain ⟨o', eo', ec', _⟩ := p2.isList
      rw [e, eo] at eo'
      cases eo'
      rw [ec] at ec'
      exact absurd ec' (by decide)
    exact wpAny_pyNext_zipD2_end Z (Draws.tuple (A := X.A.in1) (I.ok.hd hc) i1 a n1 its.toArray) (Draws.list (A := X.A.in1) (I.ok.hd hc) i2 b n2 its2.toArray) hz hTI hTO ⟨h1, p1⟩ ⟨h2, p2.isList⟩ (by omega) (by omega) (by omega) fun h' tk hk => ⟨rfl, I.turnedL (t' := tk) (ch := [z, TI, TO, i1, i2]) (fun c o hb q =>
      hk c o (fun q' => hb (by simp [q'])) (fun q' => hb (by simp [q'])) (fun q' => hb (by simp [q'])) (fun q' => hb (by simp [q'])) q) hf⟩
  self := fun A i s Q E st h => wpAny_pyIter_zip st.1 h
def rLenS (K : PySem.W.Frag) : List V → Hp → VK → Prop := fun xs H Q => ∃ p ys, xs = [.ref p] ∧ (SqL K H p ys ∨ SqT K H p ys) ∧ Q (.int (ys.length : Nat)) H
def iZipM (K : PySem.W.Frag) (ta : TA) : TI := fun σ H R => ta σ H fun vs H1 => ∃ a b xs ys, vs = [.ref a, .ref b] ∧ SqT K H1 a xs ∧ SqL K H1 b ys ∧ R (ItzM K a b) H1
theorem pi_zipM {X : Cx} {e e2 : Expr} {ta : TA} {p pos tpos : Pos} {elts : List Expr} {kk : Nat} (hg : Gl X "zip") (hm : X.mg "zip" = none) (ha : PA X [e, e2] ta)
    (hs : starEach [e, e2] X.env = (false, eval e X.env) :: starEach [e2] X.env := by rfl) (hpl : (backTo pos (starEach [e2] X.env)).any (·.1) = false := by rfl) :
    PI X (.Tuple elts kk tpos) (.Call (.Name "zip" p) [e, e2] [] pos) (iZipM X.K ta) := by
  refine ⟨fun pins s σ H R I h => ?_⟩
  refine Call_ (ld_blt I hg hm PyProof.Rows.boot_zip (PyProof.Rows.callWith_type1 (thn (ha.run pos pins s σ H _ I h) fun us s1 ⟨vs, H1, I1, r1, q1⟩ => ?_) hs hpl))
  obtain ⟨a, b, xs, ys, ex, hqx, hqy, q⟩ := q1
  subst ex
  cases r1 with
  | cons r rr =>
    cases rr with
    | cons r' rr =>
      cases rr
      cases r
      cases r'
      obtain ⟨its, rv, p1, _⟩ := I1.tuple hqx
      obtain ⟨its2, rv2, p2, _⟩ := I1.list hqy
      have la : a < s1.heap.objs.size := by
        obtain ⟨_, q, _⟩ := p1
        exact Heap.lt_size q
      have lb : b < s1.heap.objs.size := p2.lt
      refine zip_begins2 (begins_tuple a its.toArray) (begins_list b its2.toArray) p1 p2.isList fun h' hz hTI hTO h1 h2 hsz hk => wpAny_pyIter_zip hz ?_
      have I2 : Inv X pins σ H1 { s1 with heap := h' } := I1.kept (t' := s1.toks) hk
      refine ⟨s1.heap.objs.size + 4, [s1.heap.objs.size + 4, s1.heap.objs.size + 2, s1.heap.objs.size + 3, s1.heap.objs.size, s1.heap.objs.size + 1], _, _, H1, rfl, I2, turnZipM (zip_sep2 (fun c hc => by rw [List.mem_singleton.mp hc]; exact la) (fun c hc => by rw [List.mem_singleton.mp hc]; exact lb)), ⟨hz, hTI, ⟨_, _, hTO⟩, ⟨_, h1, rfl, rfl⟩, ⟨_, h2, rfl, rfl⟩⟩, fun c hcm => ?_, q⟩
      have le : s1.heap.objs.size ≤ c := by
        simp only [List.mem_cons, List.not_mem_nil, or_false] at hcm
        rcases hcm with q | q | q | q | q
        · rw [q]; exact Nat.le_add_right _ 4
        · rw [q]; exact Nat.le_add_right _ 2
        · rw [q]; exact Nat.le_add_right _ 3
        · rw [q]; exact Nat.le_refl _
        · rw [q]; exact Nat.le_add_right _ 1
      exact I1.fpOk le (I1.hok.fresh le)
theorem walk_zipM {K : PySem.W.Frag} {a b : Addr} {xs ys : List V} {n : Nat} (hn : n = min xs.length ys.length) : Walk (ItzM K a b) n (fun H => SqT K H a xs ∧ SqL K H b ys) (YPair (fun i => xs[i]?) (fun i => ys[i]?)) where
  goes := fun i H hi q => by
    have h1 : i < xs.length := by omega
    have h2 : i < ys.length := by omega
    exact ⟨xs, ys, xs[i], ys[i], q.1, q.2, List.getElem?_eq_getElem h1, List.getElem?_eq_getElem h2⟩
  stops := fun H q => ⟨xs, ys, q.1, q.2, by omega, by omega, by omega⟩
  yields := fun i H x H' hi q y => by
    obtain ⟨T, u, v, e1, e2, e3, f1, f2⟩ := y
    exact ⟨T, u, v, e1, e2, e3, f1 xs q.1, f2 ys q.2⟩
end Tw

set_option maxHeartbeats 4000000
namespace Tw
open PySem PySem.Spec PyProof.Rows L2
/-! ### t[::-1] of a tuple -/
section
variable {prog : Program} {w : World} {A : Around} {E : Value → Shared → Prop} {s : Shared}
theorem appliedBack {sl : Addr} {vl vu vs : Value} {n : Nat} {Q : Int × Int × Nat → Shared → Prop} (hs : s.heap.IsSliceOf sl vl vu vs) (pl : IsPart vl none) (pu : IsPart vu none) (ps : IsPart vs (some (-1)))
    (h : Q ((n : Int) - 1, -1, n) s) : wpAny (model prog w) A (Builtin.Slice.sliceApplied (.ref sl) (pure (n : Int))) Q E s := by
  obtain ⟨os, hos, hcs, hds⟩ := id hs
  unfold Builtin.Slice.sliceApplied Builtin.Slice.sliceFields
  refine wpAny_bind (wpAny_bind (wpAny_field hos hds (x := vl) rfl (wpAny_bind (wpAny_field hos hds (x := vu) rfl (wpAny_bind (wpAny_field hos hds (x := vs) rfl (wpAny_pure ?_)))))))
  refine wpAny_bind (HT.slicePart_ ps ?_)
  show wpAny _ _ (if ((-1 : Int) == 0) = true then _ else _) _ _ s
  rw [if_neg (by decide)]
  refine wpAny_bind (HT.slicePart_ pl (wpAny_bind (HT.slicePart_ pu (wpAny_bind (wpAny_pure ?_)))))
  have e1 : Builtin.Slice.sliceAdjust none none (-1) (n : Int) = ((n : Int) - 1, -1) := by
    unfold Builtin.Slice.sliceAdjust
    simp
  have e2 : Builtin.Slice.slicePlaces ((n : Int) - 1) (-1) (-1) = n := by
    unfold Builtin.Slice.slicePlaces
    simp only [show ¬ ((-1 : Int) > 0) by decide, if_false, show - (-1 : Int) = 1 by decide, Int.ediv_one]
    split
    · omega
    · omega
  show wpAny _ _ (match Builtin.Slice.sliceAdjust none none (-1) (n : Int) with | (lo, hi) => pure (lo, (-1 : Int), Builtin.Slice.slicePlaces lo hi (-1))) _ _ s
  rw [e1]
  show wpAny _ _ (pure ((n : Int) - 1, (-1 : Int), Builtin.Slice.slicePlaces ((n : Int) - 1) (-1) (-1))) _ _ s
  rw [e2]
  exact wpAny_pure h
theorem pickBack (xs : List Value) : ((List.range xs.length).filterMap fun (k : Nat) => xs.toArray[((xs.length : Int) - 1 + (k : Int) * -1).toNat]?) = xs.reverse := by
  apply List.ext_getElem?
  intro i
  have e : ∀ m, m ≤ xs.length → ((List.range m).filterMap fun (k : Nat) => xs.toArray[((xs.length : Int) - 1 + (k : Int) * -1).toNat]?) = xs.reverse.take m := fun m => by
    induction m with
    | zero => intro _; rfl
    | succ m ih =>
      intro hm
      rw [List.range_succ, List.filterMap_append, ih (by omega), List.take_add_one]
      congr 1
      have hi : ((xs.length : Int) - 1 + (m : Int) * -1).toNat = xs.length - 1 - m := by omega
      have h2 : xs.length - 1 - m < xs.length := by omega
      rw [List.getElem?_reverse (by omega)]
      simp only [List.filterMap_cons, List.filterMap_nil, hi, List.getElem?_toArray, List.getElem?_eq_getElem h2]
      rfl
  rw [e xs.length (Nat.le_refl _), List.take_of_length_le (by rw [List.length_reverse]; exact Nat.le_refl _)]
theorem getItem_tuple_back {t sl : Addr} {items : List Value} {vl vu vs : Value} {Q : Value → Shared → Prop} (ht : IsTup s.heap t items.toArray) (hs : s.heap.IsSliceOf sl vl vu vs) (pl : IsPart vl none) (pu : IsPart vu none) (ps : IsPart vs (some (-1)))
    (h : Q (.ref s.heap.objs.size) { s with heap := s.heap.push { cls := .type "tuple", data := .seq items.reverse.toArray } })
    (hsz : items.length ≤ sizeLine) : wpAny (model prog w) A (getItem (.ref t) (.ref sl)) Q E s := by
  obtain ⟨os, hos, hcs, hds⟩ := id hs
  have hTs : s.TypeIs (.ref sl) "slice" := ⟨os, hos, hcs⟩
  unfold getItem
  try with_reducible refine wpAny_holding ?_
  first | refine wpAny_bind (wpAny_pure ?_) | skip
  refine wpAny_bind (wpAny_sequenceKey ht.typeIs (by decide) ?_)
  refine wpAny_bind (wpAny_callSpecial?_slot (name := Str.ofString "__getitem__") ht.typeIs PyProof.Rows.slot_tuple_getitem
    (wpAny_call_entry PyProof.Rows.slot_tuple_getitem ht.typeIs entry_tuple_getitem ?_ (args_tuple_getitem _ _)))
  show wpAny _ _ (Builtin.Tuple.tupleItemsOf (.ref t) >>= _) _ _ s
  refine wpAny_bind (PyProof.Rows.tupleItemsOf_ ht ?_)
  refine wpAny_bind (wpAny_typeOf hTs ?_)
  rw [if_pos (by decide)]
  have e0 : ((items.toArray.size : Nat) : Int) = ((items.length : Nat) : Int) := by rw [List.size_toArray]
  rw [show (pure ((items.toArray.size : Nat) : Int) : Sem Int) = pure ((items.length : Nat) : Int) by rw [e0]]
  refine wpAny_bind (appliedBack hs pl pu ps ?_)
  have hno : ¬ (((((items.length : Nat) : Int) - 1) == 0 && (-1 : Int) == 1 && items.length == items.toArray.size) = true) := by
    rw [show ((-1 : Int) == 1) = false from rfl, Bool.and_false, Bool.false_and]
    exact Bool.false_ne_true
  show wpAny _ _ (if ((((items.length : Nat) : Int) - 1) == 0 && (-1 : Int) == 1 && items.length == items.toArray.size) = true then _ else _) _ _ s
  rw [if_neg hno, pickBack]
  have htake : sizeOk (.seq items.reverse.toArray) := by
    show items.reverse.toArray.size ≤ sizeLine
    rw [List.size_toArray, List.length_reverse]
    exact hsz
  first
    | exact wpAny_bind (m := Builtin.Tuple.tupleExact _) (wpAny_newObj_type (wpAny_pure ⟨_, rfl, wpAny_pure h⟩) htake)
    | exact wpAny_bind (m := Builtin.Tuple.tupleExact _) (wpAny_newObj_type (wpAny_bind (wpAny_pure (wpAny_pure ⟨_, rfl, wpAny_pure h⟩))) htake)
    | exact wpAny_bind (wpAny_bind (m := Builtin.Tuple.tupleExact _) (wpAny_newObj_type (wpAny_pure (wpAny_pure ⟨_, rfl, wpAny_pure h⟩)) htake))
    | exact wpAny_bind (wpAny_bind (m := Builtin.Tuple.tupleExact _) (wpAny_newObj_type (wpAny_pure ⟨_, rfl, wpAny_pure h⟩) htake))
end
section
variable {X : Cx}
def tRevT (K : PySem.W.Frag) (te : TE) : TE := fun σ H Q => te σ H fun x H1 => ∃ (a : Addr) (xs : List V), x = .ref a ∧ SqT K H1 a xs ∧ ∀ p, H1 p = none → Q (.ref p) (upd H1 p (.tup xs.reverse))
theorem pe_revT {e : Expr} {te : TE} {k : Nat} {p1 p2 p3 pos : Pos} (he : PE X e te) : PE X (.Subscript e (.Slice none none (some (.UnaryOp .USub (.Constant (.int 1) k p1) p2)) p3) pos) (tRevT X.K te) := by
  refine ⟨fun pins s σ H Q I h => ?_⟩
  refine Subscript_ (thn (he.run pins s σ H _ I h) fun v s1 ⟨x, H1, I1, r1, a, xs, ex, hx, q⟩ => ?_)
  subst ex
  cases r1
  refine wpAny_Slice (thn (po_none.run pins s1 σ H1 (fun o H2 => o = none ∧ H2 = H1) I1 ⟨rfl, rfl⟩) fun vl s2 ⟨l, H2, I2, pl, el, e2⟩ => ?_)
  subst el e2
  refine thn (po_none.run pins s2 σ H2 (fun o H3 => o = none ∧ H3 = H2) I2 ⟨rfl, rfl⟩) fun vu s3 ⟨u, H3, I3, pu, eu, e3⟩ => ?_
  subst eu e3
  have minus : PO X (some (.UnaryOp .USub (.Constant (.int 1) k p1) p2)) (tPart (tUn (rU fun i => .int (-i)) (tC (.int 1)))) := po_some (pe_un un_neg pe_int)
  refine thn (minus.run pins s3 σ H3 (fun o H4 => o = some (-1) ∧ H4 = H3) I3 ⟨1, rfl, -1, rfl, rfl, rfl⟩) fun vs s4 ⟨o, H4, I4, ps, eo, e4⟩ => ?_
  subst eo e4
  have I5 : Inv X pins σ H4 { s4 with heap := s4.heap.push { cls := .type "slice", data := .fields #[vl, vu, vs] } } := I4.kept (t' := s4.toks) fun b ob q => Heap.get?_push_of_some _ q
  obtain ⟨its, r, ht, hz⟩ := I5.tuple hx
  show wpAny (model X.prog X.w) X.A (subscriptTail e (.Slice none none (some (.UnaryOp .USub (.Constant (.int 1) k p1) p2)) p3) (.ref a) (.ref s4.heap.objs.size)) (EP X pins σ Q) X.xe { s4 with heap := s4.heap.push { cls := .type "slice", data := .fields #[vl, vu, vs] } }
  refine tail_any (ops := [.ref a, .ref s4.heap.objs.size]) ht.typeIs PyProof.Rows.slot_tuple_getitem.lookup ?_ (by with_unfolding_all rfl)
  refine getItem_tuple_back ht (Heap.IsSliceOf.new _ vl vu vs) pl pu ps ?_ (by rw [← r.length]; exact hz)
  refine ⟨.ref _, _, I5.laid (t' := s4.toks) (o := .tup xs.reverse) (fun b ob q => Heap.get?_push_of_some _ q) (Nat.le_refl _) ?_, rfl, q _ (I5.hok.fresh (Nat.le_refl _))⟩
  exact ⟨by rw [List.length_reverse]; exact hz, _, r.reverse, IsTup.new _ _⟩
end
end Tw

set_option maxHeartbeats 4000000
namespace Tw
open PySem PySem.Spec PyProof.Rows L2
/-! ### the wagons of a lot, in their order -/
def lotT (xs ts : List Int) (c : Int) (j : Nat) : List Int := (((xs.zip ts).take j).filter fun p => decide (p.2 = c)).map (·.1)
def lotZ (xs ts : List Int) (c : Int) : List Int := ((xs.zip ts).filter fun p => decide (p.2 = c)).map (·.1)
theorem lotT_zero (xs ts : List Int) (c : Int) : lotT xs ts c 0 = [] := rfl
theorem lotT_all {xs ts : List Int} {c : Int} {n : Nat} (h : n = min xs.length ts.length) : lotT xs ts c n = lotZ xs ts c := by
  unfold lotT lotZ
  rw [List.take_of_length_le (by rw [List.length_zip]; omega)]
theorem lotT_len (xs ts : List Int) (c : Int) (j : Nat) : (lotT xs ts c j).length ≤ xs.length := by
  unfold lotT
  rw [List.length_map]
  refine Nat.le_trans (List.length_filter_le ..) ?_
  rw [List.length_take, List.length_zip]
  omega
theorem lotZ_len (xs ts : List Int) (c : Int) : (lotZ xs ts c).length ≤ xs.length := by
  unfold lotZ
  rw [List.length_map]
  refine Nat.le_trans (List.length_filter_le ..) ?_
  rw [List.length_zip]
  omega
theorem lotT_step {xs ts : List Int} {c x t : Int} {j : Nat} (h1 : xs[j]? = some x) (h2 : ts[j]? = some t) : lotT xs ts c (j + 1) = if t = c then lotT xs ts c j ++ [x] else lotT xs ts c j := by
  have e : (xs.zip ts)[j]? = some (x, t) := List.getElem?_zip_eq_some.mpr ⟨h1, h2⟩
  unfold lotT
  rw [List.take_add_one, e]
  by_cases d : t = c
  · rw [if_pos d]
    simp [d]
  · rw [if_neg d]
    simp [d]
theorem lot_pair (xs ts : List Int) (c : Int) : (lotZ xs ts c).Pairwise (· < ·) ↔ ∀ (i j : Nat) (x y : Int), i < j → xs[i]? = some x → xs[j]? = some y → ts[i]? = some c → ts[j]? = some c → x < y := by
  unfold lotZ
  rw [List.pairwise_map, List.pairwise_filter, List.pairwise_iff_getElem]
  constructor
  · intro h i j x y hij h1 h2 h3 h4
    have ei : (xs.zip ts)[i]? = some (x, c) := List.getElem?_zip_eq_some.mpr ⟨h1, h3⟩
    have ej : (xs.zip ts)[j]? = some (y, c) := List.getElem?_zip_eq_some.mpr ⟨h2, h4⟩
    obtain ⟨li, gi⟩ := List.getElem?_eq_some_iff.mp ei
    obtain ⟨lj, gj⟩ := List.getElem?_eq_some_iff.mp ej
    have z := h i j li lj hij
    rw [gi, gj] at z
    exact z (decide_eq_true rfl) (decide_eq_true rfl)
  · intro h i j hi hj hij p q
    have ei : (xs.zip ts)[i]? = some (xs.zip ts)[i] := List.getElem?_eq_getElem hi
    have ej : (xs.zip ts)[j]? = some (xs.zip ts)[j] := List.getElem?_eq_getElem hj
    obtain ⟨a1, a2⟩ := List.getElem?_zip_eq_some.mp ei
    obtain ⟨b1, b2⟩ := List.getElem?_zip_eq_some.mp ej
    rw [of_decide_eq_true p] at a2
    rw [of_decide_eq_true q] at b2
    exact h i j _ _ hij a1 b1 a2 b2
theorem lot_some {xs ts : List Int} {c x : Int} {i : Nat} (h1 : xs[i]? = some x) (h2 : ts[i]? = some c) : lotZ xs ts c ≠ [] := by
  have e : (xs.zip ts)[i]? = some (x, c) := List.getElem?_zip_eq_some.mpr ⟨h1, h2⟩
  intro z
  unfold lotZ at z
  have z1 := List.map_eq_nil_iff.mp z
  have z2 := List.filter_eq_nil_iff.mp z1 (x, c) (List.mem_of_getElem? e)
  exact z2 (decide_eq_true rfl)
/-- the lots together are all -/
theorem lots_upto (L : List (Int × Int)) : ∀ F : Nat, (∀ p ∈ L, 0 ≤ p.2) → ((List.range F).map fun (c : Nat) => (((L.filter fun p => decide (p.2 = (c : Int))).length : Nat) : Int)).sum = (((L.filter fun p => decide (p.2 < (F : Int))).length : Nat) : Int)
  | 0, h => by
    have e : L.filter (fun p => decide (p.2 < ((0 : Nat) : Int))) = [] := List.filter_eq_nil_iff.mpr fun p hp z => by
      have := h p hp
      have := of_decide_eq_true z
      omega
    rw [e]
    rfl
  | F + 1, h => by
    rw [List.range_succ, List.map_append, List.sum_append, lots_upto L F h]
    have key : ∀ M : List (Int × Int), (M.filter fun p => decide (p.2 < (F : Int))).length + (M.filter fun p => decide (p.2 = (F : Int))).length = (M.filter fun p => decide (p.2 < ((F + 1 : Nat) : Int))).length := fun M => by
      induction M with
      | nil => rfl
      | cons p r ih =>
        by_cases c1 : p.2 < (F : Int)
        · have c2 : ¬ p.2 = (F : Int) := by omega
          have c3 : p.2 < ((F + 1 : Nat) : Int) := by omega
          rw [List.filter_cons_of_pos (by simpa using c1), List.filter_cons_of_neg (by simpa using c2), List.filter_cons_of_pos (p := fun p : Int × Int => decide (p.2 < ((F + 1 : Nat) : Int))) (decide_eq_true c3), List.length_cons, List.length_cons]
          omega
        · by_cases c2 : p.2 = (F : Int)
          · have c3 : p.2 < ((F + 1 : Nat) : Int) := by omega
            rw [List.filter_cons_of_neg (by simpa using c1), List.filter_cons_of_pos (by simpa using c2), List.filter_cons_of_pos (p := fun p : Int × Int => decide (p.2 < ((F + 1 : Nat) : Int))) (decide_eq_true c3), List.length_cons, List.length_cons]
            omega
          · have c3 : ¬ p.2 < ((F + 1 : Nat) : Int) := by omega
            rw [List.filter_cons_of_neg (by simpa using c1), List.filter_cons_of_neg (by simpa using c2), List.filter_cons_of_neg (p := fun p : Int × Int => decide (p.2 < ((F + 1 : Nat) : Int))) (by simpa using c3)]
            exact ih
    have k := key L
    simp only [List.map_cons, List.map_nil, List.sum_cons, List.sum_nil]
    omega
theorem lots_sum {xs ts : List Int} {F : Nat} (hl : ts.length = xs.length) (h : ∀ t ∈ ts, 0 ≤ t ∧ t < (F : Int)) : ((List.range F).map fun (c : Nat) => (((lotZ xs ts (c : Int)).length : Nat) : Int)).sum = ((xs.length : Nat) : Int) := by
  have hz : ∀ p ∈ xs.zip ts, 0 ≤ p.2 ∧ p.2 < (F : Int) := fun p hp => h p.2 (List.of_mem_zip hp).2
  have e : ((List.range F).map fun (c : Nat) => (((lotZ xs ts (c : Int)).length : Nat) : Int)) = ((List.range F).map fun (c : Nat) => ((((xs.zip ts).filter fun p => decide (p.2 = (c : Int))).length : Nat) : Int)) := by
    apply List.map_congr_left
    intro c _
    unfold lotZ
    rw [List.length_map]
  rw [e, lots_upto _ F (fun p hp => (hz p hp).1), List.filter_eq_self.mpr fun p hp => decide_eq_true (hz p hp).2, List.length_zip, hl, Nat.min_self]
theorem row_notBad {ns : List Int} (h : IsRow ns) {i : Int} (hb : RowBad (.tuple (pi ns)) i) : False := by
  rcases hb with ⟨_, hb⟩ | ⟨ds, j, e, _, _, hj, _, hn⟩
  · have z := hb _ rfl
    rw [pi_len] at z
    have := h.2.2
    omega
  · injection e with e
    subst e
    rw [pi_len] at hj hn
    refine hn ⟨ns.take (j + 1), ?_, ?_, (List.take_sublist _ _).nodup h.1, fun x hx => h.2.1 x (List.mem_of_mem_take hx)⟩
    · unfold pi
      rw [List.map_take]
    · rw [List.length_take]
      omega
/-! ### falling rows in few lots -/
theorem count_le {c : Int} : ∀ {l : List Int}, l.Pairwise (fun a b => ¬ (a = c ∧ b = c)) → l.count c ≤ 1
  | [], _ => Nat.zero_le _
  | x :: r, h => by
    rw [List.pairwise_cons] at h
    by_cases e : x = c
    · have z : r.count c = 0 := List.count_eq_zero.mpr fun hm => h.1 c hm ⟨e, rfl⟩
      rw [List.count_cons, z]
      split <;> omega
    · rw [List.count_cons_of_ne e]
      exact count_le h.2
section
variable {ns ps : List Int} {R : List Nat}
theorem alike_pair (h : FallOk ns R) (hp : ps.length = ns.length) {c : Int} (hr : (lotZ ns ps c).Pairwise (· < ·)) : (R.map fun p => ps.getD p 0).Pairwise (fun a b => ¬ (a = c ∧ b = c)) := by
  rw [List.pairwise_map, List.pairwise_iff_getElem]
  intro i j hi hj hij e
  have l1 := h.lt _ (List.getElem_mem hi)
  have l2 := h.lt _ (List.getElem_mem hj)
  have up := (List.pairwise_iff_getElem.mp h.inc) i j hi hj hij
  have dn := (List.pairwise_iff_getElem.mp h.val) i j (by simpa using hi) (by simpa using hj) hij
  simp only [List.getElem_map] at dn
  rw [getD_get l1, getD_get l2] at dn
  rw [getD_get (by omega : R[i] < ps.length), getD_get (by omega : R[j] < ps.length)] at e
  have z := (lot_pair ns ps c).mp hr R[i] R[j] ns[R[i]] ns[R[j]] up (List.getElem?_eq_getElem l1) (List.getElem?_eq_getElem l2) (by rw [List.getElem?_eq_getElem (by omega), e.1]) (by rw [List.getElem?_eq_getElem (by omega), e.2])
  omega
def brokenF (ns ps : List Int) (m : Nat) : List Int := (rgI m).filter fun c => !decide ((lotZ ns ps c).Pairwise (· < ·))
theorem alike_broken (h : FallOk ns R) (hp : ps.length = ns.length) {m : Nat} {c : Int} (hc : c ∈ rgI m) (h1 : 1 < (R.map fun p => ps.getD p 0).count c) : c ∈ brokenF ns ps m := by
  refine List.mem_filter.mpr ⟨hc, ?_⟩
  by_cases d : (lotZ ns ps c).Pairwise (· < ·)
  · have := count_le (alike_pair h hp d)
    omega
  · rw [decide_eq_false d]; rfl
theorem broken_some (h : FallOk ns R) (hp : ps.length = ns.length) {m : Nat} (hR : R.length = m + 1) (hb : ∀ t ∈ ps, 0 ≤ t ∧ t < (m : Int)) : brokenF ns ps m ≠ [] := by
  intro e
  have inb : ∀ x ∈ R.map (fun p => ps.getD p 0), 0 ≤ x ∧ x < (m : Int) := fun x hx => by
    obtain ⟨p, hpR, rfl⟩ := List.mem_map.mp hx
    have l := h.lt p hpR
    rw [getD_get (by omega)]
    exact hb _ (List.getElem_mem _)
  have nd : (R.map fun p => ps.getD p 0).Nodup := by
    rw [List.nodup_iff_pairwise_ne, List.pairwise_iff_getElem]
    intro i j hi hj hij ee
    have b := inb _ (List.getElem_mem hi)
    have hm : (R.map fun p => ps.getD p 0)[i] ∈ rgI m := by
      unfold rgI
      exact List.mem_map.mpr ⟨(R.map fun p => ps.getD p 0)[i].toNat, List.mem_range.mpr (by omega), by omega⟩
    have nb := List.filter_eq_nil_iff.mp e _ hm
    have up : (lotZ ns ps (R.map fun p => ps.getD p 0)[i]).Pairwise (· < ·) := by
      refine Classical.byContradiction fun z => nb ?_
      rw [decide_eq_false z]; rfl
    have z := (List.pairwise_iff_getElem.mp (alike_pair h hp up)) i j hi hj hij
    exact z ⟨rfl, ee.symm⟩
  have := pigeon m _ nd inb
  rw [List.length_map] at this
  omega
end
/-! ### as many falls in the row of the places -/
theorem dec_le {ns : List Int} (nd : ns.Nodup) {Q : List Nat} (up : Q.Pairwise (· < ·)) (lt : ∀ x ∈ Q, x < ns.length) (dn : (Q.map fun p => ns.getD p 0).Pairwise (· > ·)) : Q.length ≤ fallsF ns := by
  have L := layF_ok nd
  have z := pigeon (fallsF ns) (Q.map fun p => (((layF ns).getD p 0 : Nat) : Int)) (by
    rw [List.nodup_iff_pairwise_ne, List.pairwise_map, List.pairwise_iff_getElem]
    intro i j hi hj hij e
    have l1 := lt _ (List.getElem_mem hi)
    have l2 := lt _ (List.getElem_mem hj)
    have u := (List.pairwise_iff_getElem.mp up) i j hi hj hij
    have d := (List.pairwise_iff_getElem.mp dn) i j (by simpa using hi) (by simpa using hj) hij
    simp only [List.getElem_map] at d
    rw [getD_get l1, getD_get l2] at d
    have g : ∀ {k : Nat} (hk : k < ns.length), (layF ns)[k]? = some ((layF ns).getD k 0) := fun {k} hk => by
      rw [List.getD_eq_getElem?_getD, List.getElem?_eq_getElem (by rw [L.len]; exact hk)]; rfl
    have := L.rise Q[i] Q[j] l1 l2 u (by rw [g l1, g l2]; congr 1; omega)
    omega) (fun x hx => by
    obtain ⟨p, hp, rfl⟩ := List.mem_map.mp hx
    have l := lt p hp
    have hm : (layF ns).getD p 0 ∈ layF ns := by
      rw [List.getD_eq_getElem?_getD, List.getElem?_eq_getElem (by rw [L.len]; exact l)]
      exact List.getElem_mem _
    have := fallsF_lt hm
    omega)
  rw [List.length_map] at z
  exact z
theorem falls_le_places {ns : List Int} (h : IsRow ns) : fallsF ns ≤ fallsF (placesOf ns) := by
  have F := fallPos_ok h.1
  generalize (fallPos ns).reverse = R at F
  have inv : ∀ p, p < ns.length → (placesOf ns).getD (ns.getD p 0).toNat 0 = (p : Int) := fun p hp => by
    rw [List.getD_eq_getElem?_getD, getD_get hp, placesOf_at h hp]; rfl
  have low : ∀ p, p < ns.length → 0 ≤ ns.getD p 0 ∧ ns.getD p 0 < ns.length := fun p hp => by
    rw [getD_get hp]; exact h.2.1 _ (List.getElem_mem hp)
  have z := dec_le (placesOf_row h).1 (Q := (R.map fun p => (ns.getD p 0).toNat).reverse) (by
    rw [List.pairwise_reverse, List.pairwise_map]
    have v := F.val
    rw [List.pairwise_map] at v
    refine v.imp_of_mem ?_
    intro a b ha hb hab
    have := low a (F.lt a ha)
    have := low b (F.lt b hb)
    omega) (fun x hx => by
    rw [List.mem_reverse] at hx
    obtain ⟨p, hp, rfl⟩ := List.mem_map.mp hx
    have := low p (F.lt p hp)
    rw [placesOf_len]
    omega) (by
    rw [List.map_reverse, List.pairwise_reverse, List.map_map, List.pairwise_map]
    refine F.inc.imp_of_mem ?_
    intro a b ha hb hab
    show (placesOf ns).getD (ns.getD b 0).toNat 0 > (placesOf ns).getD (ns.getD a 0).toNat 0
    rw [inv a (F.lt a ha), inv b (F.lt b hb)]
    omega)
  rw [List.length_reverse, List.length_map, F.len] at z
  exact z
theorem falls_places {ns : List Int} (h : IsRow ns) : fallsF (placesOf ns) = fallsF ns := by
  have a := falls_le_places h
  have b := falls_le_places (placesOf_row h)
  rw [placesOf_twice h] at b
  omega
end Tw

set_option maxHeartbeats 4000000
namespace Tw
open PySem PySem.Spec PyProof.Rows L2
/-! ### isinstance(e, c), e a caught error with fields -/
structure IsC (K : PySem.W.Frag) (C : Addr) : Prop where
  cl : (PySem.W.clsIn K C).isSome = true
  ga : PySem.W.findIn K (.ref C) "__getattribute__" = some (some (.builtin "BaseException.__getattribute__"))
  gg : PySem.W.findIn K (.ref C) "__getattr__" = some none
  su : PySem.W.subIn K (.ref C) (.type "BaseException") = some true
  hd : PySem.W.hasDictIn K C = true
  ac : PySem.W.findIn K (.ref C) "__class__" = some (some (.builtin "object.__class__"))
  sp : PySem.W.specialIn K (.builtin "object.__class__") "__get__" = some (some (.builtin "getset_descriptor.__get__"))
  tk : PySem.W.takesIn K (.builtin "object.__class__") = some true
  mr : PySem.W.mroIn K C (.type "object") = some true
theorem IsC.xf {K : PySem.W.Frag} {C : Addr} (h : IsC K C) : XfC K C := ⟨h.ga, h.gg, h.su, h.hd⟩
def rIsX (K : PySem.W.Frag) (C a : Addr) (cls : Value) (d : Option Addr) : List V → Hp → VK → Prop := fun xs H Q => ∃ (c : V) (cv : Value) (b : Bool) (dd : Addr) (fs : List (Str × V)), xs = [.ref a, c] ∧ cls = .ref C ∧ d = some dd ∧ H dd = some (.xd fs) ∧ (∀ u, RelV c u → u = cv) ∧ PySem.W.kitOne K (.ref C) cv = some b ∧ Q (.bl b) H
theorem call_isX {X : Cx} {a C : Addr} {cls : Value} {d : Option Addr} {oe : Obj} {pn : List (Addr × Obj)} (T : IsC X.K C) (hz : Zc cls d oe) (hf : ∃ vs, oe.data = .fields vs) : CallR (X.suite a ((a, oe) :: pn)) (.builtin "isinstance") (rIsX X.K C a cls d) := by
  intro pins s σ H xs us Q I r h
  obtain ⟨c, cv, b, dd, fs, rfl, ec, ed, ea, hcv, e, q⟩ := h
  subst ec ed
  cases r with
  | cons rx rr =>
    cases rr with
    | cons rt rr =>
      cases rr
      cases rx
      have ec := hcv _ rt
      subst ec
      obtain ⟨hget, _⟩ := I.pin (a, oe) (List.mem_append.mpr (.inl List.mem_cons_self))
      obtain ⟨vs, hd⟩ := hf
      have hx : ObjOk X.prog X.w H s.heap dd (.xd fs) := I.hok dd _ ea
      obtain ⟨mA, hns, hr⟩ := hx
      obtain ⟨od, ho, hl⟩ := lookIn_ns hns
      have J : PySem.W.InstAt s.heap a oe C (some od) := ⟨hget, hz.1, by unfold PySem.W.notCls; rw [hd] <;> rfl, by rw [hz.2]; exact ho⟩
      exact PySem.W.kia_one (PySem.W.kitx_exc T.cl T.ga T.gg T.su T.ac T.sp T.tk T.mr) I.kIn J e (fun z => nomatch z) fun tk => ⟨.bl b, H, I.kept (t' := tk) fun _ _ z => z, rfl, q⟩
/-- what _law_refused makes of the reading of what it calls -/
def TRef (mg : Str → Option Value) (x : Str) : (XK → Hp → VK → Prop) → Hp → VK → Prop := fun tl H Q =>
  tl (fun cls d H' => cls = .ref (ecOf mg x) ∧ ∃ (dd : Addr) (v : V), d = some dd ∧ H' dd = some (.xd (efs x v)) ∧ Q v H') H (fun _ H' => Q .non H')
theorem takes_len {X : Cx} {W : WX} (tk : Takes X W) : Takes X (fun c d σ H => σ.length = X.N.length → W c d σ H) := fun u s' h => by
  obtain ⟨a, B, sI, pins, σ, H, cls, d, e, I, nb, up, sky, na, os, ag, w⟩ := h
  exact tk u s' ⟨a, B, sI, pins, σ, H, cls, d, e, I, nb, up, sky, na, os, ag, w I.len⟩
/-! ### a def that calls the lambda it gets -/
structure Giv (K : PySem.W.Frag) (mg : Str → Option Value) (x a : Str) (Ng : List Str) (TT : (XK → Hp → VK → Prop) → Hp → VK → Prop) : Prop where
  ex : ∃ (g : Addr) (pg : Arguments) (bg : List Stmt) (sg : Scope) (dV kV doc pm cdv ct oc : Value) (an od : Option Addr) (osl : Array (Option Value)), mg x = some (.ref g) ∧ PySem.W.keepIn K (.ref g) = true ∧
    K.lookup g = some ⟨oc, od, .func (PySem.W.fnOf x x pg bg sg dV kV doc pm an cdv ct), osl⟩ ∧ PySem.W.codeIn K cdv x = true ∧ L2.Binds K (PySem.W.fnOf x x pg bg sg dV kV doc pm an cdv ct) [a] [] ∧ FnScope Ng [a] sg ∧ Ng[0]? = some a ∧ Vis sg a ∧
    ∀ X : Cx, X.K = K → X.mg = mg → ∀ q : Str, LamX.GivesTo X Ng x sg g cdv bg a q TT
theorem pe_giv {X : Cx} {T : List (Addr × Str)} {TT : (XK → Hp → VK → Prop) → Hp → VK → Prop} {x a : Str} {c P : Addr} {k n : Nat} {Ng : List Str} {params : Arguments} {body : Expr} {scope : Scope} {t : XK → TE} {p lpos pos : Pos} (G : Giv X.K X.mg x a Ng TT)
    (TB : LamX.TabB X.base X.mg c P) (hcode : X.env.code = .ref c) (hmT : (P, X.env.qual ++ "<lambda>") ∈ T) (hu : ∀ p ∈ T, p.1 = P → p.2 = X.env.qual ++ "<lambda>") (hr : Room n X.A)
    (hbody : ∀ (A : Around) (outer : List Env) (s : Shared) (H : Hp) (E : XK) (f c' : Addr), Room k (A.deeper (LamX.lamEnv X scope s.heap.objs.size f c')) → PE (LamX.lamCx X A outer s H E scope f c') body (t E))
    (L : LamX.LamS X.env.scope scope) (hle : k + 2 ≤ n := by decide) (hg : Gl X x := by rfl) (hdef : defaultsOf params X.env = ([], []) := by rfl)
    (hbind : ∀ (q : Str) (cl : List (Str × Addr)) (pm cv ctv : Value), bindArgs (PySem.W.kla_fn "<lambda>" q params body scope cl pm cv ctv) ⟨[], []⟩ = pure [] := by intro _ _ _ _ _; rfl)
    (hdb : (x == ("__debug__" : Str)) = false := by decide) (hd : (a == ("__debug__" : Str)) = false := by decide) (hcd : (a == ("__classdict__" : Str)) = false := by decide) :
    PE X (.Call (.Name x p) [.Lambda params body scope lpos] [] pos) (LamX.tLam T TT t) := by
  obtain ⟨g, pg, bg, sg, dV, kV, doc, pm, cdv, ct, oc, an, od, osl, hm, hk, lk, hcg, hb, Sg, hNg, hva, hG⟩ := G.ex
  exact LamX.pe_lamcall hg hm hk lk hcg hb Sg hNg hva (hG X rfl rfl _) TB hcode hmT hu (hr.mono hle) L hdef hbind hbody hdb hd hcd
/-- a def whose code object is known -/
theorem ok_code {P : Program} {w : World} {K : PySem.W.Frag} {mg : Str → Option Value} {base : Heap} {x qual : Str} {st : Stmt} {f : Addr} {N ps : List Str} {k : Nat} {sp : Sp} {oc : Value} {od an : Option Addr} {osl : Array (Option Value)} {kV doc pm cdv ct : Value}
    (lk : K.lookup f = some ⟨oc, od, .func (PySem.W.fnOf x qual (defArgs st) (defBody st) (defScope st) .none kV doc pm an cdv ct), osl⟩) (hcd : PySem.W.codeIn K cdv qual = true) (S : FnScope N ps (defScope st)) (len : ∀ vs H Q E, sp vs H Q E → vs.length = ps.length)
    (hbody : ∀ (A : Around) (outer : List Env) (s : Shared) (H : Hp) (vs : List V) (Q : VK) (E : XK), Room k (A.deeper (envOfC qual (defScope st) s.heap.objs.size f cdv)) → sp vs H Q E →
      ∃ t, PSs (cxOf CX0 P w K mg base N qual (defScope st) f cdv A outer s H E).nox (defBody st) t ∧ t { nx := fun _ H' => Q .non H', rt := Q } (start N vs) H) : FnOk P w K mg base CX0 (k + 1) f (PySem.W.fnOf x qual (defArgs st) (defBody st) (defScope st) .none kV doc pm an cdv ct) ps sp :=
  fn_of lk hcd S len fun A outer s H vs Q E hr hsp => by
    obtain ⟨t, h, q⟩ := hbody A outer s H vs Q E hr hsp
    exact ⟨t, h.nox, q⟩
/-! ### data stays while a lambda is made -/
theorem seqL_ext {K : PySem.W.Frag} {H H' : Hp} {a : Addr} {xs : List V} (k : LamX.ExtN H H') (h : SqL K H a xs) : SqL K H' a xs := by
  rcases h with (h | ⟨o, h⟩) | h
  · exact .inl (.inl (k _ _ h fun _ z => nomatch z))
  · exact .inl (.inr ⟨o, k _ _ h fun _ z => nomatch z⟩)
  · exact .inr h
theorem seqT_ext {K : PySem.W.Frag} {H H' : Hp} {a : Addr} {xs : List V} (k : LamX.ExtN H H') (h : SqT K H a xs) : SqT K H' a xs := by
  rcases h with (h | ⟨o, h⟩) | h
  · exact .inl (.inl (k _ _ h fun _ z => nomatch z))
  · exact .inl (.inr ⟨o, k _ _ h fun _ z => nomatch z⟩)
  · exact .inr h
mutual
theorem dp_ext {K : PySem.W.Frag} {H H' : Hp} (k : LamX.ExtN H H') : ∀ (d : PyData) (v : V), Dp K H v d → Dp K H' v d
  | .none, _, h => by cases h; exact .non
  | .bool b, _, h => by cases h; exact .bl b
  | .int i, _, h => by cases h; exact .int i
  | .str x, _, h => by cases h; exact .str x
  | .list ds, _, h => by
    cases h with
    | lst hs ha => exact .lst (seqL_ext k hs) (dpAll_ext k ds _ ha)
  | .tuple ds, _, h => by
    cases h with
    | tup hs ha => exact .tup (seqT_ext k hs) (dpAll_ext k ds _ ha)
  | .dict _, _, h => by cases h
theorem dpAll_ext {K : PySem.W.Frag} {H H' : Hp} (k : LamX.ExtN H H') : ∀ (ds : List PyData) (vs : List V), DpAll K H vs ds → DpAll K H' vs ds
  | [], _, h => by cases h; exact .nil
  | d :: ds, _, h => by
    cases h with
    | cons h1 h2 => exact .cons (dp_ext k d _ h1) (dpAll_ext k ds _ h2)
end
theorem tabS_keep {H H' : Hp} {p q P : Addr} {nm : Str} (hP : Pool H p q) (k : Keep p q H H') (t : LamX.TabS H P nm) : LamX.TabS H' P nm := by
  obtain ⟨a, b, cs, e1, e2, _⟩ := hP
  obtain ⟨ps, h1, h2, h3⟩ := t
  have ne : ∀ {x : Addr} {o : HO}, H x = some o → (∀ ys, o ≠ .lst ys) → H' x = some o := fun {x o} e no => k x o e (fun z => by
    rw [z, e1] at e
    exact no _ (Option.some.inj e).symm) (fun z => by
    rw [z, e2] at e
    exact no _ (Option.some.inj e).symm)
  refine ⟨ps, ne h1 (fun ys z => nomatch z), h2, fun pos cv hc => ?_⟩
  obtain ⟨c, e3, e4⟩ := h3 pos cv hc
  exact ⟨c, e3, ne e4 (fun ys z => by
    have z' : HO.ext _ = HO.lst ys := z
    cases z')⟩
theorem tabs_keep {H H' : Hp} {p q : Addr} {T : List (Addr × Str)} (hP : Pool H p q) (k : Keep p q H H') (t : LamX.Tabs T H) : LamX.Tabs T H' := fun x hx => tabS_keep hP k (t x hx)
/-! ### what made_row finds wrong is one thing -/
theorem rowPre_less {n j : Nat} {ds : List PyData} (h : RowPre n (j + 1) ds) : RowPre n j ds := by
  obtain ⟨ns, e, hl, nd, hb⟩ := h
  refine ⟨ns.take j, ?_, by rw [List.length_take]; omega, (List.take_sublist _ _).nodup nd, fun x hx => hb x (List.mem_of_mem_take hx)⟩
  have z : (ds.take (j + 1)).take j = (pi ns).take j := by rw [e]
  rw [List.take_take, Nat.min_eq_left (Nat.le_succ j)] at z
  rw [z]
  unfold pi
  rw [List.map_take]
theorem rowPre_mono {n i j : Nat} {ds : List PyData} (h : RowPre n j ds) (hij : i ≤ j) : RowPre n i ds := by
  induction j with
  | zero =>
    have : i = 0 := by omega
    subst this
    exact h
  | succ j ih =>
    by_cases c : i = j + 1
    · subst c; exact h
    · exact ih (rowPre_less h) (by omega)
theorem rowBad_one {d : PyData} {i j : Int} (h1 : RowBad d i) (h2 : RowBad d j) : i = j := by
  rcases h1 with ⟨e1, b1⟩ | ⟨ds, a, ed, l1, e1, a1, p1, n1⟩
  · rcases h2 with ⟨e2, _⟩ | ⟨ds, b, ed, l2, _, _, _, _⟩
    · rw [e1, e2]
    · have := b1 ds ed
      omega
  · rcases h2 with ⟨_, b2⟩ | ⟨es, b, ee, l2, e2, a2, p2, n2⟩
    · have := b2 ds ed
      omega
    · rw [ed] at ee
      have ee' := PyData.tuple.inj ee
      subst ee'
      by_cases c : a = b
      · rw [e1, e2, c]
      · by_cases c2 : a < b
        · exact (n1 (rowPre_mono p2 c2)).elim
        · exact (n2 (rowPre_mono p1 (by omega))).elim
theorem bad_none {d : PyData} (h : ∀ ds, d ≠ .tuple ds) : RowBad d (-1) := .inl ⟨rfl, fun ds e => (h ds e).elim⟩
theorem bad_long {ds : List PyData} (h : 400 < ds.length) : RowBad (.tuple ds) (-1) := .inl ⟨rfl, fun es e => by
  have z := PyData.tuple.inj e
  rw [← z]
  exact h⟩
theorem bad_at {ns : List Int} {e : PyData} {r : List PyData} (nd : ns.Nodup) (hl : ns.length + 1 + r.length ≤ 400) (hb : ∀ x ∈ ns, 0 ≤ x ∧ x < ((ns.length + 1 + r.length : Nat) : Int))
    (he : ∀ y : Int, e = .int y → 0 ≤ y → y < ((ns.length + 1 + r.length : Nat) : Int) → y ∈ ns) : RowBad (.tuple (pi ns ++ e :: r)) (ns.length : Int) := by
  have len : (pi ns ++ e :: r).length = ns.length + 1 + r.length := by
    rw [List.length_append, pi_len, List.length_cons]
    omega
  have tk : ∀ m, (pi ns ++ e :: r).take (ns.length + m) = pi ns ++ (e :: r).take m := fun m => by
    have z := List.take_length_add_append (l₁ := pi ns) (l₂ := e :: r) (i := m)
    rw [pi_len] at z
    exact z
  refine .inr ⟨_, ns.length, rfl, by rw [len]; exact hl, rfl, by rw [len]; omega, ⟨ns, ?_, rfl, nd, by rw [len]; exact hb⟩, ?_⟩
  · have z := tk 0
    rw [List.take_zero, List.append_nil, Nat.add_zero] at z
    exact z
  · rintro ⟨ms, e1, hm, ndm, hbm⟩
    rw [tk 1] at e1
    have e2 : pi ns ++ [e] = pi ms := e1
    have hl1 : ns.length < ms.length := by omega
    have g : (pi ms)[ns.length]? = some e := by
      rw [← e2, List.getElem?_append_right (by rw [pi_len]; exact Nat.le_refl _), pi_len, Nat.sub_self]
      rfl
    have g2 : e = .int ms[ns.length] := by
      unfold pi at g
      rw [List.getElem?_map, List.getElem?_eq_getElem hl1] at g
      exact (Option.some.inj g).symm
    have g3 : ms.take ns.length = ns := by
      apply pi_inj
      unfold pi
      rw [List.map_take]
      show (pi ms).take ns.length = pi ns
      rw [← e2, List.take_left' (pi_len ns)]
    have b := hbm _ (List.getElem_mem hl1)
    rw [len] at b
    have hin := he _ g2 b.1 b.2
    have hin2 : ms[ns.length] ∈ ms.take ns.length := by
      rw [g3]
      exact hin
    obtain ⟨j, hj, ej⟩ := List.getElem_of_mem hin2
    rw [List.length_take] at hj
    rw [List.getElem_take] at ej
    have := (List.getElem_inj ndm).mp ej
    omega
/-- a pair of what is no row and what is wrong in it -/
def WrG (K : PySem.W.Frag) (H : Hp) (x : V) : Prop := ∃ (t : Addr) (v : V) (d : PyData) (w : Int), x = .ref t ∧ SqT K H t [v, .int w] ∧ Dp K H v d ∧ RowBad d w
theorem WrG.same {K : PySem.W.Frag} {H H' : Hp} {x : V} (h : WrG K H x) (s : Same H H') : WrG K H' x := by
  obtain ⟨t, v, d, w, e, h1, h2, h3⟩ := h
  exact ⟨t, v, d, w, e, s.seqT h1, dp_mono s _ _ h2, h3⟩
theorem newT {K : PySem.W.Frag} {H : Hp} {t : Addr} {xs : List V} : SqT K (upd H t (.tup xs)) t xs := .inl (.inl upd_same)
theorem dpAll_app {K : PySem.W.Frag} {H : Hp} : ∀ {xs ys : List V} {ds es : List PyData}, DpAll K H xs ds → DpAll K H ys es → DpAll K H (xs ++ ys) (ds ++ es)
  | _, _, _, _, .nil, h => h
  | _, _, _, _, .cons a b, h => .cons a (dpAll_app b h)
theorem cut_head (xs : List V) : cutV xs none (some 1) = xs.take 1 := by
  unfold cutV
  rw [HT.sIx_none, show HT.sIx xs.length xs.length (some 1) = min 1 xs.length from HT.sIx_nat xs.length xs.length 1, List.drop_zero, Nat.sub_zero]
  cases xs with
  | nil => rfl
  | cons x r =>
    rw [show min 1 (x :: r).length = 1 by rw [List.length_cons]; omega]
theorem bad1 {ns : List Int} {e : PyData} (r : List PyData) (h : IsRow ns) (hl : ns.length + 1 + r.length ≤ 400) (he : ∀ y : Int, e = .int y → y < 0 ∨ ((ns.length + 1 + r.length : Nat) : Int) ≤ y ∨ y ∈ ns) : RowBad (.tuple (pi ns ++ e :: r)) (ns.length : Int) :=
  bad_at h.1 hl (fun x hx => by
    have := h.2.1 x hx
    omega) fun y ey y0 y1 => by
    rcases he y ey with z | z | z
    · omega
    · omega
    · exact z
theorem WrG.ext {K : PySem.W.Frag} {H H' : Hp} {x : V} (h : WrG K H x) (s : LamX.ExtN H H') : WrG K H' x := by
  obtain ⟨t, v, d, w, e, h1, h2, h3⟩ := h
  exact ⟨t, v, d, w, e, seqT_ext s h1, dp_ext s _ _ h2, h3⟩
theorem cut_zero (xs : List V) : cutV xs none (some 0) = [] := by
  unfold cutV
  rw [HT.sIx_none, show HT.sIx xs.length xs.length (some 0) = min 0 xs.length from HT.sIx_nat xs.length xs.length 0, List.drop_zero, Nat.zero_min]
  rfl
theorem nilRow : IsRow [] := ⟨.nil, fun x hx => (nomatch hx), Nat.zero_le _⟩
end Tw

set_option maxHeartbeats 4000000
namespace Tw
open PySem PySem.Spec PyProof.Rows L2
/-! ### a wagon's layer is the longest way down to it -/
theorem lay_desc {ns : List Int} {ls : List Nat} (L : LayOk ns ls) : ∀ (e j c : Nat) (hj : j < ns.length), ls[j]? = some (c + e) → ∃ i, ∃ hi : i < ns.length, i ≤ j ∧ ls[i]? = some c ∧ ns[j] ≤ ns[i]
  | 0, j, c, hj, h => ⟨j, hj, Nat.le_refl _, h, Int.le_refl _⟩
  | e + 1, j, c, hj, h => by
    obtain ⟨i, hi, hij, h1, h2⟩ := L.above j (c + e) hj h
    obtain ⟨i', hi', hii, h3, h4⟩ := lay_desc L e i c hi h1
    exact ⟨i', hi', by omega, h3, by omega⟩
theorem lay_lt {ns : List Int} {ls : List Nat} (L : LayOk ns ls) {i j : Nat} (hi : i < ns.length) (hj : j < ns.length) (hij : j < i) (hv : ns[i] < ns[j]) : ls.getD j 0 < ls.getD i 0 := by
  have g : ∀ {k : Nat}, k < ns.length → ls[k]? = some (ls.getD k 0) := fun {k} hk => by
    rw [List.getD_eq_getElem?_getD, List.getElem?_eq_getElem (by rw [L.len]; exact hk)]; rfl
  refine Classical.byContradiction fun z => ?_
  obtain ⟨i', hi', h1, h2, h3⟩ := lay_desc L (ls.getD j 0 - ls.getD i 0) j (ls.getD i 0) hj (by rw [g hj]; congr 1; omega)
  have r := L.rise i' i hi' hi (by omega) (by rw [h2, g hi])
  omega
/-- the greatest of «layer + 1» of the greater wagons ahead, and 0 -/
theorem lay_max {ns : List Int} {ls : List Nat} (L : LayOk ns ls) {i : Nat} (hi : i < ns.length) {m : Int} {X : List Int} (hX : ∀ x : Int, x ∈ X ↔ ∃ j, j < i ∧ ns.getD i 0 < ns.getD j 0 ∧ x = ((ls.getD j 0 : Nat) : Int) + 1)
    (hm : m ∈ X ++ [0]) (hmax : ∀ y ∈ X ++ [0], y ≤ m) : m = ((ls.getD i 0 : Nat) : Int) := by
  have le : m ≤ ((ls.getD i 0 : Nat) : Int) := by
    rcases List.mem_append.mp hm with h | h
    · obtain ⟨j, hj, hv, e⟩ := (hX m).mp h
      rw [getD_get hi, getD_get (by omega : j < ns.length)] at hv
      have := lay_lt L hi (by omega) hj hv
      omega
    · rw [List.mem_singleton.mp h]
      omega
  have ge : ((ls.getD i 0 : Nat) : Int) ≤ m := by
    by_cases c : ls.getD i 0 = 0
    · rw [c]
      exact hmax 0 (List.mem_append.mpr (.inr List.mem_cons_self))
    · obtain ⟨j, hj, hij, h1, h2⟩ := L.above i (ls.getD i 0 - 1) hi (by
        rw [List.getElem?_eq_getElem (by rw [L.len]; exact hi)]
        have e : ls.getD i 0 = ls[i]'(by rw [L.len]; exact hi) := by
          rw [List.getD_eq_getElem?_getD, List.getElem?_eq_getElem (by rw [L.len]; exact hi)]; rfl
        congr 1
        omega)
      have ej : ls.getD j 0 = ls.getD i 0 - 1 := by rw [List.getD_eq_getElem?_getD, h1]; rfl
      have := hmax (((ls.getD j 0 : Nat) : Int) + 1) (List.mem_append.mpr (.inl ((hX _).mpr ⟨j, hij, by rw [getD_get hi, getD_get hj]; exact h2, rfl⟩)))
      omega
  omega
/-! ### ways down, told by their places -/
structure Chain (ns : List Int) (i : Nat) (C : List Nat) : Prop where
  ne : C ≠ []
  up : C.Pairwise (· < ·)
  lt : ∀ x ∈ C, x < i
  dn : (C.map fun p => ns.getD p 0).Pairwise (· > ·)
theorem Chain.mono {ns : List Int} {i j : Nat} {C : List Nat} (h : Chain ns i C) (hij : i ≤ j) : Chain ns j C := ⟨h.ne, h.up, fun x hx => Nat.lt_of_lt_of_le (h.lt x hx) hij, h.dn⟩
theorem Chain.one {ns : List Int} (i : Nat) : Chain ns (i + 1) [i] := ⟨by simp, List.pairwise_singleton .., fun x hx => by rw [List.mem_singleton.mp hx]; exact Nat.lt_succ_self i, List.pairwise_singleton ..⟩
theorem last_least : ∀ (l : List Int) (h : l ≠ []), l.Pairwise (· > ·) → ∀ a ∈ l, l.getLast h ≤ a
  | [x], _, _, a, ha => by
    rw [List.mem_singleton.mp ha]
    exact Int.le_refl _
  | x :: y :: r, _, hp, a, ha => by
    rw [List.pairwise_cons] at hp
    have ih := last_least (y :: r) (by simp) hp.2
    rw [List.getLast_cons (by simp)]
    rcases List.mem_cons.mp ha with e | e
    · have := hp.1 _ (List.getLast_mem (by simp : y :: r ≠ []))
      rw [e]
      omega
    · exact ih a e
theorem Chain.snoc {ns : List Int} {i : Nat} {C : List Nat} (h : Chain ns i C) (hv : ns.getD i 0 < ns.getD (C.getLast h.ne) 0) : Chain ns (i + 1) (C ++ [i]) := by
  refine ⟨by simp, ?_, fun x hx => ?_, ?_⟩
  · rw [List.pairwise_append]
    exact ⟨h.up, List.pairwise_singleton .., fun a ha b hb => by rw [List.mem_singleton.mp hb]; exact h.lt a ha⟩
  · rcases List.mem_append.mp hx with e | e
    · exact Nat.lt_succ_of_lt (h.lt x e)
    · rw [List.mem_singleton.mp e]; exact Nat.lt_succ_self i
  · rw [List.map_append, List.pairwise_append]
    refine ⟨h.dn, List.pairwise_singleton .., fun a ha b hb => ?_⟩
    have e : b = ns.getD i 0 := List.mem_singleton.mp hb
    have hne : (C.map fun p => ns.getD p 0) ≠ [] := by
      intro z
      exact h.ne (List.map_eq_nil_iff.mp z)
    have := last_least _ hne h.dn a ha
    rw [List.getLast_map] at this
    rw [e]
    omega
theorem chain_le {ns : List Int} {ls : List Nat} (L : LayOk ns ls) {i : Nat} {C : List Nat} (h : Chain ns i C) (hi : i ≤ ns.length) : C.length ≤ ls.getD (C.getLast h.ne) 0 + 1 := by
  have key : ∀ (k : Nat) (hk : k < C.length), k ≤ ls.getD C[k] 0 := fun k => by
    induction k with
    | zero => intro _; exact Nat.zero_le _
    | succ k ih =>
      intro hk
      have h1 := ih (by omega)
      have lt1 := h.lt _ (List.getElem_mem (by omega : k < C.length))
      have lt2 := h.lt _ (List.getElem_mem hk)
      have u := (List.pairwise_iff_getElem.mp h.up) k (k + 1) (by omega) hk (Nat.lt_succ_self k)
      have d := (List.pairwise_iff_getElem.mp h.dn) k (k + 1) (by simp; omega) (by simpa using hk) (Nat.lt_succ_self k)
      simp only [List.getElem_map] at d
      rw [getD_get (by omega : C[k] < ns.length), getD_get (by omega : C[k + 1] < ns.length)] at d
      have := lay_lt L (by omega : C[k + 1] < ns.length) (by omega : C[k] < ns.length) u d
      omega
  have hl : 0 < C.length := List.length_pos_iff.mpr h.ne
  have e : C.getLast h.ne = C[C.length - 1] := List.getLast_eq_getElem h.ne
  have := key (C.length - 1) (by omega)
  rw [e]
  omega
/-! ### rows that rise, rows that fall -/
theorem falls_rise (n : Nat) : fallsF (rgI n) = if n = 0 then 0 else 1 := by
  have nd : (rgI n).Nodup := by
    unfold rgI
    rw [List.nodup_iff_pairwise_ne, List.pairwise_map]
    exact List.Pairwise.imp (fun h e => h (by omega)) (List.nodup_iff_pairwise_ne.mp List.nodup_range)
  by_cases c : n = 0
  · rw [if_pos c, (fallsF_nil nd)]
    subst c
    rfl
  · rw [if_neg c]
    have h0 : fallsF (rgI n) ≠ 0 := fun z => by
      have := (fallsF_nil nd).mp z
      have l := rgI_len n
      rw [this] at l
      exact c l.symm
    have F := fallPos_ok nd
    have h1 : fallsF (rgI n) ≤ 1 := by
      refine Classical.byContradiction fun z => ?_
      rw [← F.len] at z
      have l0 := F.lt _ (List.getElem_mem (by omega : 0 < (fallPos (rgI n)).reverse.length))
      have l1 := F.lt _ (List.getElem_mem (by omega : 1 < (fallPos (rgI n)).reverse.length))
      have u := (List.pairwise_iff_getElem.mp F.inc) 0 1 (by omega) (by omega) (by omega)
      have d := (List.pairwise_iff_getElem.mp F.val) 0 1 (by rw [List.length_map]; omega) (by rw [List.length_map]; omega) (by omega)
      simp only [List.getElem_map] at d
      rw [rgI_len] at l0 l1
      have g : ∀ {k : Nat}, k < n → (rgI n).getD k 0 = (k : Int) := fun {k} hk => by rw [List.getD_eq_getElem?_getD, rgI_get hk]; rfl
      rw [g l0, g l1] at d
      omega
    omega
theorem rev_get {n k : Nat} (hk : k < n) : (rgI n).reverse.getD k 0 = ((n - 1 - k : Nat) : Int) := by
  rw [List.getD_eq_getElem?_getD, List.getElem?_reverse (by rw [rgI_len]; exact hk), rgI_len, rgI_get (by omega)]
  rfl
theorem lays_fall {n : Nat} (hn : n ≤ 400) : fallsF (rgI n).reverse = n ∧ nI (layF (rgI n).reverse) = rgI n := by
  have hrow : IsRow (rgI n).reverse := rev_row (rgI_row hn)
  have len : (rgI n).reverse.length = n := by rw [List.length_reverse, rgI_len]
  have L := layF_ok hrow.1
  have F := fallPos_ok hrow.1
  have le : fallsF (rgI n).reverse ≤ n := by
    have z := pigeon n ((fallPos (rgI n).reverse).reverse.map fun (j : Nat) => (j : Int)) (by
      rw [List.nodup_iff_pairwise_ne, List.pairwise_map]
      exact F.inc.imp fun h e => by omega) (fun x hx => by
      obtain ⟨j, hj, rfl⟩ := List.mem_map.mp hx
      have := F.lt j hj
      rw [len] at this
      omega)
    rw [List.length_map, F.len] at z
    exact z
  have step : ∀ k, k < n → k ≤ (layF (rgI n).reverse).getD k 0 := fun k => by
    induction k with
    | zero => intro _; exact Nat.zero_le _
    | succ k ih =>
      intro hk
      have h1 := ih (by omega)
      have hv : (rgI n).reverse.getD (k + 1) 0 < (rgI n).reverse.getD k 0 := by
        rw [rev_get hk, rev_get (by omega)]
        omega
      rw [getD_get (by rw [len]; exact hk), getD_get (by rw [len]; omega)] at hv
      have := lay_lt L (by rw [len]; exact hk) (by rw [len]; omega) (show k < k + 1 by omega) hv
      omega
  have top : ∀ k, k < n → (layF (rgI n).reverse).getD k 0 < fallsF (rgI n).reverse := fun k hk => fallsF_lt (by
    rw [List.getD_eq_getElem?_getD, List.getElem?_eq_getElem (by rw [L.len, len]; exact hk)]
    exact List.getElem_mem _)
  have room : ∀ k, k < n → (layF (rgI n).reverse).getD k 0 + (n - 1 - k) < fallsF (rgI n).reverse := fun k hk => by
    have key : ∀ e k, k + e = n - 1 → k < n → (layF (rgI n).reverse).getD k 0 + e < fallsF (rgI n).reverse := fun e => by
      induction e with
      | zero => intro k _ hk; exact top k hk
      | succ e ih =>
        intro k hke hk
        have h1 := ih (k + 1) (by omega) (by omega)
        have hv : (rgI n).reverse.getD (k + 1) 0 < (rgI n).reverse.getD k 0 := by
          rw [rev_get (by omega), rev_get hk]
          omega
        rw [getD_get (by rw [len]; omega), getD_get (by rw [len]; exact hk)] at hv
        have := lay_lt L (by rw [len]; omega) (by rw [len]; exact hk) (show k < k + 1 by omega) hv
        omega
    exact key (n - 1 - k) k (by omega) hk
  refine ⟨?_, ?_⟩
  · by_cases c : n = 0
    · omega
    · have h1 := step (n - 1) (by omega)
      have h2 := top (n - 1) (by omega)
      omega
  · apply List.ext_getElem?
    intro k
    by_cases hk : k < n
    · have h1 := step k hk
      have h2 := room k hk
      have e : (layF (rgI n).reverse).getD k 0 = k := by omega
      unfold nI
      rw [List.getElem?_map, List.getElem?_eq_getElem (by rw [L.len, len]; exact hk), rgI_get hk]
      rw [List.getD_eq_getElem?_getD, List.getElem?_eq_getElem (by rw [L.len, len]; exact hk)] at e
      show some _ = _
      have e' : (layF (rgI n).reverse)[k]'(by rw [L.len, len]; exact hk) = k := e
      rw [e']
    · rw [List.getElem?_eq_none (by unfold nI; rw [List.length_map, L.len, len]; omega), List.getElem?_eq_none (by rw [rgI_len]; omega)]
end Tw

set_option maxHeartbeats 1000000
namespace Tw
open PySem PySem.Spec PyProof.Rows L2
/-! ### yards -/
def prD (p : Int × Int) : PyData := .tuple [.int p.1, .int p.2]
def ltP (p q : Int × Int) : Prop := p.1 < q.1 ∨ (p.1 = q.1 ∧ p.2 < q.2)
/-- tracks that join lanes and rise -/
structure TrkOk (k l : Int) (ts : List (Int × Int)) : Prop where
  inr : ∀ p ∈ ts, 0 ≤ p.1 ∧ p.1 < k ∧ 0 ≤ p.2 ∧ p.2 < l
  up : ∀ (i : Nat) (p q : Int × Int), ts[i]? = some p → ts[i + 1]? = some q → ltP p q
structure IsYard (k l : Int) (ts : List (Int × Int)) : Prop where
  hk : 1 ≤ k ∧ k ≤ 12
  hl : 1 ≤ l ∧ l ≤ 12
  hn : ts.length ≤ 60
  ok : TrkOk k l ts
def yardD (k l : Int) (ts : List (Int × Int)) : PyData := .tuple [.int k, .int l, .tuple (ts.map prD)]
def TrkPre (k l : Int) (j : Nat) (ds : List PyData) : Prop := ∃ ts : List (Int × Int), ds.take j = ts.map prD ∧ ts.length = j ∧ TrkOk k l ts
/-- what made_yard finds wrong -/
def YardBad (d : PyData) (i : Int) : Prop := (i = -1 ∧ ∀ ds, d = .tuple ds → ds.length ≠ 3) ∨ ∃ x y z, d = .tuple [x, y, z] ∧ ((i = -2 ∧ inD 1 12 x = false) ∨ (i = -3 ∧ inD 1 12 x = true ∧ inD 1 12 y = false) ∨
  ∃ k l : Int, x = .int k ∧ y = .int l ∧ (1 ≤ k ∧ k ≤ 12) ∧ (1 ≤ l ∧ l ≤ 12) ∧ ((i = -4 ∧ ∀ ds, z = .tuple ds → 60 < ds.length) ∨ ∃ (ds : List PyData) (j : Nat), z = .tuple ds ∧ ds.length ≤ 60 ∧ i = (j : Int) ∧ j < ds.length ∧ TrkPre k l j ds ∧ ¬ TrkPre k l (j + 1) ds))
theorem prD_inj {p q : Int × Int} (h : prD p = prD q) : p = q := by
  unfold prD at h
  injection h with h
  injection h with h1 h2
  injection h2 with h2 _
  injection h1 with h1
  injection h2 with h2
  exact Prod.ext h1 h2
theorem map_prD_inj : ∀ {ts us : List (Int × Int)}, ts.map prD = us.map prD → ts = us
  | [], [], _ => rfl
  | [], _ :: _, h => by cases h
  | _ :: _, [], h => by cases h
  | p :: ts, q :: us, h => by
    rw [List.map_cons, List.map_cons] at h
    injection h with h1 h2
    rw [prD_inj h1, map_prD_inj h2]
theorem le_pair (a b c d : Int) : Ob.lexAt (fun j => decide ([a, b].getD j 0 = [c, d].getD j 0)) (fun j => decide ([a, b].getD j 0 ≤ [c, d].getD j 0)) (decide ([a, b].length ≤ [c, d].length)) 0 (min [a, b].length [c, d].length) = true ↔ ¬ ltP (c, d) (a, b) := by
  show (if decide (a = c) = true then (if decide (b = d) = true then decide (2 ≤ 2) else decide (b ≤ d)) else decide (a ≤ c)) = true ↔ _
  unfold ltP
  by_cases h1 : a = c
  · subst h1
    rw [if_pos (decide_eq_true rfl)]
    by_cases h2 : b = d
    · subst h2
      rw [if_pos (decide_eq_true rfl)]
      constructor
      · intro _ z
        rcases z with z | ⟨_, z⟩ <;> exact absurd z (by show ¬ _ < _; omega)
      · intro _
        rfl
    · rw [if_neg (by rw [decide_eq_false h2]; exact Bool.false_ne_true)]
      constructor
      · intro e z
        have e' := of_decide_eq_true e
        rcases z with z | ⟨_, z⟩
        · exact absurd z (by show ¬ _ < _; omega)
        · have z' : d < b := z
          omega
      · intro z
        refine decide_eq_true (Classical.byContradiction fun w => z (.inr ⟨rfl, ?_⟩))
        show d < b
        omega
  · rw [if_neg (by rw [decide_eq_false h1]; exact Bool.false_ne_true)]
    constructor
    · intro e z
      have e' := of_decide_eq_true e
      rcases z with z | ⟨z, _⟩
      · have z' : c < a := z
        omega
      · exact h1 z.symm
    · intro z
      refine decide_eq_true (Classical.byContradiction fun w => z (.inl ?_))
      show c < a
      omega
theorem inD_int {lo hi : Int} {d : PyData} (h : inD lo hi d = true) : ∃ y : Int, d = .int y ∧ lo ≤ y ∧ y ≤ hi := by
  cases d with
  | int y =>
    have z : (decide (lo ≤ y) && decide (y ≤ hi)) = true := h
    rw [Bool.and_eq_true] at z
    exact ⟨y, rfl, of_decide_eq_true z.1, of_decide_eq_true z.2⟩
  | _ => cases h
theorem inD_of {lo hi y : Int} (h1 : lo ≤ y) (h2 : y ≤ hi) : inD lo hi (.int y) = true := by
  show (decide (lo ≤ y) && decide (y ≤ hi)) = true
  rw [decide_eq_true h1, decide_eq_true h2]
  rfl
theorem trkOk_snoc {k l : Int} {ts : List (Int × Int)} {p : Int × Int} (h : TrkOk k l ts) (hp : 0 ≤ p.1 ∧ p.1 < k ∧ 0 ≤ p.2 ∧ p.2 < l) (hl : ∀ q, ts[ts.length - 1]? = some q → ltP q p) : TrkOk k l (ts ++ [p]) := by
  refine ⟨fun x hx => ?_, fun i a b h1 h2 => ?_⟩
  · rcases List.mem_append.mp hx with e | e
    · exact h.inr x e
    · rw [List.mem_singleton.mp e]
      exact hp
  · have l2 := (List.getElem?_eq_some_iff.mp h2).1
    rw [List.length_append, List.length_singleton] at l2
    rw [List.getElem?_append_left (by omega)] at h1
    by_cases c : i + 1 < ts.length
    · rw [List.getElem?_append_left c] at h2
      exact h.up i a b h1 h2
    · have e : i = ts.length - 1 := by omega
      rw [List.getElem?_append_right (by omega), show i + 1 - ts.length = 0 by omega] at h2
      have e2 : p = b := Option.some.inj h2
      rw [← e2]
      exact hl a (by rw [← e]; exact h1)
end Tw
namespace Tw
open PySem PySem.Spec PyProof.Rows L2
open C8 (pss_cut tCut)
def top (i : Nat) : Stmt := PySem.Challenge.pw_trackworth_k30_layers_part_a_row.main.body.getD i (.Pass ⟨0, 0, 0, 0⟩)
section
variable {P : Program} {w : World} {K : PySem.W.Frag} {mg : Str → Option Value} {base : Heap}
abbrev s_init : Stmt := inClass (top 1) 0
theorem sc_init : FnScope ["self", "what"] ["self", "what"] (defScope s_init) := ⟨rfl, rfl, rfl, by decide +kernel, rfl, by decide +kernel, by decide +kernel⟩
theorem ok_init {f : Addr} {fd : FuncData} (F : Fun K "__init__" "Refused.__init__" s_init f fd) : FnOk P w K mg base CX0 1 f fd ["self", "what"] (sp_init K) := by
  refine F.ok sc_init (fun vs H Q E h => ?_) (fun cdv A outer s H vs Q E hr h => ?_)
  · obtain ⟨a, C, v, c, rfl, _⟩ := h
    rfl
  · exact ⟨_, pss_cons (ps_ost (pv 0) (pv 1)) (pss_one (ps_ost (pv 0) (pe_kind (pv 0)))), init_read h rfl⟩
def isNum : PyData → Bool
  | .int _ => true
  | _ => false
def sp_is_number (K : PySem.W.Frag) (mg : Str → Option Value) : Sp := fun vs H Q _ => ∃ (v : V) (d : PyData), vs = [v] ∧ Dp K H v d ∧ Q (.bl (isNum d)) H
--OK
abbrev s_is_number : Stmt := top 4
theorem sc_is_number : FnScope ["thing"] ["thing"] (defScope s_is_number) := ⟨rfl, rfl, rfl, by decide +kernel, rfl, by decide +kernel, by decide +kernel⟩
theorem ok_is_number {f : Addr} {fd : FuncData} (F : Fun K "is_number" "is_number" s_is_number f fd) (T : Nms mg)  : FnOk P w K mg base CX0 1 f fd ["thing"] (sp_is_number K mg) := by
  refine F.ok sc_is_number (fun vs H Q E h => ?_) (fun cdv A outer s H vs Q E hr h => ?_)
  · obtain ⟨v, d, rfl, _⟩ := h
    rfl
  · obtain ⟨v, d, rfl, hd, k⟩ := h
    refine ⟨_, (pss_one (ps_ret (pe_and (pe_callB call_isi (by rfl) T.isinstanceN (by decide +kernel) (pa_cons (pv 0) (pa_cons (pe_bltn (v := .ty "int") (by rfl) T.intN boot_int rfl) pa_nil))) (pe_one (pe_not (pe_callB call_isi (by rfl) T.isinstanceN (by decide +kernel) (pa_cons (pv 0) (pa_cons (pe_bltn (v := .ty "bool") (by rfl) T.boolN (by decide +kernel) rfl) pa_nil)))))))), ?_⟩
    refine ⟨_, rfl, _, _, _, _, _, rfl, .ty _, dp_ty hd, kit_int d, _, rfl, ?_⟩
    have tX := dp_ty hd
    have kB := @kit_bool K d
    cases hd with
    | bl b => exact iteT ⟨_, rfl, _, _, _, _, _, rfl, .ty _, tX, kB, _, rfl, k⟩
    | int i => exact iteT ⟨_, rfl, _, _, _, _, _, rfl, .ty _, tX, kB, _, rfl, k⟩
    | _ => exact iteF k
def sp_within (K : PySem.W.Frag) (mg : Str → Option Value) : Sp := fun vs H Q _ => ∃ (v : V) (d : PyData) (lo hi : Int), vs = [v, .int lo, .int hi] ∧ Dp K H v d ∧ Q (.bl (inD lo hi d)) H
--OK
abbrev s_within : Stmt := top 5
theorem sc_within : FnScope ["thing", "low", "high"] ["thing", "low", "high"] (defScope s_within) := ⟨rfl, rfl, rfl, by decide +kernel, rfl, by decide +kernel, by decide +kernel⟩
theorem ok_within {f : Addr} {fd : FuncData} (F : Fun K "within" "within" s_within f fd) (T : Nms mg) (C_is_number : Cal P w K mg base 1 "is_number" ["thing"] (sp_is_number K mg)) : FnOk P w K mg base CX0 2 f fd ["thing", "low", "high"] (sp_within K mg) := by
  refine F.ok sc_within (fun vs H Q E h => ?_) (fun cdv A outer s H vs Q E hr h => ?_)
  · obtain ⟨v, d, lo, hi, rfl, _⟩ := h
    rfl
  · obtain ⟨v, d, lo, hi, rfl, hd, k⟩ := h
    refine ⟨_, (pss_one (ps_ret (pe_and (pe_cal C_is_number hr (pa_cons (pv 0) pa_nil)) (pe_one (pe_chain op_le op_le (pv 1) (pv 0) (pv 2)))))), ?_⟩
    refine ⟨_, rfl, _, d, rfl, hd, ?_⟩
    cases hd with
    | int i =>
      refine ⟨true, rfl, iteT ?_⟩
      refine ⟨_, rfl, _, rfl, _, _, rfl, rfl, _, rfl, ?_⟩
      have k2 : Q (.bl (decide (lo ≤ i) && decide (i ≤ hi))) H := k
      by_cases c : lo ≤ i
      · rw [decide_eq_true c] at k2 ⊢
        exact iteT ⟨_, rfl, _, _, rfl, rfl, k2⟩
      · rw [decide_eq_false c] at k2 ⊢
        exact iteF k2
    | _ => exact ⟨false, rfl, iteF k⟩
def sp_made_row (K : PySem.W.Frag) (mg : Str → Option Value) : Sp := fun vs H Q E => ∃ (v : V) (d : PyData), vs = [v] ∧ Dp K H v d ∧
  (∀ (ns : List Int) (H' : Hp) (p : Addr), d = .tuple (pi ns) → IsRow ns → Same H H' → H p = none → TupD H' p (ns.map V.int) → Q (.ref p) H') ∧
  (∀ (i : Int) (H' : Hp) (e : Addr), RowBad d i → Same H H' → H e = none → H' e = some (.xd (efs "BadRow" (.int i))) → E (.ref (ecOf mg "BadRow")) (some e) H')
--OK
def seenL (n : Nat) (ns : List Int) : List V := (List.range n).map fun (j : Nat) => V.bl (decide ((j : Int) ∈ ns))
theorem seenL_nil (n : Nat) : (List.replicate n [V.bl false]).flatten = seenL n [] := by
  have h1 : (List.replicate n [V.bl false]).flatten = List.replicate n (V.bl false) := by
    induction n with
    | zero => rfl
    | succ n ih => rw [List.replicate_succ, List.flatten_cons, ih]; rfl
  rw [h1]
  apply List.ext_getElem
  · simp [seenL]
  · intro i h1 h2
    simp [seenL]
theorem seenL_get {n : Nat} {ns : List Int} {j : Nat} (h : j < n) : (seenL n ns)[j]? = some (V.bl (decide ((j : Int) ∈ ns))) := by
  simp [seenL, h]
theorem seenL_set {n : Nat} {ns : List Int} {j : Nat} : (seenL n ns).set j (V.bl true) = seenL n (ns ++ [(j : Int)]) := by
  apply List.ext_getElem
  · simp [seenL]
  · intro i h1 h2
    rw [List.getElem_set]
    simp only [seenL, List.getElem_map, List.getElem_range, List.mem_append, List.mem_singleton]
    by_cases c : j = i
    · subst c; simp
    · have c' : ¬ ((i : Int) = (j : Int)) := by omega
      rw [if_neg c]
      simp [c']
abbrev s_made_row : Stmt := top 8
theorem sc_made_row : FnScope ["thing", "seen", "at", "wagon"] ["thing"] (defScope s_made_row) := ⟨rfl, rfl, rfl, by decide +kernel, rfl, by decide +kernel, by decide +kernel⟩
theorem ok_made_row {f : Addr} {fd : FuncData} (F : Fun K "made_row" "made_row" s_made_row f fd) (T : Nms mg) (C_within : Cal P w K mg base 2 "within" ["thing", "low", "high"] (sp_within K mg)) (R_BadRow : Err P w K mg base "BadRow" (ecOf mg "BadRow")) (g_MOST_WAGONS : ∃ t, mg "MOST_WAGONS" = some (Value.int 400 t)) : FnOk P w K mg base (L2.CX P w) 3 f fd ["thing"] (sp_made_row K mg) := by
  refine F.okX sc_made_row (fun vs H Q E h => ?_) (fun cdv A outer s H vs Q E hr h => ?_)
  · obtain ⟨v, d, rfl, _⟩ := h
    rfl
  · obtain ⟨v, d, rfl, hd, kQ, kE⟩ := h
    obtain ⟨tW, gW⟩ := g_MOST_WAGONS
    refine ⟨_, (pss_cons (ps_if (PW.pt (pw_or (pt_not (pt_val (pe_callB call_isi (by rfl) T.isinstanceN (by decide +kernel) (pa_cons (pv 0) (pa_cons (pe_bltn (v := .ty "tuple") (by rfl) T.tupleN (by decide +kernel) rfl) pa_nil))))) (pw_or1 (pt_cmpR op_gt (pe_callB call_len_seq (by rfl) T.len PySem.boot_len (pa_cons (pv 0) pa_nil)) (pe_glob (v := .int 400) rfl gW ⟨_, rfl⟩) (nomark _))))) (pss_one (ps_err rfl R_BadRow hr (takes_of rfl rfl rfl rfl) (pa_cons (pe_un un_neg pe_int) pa_nil))) pss_nil)
  (pss_cons (ps_set (i := 1) sc_made_row.nd rfl (Or.inl rfl) (pe_op op_rep (pe_lst (pa_cons pe_bl pa_nil)) (pe_callB call_len_seq (by rfl) T.len PySem.boot_len (pa_cons (pv 0) pa_nil))))
  (pss_cut (ps_for (passes_of rfl) rfl (pi_enumT (by rfl) T.enumerateN (pa_cons (pv 0) pa_nil)) (pg_tup (by rfl) (pgs_cons (pg_name (i := 2) sc_made_row.nd rfl (Or.inl rfl)) (pgs_cons (pg_name (i := 3) sc_made_row.nd rfl (Or.inl rfl)) pgs_nil))) (pss_cons (ps_if (PW.pt (pw_or (pt_not (pt_val (pe_cal C_within hr (pa_cons (pv 3) (pa_cons pe_int (pa_cons (pe_op op_sub (pe_callB call_len_seq (by rfl) T.len PySem.boot_len (pa_cons (pv 0) pa_nil)) pe_int) pa_nil)))))) (pw_or1 (pt_val (pe_ix ix_list (pv 1) (pv 3) (fun _ _ => rfl)))))) (pss_one (ps_err rfl R_BadRow hr (takes_of rfl rfl rfl rfl) (pa_cons (pv 2) pa_nil))) pss_nil)
  (pss_one (ps_asg pe_bl (pg_sub (pv 1) (pv 3) set_list)))))
  (pss_one (ps_ret (pe_callTy call_tupF (by rfl) T.tupleN (by decide +kernel) (pa_cons (pe_callTy call_list_of (by rfl) T.listN (by decide +kernel) (pa_cons (pv 0) pa_nil)) pa_nil))))))), ?_⟩
    refine ⟨_, rfl, _, _, _, _, _, rfl, .ty _, dp_ty hd, kit_tuple d, _, rfl, ?_⟩
    have raise1 : RowBad d (-1) → ∀ z, H z = none → E (.ref (ecOf mg "BadRow")) (some z) (upd H z (.xd (efs "BadRow" (.int (-1))))) := fun hb z nz => kE (-1) _ z hb (same_upd nz) nz upd_same
    have notTu : isTu d = false → RowBad d (-1) := fun hz => .inl ⟨rfl, fun ds e => by rw [e] at hz; cases hz⟩
    cases hb : isTu d with
    | false => exact iteT (iteT ⟨_, rfl, err_ans R_BadRow.ox R_BadRow.noW R_BadRow.noK R_BadRow.kd (raise1 (notTu hb))⟩)
    | true =>
      refine iteF ?_
      cases hd with
      | non => cases hb
      | bl _ => cases hb
      | int _ => cases hb
      | str _ => cases hb
      | lst _ _ => cases hb
      | @tup a xs ds hT hA =>
      have hxl := dpAll_len hA
      refine ⟨_, rfl, _, _, rfl, .inr hT, _, _, rfl, rfl, _, rfl, ?_⟩
      by_cases hl : 400 < xs.length
      · rw [decide_eq_true (show (400 : Int) < (xs.length : Int) by omega)]
        exact iteT ⟨_, rfl, err_ans R_BadRow.ox R_BadRow.noW R_BadRow.noK R_BadRow.kd (raise1 (.inl ⟨rfl, fun ds' e => by injection e with e; rw [← e, ← hxl]; exact hl⟩))⟩
      · rw [decide_eq_false (show ¬ (400 : Int) < (xs.length : Int) by omega)]
        refine iteF ?_
        refine ⟨by show 1 ≤ sizeLine; decide, fun l0 nl0 => ?_⟩
        have s0 : Same H (upd H l0 (.lst [.bl false])) := same_upd nl0
        refine ⟨_, rfl, _, _, rfl, .inr (s0.seqT hT), _, _, _, rfl, rfl, upd_same, by omega, by omega, ?_, fun l nl => ?_⟩
        · rw [sizeLine_eq]; simp only [List.length_singleton]; omega
        have s1 : Same H (upd (upd H l0 (.lst [.bl false])) l (.lst (List.replicate (xs.length : Int).toNat [V.bl false]).flatten)) := s0.trans (same_upd nl)
        have nl' : H l = none := s0.free nl
        refine ⟨fun σ' H' => ∃ v2 v3, σ' = [some (.ref a), some (.ref l), v2, v3] ∧ Same H H' ∧ RowPre ds.length ds.length ds, ?_, ?_⟩
        · refine ⟨_, rfl, _, _, rfl, s1.seqT hT, for_it (walk_enumT (K := K) (xs := xs)) (fun i σ' H' => ∃ v2 v3 ns, σ' = [some (.ref a), some (.ref l), v2, v3] ∧ Same H H' ∧ H' l = some (.lst (seenL xs.length ns)) ∧ ds.take i = pi ns ∧ ns.length = i ∧ ns.Nodup ∧ ∀ x ∈ ns, 0 ≤ x ∧ x < (ds.length : Int)) ?_ ?_ ?_ ?_⟩
          · refine ⟨none, none, [], rfl, s1, ?_, rfl, rfl, List.nodup_nil, fun x hx => nomatch hx⟩
            rw [upd_same]
            simp only [Int.toNat_natCast]
            rw [seenL_nil]
          · rintro i σ' H' hi ⟨_, _, _, _, sm, _⟩
            exact sm.seqT hT
          · rintro i x σ' H1 H' hi ⟨v2, v3, ns, rfl, sm, hs, ht, hn, nd, hb⟩ ⟨T, x', rfl, nT, rfl, hx⟩
            refine ⟨T, _, rfl, .inl (.inl upd_same), rfl, _, _, rfl, _, _, rfl, rfl, ?_⟩
            obtain ⟨dx, hdx, hDx⟩ := dpAll_get hA hx
            have smT : Same H (upd H1 T (.tup [.int (i : Nat), x'])) := sm.trans (same_upd nT)
            have hdi : i < ds.length := by rw [← hxl]; exact hi
            have pre : RowPre ds.length i ds := ⟨ns, ht, hn, nd, hb⟩
            have nlT : l ≠ T := ne_of_none hs nT
            have hsT : upd H1 T (.tup [.int (i : Nat), x']) l = some (.lst (seenL xs.length ns)) := by rw [upd_ne nlT]; exact hs
            have bad : ¬ RowPre ds.length (i + 1) ds → ∀ Hx, Same H Hx → ∀ z, Hx z = none → E (.ref (ecOf mg "BadRow")) (some z) (upd Hx z (.xd (efs "BadRow" (.int (i : Nat))))) := fun nb Hx sx z nz =>
              kE _ _ z (.inr ⟨ds, i, rfl, by omega, rfl, hdi, pre, nb⟩) (sx.trans (same_upd nz)) (sx.free nz) upd_same
            have step : ∀ y : Int, dx = .int y → 0 ≤ y → y < ds.length → y ∉ ns → RowPre ds.length (i + 1) ds ∧ ds.take (i + 1) = pi (ns ++ [y]) ∧ (ns ++ [y]).Nodup ∧ ∀ x ∈ ns ++ [y], 0 ≤ x ∧ x < (ds.length : Int) := fun y ey y0 y1 yn => by
              have e1 : ds.take (i + 1) = pi (ns ++ [y]) := by
                rw [List.take_add_one, ht, hdx, ey]
                simp [pi]
              have e2 : (ns ++ [y]).Nodup := by
                rw [List.nodup_append]
                exact ⟨nd, List.nodup_cons.mpr ⟨List.not_mem_nil, List.nodup_nil⟩, fun a ha b hb => by rw [List.mem_singleton.mp hb]; intro z; exact yn (z ▸ ha)⟩
              have e3 : ∀ x ∈ ns ++ [y], 0 ≤ x ∧ x < (ds.length : Int) := fun x hx => by
                rcases List.mem_append.mp hx with h | h
                · exact hb x h
                · rw [List.mem_singleton.mp h]; exact ⟨y0, y1⟩
              exact ⟨⟨ns ++ [y], e1, by rw [List.length_append, hn]; rfl, e2, e3⟩, e1, e2, e3⟩
            have only : RowPre ds.length (i + 1) ds → ∃ y : Int, dx = .int y ∧ 0 ≤ y ∧ y < ds.length ∧ y ∉ ns := fun ⟨ms, e, hm, ndm, hbm⟩ => by
              have hmi : i < ms.length := by omega
              have e1 : (ds.take (i + 1))[i]? = (pi ms)[i]? := by rw [e]
              rw [List.getElem?_take_of_lt (Nat.lt_succ_self i), hdx] at e1
              have e2 : (pi ms)[i]? = some (.int ms[i]) := by simp [pi, hmi]
              rw [e2] at e1
              have e3 : pi ns = pi (ms.take i) := by
                rw [← ht]
                have z : (ds.take (i + 1)).take i = (pi ms).take i := by rw [e]
                rw [List.take_take, Nat.min_eq_left (Nat.le_succ i)] at z
                rw [z]
                unfold pi
                rw [List.map_take]
              have e4 := pi_inj e3
              refine ⟨ms[i], Option.some.inj e1, (hbm _ (List.getElem_mem hmi)).1, (hbm _ (List.getElem_mem hmi)).2, fun z => ?_⟩
              rw [e4] at z
              obtain ⟨j, hj, ej⟩ := List.getElem_of_mem z
              rw [List.getElem_take] at ej
              rw [List.length_take] at hj
              have := (List.getElem_inj ndm).mp ej
              omega
            refine ⟨_, rfl, _, rfl, _, _, rfl, .inr (smT.seqT hT), _, _, rfl, rfl, x', dx, 0, (xs.length : Int) - 1, rfl, dp_mono smT _ _ hDx, _, rfl, ?_⟩
            cases hin : inD 0 ((xs.length : Int) - 1) dx with
            | false =>
              refine iteT (iteT ⟨_, rfl, err_ans R_BadRow.ox R_BadRow.noW R_BadRow.noK R_BadRow.kd (bad ?_ _ smT)⟩)
              intro hp
              obtain ⟨y, ey, y0, y1, _⟩ := only hp
              rw [ey] at hin
              have z : (decide ((0 : Int) ≤ y) && decide (y ≤ (xs.length : Int) - 1)) = false := hin
              rw [decide_eq_true y0, decide_eq_true (show y ≤ (xs.length : Int) - 1 by omega)] at z
              cases z
            | true =>
              refine iteF ?_
              obtain ⟨y, ey, y0, y1⟩ : ∃ y : Int, dx = .int y ∧ 0 ≤ y ∧ y < xs.length := by
                cases dx with
                | int y =>
                  have z : (decide ((0 : Int) ≤ y) && decide (y ≤ (xs.length : Int) - 1)) = true := hin
                  rw [Bool.and_eq_true] at z
                  have z1 := of_decide_eq_true z.1
                  have z2 := of_decide_eq_true z.2
                  exact ⟨y, rfl, z1, by omega⟩
                | _ => cases hin
              subst ey
              have ex : x' = .int y := by cases hDx; rfl
              subst ex
              obtain ⟨j, rfl⟩ : ∃ j : Nat, y = (j : Int) := ⟨y.toNat, by omega⟩
              have hj : j < xs.length := by omega
              refine ⟨_, rfl, _, rfl, _, _, _, _, rfl, rfl, SqL.of hsT, atI_nat (seenL_get hj), _, rfl, ?_⟩
              by_cases c : (j : Int) ∈ ns
              · rw [decide_eq_true c]
                refine iteT ⟨_, rfl, err_ans R_BadRow.ox R_BadRow.noW R_BadRow.noK R_BadRow.kd (bad ?_ _ smT)⟩
                intro hp
                obtain ⟨y, ey, _, _, yn⟩ := only hp
                injection ey with ey
                exact yn (ey ▸ c)
              · rw [decide_eq_false c]
                obtain ⟨_, st2, st3, st4⟩ := step _ rfl y0 (by omega) c
                refine iteF ⟨_, rfl, _, rfl, _, _, _, _, rfl, rfl, hsT, ixN_nat (by rw [show (seenL xs.length ns).length = xs.length by simp [seenL]]; exact hj), ?_⟩
                refine ⟨_, _, ns ++ [(j : Int)], rfl, fun b o hbo => ?_, by rw [upd_same, seenL_set], st2, by rw [List.length_append, hn]; rfl, st3, st4⟩
                have nbl : b ≠ l := ne_of_none hbo nl'
                rw [upd_ne nbl]
                exact smT b o hbo
          · rintro σ' H' ⟨v2, v3, ns, rfl, sm, hs, ht, hn, nd, hb⟩
            rw [hxl] at ht hn
            exact ⟨v2, v3, rfl, sm, ns, ht, hn, nd, hb⟩
        · rintro σ' H' ⟨v2, v3, rfl, sm, hpre⟩
          obtain ⟨ns, e, hrow⟩ := rowPre_all (by omega) hpre
          refine ⟨_, rfl, _, _, rfl, .inr (sm.seqT hT), fun l2 nl2 => ⟨_, _, rfl, SqL.of upd_same, fun l3 ob nl3 od oc => ?_⟩⟩
          refine kQ ns _ l3 (by rw [e]) hrow (sm.trans ((same_upd nl2).trans (same_upd nl3))) ((sm.trans (same_upd nl2)).free nl3) ?_
          rw [← dpAll_pi (K := K) (H := H) (vs := xs) (ns := ns) (by rw [← e]; exact hA)]
          exact .new od oc
def sp_places (K : PySem.W.Frag) (mg : Str → Option Value) : Sp := fun vs H Q E => ∃ (v : V) (d : PyData), vs = [v] ∧ Dp K H v d ∧
  (∀ (ns : List Int) (H' : Hp) (p : Addr), d = .tuple (pi ns) → IsRow ns → Same H H' → H p = none → TupD H' p ((placesOf ns).map V.int) → Q (.ref p) H') ∧
  (∀ (i : Int) (H' : Hp) (e : Addr), RowBad d i → Same H H' → H e = none → H' e = some (.xd (efs "BadRow" (.int i))) → E (.ref (ecOf mg "BadRow")) (some e) H')
--OK
abbrev s_places : Stmt := top 9
theorem sc_places : FnScope ["row", "found", "place", "wagon"] ["row"] (defScope s_places) := ⟨rfl, rfl, rfl, by decide +kernel, rfl, by decide +kernel, by decide +kernel⟩
theorem ok_places {f : Addr} {fd : FuncData} (F : Fun K "places" "places" s_places f fd) (T : Nms mg) (C_made_row : CalX P w K mg base 3 "made_row" ["thing"] (sp_made_row K mg)) : FnOk P w K mg base (L2.CX P w) 4 f fd ["row"] (sp_places K mg) := by
  refine F.okX sc_places (fun vs H Q E h => ?_) (fun cdv A outer s H vs Q E hr h => ?_)
  · obtain ⟨v, d, rfl, _⟩ := h
    rfl
  · obtain ⟨v, d, rfl, hd, kQ, kE⟩ := h
    refine ⟨_, (pss_cons (ps_set (i := 1) sc_places.nd rfl (Or.inl rfl) (pe_op op_rep (pe_lst (pa_cons pe_int pa_nil)) (pe_callB call_len_seq (by rfl) T.len PySem.boot_len (pa_cons (pe_calW C_made_row hr (takes_of rfl rfl rfl rfl) (pa_cons (pv 0) pa_nil)) pa_nil))))
  (pss_cons (ps_for (passes_of rfl) rfl (pi_enumT (by rfl) T.enumerateN (pa_cons (pv 0) pa_nil)) (pg_tup (by rfl) (pgs_cons (pg_name (i := 2) sc_places.nd rfl (Or.inl rfl)) (pgs_cons (pg_name (i := 3) sc_places.nd rfl (Or.inl rfl)) pgs_nil))) (pss_one (ps_asg (pv 2) (pg_sub (pv 1) (pv 3) set_list))))
  (pss_one (ps_ret (pe_callTy call_tupF (by rfl) T.tupleN (by decide +kernel) (pa_cons (pv 1) pa_nil)))))), ?_⟩
    refine ⟨by show 1 ≤ sizeLine; decide, fun l0 nl0 => ?_⟩
    have s0 : Same H (upd H l0 (.lst [.int 0])) := same_upd nl0
    refine ⟨_, rfl, v, d, rfl, dp_mono s0 _ _ hd, fun ns H1 p ed hrow s1 np hp => ?_, fun i H' e hb s1 ne he => kE i H' e hb (s0.trans s1) (s0.free ne) he⟩
    subst ed
    have s01 : Same H H1 := s0.trans s1
    have h400 := hrow.2.2
    have hl0 : H1 l0 = some (.lst [.int 0]) := s1 _ _ upd_same
    refine ⟨_, _, rfl, .inr hp.seqT, _, _, _, rfl, rfl, hl0, by omega, ?_, ?_, fun l nl => ?_⟩
    · rw [List.length_map]; omega
    · rw [sizeLine_eq]; simp only [List.length_singleton, List.length_map, Int.toNat_natCast]; omega
    have s2 : Same H (upd H1 l (.lst (List.replicate ((ns.map V.int).length : Int).toNat [V.int 0]).flatten)) := s01.trans (same_upd nl)
    have nlH : H l = none := s01.free nl
    obtain ⟨a, xs, rfl, hT, exs⟩ : ∃ a xs, v = .ref a ∧ SqT K H a xs ∧ xs = ns.map V.int := by
      cases hd with
      | tup hT hA => exact ⟨_, _, rfl, hT, dpAll_pi hA⟩
    subst exs
    have fl : ∀ n : Nat, (List.replicate n [V.int 0]).flatten = (List.replicate n (0 : Int)).map V.int := fun n => by
      induction n with
      | zero => rfl
      | succ n ih => rw [List.replicate_succ, List.flatten_cons, ih]; rfl
    refine ⟨_, rfl, _, _, rfl, s2.seqT hT, for_it (walk_enumT (K := K) (xs := ns.map V.int)) (fun i σ' H' => ∃ v2 v3 L, σ' = [some (.ref a), some (.ref l), v2, v3] ∧ Same H H' ∧ H' l = some (.lst (L.map V.int)) ∧ PutOk ns L i) ?_ ?_ ?_ ?_⟩
    · refine ⟨none, none, List.replicate ns.length 0, rfl, s2, ?_, ⟨by simp, fun p hp hz => absurd hz (Nat.not_lt_zero _)⟩⟩
      rw [upd_same, List.length_map, Int.toNat_natCast, fl]
    · rintro i σ' H' hi ⟨_, _, _, _, sm, _⟩
      exact sm.seqT hT
    · rintro i x σ' H2 H' hi ⟨v2, v3, L, rfl, sm, hs, hput⟩ ⟨T, x', rfl, nT, rfl, hx⟩
      refine ⟨T, _, rfl, .inl (.inl upd_same), rfl, _, _, rfl, _, _, rfl, rfl, ?_⟩
      rw [List.length_map] at hi
      obtain ⟨y, rfl, hy⟩ := getI hx
      have ey : ns[i] = y := by
        rw [List.getElem?_eq_getElem hi] at hy
        exact Option.some.inj hy
      obtain ⟨j, ej, hj⟩ := hrow.ints hi
      have eyj : y = (j : Int) := by rw [← ey]; exact ej
      subst eyj
      have nlT : l ≠ T := ne_of_none hs nT
      have hsT : upd H2 T (.tup [.int (i : Nat), .int (j : Int)]) l = some (.lst (L.map V.int)) := by rw [upd_ne nlT]; exact hs
      refine ⟨_, rfl, _, rfl, _, rfl, _, _, _, j, rfl, rfl, hsT, ?_, ?_⟩
      · unfold ixN
        rw [if_pos (by omega), if_pos (by rw [List.length_map, hput.1]; omega)]
        simp
      · refine ⟨_, _, L.set j (i : Int), rfl, fun b o hbo => ?_, ?_, putOk_step hrow hi ej hput⟩
        · rw [upd_ne (ne_of_none hbo nlH), upd_ne (ne_of_none (sm b o hbo) nT)]
          exact sm b o hbo
        · rw [upd_same, List.map_set]
    · rintro σ' H' ⟨v2, v3, L, rfl, sm, hs, hput⟩
      rw [List.length_map] at hput
      refine ⟨_, rfl, _, _, rfl, SqL.of hs, fun l3 ob nl3 od oc => ?_⟩
      refine kQ ns _ l3 rfl hrow (sm.trans (same_upd nl3)) (sm.free nl3) ?_
      rw [← putOk_done hrow hput]
      exact .new od oc
def sp_layers (K : PySem.W.Frag) (mg : Str → Option Value) : Sp := fun vs H Q E => ∃ (v : V) (d : PyData), vs = [v] ∧ Dp K H v d ∧
  (∀ (ns : List Int) (H' : Hp) (p : Addr), d = .tuple (pi ns) → IsRow ns → Same H H' → H p = none → TupD H' p ((nI (layF ns)).map V.int) → Q (.ref p) H') ∧
  (∀ (i : Int) (H' : Hp) (e : Addr), RowBad d i → Same H H' → H e = none → H' e = some (.xd (efs "BadRow" (.int i))) → E (.ref (ecOf mg "BadRow")) (some e) H')
--OK
abbrev s_layers : Stmt := top 11
theorem sc_layers : FnScope ["row", "found", "tops", "wagon", "layer", "top"] ["row"] (defScope s_layers) := ⟨rfl, rfl, rfl, by decide +kernel, rfl, by decide +kernel, by decide +kernel⟩
theorem ok_layers {f : Addr} {fd : FuncData} (F : Fun K "layers" "layers" s_layers f fd) (T : Nms mg) (C_made_row : CalX P w K mg base 3 "made_row" ["thing"] (sp_made_row K mg)) : FnOk P w K mg base (L2.CX P w) 4 f fd ["row"] (sp_layers K mg) := by
  refine F.okX sc_layers (fun vs H Q E h => ?_) (fun cdv A outer s H vs Q E hr h => ?_)
  · obtain ⟨v, d, rfl, _⟩ := h
    rfl
  · obtain ⟨v, d, rfl, hd, kQ, kE⟩ := h
    refine ⟨_, (pss_cons (ps_expr (pe_calW C_made_row hr (takes_of rfl rfl rfl rfl) (pa_cons (pv 0) pa_nil)))
  (pss_cons (ps_set (i := 1) sc_layers.nd rfl (Or.inl rfl) (pe_lst pa_nil))
  (pss_cons (ps_set (i := 2) sc_layers.nd rfl (Or.inl rfl) (pe_lst pa_nil))
  (pss_cons (ps_for (passes_of rfl) rfl (pi_tup (pv 0)) (pg_name (i := 3) sc_layers.nd rfl (Or.inr rfl)) (pss_cons (ps_set (i := 4) sc_layers.nd rfl (Or.inl rfl) (pe_callB call_len_seq (by rfl) T.len PySem.boot_len (pa_cons (pe_lc (own := [("top", 5)]) (g := (gName 5)) rfl sc_layers.nd (pi_list (pv 2)) (blkOk_by (N := ["row", "found", "tops", "wagon", "layer", "top"]) (sc := defScope s_layers) (by decide +kernel)) (fun _ _ _ _ _ => (pg_name (i := 5) sc_layers.nd rfl (Or.inl rfl))) (fun _ _ _ _ _ => (pts_one (pt_cmpR op_gt (pv 5) (pv 3) (nomark _)))) (fun _ _ _ _ _ => (pv 5))) pa_nil)))
  (pss_cut (ps_if (pt_cmpR op_eq (pv 4) (pe_callB call_len_seq (by rfl) T.len PySem.boot_len (pa_cons (pv 2) pa_nil)) (nomark _)) (pss_one (ps_expr (pe_bm PySem.F.plainAttrs_list PySem.F.slot_list_append PySem.F.type_list_append mt_append (pv 2) (pa_cons (pv 3) pa_nil)))) (pss_one (ps_asg (pv 3) (pg_sub (pv 2) (pv 4) set_list))))
  (pss_one (ps_expr (pe_bm PySem.F.plainAttrs_list PySem.F.slot_list_append PySem.F.type_list_append mt_append (pv 1) (pa_cons (pv 4) pa_nil)))))))
  (pss_one (ps_ret (pe_callTy call_tupF (by rfl) T.tupleN (by decide +kernel) (pa_cons (pv 1) pa_nil)))))))), ?_⟩
    refine ⟨_, rfl, v, d, rfl, hd, fun ns H1 p ed hrow s1 np hp => ?_, fun i H' e hb s1 ne he => kE i H' e hb s1 ne he⟩
    subst ed
    obtain ⟨a, rfl, hT⟩ : ∃ a, v = .ref a ∧ SqT K H a (ns.map V.int) := by
      cases hd with
      | tup hT hA => exact ⟨_, rfl, by rw [dpAll_pi hA] at hT; exact hT⟩
    have h400 := hrow.2.2
    refine ⟨Nat.zero_le _, fun fo nfo => ⟨Nat.zero_le _, fun tp ntp => ?_⟩⟩
    have nft : fo ≠ tp := ne_of_none upd_same ntp
    have nfoH : H fo = none := s1.free nfo
    have s2 : Same H (upd H1 fo (.lst [])) := s1.trans (same_upd nfo)
    have ntpH : H tp = none := s2.free ntp
    refine ⟨_, rfl, _, rfl, ⟨_, (s2.trans (same_upd ntp)).seqT hT⟩, for_tup (K := K) (a := a) (xs := ns.map V.int) (fun i σ' H' => ∃ v3 v4 : Option V, σ' = [some (.ref a), some (.ref fo), some (.ref tp), v3, v4, none] ∧ Same H H' ∧ H' fo = some (.lst ((nI (layAt ns i).1).map V.int)) ∧ H' tp = some (.lst ((layAt ns i).2.map V.int))) ?_ ?_ ?_ ?_⟩
    · refine ⟨none, none, rfl, s2.trans (same_upd ntp), ?_, upd_same⟩
      rw [upd_ne nft, upd_same]
      rfl
    · rintro i σ' H' hi ⟨_, _, _, sm, _⟩
      exact sm.seqT hT
    · rintro i x σ' H' hx ⟨v3, v4, rfl, sm, hf, ht⟩
      obtain ⟨y, rfl, hy⟩ := getI hx
      have hi : i < ns.length := (List.getElem?_eq_some_iff.mp hy).1
      have ey : ns[i] = y := by
        rw [List.getElem?_eq_getElem hi] at hy
        exact Option.some.inj hy
      have hTl := layAt_len hrow.1 (Nat.le_of_lt hi)
      have hTo := layAt_tops hrow.1 i (Nat.le_of_lt hi)
      have eSt := layAt_succ hi
      rw [ey] at eSt
      generalize eS : layAt ns i = S at hf ht hTl hTo eSt
      refine ⟨_, rfl, tp, rfl, ⟨_, SqL.of ht⟩, fun D nD => lc_list (K := K) (a := tp) (xs := S.2.map V.int) (fun j H2 => H2 = upd H' D (.lst (((S.2.take j).filter fun t => decide (y < t)).map V.int))) rfl ?_ ?_ ?_⟩
      · rintro j H2 hj rfl
        exact SqL.of (by rw [upd_ne (ne_of_none ht nD)]; exact ht)
      · rintro j z H2 hz rfl
        obtain ⟨t, rfl, ht2⟩ := getI hz
        refine ⟨rfl, _, rfl, _, rfl, _, _, rfl, rfl, _, rfl, ?_⟩
        have tk : S.2.take (j + 1) = S.2.take j ++ [t] := by rw [List.take_add_one, ht2]; rfl
        refine ite2 (fun e => ?_) (fun e => ?_)
        · refine ⟨_, rfl, _, upd_same, ?_, ?_⟩
          · rw [sizeLine_eq, List.length_map]
            have q1 := List.length_filter_le (fun t => decide (y < t)) (S.2.take j)
            rw [List.length_take] at q1
            omega
          · rw [upd_upd, tk, List.filter_append, List.filter_cons_of_pos (p := fun t => decide (y < t)) e, List.filter_nil, List.map_append]
            rfl
        · show upd H' D _ = upd H' D _
          rw [tk, List.filter_append, List.filter_cons_of_neg (p := fun t => decide (y < t)) e, List.filter_nil, List.append_nil]
      · rintro H2 rfl
        rw [List.length_map, List.take_length]
        refine ⟨_, _, rfl, .inl (SqL.of upd_same), ?_⟩
        rw [List.length_map]
        have e1 : S.1.length = i := hTo.len
        have hLle := List.length_filter_le (fun t => decide (y < t)) S.2
        generalize eL : (S.2.filter fun t => decide (y < t)).length = L at hLle ⊢
        have ntD : tp ≠ D := ne_of_none ht nD
        have nfD : fo ≠ D := ne_of_none hf nD
        have smD : Same H (upd H' D (.lst ((S.2.filter fun t => decide (y < t)).map V.int))) := sm.trans (same_upd nD)
        generalize eH : upd H' D (.lst ((S.2.filter fun t => decide (y < t)).map V.int)) = HD at smD
        have htD : HD tp = some (.lst (S.2.map V.int)) := by rw [← eH, upd_ne ntD]; exact ht
        have hfD : HD fo = some (.lst ((nI S.1).map V.int)) := by rw [← eH, upd_ne nfD]; exact hf
        refine ⟨fun σ' H'' => ∃ T' : List Int, σ' = [some (.ref a), some (.ref fo), some (.ref tp), some (.int y), some (.int (L : Int)), none] ∧ Same H H'' ∧ H'' fo = some (.lst ((nI S.1).map V.int)) ∧ H'' tp = some (.lst (T'.map V.int)) ∧ T' = (layAt ns (i + 1)).2, ?_, ?_⟩
        · refine ⟨_, rfl, _, rfl, _, _, rfl, .inl (SqL.of htD), rfl, _, rfl, ?_⟩
          rw [List.length_map]
          refine ite2 (fun e => ?_) (fun e => ?_)
          · have e' : L = S.2.length := by
              have z := of_decide_eq_true e
              injection z with z
              omega
            refine ⟨_, rfl, .inl ⟨rfl, _, SqL.of htD⟩, _, rfl, _, _, _, rfl, rfl, htD, by rw [sizeLine_eq, List.length_map]; omega, ?_⟩
            refine ⟨S.2 ++ [y], rfl, fun b o hb => ?_, by rw [upd_ne nft]; exact hfD, by rw [upd_same, List.map_append]; rfl, ?_⟩
            · rw [upd_ne (ne_of_none hb ntpH)]
              exact smD b o hb
            · rw [eSt]
              unfold layStep
              dsimp only
              rw [eL, if_pos e']
          · have e' : L ≠ S.2.length := fun z => e (decide_eq_true (by rw [z]))
            refine ⟨_, rfl, _, rfl, _, rfl, tp, _, _, L, rfl, rfl, htD, ixN_nat (by rw [List.length_map]; omega), ?_⟩
            refine ⟨S.2.set L y, rfl, fun b o hb => ?_, by rw [upd_ne nft]; exact hfD, by rw [upd_same, List.map_set], ?_⟩
            · rw [upd_ne (ne_of_none hb ntpH)]
              exact smD b o hb
            · rw [eSt]
              unfold layStep
              dsimp only
              rw [eL, if_neg e']
        · rintro σ' H'' ⟨T', rfl, sm2, hf2, ht2, eT⟩
          refine ⟨_, rfl, .inl ⟨rfl, _, SqL.of hf2⟩, _, rfl, _, _, _, rfl, rfl, hf2, ?_, ?_⟩
          · rw [sizeLine_eq, List.length_map]
            unfold nI
            rw [List.length_map]
            omega
          · refine ⟨_, _, rfl, fun b o hb => ?_, ?_, ?_⟩
            · rw [upd_ne (ne_of_none hb nfoH)]
              exact sm2 b o hb
            · rw [upd_same, eSt]
              unfold layStep nI
              dsimp only
              rw [eL, List.map_append, List.map_append]
              rfl
            · rw [upd_ne nft.symm, ← eT]
              exact ht2
    · rintro σ' H' ⟨v3, v4, rfl, sm, hf, ht⟩
      rw [List.length_map] at hf
      exact ⟨_, rfl, _, _, rfl, SqL.of hf, fun t ob nt od oc => kQ ns _ t rfl hrow (sm.trans (same_upd nt)) (sm.free nt) (.new od oc)⟩
def sp_falls (K : PySem.W.Frag) (mg : Str → Option Value) : Sp := fun vs H Q E => ∃ (v : V) (d : PyData), vs = [v] ∧ Dp K H v d ∧
  (∀ (ns : List Int) (H' : Hp), d = .tuple (pi ns) → IsRow ns → Same H H' → Q (.int (fallsF ns : Int)) H') ∧
  (∀ (i : Int) (H' : Hp) (e : Addr), RowBad d i → Same H H' → H e = none → H' e = some (.xd (efs "BadRow" (.int i))) → E (.ref (ecOf mg "BadRow")) (some e) H')
--OK
abbrev s_falls : Stmt := top 12
theorem sc_falls : FnScope ["row"] ["row"] (defScope s_falls) := ⟨rfl, rfl, rfl, by decide +kernel, rfl, by decide +kernel, by decide +kernel⟩
theorem ok_falls {f : Addr} {fd : FuncData} (F : Fun K "falls" "falls" s_falls f fd) (T : Nms mg) (C_layers : CalX P w K mg base 4 "layers" ["row"] (sp_layers K mg)) : FnOk P w K mg base (L2.CX P w) 5 f fd ["row"] (sp_falls K mg) := by
  refine F.okX sc_falls (fun vs H Q E h => ?_) (fun cdv A outer s H vs Q E hr h => ?_)
  · obtain ⟨v, d, rfl, _⟩ := h
    rfl
  · obtain ⟨v, d, rfl, hd, kQ, kE⟩ := h
    refine ⟨_, (pss_one (ps_ret (pe_op op_add (pe_callBK (cr_maxTD rfl hr.units) (by rfl) T.maxN (by decide +kernel) (pa_cons (pe_calW C_layers hr (takes_of rfl rfl rfl rfl) (pa_cons (pv 0) pa_nil)) pa_nil) (pk_cons (pe_un un_neg pe_int) pk_nil)) pe_int))), ?_⟩
    refine ⟨_, rfl, v, d, rfl, hd, fun ns H1 p ed hrow s1 np hp => ?_, fun i H' e hb s1 ne he => kE i H' e hb s1 ne he⟩
    subst ed
    refine ⟨_, rfl, p, nI (layF ns), -1, rfl, rfl, hp.seqT, fun e0 => ⟨_, _, rfl, rfl, ?_⟩, fun m hm hmax => ⟨_, _, rfl, rfl, ?_⟩⟩
    · have e1 : ns = [] := by
        have z := (layF_ok hrow.1).len
        unfold nI at e0
        rw [List.map_eq_nil_iff.mp e0] at z
        exact List.eq_nil_of_length_eq_zero z.symm
      have e2 : (-1 : Int) + 1 = (fallsF ns : Int) := by rw [e1]; rfl
      show Q (.int ((-1 : Int) + 1)) H1
      rw [e2]
      exact kQ ns H1 rfl hrow s1
    · show Q (.int (m + 1)) H1
      rw [maxI_falls hm hmax]
      exact kQ ns H1 rfl hrow s1
def sp_falling (K : PySem.W.Frag) (mg : Str → Option Value) : Sp := fun vs H Q E => ∃ (v : V) (d : PyData), vs = [v] ∧ Dp K H v d ∧
  (∀ (ns : List Int) (H' : Hp) (p : Addr), d = .tuple (pi ns) → IsRow ns → Same H H' → H p = none → TupD H' p ((fallingF ns).map V.int) → Q (.ref p) H') ∧
  (∀ (i : Int) (H' : Hp) (e : Addr), RowBad d i → Same H H' → H e = none → H' e = some (.xd (efs "BadRow" (.int i))) → E (.ref (ecOf mg "BadRow")) (some e) H')
--OK
theorem atI_lastI (x : Int) (F : List Int) : atI ((x :: F).map V.int) (-1) = some (V.int ((x :: F).getLast (List.cons_ne_nil x F))) := by
  have e := List.dropLast_concat_getLast (List.cons_ne_nil x F)
  have e2 : (x :: F).map V.int = ((x :: F).dropLast.map V.int) ++ [V.int ((x :: F).getLast (List.cons_ne_nil x F))] := by
    rw [← List.map_singleton, ← List.map_append, e]
  rw [e2]
  exact atI_last _ _
abbrev s_falling : Stmt := top 13
theorem sc_falling : FnScope ["row", "heights", "layer", "last", "found", "place"] ["row"] (defScope s_falling) := ⟨rfl, rfl, rfl, by decide +kernel, rfl, by decide +kernel, by decide +kernel⟩
theorem ok_falling {f : Addr} {fd : FuncData} (F : Fun K "falling" "falling" s_falling f fd) (T : Nms mg) (C_layers : CalX P w K mg base 4 "layers" ["row"] (sp_layers K mg)) : FnOk P w K mg base (L2.CX P w) 5 f fd ["row"] (sp_falling K mg) := by
  refine F.okX sc_falling (fun vs H Q E h => ?_) (fun cdv A outer s H vs Q E hr h => ?_)
  · obtain ⟨v, d, rfl, _⟩ := h
    rfl
  · obtain ⟨v, d, rfl, hd, kQ, kE⟩ := h
    refine ⟨_, (pss_cons (ps_set (i := 1) sc_falling.nd rfl (Or.inl rfl) (pe_calW C_layers hr (takes_of rfl rfl rfl rfl) (pa_cons (pv 0) pa_nil)))
  (pss_cons (ps_if (pt_cmpR op_eq (pe_callB call_len_seq (by rfl) T.len PySem.boot_len (pa_cons (pv 0) pa_nil)) pe_int (nomark _)) (pss_one (ps_ret (pe_tupD pa_nil))) pss_nil)
  (pss_cons (ps_set (i := 2) sc_falling.nd rfl (Or.inl rfl) (pe_callB (cr_maxT rfl hr.units) (by rfl) T.maxN (by decide +kernel) (pa_cons (pv 1) pa_nil)))
  (pss_cons (ps_set (i := 3) sc_falling.nd rfl (Or.inl rfl) (pe_bmT PySem.F.slot_tuple_index PySem.F.type_tuple_index mt_tupIdx (pv 1) (pa_cons (pv 2) pa_nil)))
  (pss_cons (ps_set (i := 4) sc_falling.nd rfl (Or.inl rfl) (pe_lst (pa_cons (pe_ix ix_tup (pv 0) (pv 3) (fun _ _ => rfl)) pa_nil)))
  (pss_cons (ps_for (passes_of rfl) rfl (pi_range3 (by rfl) T.rangeN (pa_cons (pe_op op_sub (pv 3) pe_int) (pa_cons (pe_un un_neg pe_int) (pa_cons (pe_un un_neg pe_int) pa_nil)))) (pg_name (i := 5) sc_falling.nd rfl (Or.inl rfl)) (pss_one (ps_if (PW.pt (pw_and (pt_cmpR op_eq (pe_ix ix_tup (pv 1) (pv 5) (fun _ _ => rfl)) (pe_op op_sub (pv 2) pe_int) (nomark _)) (pw_and1 (pt_cmpR op_gt (pe_ix ix_tup (pv 0) (pv 5) (fun _ _ => rfl)) (pe_ix ix_list (pv 4) (pe_un un_neg pe_int) (fun _ _ => rfl)) (nomark _))))) (pss_cons (ps_expr (pe_bm PySem.F.plainAttrs_list PySem.F.slot_list_append PySem.F.type_list_append mt_append (pv 4) (pa_cons (pe_ix ix_tup (pv 0) (pv 5) (fun _ _ => rfl)) pa_nil)))
  (pss_one (ps_set (i := 2) sc_falling.nd rfl (Or.inl rfl) (pe_op op_sub (pv 2) pe_int)))) pss_nil)))
  (pss_one (ps_ret (pe_callTy call_tupF (by rfl) T.tupleN (by decide +kernel) (pa_cons (pe_revL (pv 4)) pa_nil)))))))))), ?_⟩
    refine ⟨_, rfl, v, d, rfl, hd, fun ns H1 hp0 ed hrow s1 nhp hhp => ?_, fun i H' e hb s1 ne he => kE i H' e hb s1 ne he⟩
    subst ed
    obtain ⟨a, rfl, hT⟩ : ∃ a, v = .ref a ∧ SqT K H a (ns.map V.int) := by
      cases hd with
      | tup hT hA => exact ⟨_, rfl, by rw [dpAll_pi hA] at hT; exact hT⟩
    have hT1 := s1.seqT hT
    have nd := hrow.1
    have L := layF_ok nd
    have h400 := hrow.2.2
    refine ⟨_, rfl, _, _, rfl, .inr hT1, rfl, _, rfl, ?_⟩
    rw [List.length_map]
    refine ite2 (fun e0 => ?_) (fun e0 => ?_)
    · have e1 : ns = [] := by
        have z := of_decide_eq_true e0
        injection z with z
        exact List.eq_nil_of_length_eq_zero (by omega)
      subst e1
      exact ⟨Nat.zero_le _, fun p ob np od oc => kQ [] _ p rfl hrow (s1.trans (same_upd np)) (s1.free np) (.new od oc)⟩
    · have hn0 : ns ≠ [] := fun z => e0 (decide_eq_true (by rw [z]; rfl))
      have hlen0 : 0 < ns.length := List.length_pos_iff.mpr hn0
      refine ⟨_, rfl, hp0, nI (layF ns), rfl, hhp.seqT, by unfold nI; rw [List.length_map, L.len]; exact hlen0, fun m hm hmax => ?_⟩
      have hf0 : 0 < fallsF ns := Nat.pos_of_ne_zero fun z => hn0 ((fallsF_nil nd).mp z)
      have em : m = ((fallsF ns - 1 : Nat) : Int) := by
        have z := maxI_falls hm hmax
        omega
      subst em
      obtain ⟨hl, hlay⟩ := lastIdx nd hf0
      have hlt := List.idxOf_lt_length_of_mem (fallsF_top hf0)
      generalize elast : (layF ns).idxOf (fallsF ns - 1) = last at hl hlay hlt
      refine ⟨_, rfl, ⟨_, _, rfl, hhp⟩, _, rfl, hp0, nI (layF ns), _, last, rfl, rfl, hhp.seqT, ?_, ?_, ?_⟩
      · unfold nI
        rw [List.getElem?_map, hlay]
        rfl
      · intro k hk e
        unfold nI at e
        rw [List.getElem?_map] at e
        cases hx : (layF ns)[k]? with
        | none => rw [hx] at e; cases e
        | some l =>
          rw [hx] at e
          have e2 : (l : Int) = ((fallsF ns - 1 : Nat) : Int) := Option.some.inj e
          have e3 : l = fallsF ns - 1 := by omega
          rw [e3] at hx
          rw [← elast] at hk
          exact idxOf_first _ _ _ hk hx
      have atR : ∀ {i : Nat} (hi : i < ns.length), atI (ns.map V.int) (i : Int) = some (.int ns[i]) := fun {i} hi => atI_nat (by simp [hi])
      have atH : ∀ {i l : Nat}, (layF ns)[i]? = some l → atI ((nI (layF ns)).map V.int) (i : Int) = some (.int (l : Int)) := fun {i l} e => atI_nat (by unfold nI; simp [e])
      refine ⟨_, rfl, _, rfl, _, _, _, _, rfl, rfl, hT1, atR hl, by show 1 ≤ sizeLine; decide, fun fo nfo => ?_⟩
      have s2 : Same H (upd H1 fo (.lst [.int ns[last]])) := s1.trans (same_upd nfo)
      have nfoH : H fo = none := s1.free nfo
      have nhf : hp0 ≠ fo := hhp.ne nfo
      refine ⟨_, rfl, _, _, rfl, rfl, _, rfl, _, rfl, _, _, _, last, rfl, ?_, ?_⟩
      · have z := RgC.neg (i := (last : Int) - 1) (j := -1) (by omega) (by omega) (by decide) (by decide)
        have e : ((last : Int) - 1 - -1).toNat = last := by omega
        rw [e] at z
        exact z
      refine for_rangeC (lo := (last : Int) - 1) (c := -1) (n := last) (fun i σ' H' => ∃ (v5 : Option V) (c : Nat) (x : Int) (F : List Int) (Dn : List Nat), σ' = [some (.ref a), some (.ref hp0), some (.int (c : Int)), some (.int (last : Int)), some (.ref fo), v5] ∧ Same H H' ∧ TupD H' hp0 ((nI (layF ns)).map V.int) ∧ H' fo = some (.lst ((x :: F).map V.int)) ∧
          (x :: F).length ≤ i + 1 ∧ (x :: F) = (last :: Dn).map (fun p => ns.getD p 0) ∧ fallPos ns = last :: (Dn ++ fallGo ns (layF ns) (last - i) c ((x :: F).getLast (List.cons_ne_nil x F)))) ?_ ?_ ?_
      · refine ⟨none, fallsF ns - 1, ns[last], [], [], rfl, s2, hhp.upd nhf, upd_same, by simp, by rw [List.map_cons, getD_get hl]; rfl, ?_⟩
        unfold fallPos
        rw [if_neg (by omega), elast, getD_get hl]
        rfl
      · rintro i σ' H' hi ⟨v5, c, x, F, Dn, rfl, sm, hh, hf, hlen, hF, hpos⟩
        have hpl : last - 1 - i < ns.length := by omega
        have eidx : (last : Int) - 1 + (i : Nat) * -1 = ((last - 1 - i : Nat) : Int) := by omega
        rw [eidx]
        have hlL : last - 1 - i < (layF ns).length := by rw [L.len]; exact hpl
        have elp : last - i = (last - 1 - i) + 1 := by omega
        have elp2 : last - (i + 1) = last - 1 - i := by omega
        rw [elp] at hpos
        generalize last - 1 - i = pl at hpl hlL hpos elp elp2 ⊢
        have hgl : (layF ns)[pl]? = some (layF ns)[pl] := List.getElem?_eq_getElem hlL
        have sTr := sm.seqT hT
        unfold fallGo at hpos
        have skip : ¬ ((layF ns)[pl]? = some (c - 1) ∧ 0 < c ∧ (x :: F).getLast (List.cons_ne_nil x F) < ns.getD pl 0) → (∃ (v5 : Option V) (c' : Nat) (x' : Int) (F' : List Int) (Dn' : List Nat), [some (V.ref a), some (V.ref hp0), some (V.int (c : Int)), some (V.int (last : Int)), some (V.ref fo), some (V.int (pl : Int))] = [some (V.ref a), some (V.ref hp0), some (V.int (c' : Int)), some (V.int (last : Int)), some (V.ref fo), v5] ∧ Same H H' ∧ TupD H' hp0 ((nI (layF ns)).map V.int) ∧ H' fo = some (.lst ((x' :: F').map V.int)) ∧
          (x' :: F').length ≤ (i + 1) + 1 ∧ (x' :: F') = (last :: Dn').map (fun p => ns.getD p 0) ∧ fallPos ns = last :: (Dn' ++ fallGo ns (layF ns) (last - (i + 1)) c' ((x' :: F').getLast (List.cons_ne_nil x' F')))) := fun hc => by
          rw [if_neg hc] at hpos
          exact ⟨_, c, x, F, Dn, rfl, sm, hh, hf, by omega, hF, by rw [elp2]; exact hpos⟩
        refine ⟨_, rfl, _, rfl, _, _, _, _, rfl, rfl, hh.seqT, atH hgl, _, rfl, _, _, rfl, rfl, rfl, _, rfl, ?_⟩
        by_cases c1 : V.int (((layF ns)[pl] : Nat) : Int) = V.int ((c : Int) - 1)
        · rw [decide_eq_true c1]
          injection c1 with c1
          have c2 : 0 < c := by omega
          have c3 : (layF ns)[pl]? = some (c - 1) := by rw [hgl]; congr 1; omega
          refine iteT ⟨_, rfl, _, rfl, _, _, _, _, rfl, rfl, sTr, atR hpl, _, rfl, _, rfl, _, _, _, _, rfl, rfl, SqL.of hf, atI_lastI x F, _, _, rfl, rfl, _, rfl, ?_⟩
          by_cases c4 : (x :: F).getLast (List.cons_ne_nil x F) < ns[pl]
          · rw [decide_eq_true c4]
            rw [if_pos ⟨c3, c2, by rw [getD_get hpl]; exact c4⟩] at hpos
            refine iteT ⟨_, rfl, .inl ⟨rfl, _, SqL.of hf⟩, _, rfl, _, rfl, _, _, _, _, rfl, rfl, sTr, atR hpl, _, _, _, rfl, rfl, hf, ?_, ?_⟩
            · rw [sizeLine_eq, List.length_map]
              omega
            refine ⟨_, rfl, _, _, rfl, rfl, ?_⟩
            refine ⟨some (.int (pl : Int)), c - 1, x, F ++ [ns[pl]], Dn ++ [pl], ?_, fun b o hb => ?_, hh.upd nhf, ?_, ?_, ?_, ?_⟩
            · show [some (V.ref a), some (V.ref hp0), some (V.int ((c : Int) - 1)), some (V.int (last : Int)), some (V.ref fo), some (V.int (pl : Int))] = _
              rw [show (c : Int) - 1 = ((c - 1 : Nat) : Int) by omega]
            · rw [upd_ne (ne_of_none hb nfoH)]
              exact sm b o hb
            · rw [upd_same, ← List.cons_append, List.map_append]
              rfl
            · rw [List.length_cons, List.length_append, List.length_singleton]
              rw [List.length_cons] at hlen
              omega
            · rw [← List.cons_append, hF, ← List.cons_append, List.map_append, List.map_singleton, getD_get hpl]
            · rw [elp2, hpos, getD_get hpl]
              have e : (x :: (F ++ [ns[pl]])).getLast (List.cons_ne_nil _ _) = ns[pl] := by simp [List.getLast_cons]
              rw [e, List.append_assoc]
              rfl
          · rw [decide_eq_false c4]
            refine iteF (skip fun z => c4 ?_)
            have z3 := z.2.2
            rw [getD_get hpl] at z3
            exact z3
        · rw [decide_eq_false c1]
          refine iteF (skip fun z => c1 ?_)
          have z1 := z.1
          rw [hgl] at z1
          have z2 := Option.some.inj z1
          have z3 := z.2.1
          congr 1
          omega
      · rintro σ' H' ⟨v5, c, x, F, Dn, rfl, sm, hh, hf, hlen, hF, hpos⟩
        rw [Nat.sub_self] at hpos
        unfold fallGo at hpos
        rw [List.append_nil] at hpos
        refine ⟨_, rfl, fo, _, rfl, SqL.of hf, fun z nz => ⟨_, _, rfl, SqL.of upd_same, fun t ob nt od oc => ?_⟩⟩
        refine kQ ns _ t rfl hrow (sm.trans ((same_upd nz).trans (same_upd nt))) ((sm.trans (same_upd nz)).free nt) ?_
        have e : ((x :: F).map V.int).reverse = (fallingF ns).map V.int := by
          unfold fallingF
          rw [hpos, hF, List.map_reverse, List.map_reverse]
        rw [← e]
        exact .new od oc
def sp__law_pool (K : PySem.W.Frag) (mg : Str → Option Value) : Sp := fun vs H Q _ => ∃ (a : Addr) (ns : List Int), vs = [.ref a] ∧ SqL K H a (ns.map V.int) ∧ ns.length ≤ 63 ∧
  ∀ (H' : Hp) (p q : Addr), Same H H' → H p = none → H q = none → Pool H' p q → Q (.ref p) H'
--OK
abbrev s__law_pool : Stmt := top 15
theorem sc__law_pool : FnScope ["script", "first", "size"] ["script"] (defScope s__law_pool) := ⟨rfl, rfl, rfl, by decide +kernel, rfl, by decide +kernel, by decide +kernel⟩
theorem ok__law_pool {f : Addr} {fd : FuncData} (F : Fun K "_law_pool" "_law_pool" s__law_pool f fd) (T : Nms mg)  : FnOk P w K mg base CX0 1 f fd ["script"] (sp__law_pool K mg) := by
  refine F.ok sc__law_pool (fun vs H Q E h => ?_) (fun cdv A outer s H vs Q E hr h => ?_)
  · obtain ⟨a, ns, rfl, _⟩ := h
    rfl
  · obtain ⟨a, ns, rfl, hS, hn, k⟩ := h
    refine ⟨_, (pss_cut (ps_set (i := 1) sc__law_pool.nd rfl (Or.inl rfl) (pe_ifExp (pt_cmpR op_gt (pe_callB call_len_seq (by rfl) T.len PySem.boot_len (pa_cons (pv 0) pa_nil)) pe_int (nomark _)) (pe_callTy call_int1 (by rfl) T.intN (by decide +kernel) (pa_cons (pe_ix ix_list (pv 0) pe_int (fun _ _ => rfl)) pa_nil)) pe_int))
  (pss_cut (ps_set (i := 2) sc__law_pool.nd rfl (Or.inl rfl) (pe_ifExp (pt_cmpR op_ge (pv 1) pe_int (nomark _)) (pe_op op_mul pe_int (pv 1)) (pe_op op_sub (pe_un un_neg pe_int) (pe_op op_mul pe_int (pv 1)))))
  (pss_one (ps_ret (pe_lst (pa_cons (pe_ifExp (pt_cmpR op_ge (pv 2) (pe_op op_pow pe_int pe_int) (nomark _)) (pv 2) pe_int) (pa_cons (pe_op op_add (pe_op op_modN (pe_callTy call_int1 (by rfl) T.intN (by decide +kernel) (pa_cons (pe_op op_add (pe_op op_mul (pv 2) pe_int) pe_int) pa_nil)) pe_int) pe_int) (pa_cons (pe_callTy call_list_of (by rfl) T.listN (by decide +kernel) (pa_cons (pe_slice sl_list (pv 0) (po_some pe_int) po_none) pa_nil)) pa_nil)))))))), ?_⟩
    refine ⟨fun σ' H' => ∃ z : Int, σ' = [some (.ref a), some (.int z), none] ∧ H = H', ?_, ?_⟩
    · refine ⟨_, rfl, _, _, rfl, .inl hS, _, _, rfl, rfl, _, rfl, ?_⟩
      refine ite2 (fun e0 => ?_) (fun e0 => ?_)
      · have h0 : 0 < ns.length := by
          have z := of_decide_eq_true e0
          rw [List.length_map] at z
          omega
        refine ⟨_, rfl, _, _, (0 : Nat), .int ns[0], rfl, rfl, hS, atI_nat (by simp [h0]), .inl ⟨_, rfl, ?_⟩⟩
        exact ⟨_, rfl, rfl⟩
      · exact ⟨_, rfl, rfl⟩
    · rintro σ' H' ⟨z, rfl, rfl⟩
      refine ⟨fun σ' H' => ∃ y : Int, 0 ≤ y ∧ σ' = [some (.ref a), some (.int z), some (.int y)] ∧ H = H', ?_, ?_⟩
      · refine ⟨_, rfl, _, _, rfl, rfl, _, rfl, ?_⟩
        refine ite2 (fun e1 => ?_) (fun e1 => ?_)
        · refine ⟨_, rfl, _, _, rfl, rfl, .inl ⟨by decide, by decide⟩, ?_⟩
          have e1' : 0 ≤ z := of_decide_eq_true e1
          exact ⟨2 * z, by omega, rfl, rfl⟩
        · refine ⟨_, rfl, _, rfl, _, _, rfl, rfl, .inl ⟨by decide, by decide⟩, _, _, rfl, rfl, ?_⟩
          have e1' : ¬ 0 ≤ z := fun q => e1 (decide_eq_true q)
          exact ⟨-1 - 2 * z, by omega, rfl, rfl⟩
      · rintro σ' H' ⟨y, hy, rfl, rfl⟩
        refine ⟨_, rfl, _, _, rfl, rfl, ⟨by decide, by decide, by decide⟩, _, _, rfl, rfl, _, rfl, ?_⟩
        have b0 := Int.fmod_nonneg_of_pos (y * 48271 + 1009) (show (0:Int) < 2147483629 by decide)
        have b1 := Int.fmod_lt_of_pos (y * 48271 + 1009) (show (0:Int) < 2147483629 by decide)
        have endp : ∀ u : Int, 0 ≤ u → ∀ c (nc : H c = none) d (nd : upd H c (.lst (cutV (ns.map V.int) (some 1) none)) d = none) e (ne : upd (upd H c (.lst (cutV (ns.map V.int) (some 1) none))) d (.lst (cutV (ns.map V.int) (some 1) none)) e = none),
            Q (.ref e) (upd (upd (upd H c (.lst (cutV (ns.map V.int) (some 1) none))) d (.lst (cutV (ns.map V.int) (some 1) none))) e (.lst [.int u, .int ((y * 48271 + 1009).fmod 2147483629 + 3), .ref d])) := fun u hu c nc d nd e ne => by
          have s1 := same_upd (o := .lst (cutV (ns.map V.int) (some 1) none)) nc
          have s2 := same_upd (o := .lst (cutV (ns.map V.int) (some 1) none)) nd
          have s3 := same_upd (o := .lst [.int u, .int ((y * 48271 + 1009).fmod 2147483629 + 3), .ref d]) ne
          refine k _ e d (s1.trans (s2.trans s3)) ((s1.trans s2).free ne) (s1.free nd) ?_
          have ed : d ≠ e := ne_of_none upd_same ne
          have ec : cutV (ns.map V.int) (some 1) none = (ns.drop 1).map V.int := by
            unfold cutV
            rw [show HT.sIx (ns.map V.int).length 0 (some 1) = min 1 (ns.map V.int).length from HT.sIx_nat _ 0 1, HT.sIx_none]
            cases ns with
            | nil => rfl
            | cons x r =>
              rw [show min 1 (List.map V.int (x :: r)).length = 1 by rw [List.length_map, List.length_cons]; omega]
              show (List.map V.int r).take ((List.map V.int (x :: r)).length - 1) = List.map V.int r
              rw [List.length_map, List.length_cons, Nat.add_sub_cancel]
              exact List.take_of_length_le (by rw [List.length_map]; exact Nat.le_refl _)
          refine ⟨u, _, ns.drop 1, upd_same, ?_, ed.symm, hu, by omega, by omega, by rw [List.length_drop]; omega⟩
          rw [upd_ne ed, upd_same, ec]
        refine ite2 (fun e1 => ?_) (fun e1 => ?_)
        · refine ⟨_, rfl, _, rfl, _, _, rfl, rfl, .inr ⟨by decide, by decide⟩, _, _, rfl, rfl, .inl ⟨_, rfl, _, _, rfl, rfl, (by show (2147483629 : Int) ≠ 0; decide), _, _, rfl, rfl, ?_⟩⟩
          refine ⟨_, rfl, _, rfl, _, _, rfl, hS, fun c nc => ⟨_, _, rfl, .inl (SqL.of upd_same), fun d nd => ⟨by show 3 ≤ sizeLine; decide, fun e ne => endp y hy c nc d nd e ne⟩⟩⟩
        · refine ⟨_, rfl, _, _, rfl, rfl, .inr ⟨by decide, by decide⟩, _, _, rfl, rfl, .inl ⟨_, rfl, _, _, rfl, rfl, (by show (2147483629 : Int) ≠ 0; decide), _, _, rfl, rfl, ?_⟩⟩
          refine ⟨_, rfl, _, rfl, _, _, rfl, hS, fun c nc => ⟨_, _, rfl, .inl (SqL.of upd_same), fun d nd => ⟨by show 3 ≤ sizeLine; decide, fun e ne => endp 0 (Int.le_refl _) c nc d nd e ne⟩⟩⟩
def sp__law_draw (K : PySem.W.Frag) (mg : Str → Option Value) : Sp := spDraw
--OK
theorem seqIndex_zero (c : Nat) : seqIndex? 0 (c + 1) = some 0 := by
  unfold seqIndex?
  simp
abbrev s__law_draw : Stmt := top 16
theorem sc__law_draw : FnScope ["pool", "many", "cell", "size", "found"] ["pool", "many"] (defScope s__law_draw) := ⟨rfl, rfl, rfl, by decide +kernel, rfl, by decide +kernel, by decide +kernel⟩
theorem ok__law_draw {f : Addr} {fd : FuncData} (F : Fun K "_law_draw" "_law_draw" s__law_draw f fd) (T : Nms mg)  : FnOk P w K mg base CX0 1 f fd ["pool", "many"] (sp__law_draw K mg) := by
  refine F.ok sc__law_draw (fun vs H Q E h => ?_) (fun cdv A outer s H vs Q E hr h => ?_)
  · obtain ⟨p, q, m, rfl, _⟩ := h
    rfl
  · obtain ⟨p, q, m, rfl, hP, hm1, hm2, k⟩ := h
    refine ⟨_, (pss_cut (ps_if (PW.pt (pw_and (pt_cmpR op_eq (pe_ix ix_list (pv 0) pe_int (fun _ _ => rfl)) pe_int (nomark _)) (pw_and1 (pt_cmpR (op_neD hr.units) (pe_ix ix_list (pv 0) pe_int (fun _ _ => rfl)) (pe_lst pa_nil) (nomark _))))) (pss_cons (ps_set (i := 2) sc__law_draw.nd rfl (Or.inl rfl) (pe_callTy call_int1 (by rfl) T.intN (by decide +kernel) (pa_cons (pe_bm PySem.F.plainAttrs_list PySem.F.slot_list_pop PySem.F.type_list_pop mt_popAt (pe_ix ix_list (pv 0) pe_int (fun _ _ => rfl)) (pa_cons pe_int pa_nil)) pa_nil)))
  (pss_cut (ps_set (i := 3) sc__law_draw.nd rfl (Or.inl rfl) (pe_ifExp (pt_cmpR op_ge (pv 2) pe_int (nomark _)) (pe_op op_mul pe_int (pv 2)) (pe_op op_sub (pe_un un_neg pe_int) (pe_op op_mul pe_int (pv 2)))))
  (pss_cut (ps_asg (pe_ifExp (pt_cmpR op_ge (pv 3) (pe_op op_pow pe_int pe_int) (nomark _)) (pv 3) pe_int) (pg_sub (pv 0) pe_int set_list))
  (pss_one (ps_asg (pe_op op_add (pe_op op_modN (pe_callTy call_int1 (by rfl) T.intN (by decide +kernel) (pa_cons (pe_op op_add (pe_ix ix_list (pv 0) pe_int (fun _ _ => rfl)) (pe_op op_mul (pv 3) pe_int)) pa_nil)) pe_int) pe_int) (pg_sub (pv 0) pe_int set_list)))))) pss_nil)
  (pss_cons (ps_if (pt_cmpR op_gt (pe_ix ix_list (pv 0) pe_int (fun _ _ => rfl)) pe_int (nomark _)) (pss_cons (ps_set (i := 4) sc__law_draw.nd rfl (Or.inl rfl) (pe_op op_modN (pe_callTy call_int1 (by rfl) T.intN (by decide +kernel) (pa_cons (pe_ix ix_list (pv 0) pe_int (fun _ _ => rfl)) pa_nil)) (pv 1)))
  (pss_cons (ps_asg (pe_op op_fdivN (pe_ix ix_list (pv 0) pe_int (fun _ _ => rfl)) (pv 1)) (pg_sub (pv 0) pe_int set_list))
  (pss_one (ps_ret (pv 4))))) pss_nil)
  (pss_cons (ps_asg (pe_op op_modN (pe_callTy call_int1 (by rfl) T.intN (by decide +kernel) (pa_cons (pe_op op_add (pe_op op_mul (pe_ix ix_list (pv 0) pe_int (fun _ _ => rfl)) pe_int) pe_int) pa_nil)) pe_int) (pg_sub (pv 0) pe_int set_list))
  (pss_one (ps_ret (pe_op op_modN (pe_op op_fdivN (pe_op op_modN (pe_callTy call_int1 (by rfl) T.intN (by decide +kernel) (pa_cons (pe_op op_mul (pe_ix ix_list (pv 0) pe_int (fun _ _ => rfl)) (pe_ix ix_list (pv 0) pe_int (fun _ _ => rfl))) pa_nil)) pe_int) pe_int) (pv 1))))))), ?_⟩
    obtain ⟨a, b, cs, hp, hq, npq, ha, hb, hb2, hc⟩ := hP
    refine ⟨fun σ' H' => ∃ (a b : Int) (cs : List Int) (v2 v3 : Option V), σ' = [some (.ref p), some (.int m), v2, v3, none] ∧ Keep p q H H' ∧ H' p = some (.lst [.int a, .int b, .ref q]) ∧ H' q = some (.lst (cs.map V.int)) ∧ 0 ≤ a ∧ 0 ≤ b ∧ b < 4294967296 ∧ cs.length ≤ 63, ?_, ?_⟩
    · refine ⟨_, rfl, _, _, _, _, rfl, rfl, SqL.of hp, rfl, rfl, _, rfl, ?_⟩
      refine ite2 (fun e0 => ?_) (fun e0 => ?_)
      · -- pool[2] != []
        refine ⟨_, rfl, _, _, _, _, rfl, rfl, SqL.of hp, rfl, Nat.zero_le _, fun l nl => ?_⟩
        have nlp : p ≠ l := ne_of_none hp nl
        have nlq : q ≠ l := ne_of_none hq nl
        have hp1 : upd H l (.lst []) p = some (.lst [.int a, .int b, .ref q]) := by rw [upd_ne nlp]; exact hp
        have hq1 : upd H l (.lst []) q = some (.lst (cs.map V.int)) := by rw [upd_ne nlq]; exact hq
        have k1 : Keep p q H (upd H l (.lst [])) := Keep.refl.new nl
        refine ⟨.list (pi cs), .list (pi []), dp_lstI (SqL.of hq1), dp_lstI (ns := []) (SqL.of upd_same), shaped_lstI _, shaped_lstI _, _, rfl, ?_⟩
        rw [eqv_lstI]
        cases cs with
        | nil =>
          exact ⟨a, b, [], none, none, rfl, k1, hp1, hq1, ha, hb, hb2, hc⟩
        | cons c cs =>
          refine ⟨_, rfl, _, _, _, _, rfl, rfl, SqL.of hp1, rfl, .inl ⟨rfl, _, SqL.of hq1⟩, q, _, 0, 0, .int c, rfl, rfl, hq1, by decide, by decide, seqIndex_zero _, rfl, .inl ⟨_, rfl, ?_⟩⟩
          have hp2 : upd (upd H l (.lst [])) q (.lst (((c :: cs).map V.int).eraseIdx 0)) p = some (.lst [.int a, .int b, .ref q]) := by rw [upd_ne npq]; exact hp1
          have hc' : cs.length ≤ 63 := Nat.le_of_succ_le hc
          refine ⟨fun σ' H' => ∃ z : Int, 0 ≤ z ∧ σ' = [some (.ref p), some (.int m), some (.int c), some (.int z), none] ∧ H' = upd (upd H l (.lst [])) q (.lst (cs.map V.int)), ?_, ?_⟩
          · refine ⟨_, rfl, _, _, rfl, rfl, _, rfl, ?_⟩
            refine ite2 (fun e1 => ?_) (fun e1 => ?_)
            · refine ⟨_, rfl, _, _, rfl, rfl, .inl ⟨by decide, by decide⟩, ?_⟩
              have e1' : 0 ≤ c := of_decide_eq_true e1
              exact ⟨2 * c, by omega, rfl, rfl⟩
            · refine ⟨_, rfl, _, rfl, _, _, rfl, rfl, .inl ⟨by decide, by decide⟩, _, _, rfl, rfl, ?_⟩
              have e1' : ¬ 0 ≤ c := fun z => e1 (decide_eq_true z)
              exact ⟨-1 - 2 * c, by omega, rfl, rfl⟩
          · rintro σ' H' ⟨z, hz, rfl, rfl⟩
            refine ⟨fun σ' H' => ∃ a' : Int, 0 ≤ a' ∧ σ' = [some (.ref p), some (.int m), some (.int c), some (.int z), none] ∧ H' = upd (upd (upd H l (.lst [])) q (.lst (cs.map V.int))) p (.lst [.int a', .int b, .ref q]), ?_, ?_⟩
            · refine ⟨_, rfl, _, _, rfl, rfl, ⟨by decide, by decide, by decide⟩, _, _, rfl, rfl, _, rfl, ?_⟩
              refine ite2 (fun e1 => ?_) (fun e1 => ?_)
              · refine ⟨_, rfl, _, rfl, _, _, _, _, rfl, rfl, hp2, rfl, ?_⟩
                exact ⟨z, hz, rfl, rfl⟩
              · refine ⟨_, rfl, _, _, _, _, rfl, rfl, hp2, rfl, ?_⟩
                exact ⟨0, Int.le_refl _, rfl, rfl⟩
            · rintro σ' H' ⟨a', ha', rfl, rfl⟩
              refine ⟨_, rfl, _, _, _, _, rfl, rfl, SqL.of upd_same, rfl, _, rfl, _, _, rfl, rfl, .inr ⟨by decide, by decide⟩, _, _, rfl, rfl, .inl ⟨_, rfl, _, _, rfl, rfl, (by show (2147483629 : Int) ≠ 0; decide), _, _, rfl, rfl, _, rfl, _, _, _, _, rfl, rfl, upd_same, rfl, ?_⟩⟩
              refine ⟨a', _, cs, _, _, rfl, ?_, upd_same, ?_, ha', ?_, ?_, hc'⟩
              · exact (((k1.atq).atp).atp)
              · rw [upd_ne npq.symm, upd_ne npq.symm, upd_same]
              · show 0 ≤ (b + z * 69621).fmod 2147483629 + 3
                have := Int.fmod_nonneg_of_pos (b + z * 69621) (show (0:Int) < 2147483629 by decide)
                omega
              · show (b + z * 69621).fmod 2147483629 + 3 < 4294967296
                have := Int.fmod_lt_of_pos (b + z * 69621) (show (0:Int) < 2147483629 by decide)
                omega
      · exact ⟨a, b, cs, none, none, rfl, Keep.refl, hp, hq, ha, hb, hb2, hc⟩
    · rintro σ' H' ⟨a, b, cs, v2, v3, rfl, kp, hp, hq, ha, hb, hb2, hc⟩
      refine ⟨_, rfl, _, _, _, _, rfl, rfl, SqL.of hp, rfl, _, _, rfl, rfl, _, rfl, ?_⟩
      refine ite2 (fun e0 => ?_) (fun e0 => ?_)
      · -- found = int(pool[0]) % many
        refine ⟨_, rfl, _, _, _, _, rfl, rfl, SqL.of hp, rfl, .inl ⟨_, rfl, _, rfl, _, _, rfl, rfl, by show m ≠ 0; omega, ?_⟩⟩
        refine ⟨_, rfl, _, _, _, _, rfl, rfl, SqL.of hp, rfl, _, rfl, _, _, rfl, rfl, ⟨by omega, by omega⟩, ?_⟩
        refine ⟨_, rfl, _, _, _, _, rfl, rfl, hp, rfl, ?_⟩
        refine ⟨_, rfl, ?_⟩
        refine k _ _ kp.atp ⟨a.fdiv m, b, cs, upd_same, by rw [upd_ne npq.symm]; exact hq, npq, ?_, hb, hb2, hc⟩ (Int.fmod_nonneg_of_pos _ (by omega)) (Int.fmod_lt_of_pos _ (by omega))
        exact Int.fdiv_nonneg ha (by omega)
      · refine ⟨_, rfl, _, _, _, _, rfl, rfl, SqL.of hp, rfl, _, _, rfl, rfl, .inr ⟨by decide, by decide⟩, _, _, rfl, rfl, .inl ⟨_, rfl, _, _, rfl, rfl, (by show (2147483647 : Int) ≠ 0; decide), _, rfl, _, _, _, _, rfl, rfl, hp, rfl, ?_⟩⟩
        have b1 := Int.fmod_nonneg_of_pos (b * 48271 + 11) (show (0:Int) < 2147483647 by decide)
        have b2 := Int.fmod_lt_of_pos (b * 48271 + 11) (show (0:Int) < 2147483647 by decide)
        refine ⟨_, rfl, _, _, _, _, rfl, rfl, SqL.of upd_same, rfl, _, rfl, _, _, _, _, rfl, rfl, SqL.of upd_same, rfl, _, _, rfl, rfl, .inl ⟨?_, ?_⟩, .inl ⟨_, rfl, _, _, rfl, rfl, (by show (2147483629 : Int) ≠ 0; decide), _, _, rfl, rfl, ⟨by decide, by decide⟩, _, rfl, _, _, rfl, rfl, by show m ≠ 0; omega, ?_⟩⟩
        · show -(2 ^ 64) < (b * 48271 + 11).fmod 2147483647
          omega
        · show (b * 48271 + 11).fmod 2147483647 < 2 ^ 64
          omega
        · refine k _ _ kp.atp ⟨a, _, cs, upd_same, by rw [upd_ne npq.symm]; exact hq, npq, ha, b1, ?_, hc⟩ (Int.fmod_nonneg_of_pos _ (by omega)) (Int.fmod_lt_of_pos _ (by omega))
          show (b * 48271 + 11).fmod 2147483647 < 4294967296
          omega
def sp__law_turned (K : PySem.W.Frag) (mg : Str → Option Value) : Sp := fun vs H Q _ => ∃ (p q : Addr) (m : Nat), vs = [.ref p, .int (m : Int)] ∧ Pool H p q ∧ m ≤ 100000 ∧
  ∀ (H' : Hp) (l : Addr) (xs : List Int), Keep p q H H' → Pool H' p q → H l = none → H' l = some (.lst (xs.map V.int)) → xs.Perm (rgI m) → Q (.ref l) H'
--OK
abbrev s__law_turned : Stmt := top 19
theorem sc__law_turned : FnScope ["pool", "many", "left", "found", "turn"] ["pool", "many"] (defScope s__law_turned) := ⟨rfl, rfl, rfl, by decide +kernel, rfl, by decide +kernel, by decide +kernel⟩
theorem ok__law_turned {f : Addr} {fd : FuncData} (F : Fun K "_law_turned" "_law_turned" s__law_turned f fd) (T : Nms mg) (C__law_draw : Cal P w K mg base 1 "_law_draw" ["pool", "many"] (sp__law_draw K mg)) : FnOk P w K mg base CX0 2 f fd ["pool", "many"] (sp__law_turned K mg) := by
  refine F.ok sc__law_turned (fun vs H Q E h => ?_) (fun cdv A outer s H vs Q E hr h => ?_)
  · obtain ⟨p, q, m, rfl, _⟩ := h
    rfl
  · obtain ⟨p, q, m, rfl, hP, hm, k⟩ := h
    refine ⟨_, (pss_cons (ps_par (i := 2) (j := 3) (by rfl) sc__law_turned.nd rfl rfl (by decide) rfl rfl (pa_cons (pe_listRg rfl (by rfl) T.listN (prg_1 (by rfl) T.rangeN (pv 1))) (pa_cons (pe_lst pa_nil) pa_nil)) (by rfl))
  (pss_cons (ps_for PassesOwn.never rfl (pi_range1 (by rfl) T.rangeN (pa_cons (pv 1) pa_nil)) (pg_name (i := 4) sc__law_turned.nd rfl (Or.inl rfl)) (pss_one (ps_expr (pe_bm PySem.F.plainAttrs_list PySem.F.slot_list_append PySem.F.type_list_append mt_append (pv 3) (pa_cons (pe_bm PySem.F.plainAttrs_list PySem.F.slot_list_pop PySem.F.type_list_pop mt_popAt (pv 2) (pa_cons (pe_cal C__law_draw hr (pa_cons (pv 0) (pa_cons (pe_callB call_len_seq (by rfl) T.len PySem.boot_len (pa_cons (pv 2) pa_nil)) pa_nil))) pa_nil)) pa_nil)))))
  (pss_one (ps_ret (pv 3))))), ?_⟩
    refine ⟨_, rfl, _, rfl, RgOk.of_le (by decide) (by omega) (by decide) (by omega), fun a na => ⟨Nat.zero_le _, fun b nb => ⟨_, _, rfl, ?_⟩⟩⟩
    have nab : a ≠ b := ne_of_none upd_same nb
    have na' := hP.nep na
    have na2 := hP.neq na
    have k1 : Keep p q H (upd (upd H a (.lst (rgV 0 (m : Int)))) b (.lst [])) := (Keep.refl.new na).new nb
    have nbH : H b = none := (same_upd na).free nb
    have nb' := hP.nep nbH
    have nb2 := hP.neq nbH
    refine ⟨_, rfl, _, rfl, by omega, by omega, for_range (lo := 0) (n := (m : Int).toNat) (fun i σ' H' => ∃ (v4 : Option V) (L F : List Int), σ' = [some (.ref p), some (.int (m : Int)), some (.ref a), some (.ref b), v4] ∧ Keep p q H H' ∧ Pool H' p q ∧ H' a = some (.lst (L.map V.int)) ∧ H' b = some (.lst (F.map V.int)) ∧ (L ++ F).Perm (rgI m) ∧ L.length + i = m) ?_ ?_ ?_⟩
    · refine ⟨none, rgI m, [], rfl, k1, (hP.new na).new nb, ?_, upd_same, by rw [List.append_nil], rgI_len m⟩
      rw [upd_ne nab, upd_same, rgV_I]
    · rintro i σ' H' hi ⟨v4, L, F, rfl, kp, hP1, ha, hb, pm, hl⟩
      have hl0 : 0 < L.length := by omega
      have hF : F.length ≤ m := by
        have z := pm.length_eq
        rw [List.length_append, rgI_len] at z
        omega
      refine ⟨_, rfl, .inl ⟨rfl, _, SqL.of hb⟩, _, rfl, .inl ⟨rfl, _, SqL.of ha⟩, _, rfl, _, rfl, _, _, rfl, .inl (SqL.of ha), p, q, _, rfl, hP1, by rw [List.length_map]; omega, by rw [List.length_map]; omega, fun H1 r kd P1 r0 r1 => ?_⟩
      rw [List.length_map] at r1
      obtain ⟨j, rfl⟩ : ∃ j : Nat, r = (j : Int) := ⟨r.toNat, by omega⟩
      have hj : j < L.length := by omega
      have ha1 : H1 a = some (.lst (L.map V.int)) := kd _ _ ha na' na2
      have hb1 : H1 b = some (.lst (F.map V.int)) := kd _ _ hb nb' nb2
      refine ⟨a, _, _, j, .int L[j], rfl, rfl, ha1, by omega, by omega, seqIndex_nat (by rw [List.length_map]; exact hj), by simp [hj], ?_⟩
      refine ⟨b, _, _, rfl, rfl, by rw [upd_ne nab.symm]; exact hb1, by rw [sizeLine_eq, List.length_map]; omega, ?_⟩
      refine ⟨_, L.eraseIdx j, F ++ [L[j]], rfl, (((kp.trans kd).mut na).mut nbH), (P1.mut na' na2).mut nb' nb2, ?_, ?_, ?_, ?_⟩
      · rw [upd_ne nab, upd_same, eraseIdx_mapI]
      · rw [upd_same, List.map_append]
        rfl
      · refine List.Perm.trans ?_ pm
        have e1 : L.Perm (L[j] :: L.eraseIdx j) := perm_eraseIdx L j hj
        refine List.Perm.trans ?_ (e1.symm.append_right F)
        rw [← List.append_assoc]
        refine List.perm_append_comm.trans ?_
        exact List.Perm.refl _
      · rw [List.length_eraseIdx, if_pos hj]
        omega
    · rintro σ' H' ⟨v4, L, F, rfl, kp, hP1, ha, hb, pm, hl⟩
      have hL : L = [] := List.eq_nil_of_length_eq_zero (by omega)
      subst hL
      exact ⟨_, rfl, k H' b F kp hP1 nbH hb (by simpa using pm)⟩
def sp__law_row (K : PySem.W.Frag) (mg : Str → Option Value) : Sp := fun vs H Q _ => ∃ (p q : Addr) (m : Nat), vs = [.ref p, .int (m : Int)] ∧ Pool H p q ∧ m ≤ 400 ∧
  ∀ (H' : Hp) (l : Addr) (ns : List Int), Keep p q H H' → Pool H' p q → H l = none → TupD H' l (ns.map V.int) → IsRow ns → ns.length = m → Q (.ref l) H'
--OK
abbrev s__law_row : Stmt := top 20
theorem sc__law_row : FnScope ["pool", "many", "way", "row", "turn", "one", "other"] ["pool", "many"] (defScope s__law_row) := ⟨rfl, rfl, rfl, by decide +kernel, rfl, by decide +kernel, by decide +kernel⟩
theorem ok__law_row {f : Addr} {fd : FuncData} (F : Fun K "_law_row" "_law_row" s__law_row f fd) (T : Nms mg) (C__law_draw : Cal P w K mg base 1 "_law_draw" ["pool", "many"] (sp__law_draw K mg)) (C__law_turned : Cal P w K mg base 2 "_law_turned" ["pool", "many"] (sp__law_turned K mg)) : FnOk P w K mg base CX0 3 f fd ["pool", "many"] (sp__law_row K mg) := by
  refine F.ok sc__law_row (fun vs H Q E h => ?_) (fun cdv A outer s H vs Q E hr h => ?_)
  · obtain ⟨p, q, m, rfl, _⟩ := h
    rfl
  · obtain ⟨p, q, m, rfl, hP, hm, k⟩ := h
    refine ⟨_, (pss_cons (ps_set (i := 2) sc__law_row.nd rfl (Or.inl rfl) (pe_cal C__law_draw hr (pa_cons (pv 0) (pa_cons pe_int pa_nil))))
  (pss_cons (ps_if (pt_cmpR op_lt (pv 2) pe_int (nomark _)) (pss_one (ps_ret (pe_callTy call_tupF (by rfl) T.tupleN (by decide +kernel) (pa_cons (pe_cal C__law_turned hr (pa_cons (pv 0) (pa_cons (pv 1) pa_nil))) pa_nil)))) pss_nil)
  (pss_cut (ps_set (i := 3) sc__law_row.nd rfl (Or.inl rfl) (pe_ifExp (pt_cmpR op_eq (pv 2) pe_int (nomark _)) (pe_listRg rfl (by rfl) T.listN (prg_1 (by rfl) T.rangeN (pv 1))) (pe_revL (pe_listRg rfl (by rfl) T.listN (prg_1 (by rfl) T.rangeN (pv 1))))))
  (pss_cons (ps_for PassesOwn.never rfl (pi_range1 (by rfl) T.rangeN (pa_cons (pe_ifExp (pt_cmpR op_gt (pv 1) pe_int (nomark _)) (pe_cal C__law_draw hr (pa_cons (pv 0) (pa_cons pe_int pa_nil))) pe_int) pa_nil)) (pg_name (i := 4) sc__law_row.nd rfl (Or.inl rfl)) (pss_cons (ps_par (i := 5) (j := 6) (by rfl) sc__law_row.nd rfl rfl (by decide) rfl rfl (pa_cons (pe_cal C__law_draw hr (pa_cons (pv 0) (pa_cons (pv 1) pa_nil))) (pa_cons (pe_cal C__law_draw hr (pa_cons (pv 0) (pa_cons (pv 1) pa_nil))) pa_nil)) (by rfl))
  (pss_one (ps_asg (pe_tup (pa_cons (pe_ix ix_list (pv 3) (pv 6) (fun _ _ => rfl)) (pa_cons (pe_ix ix_list (pv 3) (pv 5) (fun _ _ => rfl)) pa_nil))) (pg_tup (by rfl) (pgs_cons (pg_sub (pv 3) (pv 5) set_list) (pgs_cons (pg_sub (pv 3) (pv 6) set_list) pgs_nil)))))))
  (pss_one (ps_ret (pe_callTy call_tupF (by rfl) T.tupleN (by decide +kernel) (pa_cons (pv 3) pa_nil)))))))), ?_⟩
    refine ⟨_, rfl, p, q, 4, rfl, hP, by decide, by decide, fun H1 r k1 P1 r0 r1 => ?_⟩
    refine ⟨_, rfl, _, _, rfl, rfl, _, rfl, ?_⟩
    refine ite2 (fun e0 => ?_) (fun e0 => ?_)
    · refine ⟨_, rfl, _, rfl, p, q, m, rfl, P1, by omega, fun H2 l xs k2 P2 nl hl pm => ⟨_, _, rfl, SqL.of hl, fun t ob nt od oc => ?_⟩⟩
      have hrow := (rgI_row hm).perm pm
      exact k _ t xs ((k1.trans k2).new nt) (P2.new nt) ((k1.trans k2).free (P2.nep nt) (P2.neq nt) nt) (.new od oc) hrow (by rw [pm.length_eq, rgI_len])
    · -- row
      refine ⟨fun σ' H' => ∃ (l : Addr) (L : List Int), σ' = [some (.ref p), some (.int (m : Int)), some (.int r), some (.ref l), none, none, none] ∧ Keep p q H H' ∧ Pool H' p q ∧ H l = none ∧ H' l = some (.lst (L.map V.int)) ∧ IsRow L ∧ L.length = m, ?_, ?_⟩
      · refine ⟨_, rfl, rfl, _, rfl, ?_⟩
        refine ite2 (fun e1 => ?_) (fun e1 => ?_)
        · refine ⟨_, rfl, _, rfl, RgOk.of_le (by decide) (by omega) (by decide) (by omega), fun a na => ?_⟩
          exact ⟨a, rgI m, rfl, k1.new na, P1.new na, k1.free (P1.nep na) (P1.neq na) na, by rw [upd_same, rgV_I], rgI_row hm, rgI_len m⟩
        · refine ⟨_, rfl, _, rfl, RgOk.of_le (by decide) (by omega) (by decide) (by omega), fun a na => ⟨a, _, rfl, SqL.of upd_same, fun b nb => ?_⟩⟩
          have P2 := P1.new (o := .lst (rgV 0 (m : Int))) na
          refine ⟨b, (rgI m).reverse, rfl, (k1.new na).new nb, P2.new nb, (k1.new na).free (P2.nep nb) (P2.neq nb) nb, ?_, rev_row (rgI_row hm), by rw [List.length_reverse, rgI_len]⟩
          rw [upd_same, rgV_I, List.map_reverse]
      · rintro σ' H2 ⟨l, L, rfl, kp, P2, nl, hl, hL, hLm⟩
        have fin : ∀ (Hx : Hp) (Lx : List Int), Keep p q H Hx → Pool Hx p q → Hx l = some (.lst (Lx.map V.int)) → IsRow Lx → Lx.length = m → ∀ (t : Addr) (ob : Obj), Hx t = none → ob.dict = none → ob.cls = .type "tuple" → Q (.ref t) (upd Hx t (.frz ob (.tup (Lx.map V.int)))) := fun Hx Lx kx Px hx rx lx t ob nt od oc =>
          k _ t Lx (kx.new nt) (Px.new nt) (kx.free (Px.nep nt) (Px.neq nt) nt) (.new od oc) rx lx
        refine ⟨_, rfl, _, _, rfl, rfl, _, rfl, ?_⟩
        refine ite2 (fun e1 => ?_) (fun e1 => ?_)
        · have hm0 : 0 < m := by
            have z := of_decide_eq_true e1
            omega
          refine ⟨_, rfl, p, q, 4, rfl, P2, by decide, by decide, fun H3 c k3 P3 c0 c1 => ⟨_, rfl, by omega, by omega, ?_⟩⟩
          refine for_range (lo := 0) (n := c.toNat) (fun i σ' H' => ∃ (v4 v5 v6 : Option V) (L : List Int), σ' = [some (.ref p), some (.int (m : Int)), some (.int r), some (.ref l), v4, v5, v6] ∧ Keep p q H H' ∧ Pool H' p q ∧ H' l = some (.lst (L.map V.int)) ∧ IsRow L ∧ L.length = m) ?_ ?_ ?_
          · exact ⟨none, none, none, L, rfl, kp.trans k3, P3, k3 _ _ hl (hP.nep nl) (hP.neq nl), hL, hLm⟩
          · rintro i σ' H4 hi ⟨v4, v5, v6, L, rfl, kp, P4, hl, hL, hLm⟩
            refine ⟨_, rfl, _, rfl, p, q, m, rfl, P4, by omega, by omega, fun H5 a k5 P5 a0 a1 => ⟨_, rfl, _, rfl, p, q, m, rfl, P5, by omega, by omega, fun H6 b k6 P6 b0 b1 => ⟨_, _, rfl, ?_⟩⟩⟩
            obtain ⟨a, rfl⟩ : ∃ a' : Nat, a = (a' : Int) := ⟨a.toNat, by omega⟩
            obtain ⟨b, rfl⟩ : ∃ b' : Nat, b = (b' : Int) := ⟨b.toNat, by omega⟩
            have hl6 : H6 l = some (.lst (L.map V.int)) := k6 _ _ (k5 _ _ hl (hP.nep nl) (hP.neq nl)) (hP.nep nl) (hP.neq nl)
            have ha : a < L.length := by omega
            have hb : b < L.length := by omega
            refine ⟨_, rfl, _, rfl, _, _, b, .int L[b], rfl, rfl, SqL.of hl6, atI_nat (by simp [hb]), _, rfl, _, rfl, _, _, a, .int L[a], rfl, rfl, SqL.of hl6, atI_nat (by simp [ha]), by show 2 ≤ sizeLine; decide, fun T nT => ?_⟩
            have nlT : l ≠ T := ne_of_none hl6 nT
            refine ⟨T, _, rfl, .inl (.inl upd_same), rfl, _, _, rfl, _, rfl, _, rfl, l, _, _, a, rfl, rfl, by rw [upd_ne nlT]; exact hl6, ixN_nat (by rw [List.length_map]; exact ha), _, _, rfl, _, rfl, _, rfl, l, _, _, b, rfl, rfl, upd_same, ixN_nat (by rw [List.length_set, List.length_map]; exact hb), rfl, ?_⟩
            refine ⟨_, _, _, (L.set a L[b]).set b L[a], rfl, (((kp.trans (k5.trans k6)).new nT).mut nl).mut nl, ((P6.new nT).mut (hP.nep nl) (hP.neq nl)).mut (hP.nep nl) (hP.neq nl), ?_, swap_row hL ha hb, by rw [List.length_set, List.length_set]; exact hLm⟩
            rw [upd_same, List.map_set, List.map_set]
          · rintro σ' H4 ⟨v4, v5, v6, L, rfl, kp, P4, hl, hL, hLm⟩
            exact ⟨_, rfl, _, _, rfl, SqL.of hl, fun t ob nt od oc => fin H4 L kp P4 hl hL hLm t ob nt od oc⟩
        · refine ⟨_, rfl, by decide, by decide, for_range (lo := 0) (n := (0 : Int).toNat) (fun i σ' H' => σ' = [some (.ref p), some (.int (m : Int)), some (.int r), some (.ref l), none, none, none] ∧ H2 = H') ?_ ?_ ?_⟩
          · exact ⟨rfl, rfl⟩
          · intro i σ' H4 hi _
            exact absurd hi (Nat.not_lt_zero _)
          · rintro σ' H4 ⟨rfl, rfl⟩
            exact ⟨_, rfl, _, _, rfl, SqL.of hl, fun t ob nt od oc => fin _ L kp P2 hl hL hLm t ob nt od oc⟩
def sp__law_rises (K : PySem.W.Frag) (mg : Str → Option Value) : Sp := fun vs H Q _ => ∃ (a : Addr) (ns : List Int), vs = [.ref a] ∧ (SqL K H a (ns.map V.int) ∨ SqT K H a (ns.map V.int)) ∧ ns.length ≤ 100000 ∧
  ∀ H' : Hp, Same H H' → Q (.bl (decide (ns.Pairwise (· < ·)))) H'
--OK
abbrev s__law_rises : Stmt := top 21
theorem sc__law_rises : FnScope ["row", "one", "other"] ["row"] (defScope s__law_rises) := ⟨rfl, rfl, rfl, by decide +kernel, rfl, by decide +kernel, by decide +kernel⟩
theorem ok__law_rises {f : Addr} {fd : FuncData} (F : Fun K "_law_rises" "_law_rises" s__law_rises f fd) (T : Nms mg)  : FnOk P w K mg base CX0 1 f fd ["row"] (sp__law_rises K mg) := by
  refine F.ok sc__law_rises (fun vs H Q E h => ?_) (fun cdv A outer s H vs Q E hr h => ?_)
  · obtain ⟨a, ns, rfl, _⟩ := h
    rfl
  · obtain ⟨a, ns, rfl, hS, hn, k⟩ := h
    refine ⟨_, (pss_one (ps_ret (pe_cmpR (op_eqD hr.units) (pe_lc (own := [("one", 1), ("other", 2)]) (g := (gTup K 2 (gCons (gName 1) (gCons (gName 2) gNil)))) rfl sc__law_rises.nd (RZ.pi_zipA (by rfl) T.zipN (pa_cons (pv 0) (pa_cons (pe_slice (SlR.or sl_list sl_tupU) (pv 0) (po_some pe_int) po_none) pa_nil))) (blkOk_by (N := ["row", "one", "other"]) (sc := defScope s__law_rises) (by decide +kernel)) (fun _ _ _ _ _ => (pg_tup (by rfl) (pgs_cons (pg_name (i := 1) sc__law_rises.nd rfl (Or.inl rfl)) (pgs_cons (pg_name (i := 2) sc__law_rises.nd rfl (Or.inl rfl)) pgs_nil)))) (fun _ _ _ _ _ => (pts_one (pt_cmpR op_ge (pv 1) (pv 2) (nomark _)))) (fun _ _ _ _ _ => pe_int)) (pe_lst pa_nil) (nomark _)))), ?_⟩
    rcases hS with hS | hS
    · refine ⟨_, rfl, _, rfl, _, rfl, .inl ⟨a, _, rfl, hS, fun s0 ns0 => ?_⟩⟩
      have sc : Same H (upd H s0 (.lst (cutV (ns.map V.int) (some 1) none))) := same_upd ns0
      have hs : SqL K (upd H s0 (.lst (cutV (ns.map V.int) (some 1) none))) s0 ((ns.drop 1).map V.int) := .inl (.inl (by rw [upd_same, cut_tail, List.map_drop]))
      generalize upd H s0 (.lst (cutV (ns.map V.int) (some 1) none)) = Hc at sc hs ⊢
      refine ⟨a, s0, _, _, rfl, .inl ⟨L2.Same.seq sc hS, hs, fun D nD => lc_it (walk_zip (K := K) (a := a) (b := s0) (xs := ns.map V.int) (ys := (ns.drop 1).map V.int) (n := ns.length - 1) (by rw [List.length_map, List.length_map, List.length_drop]; omega)) (fun i H2 => ∃ c : Nat, Same Hc H2 ∧ H2 D = some (.lst ((List.replicate c (1 : Int)).map V.int)) ∧ c ≤ i ∧ (c = 0 ↔ stepsUp ns i)) ?_ ?_ ?_ ?_⟩⟩
      · refine ⟨0, same_upd nD, upd_same, Nat.le_refl _, ⟨fun _ j hj => absurd hj (Nat.not_lt_zero _), fun _ => rfl⟩⟩
      · rintro i H2 hi ⟨c, s2, _⟩
        exact ⟨L2.Same.seq (sc.trans s2) hS, L2.Same.seq s2 hs⟩
      · rintro i x H2 H3 hi ⟨c, s2, hD, hc, hup⟩ ⟨T, x1, x2, rfl, nT, rfl, e1, e2⟩
        obtain ⟨y1, rfl, g1⟩ := getI e1
        obtain ⟨y2, rfl, g2⟩ := getI e2
        have hi1 : i + 1 < ns.length := by omega
        have q1 : ns[i] = y1 := by
          rw [List.getElem?_eq_getElem (by omega)] at g1
          exact Option.some.inj g1
        have q2 : ns[i + 1] = y2 := by
          rw [List.getElem?_drop, Nat.add_comm 1 i, List.getElem?_eq_getElem hi1] at g2
          exact Option.some.inj g2
        have nDT : D ≠ T := ne_of_none hD nT
        have s3 : Same Hc (upd H2 T (.tup [.int y1, .int y2])) := s2.trans (same_upd nT)
        have hD3 : upd H2 T (.tup [.int y1, .int y2]) D = some (.lst ((List.replicate c (1 : Int)).map V.int)) := by rw [upd_ne nDT]; exact hD
        refine ⟨T, _, rfl, .inl (.inl upd_same), rfl, _, _, rfl, _, _, rfl, rfl, rfl, _, rfl, _, rfl, _, _, rfl, rfl, _, rfl, ?_⟩
        refine ite2 (fun e => ?_) (fun e => ?_)
        · have e' : y2 ≤ y1 := of_decide_eq_true e
          refine ⟨_, hD3, by rw [sizeLine_eq, List.length_map, List.length_replicate]; omega, c + 1, fun b o hb => ?_, ?_, Nat.succ_le_succ hc, ⟨fun z => absurd z (Nat.succ_ne_zero c), fun z => ?_⟩⟩
          · rw [upd_ne (ne_of_none hb nD)]
            exact s3 b o hb
          · rw [upd_same, List.replicate_succ', List.map_append]
            rfl
          · have := z i (Nat.lt_succ_self i) hi1
            omega
        · have e' : y1 < y2 := by
            have z : ¬ y2 ≤ y1 := fun q => e (decide_eq_true q)
            omega
          refine ⟨c, s3, hD3, Nat.le_succ_of_le hc, ⟨fun z j hj hl => ?_, fun z => hup.mpr fun j hj hl => z j (Nat.lt_succ_of_lt hj) hl⟩⟩
          by_cases d : j = i
          · subst d
            omega
          · exact hup.mp z j (by omega) hl
      · rintro H2 ⟨c, s2, hD, hc, hup⟩
        refine ⟨Nat.zero_le _, fun l nl => ?_⟩
        have hD3 : upd H2 l (.lst []) D = some (.lst ((List.replicate c (1 : Int)).map V.int)) := by rw [upd_ne (ne_of_none hD nl)]; exact hD
        refine ⟨.list (pi (List.replicate c 1)), .list (pi []), dp_lstI (SqL.of hD3), dp_lstI (ns := []) (SqL.of upd_same), shaped_lstI _, shaped_lstI _, ?_⟩
        rw [eqv_lstI]
        have eb : decide (List.replicate c (1 : Int) = []) = decide (ns.Pairwise (· < ·)) := by
          rw [decide_eq_decide, ← up_iff, ← hup]
          exact List.replicate_eq_nil_iff ..
        rw [eb]
        exact k _ (sc.trans (s2.trans (same_upd nl)))
    · refine ⟨_, rfl, _, rfl, _, rfl, .inr ⟨a, _, rfl, hS, fun s0 Hc sc hs0 => ?_⟩⟩
      have hs : SqT K Hc s0 ((ns.drop 1).map V.int) := by
        rw [cut_tail, ← List.map_drop] at hs0
        exact hs0
      refine ⟨a, s0, _, _, rfl, .inr ⟨L2.Same.seqT sc hS, hs, fun D nD => lc_it (walk_zipT (K := K) (a := a) (b := s0) (xs := ns.map V.int) (ys := (ns.drop 1).map V.int) (n := ns.length - 1) (by rw [List.length_map, List.length_map, List.length_drop]; omega)) (fun i H2 => ∃ c : Nat, Same Hc H2 ∧ H2 D = some (.lst ((List.replicate c (1 : Int)).map V.int)) ∧ c ≤ i ∧ (c = 0 ↔ stepsUp ns i)) ?_ ?_ ?_ ?_⟩⟩
      · refine ⟨0, same_upd nD, upd_same, Nat.le_refl _, ⟨fun _ j hj => absurd hj (Nat.not_lt_zero _), fun _ => rfl⟩⟩
      · rintro i H2 hi ⟨c, s2, _⟩
        exact ⟨L2.Same.seqT (sc.trans s2) hS, L2.Same.seqT s2 hs⟩
      · rintro i x H2 H3 hi ⟨c, s2, hD, hc, hup⟩ ⟨T, x1, x2, rfl, nT, rfl, e1, e2⟩
        obtain ⟨y1, rfl, g1⟩ := getI e1
        obtain ⟨y2, rfl, g2⟩ := getI e2
        have hi1 : i + 1 < ns.length := by omega
        have q1 : ns[i] = y1 := by
          rw [List.getElem?_eq_getElem (by omega)] at g1
          exact Option.some.inj g1
        have q2 : ns[i + 1] = y2 := by
          rw [List.getElem?_drop, Nat.add_comm 1 i, List.getElem?_eq_getElem hi1] at g2
          exact Option.some.inj g2
        have nDT : D ≠ T := ne_of_none hD nT
        have s3 : Same Hc (upd H2 T (.tup [.int y1, .int y2])) := s2.trans (same_upd nT)
        have hD3 : upd H2 T (.tup [.int y1, .int y2]) D = some (.lst ((List.replicate c (1 : Int)).map V.int)) := by rw [upd_ne nDT]; exact hD
        refine ⟨T, _, rfl, .inl (.inl upd_same), rfl, _, _, rfl, _, _, rfl, rfl, rfl, _, rfl, _, rfl, _, _, rfl, rfl, _, rfl, ?_⟩
        refine ite2 (fun e => ?_) (fun e => ?_)
        · have e' : y2 ≤ y1 := of_decide_eq_true e
          refine ⟨_, hD3, by rw [sizeLine_eq, List.length_map, List.length_replicate]; omega, c + 1, fun b o hb => ?_, ?_, Nat.succ_le_succ hc, ⟨fun z => absurd z (Nat.succ_ne_zero c), fun z => ?_⟩⟩
          · rw [upd_ne (ne_of_none hb nD)]
            exact s3 b o hb
          · rw [upd_same, List.replicate_succ', List.map_append]
            rfl
          · have := z i (Nat.lt_succ_self i) hi1
            omega
        · have e' : y1 < y2 := by
            have z : ¬ y2 ≤ y1 := fun q => e (decide_eq_true q)
            omega
          refine ⟨c, s3, hD3, Nat.le_succ_of_le hc, ⟨fun z j hj hl => ?_, fun z => hup.mpr fun j hj hl => z j (Nat.lt_succ_of_lt hj) hl⟩⟩
          by_cases d : j = i
          · subst d
            omega
          · exact hup.mp z j (by omega) hl
      · rintro H2 ⟨c, s2, hD, hc, hup⟩
        refine ⟨Nat.zero_le _, fun l nl => ?_⟩
        have hD3 : upd H2 l (.lst []) D = some (.lst ((List.replicate c (1 : Int)).map V.int)) := by rw [upd_ne (ne_of_none hD nl)]; exact hD
        refine ⟨.list (pi (List.replicate c 1)), .list (pi []), dp_lstI (SqL.of hD3), dp_lstI (ns := []) (SqL.of upd_same), shaped_lstI _, shaped_lstI _, ?_⟩
        rw [eqv_lstI]
        have eb : decide (List.replicate c (1 : Int) = []) = decide (ns.Pairwise (· < ·)) := by
          rw [decide_eq_decide, ← up_iff, ← hup]
          exact List.replicate_eq_nil_iff ..
        rw [eb]
        exact k _ (sc.trans (s2.trans (same_upd nl)))
def sp__law_parted_right (K : PySem.W.Frag) (mg : Str → Option Value) : Sp := fun vs H Q _ => ∃ (p q a : Addr) (ns : List Int), vs = [.ref p, .ref a] ∧ Pool H p q ∧ TupD H a (ns.map V.int) ∧ IsRow ns ∧ a ≠ p ∧ a ≠ q ∧
  ∀ H' : Hp, Keep p q H H' → Pool H' p q → Q (.bl true) H'
--OK
abbrev s__law_parted_right : Stmt := top 22
theorem sc__law_parted_right : FnScope ["pool", "row", "told", "number", "some", "lots", "where", "parted", "broken", "alike", "wagon", "layer", "at", "lot", "place", "w"] ["pool", "row"] (defScope s__law_parted_right) := ⟨rfl, rfl, rfl, by decide +kernel, rfl, by decide +kernel, by decide +kernel⟩
theorem ok__law_parted_right {f : Addr} {fd : FuncData} (F : Fun K "_law_parted_right" "_law_parted_right" s__law_parted_right f fd) (T : Nms mg) (C_layers : CalX P w K mg base 4 "layers" ["row"] (sp_layers K mg)) (C_falls : CalX P w K mg base 5 "falls" ["row"] (sp_falls K mg)) (C_falling : CalX P w K mg base 5 "falling" ["row"] (sp_falling K mg)) (C__law_draw : Cal P w K mg base 1 "_law_draw" ["pool", "many"] (sp__law_draw K mg)) (C__law_rises : Cal P w K mg base 1 "_law_rises" ["row"] (sp__law_rises K mg)) : FnOk P w K mg base CX0 6 f fd ["pool", "row"] (sp__law_parted_right K mg) := by
  refine F.ok sc__law_parted_right (fun vs H Q E h => ?_) (fun cdv A outer s H vs Q E hr h => ?_)
  · obtain ⟨p, q, a, ns, rfl, _⟩ := h
    rfl
  · obtain ⟨p, q, a, ns, rfl, hP, hA, hrow, nap, naq, k⟩ := h
    refine ⟨_, (pss_cut (ps_asg (pe_tup (pa_cons (pe_calN C_layers hr (pa_cons (pv 1) pa_nil)) (pa_cons (pe_calN C_falls hr (pa_cons (pv 1) pa_nil)) (pa_cons (pe_calN C_falling hr (pa_cons (pv 1) pa_nil)) pa_nil)))) (pg_tup (by rfl) (pgs_cons (pg_name (i := 2) sc__law_parted_right.nd rfl (Or.inr rfl)) (pgs_cons (pg_name (i := 3) sc__law_parted_right.nd rfl (Or.inr rfl)) (pgs_cons (pg_name (i := 4) sc__law_parted_right.nd rfl (Or.inl rfl)) pgs_nil)))))
  (pss_cut (ps_setLc (i := 5) (own := [("at", 12)]) (g := (gName 12)) rfl sc__law_parted_right.nd rfl rfl (sw_true rfl rfl rfl (by decide +kernel)) (pi_range1 (by rfl) T.rangeN (pa_cons (pv 3) pa_nil)) (blkOk_by (N := ["pool", "row", "told", "number", "some", "lots", "where", "parted", "broken", "alike", "wagon", "layer", "at", "lot", "place", "w"]) (sc := defScope s__law_parted_right) (by decide +kernel)) (fun _ _ _ _ _ => (pg_name (i := 12) sc__law_parted_right.nd rfl (Or.inr rfl))) (fun _ _ _ _ _ => pts_nil) (fun _ _ _ _ _ => (pe_lc (own := [("wagon", 10), ("layer", 11)]) (g := (gTup K 2 (gCons (gName 10) (gCons (gName 11) gNil)))) rfl sc__law_parted_right.nd ((RZ.pi_zipA (by rfl) T.zipN (pa_cons (pv 1) (pa_cons (pv 2) pa_nil))) : PI _ _ _ (RZ.iZipA K _)) (blkOk_by (N := ["pool", "row", "told", "number", "some", "lots", "where", "parted", "broken", "alike", "wagon", "layer", "at", "lot", "place", "w"]) (sc := _) (by kernel_rfl)) (fun _ _ _ _ _ => (pg_tup (by rfl) (pgs_cons (pg_name (i := 10) sc__law_parted_right.nd rfl (Or.inl rfl)) (pgs_cons (pg_name (i := 11) sc__law_parted_right.nd rfl (Or.inl rfl)) pgs_nil)))) (fun _ _ _ _ _ => (pts_one (pt_cmpR op_eq (pv 11) (pv 12) (nomark _)))) (fun _ _ _ _ _ => (pv 10)))))
  (pss_cut (ps_if (PW.pt (pw_or (pt_cmpR op_ne (pe_callB call_len_seq (by rfl) T.len PySem.boot_len (pa_cons (pv 2) pa_nil)) (pe_callB call_len_seq (by rfl) T.len PySem.boot_len (pa_cons (pv 1) pa_nil)) (nomark _)) (pw_or1 (pt_cmpR (op_neD hr.units) (pe_lc (own := [("lot", 13)]) (g := (gName 13)) rfl sc__law_parted_right.nd (pi_list (pv 5)) (blkOk_by (N := ["pool", "row", "told", "number", "some", "lots", "where", "parted", "broken", "alike", "wagon", "layer", "at", "lot", "place", "w"]) (sc := defScope s__law_parted_right) (by decide +kernel)) (fun _ _ _ _ _ => (pg_name (i := 13) sc__law_parted_right.nd rfl (Or.inl rfl))) (fun _ _ _ _ _ => (pts_one (PW.pt (pw_or (pt_cmpR ((op_eqD hr.units) : OpR _ _ (rEqD K)) (pv 13) (pe_lst pa_nil) (nomark _)) (pw_or1 (pt_not (pt_val (pe_cal C__law_rises hr (pa_cons (pv 13) pa_nil))))))))) (fun _ _ _ _ _ => (pv 13))) (pe_lst pa_nil) (nomark _))))) (pss_one (ps_ret pe_bl)) pss_nil)
  (pss_cut (ps_if (PW.pt (pw_or (pt_cmpR op_ne (pe_callB (cr_sum rfl) (by rfl) T.sumN (by decide +kernel) (pa_cons (pe_lc (own := [("lot", 13)]) (g := (gName 13)) rfl sc__law_parted_right.nd (pi_list (pv 5)) (blkOk_by (N := ["pool", "row", "told", "number", "some", "lots", "where", "parted", "broken", "alike", "wagon", "layer", "at", "lot", "place", "w"]) (sc := defScope s__law_parted_right) (by decide +kernel)) (fun _ _ _ _ _ => (pg_name (i := 13) sc__law_parted_right.nd rfl (Or.inl rfl))) (fun _ _ _ _ _ => pts_nil) (fun _ _ _ _ _ => (pe_callB (call_len_seq : CallR _ _ (rLenS K)) (by rfl) T.len PySem.boot_len (pa_cons (pv 13) pa_nil)))) pa_nil)) (pe_callB call_len_seq (by rfl) T.len PySem.boot_len (pa_cons (pv 1) pa_nil)) (nomark _)) (pw_or1 (pt_cmpR op_ne (pe_callB call_len_seq (by rfl) T.len PySem.boot_len (pa_cons (pv 4) pa_nil)) (pv 3) (nomark _))))) (pss_one (ps_ret pe_bl)) pss_nil)
  (pss_cut (ps_setLc (i := 6) (own := [("wagon", 10)]) (g := (gName 10)) rfl sc__law_parted_right.nd rfl rfl (sw_true rfl rfl rfl (by decide +kernel)) (pi_tup (pv 4)) (blkOk_by (N := ["pool", "row", "told", "number", "some", "lots", "where", "parted", "broken", "alike", "wagon", "layer", "at", "lot", "place", "w"]) (sc := defScope s__law_parted_right) (by decide +kernel)) (fun _ _ _ _ _ => (pg_name (i := 10) sc__law_parted_right.nd rfl (Or.inl rfl))) (fun _ _ _ _ _ => pts_nil) (fun _ _ _ _ _ => (pe_bmT PySem.F.slot_tuple_index PySem.F.type_tuple_index (mt_tupIdx : MtR _ _ (rTupIdx K)) (pv 1) (pa_cons (pv 10) pa_nil))))
  (pss_cut (ps_if (PW.pt (pw_or (pt_not (pt_val (pe_cal C__law_rises hr (pa_cons (pv 6) pa_nil)))) (pw_or (pt_not (pt_val (pe_cal C__law_rises hr (pa_cons (pe_revT (pv 4)) pa_nil)))) (pw_or1 (pt_cmpR (op_neD hr.units) (pe_lc (own := [("place", 14)]) (g := (gName 14)) rfl sc__law_parted_right.nd (pi_list (pv 6)) (blkOk_by (N := ["pool", "row", "told", "number", "some", "lots", "where", "parted", "broken", "alike", "wagon", "layer", "at", "lot", "place", "w"]) (sc := defScope s__law_parted_right) (by decide +kernel)) (fun _ _ _ _ _ => (pg_name (i := 14) sc__law_parted_right.nd rfl (Or.inl rfl))) (fun _ _ _ _ _ => pts_nil) (fun _ _ _ _ _ => (pe_ix (ix_tup : IxR _ (rIxT K)) (pv 2) (pv 14) (fun _ _ => rfl)))) (pe_listRg rfl (by rfl) T.listN (prg_1 (by rfl) T.rangeN (pv 3))) (nomark _)))))) (pss_one (ps_ret pe_bl)) pss_nil)
  (pss_cut (ps_if (pt_cmpR op_lt (pv 3) pe_int (nomark _)) (pss_one (ps_ret pe_bl)) pss_nil)
  (pss_cut (ps_set (i := 7) sc__law_parted_right.nd rfl (Or.inr rfl) (pe_lc (own := [("wagon", 10)]) (g := (gName 10)) rfl sc__law_parted_right.nd (pi_tup (pv 1)) (blkOk_by (N := ["pool", "row", "told", "number", "some", "lots", "where", "parted", "broken", "alike", "wagon", "layer", "at", "lot", "place", "w"]) (sc := defScope s__law_parted_right) (by decide +kernel)) (fun _ _ _ _ _ => (pg_name (i := 10) sc__law_parted_right.nd rfl (Or.inl rfl))) (fun _ _ _ _ _ => pts_nil) (fun _ _ _ _ _ => (pe_cal C__law_draw hr (pa_cons (pv 0) (pa_cons (pe_op op_sub (pv 3) pe_int) pa_nil))))))
  (pss_cut (ps_set (i := 8) sc__law_parted_right.nd rfl (Or.inr rfl) (pe_lc (own := [("lot", 13)]) (g := (gName 13)) rfl sc__law_parted_right.nd (pi_range1 (by rfl) T.rangeN (pa_cons (pe_op op_sub (pv 3) pe_int) pa_nil)) (blkOk_by (N := ["pool", "row", "told", "number", "some", "lots", "where", "parted", "broken", "alike", "wagon", "layer", "at", "lot", "place", "w"]) (sc := defScope s__law_parted_right) (by decide +kernel)) (fun _ _ _ _ _ => (pg_name (i := 13) sc__law_parted_right.nd rfl (Or.inr rfl))) (fun _ _ _ _ _ => (pts_one (pt_not (pt_val (pe_cal C__law_rises hr (pa_cons (pe_lc (own := [("w", 15), ("at", 12)]) (g := (gTup K 2 (gCons (gName 15) (gCons (gName 12) gNil)))) rfl sc__law_parted_right.nd ((pi_zipM (by rfl) T.zipN (pa_cons (pv 1) (pa_cons (pv 7) pa_nil))) : PI _ _ _ (iZipM K _)) (blkOk_by (N := ["pool", "row", "told", "number", "some", "lots", "where", "parted", "broken", "alike", "wagon", "layer", "at", "lot", "place", "w"]) (sc := _) (by kernel_rfl)) (fun _ _ _ _ _ => (pg_tup (by rfl) (pgs_cons (pg_name (i := 15) sc__law_parted_right.nd rfl (Or.inl rfl)) (pgs_cons (pg_name (i := 12) sc__law_parted_right.nd rfl (Or.inl rfl)) pgs_nil)))) (fun _ _ _ _ _ => (pts_one (pt_cmpR op_eq (pv 12) (pv 13) (nomark _)))) (fun _ _ _ _ _ => (pv 15))) pa_nil)))))) (fun _ _ _ _ _ => (pv 13))))
  (pss_cut (ps_set (i := 9) sc__law_parted_right.nd rfl (Or.inr rfl) (pe_lc (own := [("place", 14)]) (g := (gName 14)) rfl sc__law_parted_right.nd (pi_list (pv 6)) (blkOk_by (N := ["pool", "row", "told", "number", "some", "lots", "where", "parted", "broken", "alike", "wagon", "layer", "at", "lot", "place", "w"]) (sc := defScope s__law_parted_right) (by decide +kernel)) (fun _ _ _ _ _ => (pg_name (i := 14) sc__law_parted_right.nd rfl (Or.inl rfl))) (fun _ _ _ _ _ => pts_nil) (fun _ _ _ _ _ => (pe_ix (ix_list : IxR _ (rIxL K)) (pv 7) (pv 14) (fun _ _ => rfl)))))
  (pss_one (ps_ret (pe_and (pe_cmpR (op_neD hr.units) (pv 8) (pe_lst pa_nil) (nomark _)) (pe_one (pe_cmpR (op_eqD hr.units) (pe_lc (own := [("lot", 13)]) (g := (gName 13)) rfl sc__law_parted_right.nd (pi_list (pv 9)) (blkOk_by (N := ["pool", "row", "told", "number", "some", "lots", "where", "parted", "broken", "alike", "wagon", "layer", "at", "lot", "place", "w"]) (sc := defScope s__law_parted_right) (by decide +kernel)) (fun _ _ _ _ _ => (pg_name (i := 13) sc__law_parted_right.nd rfl (Or.inl rfl))) (fun _ _ _ _ _ => (pts_one (PW.pt (pw_and (pt_cmpR op_gt ((pe_bm PySem.F.plainAttrs_list PySem.F.slot_list_count PySem.F.type_list_count (mt_lcount : MtR _ _ (rCntI K)) (pv 9) (pa_cons (pv 13) pa_nil)) : PE _ _ (tBM K _ _ _ _)) pe_int (nomark _)) (pw_and1 (pt_cmpR (op_notIn_seq : OpR _ _ (rIn K true)) (pv 13) (pv 8) (by rfl))))))) (fun _ _ _ _ _ => (pv 13))) (pe_lst pa_nil) (nomark _)))))))))))))))), ?_⟩
    have L := layF_ok hrow.1
    have FO := fallPos_ok hrow.1
    have h400 := hrow.2.2
    have dA : Dp K H (.ref a) (.tuple (pi ns)) := dp_tupI hA.seqT
    refine ⟨fun σ' H' => ∃ td so : Addr, σ' = [some (.ref p), some (.ref a), some (.ref td), some (.int (fallsF ns : Int)), some (.ref so), none, none, none, none, none, none, none, none, none, none, none] ∧ Same H H' ∧ TupD H' td ((nI (layF ns)).map V.int) ∧ TupD H' so ((fallingF ns).map V.int), ?_, ?_⟩
    · refine ⟨_, rfl, _, _, rfl, dA, fun ns1 H1 td ed _ s1 ntd htd => ?_, fun i H' e hb _ _ _ => row_notBad hrow hb⟩
      have en1 := pi_inj (PyData.tuple.inj ed)
      subst en1
      refine ⟨_, rfl, _, _, rfl, dp_mono s1 _ _ dA, fun ns2 H2 ed2 _ s2 => ?_, fun i H' e hb _ _ _ => row_notBad hrow hb⟩
      have en2 := pi_inj (PyData.tuple.inj ed2)
      subst en2
      refine ⟨_, rfl, _, _, rfl, dp_mono (s1.trans s2) _ _ dA, fun ns3 H3 so ed3 _ s3 nso hso => ?_, fun i H' e hb _ _ _ => row_notBad hrow hb⟩
      have en3 := pi_inj (PyData.tuple.inj ed3)
      subst en3
      refine ⟨by show 3 ≤ sizeLine; decide, fun T nT => ⟨T, _, rfl, .inl (.inl upd_same), rfl, _, _, rfl, _, _, rfl, _, _, rfl, rfl, ?_⟩⟩
      have sT := same_upd (o := HO.tup [V.ref td, V.int (fallsF ns : Int), V.ref so]) nT
      exact ⟨td, so, rfl, ((s1.trans s2).trans s3).trans sT, htd.same fun o e => sT _ _ (s3 _ _ (s2 _ _ e)), hso.same fun o e => sT _ _ e⟩
    · rintro σ' H1 ⟨td, so, rfl, s1, htd, hso⟩
      have lenL : (nI (layF ns)).length = ns.length := by
        unfold nI
        rw [List.length_map, L.len]
      have hFn : fallsF ns ≤ ns.length := by
        have z := pigeon ns.length ((fallPos ns).reverse.map fun (j : Nat) => (j : Int)) (by
          rw [List.nodup_iff_pairwise_ne, List.pairwise_map]
          exact FO.inc.imp fun h e => by omega) (fun x hx => by
          obtain ⟨j, hj, rfl⟩ := List.mem_map.mp hx
          have := FO.lt j hj
          omega)
        rw [List.length_map, FO.len] at z
        exact z
      refine ⟨fun σ' H' => ∃ (lo : Addr) (ls : List Addr), σ' = [some (.ref p), some (.ref a), some (.ref td), some (.int (fallsF ns : Int)), some (.ref so), some (.ref lo), none, none, none, none, none, none, none, none, none, none] ∧ Same H1 H' ∧ H' lo = some (.lst (ls.map V.ref)) ∧ ls.length = fallsF ns ∧ ∀ (c : Nat) (hc : c < ls.length), H' ls[c] = some (.lst ((lotZ ns (nI (layF ns)) (c : Int)).map V.int)), ?_, ?_⟩
      · refine ⟨_, rfl, _, rfl, by omega, by omega, fun D nD => lc_range (lo := 0) (n := fallsF ns) (fun i H2 => ∃ ls : List Addr, Same H1 H2 ∧ H2 D = some (.lst (ls.map V.ref)) ∧ ls.length = i ∧ ∀ (c : Nat) (hc : c < ls.length), ls[c] ≠ D ∧ H2 ls[c] = some (.lst ((lotZ ns (nI (layF ns)) (c : Int)).map V.int))) ?_ ?_ ?_⟩
        · exact ⟨[], same_upd nD, upd_same, rfl, fun c hc => absurd hc (Nat.not_lt_zero _)⟩
        · rintro i H2 hi ⟨ls, s2, hD, hls, hlots⟩
          refine ⟨rfl, _, rfl, _, rfl, a, td, _, _, rfl, .inr ⟨(s1.trans s2).seqT hA.seqT, s2.seqT htd.seqT, fun D2 nD2 => lc_it (walk_zipT (K := K) (a := a) (b := td) (xs := ns.map V.int) (ys := (nI (layF ns)).map V.int) (n := ns.length) (by rw [List.length_map, List.length_map, lenL]; omega)) (fun j H3 => Same H2 H3 ∧ H3 D2 = some (.lst ((lotT ns (nI (layF ns)) (i : Int) j).map V.int))) ?_ ?_ ?_ ?_⟩⟩
          · exact ⟨same_upd nD2, upd_same⟩
          · rintro j H3 hj ⟨s3, _⟩
            exact ⟨((s1.trans s2).trans s3).seqT hA.seqT, (s2.trans s3).seqT htd.seqT⟩
          · rintro j x H3 H4 hj ⟨s3, hD2⟩ ⟨T, x1, x2, rfl, nT, rfl, e1, e2⟩
            obtain ⟨y1, rfl, g1⟩ := getI e1
            obtain ⟨y2, rfl, g2⟩ := getI e2
            have nDT : D2 ≠ T := ne_of_none hD2 nT
            have s4 : Same H2 (upd H3 T (.tup [.int y1, .int y2])) := s3.trans (same_upd nT)
            have hD3 : upd H3 T (.tup [.int y1, .int y2]) D2 = some (.lst ((lotT ns (nI (layF ns)) (i : Int) j).map V.int)) := by rw [upd_ne nDT]; exact hD2
            have stp := lotT_step (c := (i : Int)) g1 g2
            refine ⟨T, _, rfl, .inl (.inl upd_same), rfl, _, _, rfl, _, _, rfl, rfl, rfl, _, rfl, _, rfl, rfl, _, rfl, ?_⟩
            refine ite2 (fun e => ?_) (fun e => ?_)
            · have e' : y2 = (i : Int) := by
                have z := of_decide_eq_true e
                injection z with z
                omega
              refine ⟨_, rfl, _, hD3, by rw [List.length_map, sizeLine_eq]; have := lotT_len ns (nI (layF ns)) (i : Int) j; omega, fun b o hb => ?_, ?_⟩
              · rw [upd_ne (ne_of_none hb nD2)]
                exact s4 b o hb
              · rw [upd_same, stp, if_pos e', List.map_append]
                rfl
            · have e' : ¬ y2 = (i : Int) := fun z => e (decide_eq_true (by rw [z, Int.zero_add]))
              refine ⟨s4, ?_⟩
              rw [hD3, stp, if_neg e']
          · rintro H3 ⟨s3, hD2⟩
            have nDD : D ≠ D2 := ne_of_none hD nD2
            have hD3 := s3 _ _ hD
            rw [lotT_all (by rw [lenL]; omega)] at hD2
            refine ⟨_, hD3, by rw [List.length_map, sizeLine_eq]; omega, ls ++ [D2], fun b o hb => ?_, by rw [upd_same, List.map_append]; rfl, by rw [List.length_append, hls]; rfl, fun c hc => ?_⟩
            · rw [upd_ne (ne_of_none hb nD)]
              exact s3 _ _ (s2 b o hb)
            · rw [List.length_append, List.length_singleton] at hc
              by_cases cl : c < ls.length
              · rw [List.getElem_append_left cl]
                have z := hlots c cl
                refine ⟨z.1, ?_⟩
                rw [upd_ne z.1]
                exact s3 _ _ z.2
              · have ec : c = ls.length := by omega
                subst ec
                rw [List.getElem_append_right (Nat.le_refl _)]
                simp only [Nat.sub_self, List.getElem_cons_zero]
                refine ⟨nDD.symm, ?_⟩
                rw [upd_ne nDD.symm, hls]
                exact hD2
        · rintro H2 ⟨ls, s2, hD, hls, hlots⟩
          exact ⟨D, ls, rfl, s2, hD, hls, fun c hc => (hlots c hc).2⟩
      · rintro σ' H2 ⟨lo, ls, rfl, s2, hlo, hls, hlots⟩
        have lotD : ∀ {c : Nat} (hc : c < ls.length) {H' : Hp}, Same H2 H' → SqL K H' ls[c] ((lotZ ns (nI (layF ns)) (c : Int)).map V.int) := fun {c} hc H' sm => SqL.of (sm _ _ (hlots c hc))
        have getL : ∀ {j : Nat} {x : V}, (ls.map V.ref)[j]? = some x → ∃ hj : j < ls.length, x = .ref ls[j] := fun {j x} e => by
          rw [List.getElem?_map] at e
          cases g : ls[j]? with
          | none => rw [g] at e; cases e
          | some l =>
            rw [g] at e
            obtain ⟨hj, e2⟩ := List.getElem?_eq_some_iff.mp g
            exact ⟨hj, by rw [e2]; exact (Option.some.inj e).symm⟩
        have layG : ∀ {i : Nat}, i < ns.length → (nI (layF ns))[i]? = some (((layF ns).getD i 0 : Nat) : Int) := fun {i} hi => by
          unfold nI
          rw [List.getElem?_map, List.getD_eq_getElem?_getD, List.getElem?_eq_getElem (by rw [L.len]; exact hi)]
          rfl
        have layG2 : ∀ {i l : Nat}, (layF ns)[i]? = some l → (nI (layF ns))[i]? = some (l : Int) := fun {i l} e => by
          unfold nI
          rw [List.getElem?_map, e]
          rfl
        refine ⟨fun σ' H' => σ' = [some (.ref p), some (.ref a), some (.ref td), some (.int (fallsF ns : Int)), some (.ref so), some (.ref lo), none, none, none, none, none, none, none, none, none, none] ∧ Same H2 H', ?_, ?_⟩
        · refine ⟨_, rfl, _, _, rfl, .inr (s2.seqT htd.seqT), _, rfl, _, _, rfl, .inr ((s1.trans s2).seqT hA.seqT), rfl, _, rfl, ?_⟩
          rw [List.length_map, List.length_map, lenL, decide_eq_true rfl]
          refine iteF ⟨_, rfl, lo, rfl, ⟨_, SqL.of hlo⟩, fun D nD => lc_list (K := K) (a := lo) (xs := ls.map V.ref) (fun j H3 => Same H2 H3 ∧ H3 D = some (.lst [])) ?_ ?_ ?_ ?_⟩
          · exact ⟨same_upd nD, upd_same⟩
          · rintro j H3 hj ⟨s3, _⟩
            exact SqL.of (s3 _ _ hlo)
          · rintro j x H3 hx ⟨s3, hD⟩
            obtain ⟨hj, rfl⟩ := getL hx
            refine ⟨rfl, _, rfl, Nat.zero_le _, fun l nl => ?_⟩
            refine ⟨.list (pi (lotZ ns (nI (layF ns)) (j : Int))), .list (pi []), dp_lstI (lotD hj (s3.trans (same_upd nl))), dp_lstI (ns := []) (SqL.of upd_same), shaped_lstI _, shaped_lstI _, _, rfl, ?_⟩
            have ne : ¬ lotZ ns (nI (layF ns)) (j : Int) = [] := by
              have hjR : j < (fallPos ns).reverse.length := by rw [FO.len, ← hls]; exact hj
              have lr := FO.lt _ (List.getElem_mem hjR)
              exact lot_some (List.getElem?_eq_getElem lr) (layG2 (FO.lay j hjR))
            have up : (lotZ ns (nI (layF ns)) (j : Int)).Pairwise (· < ·) := (lot_pair _ _ _).mpr fun u v x y huv h1 h2 h3 h4 => by
              obtain ⟨lu, eu⟩ := List.getElem?_eq_some_iff.mp h1
              obtain ⟨lv, ev⟩ := List.getElem?_eq_some_iff.mp h2
              have z := L.rise u v lu lv huv (by
                unfold nI at h3 h4
                rw [List.getElem?_map] at h3 h4
                cases g1 : (layF ns)[u]? with
                | none => rw [g1] at h3; cases h3
                | some l1 =>
                  cases g2 : (layF ns)[v]? with
                  | none => rw [g2] at h4; cases h4
                  | some l2 =>
                    rw [g1] at h3
                    rw [g2] at h4
                    have z1 : (l1 : Int) = (j : Int) := Option.some.inj h3
                    have z2 : (l2 : Int) = (j : Int) := Option.some.inj h4
                    congr 1
                    omega)
              omega
            rw [eqv_lstI, decide_eq_false ne]
            refine iteF ⟨_, rfl, ls[j], _, rfl, .inl (lotD hj (s3.trans (same_upd nl))), by have := lotZ_len ns (nI (layF ns)) (j : Int); omega, fun H5 s5 => ⟨_, rfl, ?_⟩⟩
            rw [decide_eq_true up]
            have s35 := (same_upd (o := HO.lst []) nl).trans s5
            exact iteF ⟨s3.trans s35, s35 _ _ hD⟩
          · rintro H3 ⟨s3, hD⟩
            refine ⟨Nat.zero_le _, fun l nl => ?_⟩
            have hD3 : upd H3 l (.lst []) D = some (.lst []) := same_upd nl _ _ hD
            refine ⟨.list (pi []), .list (pi []), dp_lstI (ns := []) (SqL.of hD3), dp_lstI (ns := []) (SqL.of upd_same), shaped_lstI _, shaped_lstI _, _, rfl, ?_⟩
            rw [eqv_lstI, decide_eq_true rfl]
            exact iteF ⟨rfl, s3.trans (same_upd nl)⟩
        · rintro σ' H3 ⟨rfl, s3⟩
          have lotD3 : ∀ {c : Nat} (hc : c < ls.length) {H' : Hp}, Same H3 H' → SqL K H' ls[c] ((lotZ ns (nI (layF ns)) (c : Int)).map V.int) := fun {c} hc H' sm => lotD hc (s3.trans sm)
          have s13 := (s1.trans s2).trans s3
          refine ⟨fun σ' H' => σ' = [some (.ref p), some (.ref a), some (.ref td), some (.int (fallsF ns : Int)), some (.ref so), some (.ref lo), none, none, none, none, none, none, none, none, none, none] ∧ Same H3 H', ?_, ?_⟩
          · refine ⟨_, rfl, lo, rfl, ⟨_, SqL.of (s3 _ _ hlo)⟩, fun D nD => lc_list (K := K) (a := lo) (xs := ls.map V.ref) (fun j H4 => Same H3 H4 ∧ H4 D = some (.lst ((((List.range j).map fun (c : Nat) => (((lotZ ns (nI (layF ns)) (c : Int)).length : Nat) : Int))).map V.int))) ?_ ?_ ?_ ?_⟩
            · exact ⟨same_upd nD, upd_same⟩
            · rintro j H4 hj ⟨s4, _⟩
              exact SqL.of (s4 _ _ (s3 _ _ hlo))
            · rintro j x H4 hx ⟨s4, hD⟩
              obtain ⟨hj, rfl⟩ := getL hx
              have h4 : j < 400 := by omega
              refine ⟨rfl, _, rfl, _, _, rfl, .inl (lotD3 hj s4), _, hD, by rw [List.length_map, List.length_map, List.length_range, sizeLine_eq]; omega, s4.mutN nD, ?_⟩
              rw [upd_same, List.range_succ, List.map_append, List.map_append, List.length_map]
              rfl
            · rintro H4 ⟨s4, hD⟩
              rw [List.length_map, hls] at hD
              refine ⟨_, _, rfl, SqL.of hD, _, rfl, _, _, rfl, .inr (((s1.trans s2).trans s3).trans s4 |>.seqT hA.seqT), rfl, _, rfl, ?_⟩
              have e1 : ((List.range (fallsF ns)).map fun (c : Nat) => (((lotZ ns (nI (layF ns)) (c : Int)).length : Nat) : Int)).sum = ((ns.length : Nat) : Int) := lots_sum lenL fun t ht => by
                unfold nI at ht
                obtain ⟨l, hl, rfl⟩ := List.mem_map.mp ht
                have := fallsF_lt hl
                omega
              rw [e1, List.length_map, decide_eq_true rfl]
              refine iteF ⟨_, rfl, _, _, rfl, .inr (((s2.trans s3).trans s4).seqT hso.seqT), _, rfl, rfl, _, rfl, ?_⟩
              have e2 : ((fallingF ns).map V.int).length = fallsF ns := by
                unfold fallingF
                rw [List.length_map, List.length_map, FO.len]
              rw [e2, decide_eq_true rfl]
              exact iteF ⟨rfl, s4⟩
          · rintro σ' H4 ⟨rfl, s4⟩
            generalize eR : (fallPos ns).reverse = R at FO
            have eF : fallingF ns = R.map fun p => ns.getD p 0 := by
              unfold fallingF
              rw [eR]
            have lenR : R.length ≤ 400 := by rw [FO.len]; omega
            have hso4 := ((s2.trans s3).trans s4).seqT (K := K) hso.seqT
            have hA4 : TupD H4 a (ns.map V.int) := hA.same fun o e => (s13.trans s4) _ _ e
            have htd4 := ((s2.trans s3).trans s4).seqT (K := K) htd.seqT
            refine ⟨fun σ' H' => ∃ wh : Addr, σ' = [some (.ref p), some (.ref a), some (.ref td), some (.int (fallsF ns : Int)), some (.ref so), some (.ref lo), some (.ref wh), none, none, none, none, none, none, none, none, none] ∧ Same H4 H' ∧ H4 wh = none ∧ H' wh = some (.lst ((nI R).map V.int)), ?_, ?_⟩
            · refine ⟨_, rfl, so, rfl, ⟨_, hso4⟩, fun D nD => lc_tup (K := K) (a := so) (xs := (fallingF ns).map V.int) (fun j H5 => Same H4 H5 ∧ H5 D = some (.lst ((nI (R.take j)).map V.int))) ?_ ?_ ?_ ?_⟩
              · exact ⟨same_upd nD, upd_same⟩
              · rintro j H5 hj ⟨s5, _⟩
                exact s5.seqT hso4
              · rintro j x H5 hx ⟨s5, hD⟩
                obtain ⟨y, rfl, hy⟩ := getI hx
                rw [eF, List.getElem?_map] at hy
                cases gR : R[j]? with
                | none => rw [gR] at hy; cases hy
                | some ps =>
                  rw [gR] at hy
                  have ey : ns.getD ps 0 = y := Option.some.inj hy
                  have lps := FO.lt ps (List.mem_of_getElem? gR)
                  rw [getD_get lps] at ey
                  refine ⟨rfl, _, rfl, ⟨_, _, rfl, hA4.same fun o e => s5 _ _ e⟩, _, rfl, a, ns, y, ps, rfl, rfl, s5.seqT hA4.seqT, by rw [List.getElem?_eq_getElem lps, ey], fun m hm e => ?_, ?_⟩
                  · obtain ⟨lm, em⟩ := List.getElem?_eq_some_iff.mp e
                    rw [← ey] at em
                    have := (List.getElem_inj hrow.1).mp em
                    omega
                  · refine ⟨_, hD, ?_, s5.mutN nD, ?_⟩
                    · unfold nI
                      rw [List.length_map, List.length_map, List.length_take, sizeLine_eq]
                      omega
                    · rw [upd_same, List.take_add_one, gR]
                      unfold nI
                      rw [List.map_append, List.map_append]
                      rfl
              · rintro H5 ⟨s5, hD⟩
                rw [List.length_map, eF, List.length_map, List.take_length] at hD
                exact ⟨D, rfl, s5, nD, hD⟩
            · rintro σ' H5 ⟨wh, rfl, s5, nwh, hwh⟩
              refine ⟨fun σ' H' => σ' = [some (.ref p), some (.ref a), some (.ref td), some (.int (fallsF ns : Int)), some (.ref so), some (.ref lo), some (.ref wh), none, none, none, none, none, none, none, none, none] ∧ Same H5 H', ?_, ?_⟩
              · have up1 : (nI R).Pairwise (· < ·) := by
                  unfold nI
                  rw [List.pairwise_map]
                  exact FO.inc.imp fun h => by omega
                have up2 : (fallingF ns).reverse.Pairwise (· < ·) := by
                  rw [List.pairwise_reverse, eF]
                  exact FO.val
                refine ⟨_, rfl, wh, nI R, rfl, .inl (SqL.of hwh), by unfold nI; rw [List.length_map]; omega, fun H6 s6 => ⟨_, rfl, ?_⟩⟩
                rw [decide_eq_true up1]
                refine iteF ⟨_, rfl, so, _, rfl, (s5.trans s6).seqT hso4, fun pr npr => ⟨pr, (fallingF ns).reverse, rfl, .inr (.inl (.inl (by rw [upd_same, List.map_reverse]))), by rw [List.length_reverse, eF, List.length_map]; omega, fun H7 s7 => ⟨_, rfl, ?_⟩⟩⟩
                rw [decide_eq_true up2]
                have s57 : Same H5 H7 := (s6.trans (same_upd npr)).trans s7
                refine iteF ⟨_, rfl, wh, rfl, ⟨_, SqL.of (s57 _ _ hwh)⟩, fun D nD => lc_list (K := K) (a := wh) (xs := (nI R).map V.int) (fun j H8 => Same H7 H8 ∧ H8 D = some (.lst ((rgI j).map V.int))) ?_ ?_ ?_ ?_⟩
                · exact ⟨same_upd nD, upd_same⟩
                · rintro j H8 hj ⟨s8, _⟩
                  exact SqL.of (s8 _ _ (s57 _ _ hwh))
                · rintro j x H8 hx ⟨s8, hD⟩
                  obtain ⟨y, rfl, hy⟩ := getI hx
                  unfold nI at hy
                  rw [List.getElem?_map] at hy
                  cases gR : R[j]? with
                  | none => rw [gR] at hy; cases hy
                  | some ps =>
                    rw [gR] at hy
                    have ey : ((ps : Nat) : Int) = y := Option.some.inj hy
                    subst ey
                    obtain ⟨ljR, eps⟩ := List.getElem?_eq_some_iff.mp gR
                    have lay := FO.lay j ljR
                    rw [eps] at lay
                    have at1 : atI ((nI (layF ns)).map V.int) (ps : Int) = some (.int (j : Int)) := atI_nat (by rw [List.getElem?_map, layG2 lay]; rfl)
                    refine ⟨rfl, _, rfl, _, rfl, td, _, _, _, rfl, rfl, ((s5.trans s57).trans s8).seqT htd4, at1, _, hD, ?_, s8.mutN nD, ?_⟩
                    · rw [List.length_map, rgI_len, sizeLine_eq]
                      omega
                    · rw [upd_same]
                      unfold rgI
                      rw [List.range_succ, List.map_append, List.map_append]
                      rfl
                · rintro H8 ⟨s8, hD⟩
                  have eD : (rgI ((nI R).map V.int).length) = rgI (fallsF ns) := by
                    unfold nI
                    rw [List.length_map, List.length_map, FO.len]
                  rw [eD] at hD
                  refine ⟨_, rfl, _, rfl, RgOk.of_le (by decide) (by omega) (by decide) (by omega), fun r nr => ⟨.list (pi (rgI (fallsF ns))), .list (pi (rgI (fallsF ns))), dp_lstI (SqL.of ((same_upd nr) _ _ hD)), dp_lstI (SqL.of (by rw [upd_same, rgV_I])), shaped_lstI _, shaped_lstI _, _, rfl, ?_⟩⟩
                  rw [eqv_lstI, decide_eq_true rfl]
                  exact iteF ⟨rfl, (s57.trans s8).trans (same_upd nr)⟩
              · rintro σ' H6 ⟨rfl, s6⟩
                have s16 : Same H H6 := ((s13.trans s4).trans s5).trans s6
                have hP6 : Pool H6 p q := hP.same s16
                have hA6 : TupD H6 a (ns.map V.int) := hA.same fun o e => s16 _ _ e
                have nwp : wh ≠ p := (hP.same (s13.trans s4)).nep nwh
                have nwq : wh ≠ q := (hP.same (s13.trans s4)).neq nwh
                have hwh6 := s6 _ _ hwh
                refine ⟨fun σ' H' => σ' = [some (.ref p), some (.ref a), some (.ref td), some (.int (fallsF ns : Int)), some (.ref so), some (.ref lo), some (.ref wh), none, none, none, none, none, none, none, none, none] ∧ H6 = H' ∧ 2 ≤ fallsF ns, ?_, ?_⟩
                · refine ⟨_, rfl, _, _, rfl, rfl, _, rfl, ?_⟩
                  refine ite2 (fun e => ?_) (fun e => ?_)
                  · exact k H6 (Keep.of fun b o h => s16 b o h) hP6
                  · have e' : ¬ (fallsF ns : Int) < 2 := fun z => e (decide_eq_true z)
                    exact ⟨rfl, rfl, by omega⟩
                · rintro σ' _ ⟨rfl, rfl, hF2⟩
                  refine ⟨fun σ' H' => ∃ (pd : Addr) (P : List Int), σ' = [some (.ref p), some (.ref a), some (.ref td), some (.int (fallsF ns : Int)), some (.ref so), some (.ref lo), some (.ref wh), some (.ref pd), none, none, none, none, none, none, none, none] ∧ Keep p q H6 H' ∧ Pool H' p q ∧ H' pd = some (.lst (P.map V.int)) ∧ P.length = ns.length ∧ ∀ t ∈ P, 0 ≤ t ∧ t < ((fallsF ns - 1 : Nat) : Int), ?_, ?_⟩
                  · refine ⟨_, rfl, a, rfl, ⟨_, hA6.seqT⟩, fun D nD => lc_tup (K := K) (a := a) (xs := ns.map V.int) (fun j H7 => ∃ P : List Int, Keep p q H6 H7 ∧ Pool H7 p q ∧ H7 D = some (.lst (P.map V.int)) ∧ P.length = j ∧ ∀ t ∈ P, 0 ≤ t ∧ t < ((fallsF ns - 1 : Nat) : Int)) ?_ ?_ ?_ ?_⟩
                    · exact ⟨[], Keep.refl.new nD, hP6.new nD, upd_same, rfl, fun t ht => (nomatch ht)⟩
                    · rintro j H7 hj ⟨P, k7, _⟩
                      exact (hA6.same fun o e => k7 _ _ e nap naq).seqT
                    · rintro j x H7 hx ⟨P, k7, P7, hD, hl, hb⟩
                      have nDp := hP6.nep nD
                      have nDq := hP6.neq nD
                      have hj : j < ns.length := by
                        have z := (List.getElem?_eq_some_iff.mp hx).1
                        rw [List.length_map] at z
                        exact z
                      refine ⟨rfl, _, rfl, _, rfl, _, _, rfl, rfl, p, q, _, rfl, P7, by omega, by omega, fun H8 r kd P8 r0 r1 => ⟨_, kd _ _ hD nDp nDq, by rw [List.length_map, sizeLine_eq]; omega, P ++ [r], (k7.trans kd).mut nD, P8.mut nDp nDq, by rw [upd_same, List.map_append]; rfl, by rw [List.length_append, hl]; rfl, fun t ht => ?_⟩⟩
                      rcases List.mem_append.mp ht with h1 | h1
                      · exact hb t h1
                      · rw [List.mem_singleton.mp h1]
                        omega
                    · rintro H7 ⟨P, k7, P7, hD, hl, hb⟩
                      rw [List.length_map] at hl
                      exact ⟨D, P, rfl, k7, P7, hD, hl, hb⟩
                  · rintro σ' H7 ⟨pd, P, rfl, k7, P7, hpd, hPl, hPb⟩
                    have hA7 : TupD H7 a (ns.map V.int) := hA6.same fun o e => k7 _ _ e nap naq
                    have hwh7 := k7 _ _ hwh6 nwp nwq
                    have em : ((fallsF ns : Int) - 1).toNat = fallsF ns - 1 := by omega
                    refine ⟨fun σ' H' => ∃ br : Addr, σ' = [some (.ref p), some (.ref a), some (.ref td), some (.int (fallsF ns : Int)), some (.ref so), some (.ref lo), some (.ref wh), some (.ref pd), some (.ref br), none, none, none, none, none, none, none] ∧ Same H7 H' ∧ H' br = some (.lst ((brokenF ns P (fallsF ns - 1)).map V.int)), ?_, ?_⟩
                    · refine ⟨_, rfl, _, _, rfl, rfl, _, rfl, by omega, by omega, fun D nD => lc_range (lo := 0) (n := ((fallsF ns : Int) - 1).toNat) (fun i H8 => Same H7 H8 ∧ H8 D = some (.lst ((brokenF ns P i).map V.int))) ?_ ?_ ?_⟩
                      · exact ⟨same_upd nD, upd_same⟩
                      · rintro i H8 hi ⟨s8, hD⟩
                        refine ⟨rfl, _, rfl, _, rfl, a, pd, _, _, rfl, (hA7.same fun o e => s8 _ _ e).seqT, SqL.of (s8 _ _ hpd), fun D2 nD2 => lc_it (walk_zipM (K := K) (a := a) (b := pd) (xs := ns.map V.int) (ys := P.map V.int) (n := ns.length) (by rw [List.length_map, List.length_map, hPl]; omega)) (fun j H9 => Same H8 H9 ∧ H9 D2 = some (.lst ((lotT ns P (i : Int) j).map V.int))) ?_ ?_ ?_ ?_⟩
                        · exact ⟨same_upd nD2, upd_same⟩
                        · rintro j H9 hj ⟨s9, _⟩
                          exact ⟨(hA7.same fun o e => s9 _ _ (s8 _ _ e)).seqT, SqL.of (s9 _ _ (s8 _ _ hpd))⟩
                        · rintro j x H9 H10 hj ⟨s9, hD2⟩ ⟨T, x1, x2, rfl, nT, rfl, e1, e2⟩
                          obtain ⟨y1, rfl, g1⟩ := getI e1
                          obtain ⟨y2, rfl, g2⟩ := getI e2
                          have nDT : D2 ≠ T := ne_of_none hD2 nT
                          have s10 : Same H8 (upd H9 T (.tup [.int y1, .int y2])) := s9.trans (same_upd nT)
                          have hD3 : upd H9 T (.tup [.int y1, .int y2]) D2 = some (.lst ((lotT ns P (i : Int) j).map V.int)) := by rw [upd_ne nDT]; exact hD2
                          have stp := lotT_step (c := (i : Int)) g1 g2
                          refine ⟨T, _, rfl, .inl (.inl upd_same), rfl, _, _, rfl, _, _, rfl, rfl, rfl, _, rfl, _, rfl, rfl, _, rfl, ?_⟩
                          refine ite2 (fun e => ?_) (fun e => ?_)
                          · have e' : y2 = (i : Int) := by
                              have z := of_decide_eq_true e
                              injection z with z
                              omega
                            refine ⟨_, rfl, _, hD3, by rw [List.length_map, sizeLine_eq]; have := lotT_len ns P (i : Int) j; omega, s10.mutN nD2, ?_⟩
                            rw [upd_same, stp, if_pos e', List.map_append]
                            rfl
                          · have e' : ¬ y2 = (i : Int) := fun z => e (decide_eq_true (by rw [z, Int.zero_add]))
                            refine ⟨s10, ?_⟩
                            rw [hD3, stp, if_neg e']
                        · rintro H9 ⟨s9, hD2⟩
                          rw [lotT_all (by rw [hPl]; omega)] at hD2
                          refine ⟨D2, lotZ ns P (i : Int), rfl, .inl (SqL.of hD2), by have := lotZ_len ns P (i : Int); omega, fun H10 s10 => ⟨_, rfl, ?_⟩⟩
                          have hD10 := s10 _ _ (s9 _ _ hD)
                          have sB : brokenF ns P (i + 1) = if (!decide ((lotZ ns P (i : Int)).Pairwise (· < ·))) = true then brokenF ns P i ++ [(i : Int)] else brokenF ns P i := by
                            unfold brokenF rgI
                            rw [List.range_succ, List.map_append, List.filter_append]
                            simp only [List.map_cons, List.map_nil, List.filter_cons, List.filter_nil]
                            split
                            · rfl
                            · rw [List.append_nil]
                          refine ite2 (fun e => ?_) (fun e => ?_)
                          · refine ⟨_, rfl, _, hD10, ?_, ((s8.trans s9).trans s10).mutN nD, ?_⟩
                            · rw [List.length_map, sizeLine_eq]
                              have z : (brokenF ns P i).length ≤ (rgI i).length := List.length_filter_le ..
                              rw [rgI_len] at z
                              omega
                            · rw [upd_same, sB, if_pos e, List.map_append, Int.zero_add]
                              rfl
                          · refine ⟨(s8.trans s9).trans s10, ?_⟩
                            rw [hD10, sB, if_neg e]
                      · rintro H8 ⟨s8, hD⟩
                        rw [em] at hD
                        exact ⟨D, rfl, s8, hD⟩
                    · rintro σ' H8 ⟨br, rfl, s8, hbr⟩
                      refine ⟨fun σ' H' => ∃ al : Addr, σ' = [some (.ref p), some (.ref a), some (.ref td), some (.int (fallsF ns : Int)), some (.ref so), some (.ref lo), some (.ref wh), some (.ref pd), some (.ref br), some (.ref al), none, none, none, none, none, none] ∧ Same H8 H' ∧ H' al = some (.lst ((R.map fun r => P.getD r 0).map V.int)), ?_, ?_⟩
                      · refine ⟨_, rfl, wh, rfl, ⟨_, SqL.of (s8 _ _ hwh7)⟩, fun D nD => lc_list (K := K) (a := wh) (xs := (nI R).map V.int) (fun j H9 => Same H8 H9 ∧ H9 D = some (.lst (((R.take j).map fun r => P.getD r 0).map V.int))) ?_ ?_ ?_ ?_⟩
                        · exact ⟨same_upd nD, upd_same⟩
                        · rintro j H9 hj ⟨s9, _⟩
                          exact SqL.of (s9 _ _ (s8 _ _ hwh7))
                        · rintro j x H9 hx ⟨s9, hD⟩
                          obtain ⟨y, rfl, hy⟩ := getI hx
                          unfold nI at hy
                          rw [List.getElem?_map] at hy
                          cases gR : R[j]? with
                          | none => rw [gR] at hy; cases hy
                          | some ps =>
                            rw [gR] at hy
                            have ey : ((ps : Nat) : Int) = y := Option.some.inj hy
                            subst ey
                            have lps := FO.lt ps (List.mem_of_getElem? gR)
                            have lpP : ps < P.length := by omega
                            have at1 : atI (P.map V.int) (ps : Int) = some (.int P[ps]) := atI_nat (by simp [lpP])
                            refine ⟨rfl, _, rfl, _, rfl, pd, _, _, _, rfl, rfl, SqL.of (s9 _ _ (s8 _ _ hpd)), at1, _, hD, ?_, s9.mutN nD, ?_⟩
                            · rw [List.length_map, List.length_map, List.length_take, sizeLine_eq]
                              omega
                            · rw [upd_same, List.take_add_one, gR, List.map_append, List.map_append, ← getD_get lpP]
                              rfl
                        · rintro H9 ⟨s9, hD⟩
                          have e9 : R.take ((nI R).map V.int).length = R := by
                            unfold nI
                            rw [List.length_map, List.length_map, List.take_length]
                          rw [e9] at hD
                          exact ⟨D, rfl, s9, hD⟩
                      · rintro σ' H9 ⟨al, rfl, s9, hal⟩
                        have bne : ¬ brokenF ns P (fallsF ns - 1) = [] := broken_some FO hPl (by rw [FO.len]; omega) hPb
                        have hbr9 := s9 _ _ hbr
                        refine ⟨_, rfl, Nat.zero_le _, fun e1 ne1 => ⟨.list (pi (brokenF ns P (fallsF ns - 1))), .list (pi []), dp_lstI (SqL.of ((same_upd ne1) _ _ hbr9)), dp_lstI (ns := []) (SqL.of upd_same), shaped_lstI _, shaped_lstI _, _, rfl, ?_⟩⟩
                        rw [eqv_lstI, decide_eq_false bne]
                        have s10 : Same H9 (upd H9 e1 (.lst [])) := same_upd ne1
                        generalize upd H9 e1 (.lst []) = H10 at s10
                        refine iteT ⟨_, rfl, al, rfl, ⟨_, SqL.of (s10 _ _ hal)⟩, fun D nD => lc_list (K := K) (a := al) (xs := (R.map fun r => P.getD r 0).map V.int) (fun j H11 => Same H10 H11 ∧ H11 D = some (.lst [])) ?_ ?_ ?_ ?_⟩
                        · exact ⟨same_upd nD, upd_same⟩
                        · rintro j H11 hj ⟨s11, _⟩
                          exact SqL.of (s11 _ _ (s10 _ _ hal))
                        · rintro j x H11 hx ⟨s11, hD⟩
                          obtain ⟨y, rfl, hy⟩ := getI hx
                          have hal11 := s11 _ _ (s10 _ _ hal)
                          have hbr11 := s11 _ _ (s10 _ _ hbr9)
                          refine ⟨rfl, _, rfl, .inl ⟨rfl, _, SqL.of hal11⟩, _, rfl, al, _, y, rfl, rfl, SqL.of hal11, _, _, rfl, rfl, _, rfl, ?_⟩
                          refine ite2 (fun e => ?_) (fun e => ?_)
                          · have e' : 1 < (R.map fun r => P.getD r 0).count y := by
                              have z := of_decide_eq_true e
                              omega
                            have hyP : y ∈ rgI (fallsF ns - 1) := by
                              have z := List.mem_of_getElem? hy
                              obtain ⟨r, hr, rfl⟩ := List.mem_map.mp z
                              have lr := FO.lt r hr
                              have lrP : r < P.length := by omega
                              rw [getD_get lrP]
                              have b := hPb _ (List.getElem_mem lrP)
                              unfold rgI
                              exact List.mem_map.mpr ⟨P[r].toNat, List.mem_range.mpr (by omega), by omega⟩
                            have hm := alike_broken FO hPl hyP e'
                            have hin : inV (.int y) ((brokenF ns P (fallsF ns - 1)).map V.int) = true := List.any_eq_true.mpr ⟨.int y, List.mem_map.mpr ⟨y, hm, rfl⟩, beq_self_eq_true y⟩
                            refine ⟨_, rfl, _, rfl, br, _, rfl, .inl (SqL.of hbr11), rfl, flat_intsV _, _, rfl, ?_⟩
                            rw [hin]
                            exact ⟨s11, hD⟩
                          · exact ⟨s11, hD⟩
                        · rintro H11 ⟨s11, hD⟩
                          refine ⟨Nat.zero_le _, fun e2 ne2 => ⟨.list (pi []), .list (pi []), dp_lstI (ns := []) (SqL.of ((same_upd ne2) _ _ hD)), dp_lstI (ns := []) (SqL.of upd_same), shaped_lstI _, shaped_lstI _, ?_⟩⟩
                          rw [eqv_lstI, decide_eq_true rfl]
                          have sE := (((s8.trans s9).trans s10).trans s11).trans (same_upd (o := HO.lst []) ne2)
                          exact k _ ((Keep.of fun b o h => s16 b o h).trans (k7.trans (Keep.of fun b o h => sE b o h))) (P7.same sE)
def sp_law (K : PySem.W.Frag) (mg : Str → Option Value) : Sp := fun vs H Q _ => ∃ (a : Addr) (ns : List Int), vs = [.ref a] ∧ SqL K H a (ns.map V.int) ∧ ns.length ≤ 63 ∧ ∀ H' : Hp, Q (.bl true) H'
--OK
abbrev s_law : Stmt := top 23
theorem sc_law : FnScope ["script", "pool", "many", "row", "one", "other", "bent"] ["script"] (defScope s_law) := ⟨rfl, rfl, rfl, by decide +kernel, rfl, by decide +kernel, by decide +kernel⟩
theorem ok_law {f : Addr} {fd : FuncData} (F : Fun K "law" "law" s_law f fd) (T : Nms mg) (C_places : CalX P w K mg base 4 "places" ["row"] (sp_places K mg)) (C_falls : CalX P w K mg base 5 "falls" ["row"] (sp_falls K mg)) (C__law_pool : Cal P w K mg base 1 "_law_pool" ["script"] (sp__law_pool K mg)) (C__law_draw : Cal P w K mg base 1 "_law_draw" ["pool", "many"] (sp__law_draw K mg)) (C__law_row : Cal P w K mg base 3 "_law_row" ["pool", "many"] (sp__law_row K mg)) (C__law_parted_right : Cal P w K mg base 6 "_law_parted_right" ["pool", "row"] (sp__law_parted_right K mg)) : FnOk P w K mg base CX0 7 f fd ["script"] (sp_law K mg) := by
  refine F.ok sc_law (fun vs H Q E h => ?_) (fun cdv A outer s H vs Q E hr h => ?_)
  · obtain ⟨a, ns, rfl, _⟩ := h
    rfl
  · obtain ⟨a, ns, rfl, hS, hn, k⟩ := h
    refine ⟨_, (pss_cut (ps_set (i := 1) sc_law.nd rfl (Or.inl rfl) (pe_cal C__law_pool hr (pa_cons (pv 0) pa_nil)))
  (pss_cut (ps_set (i := 2) sc_law.nd rfl (Or.inl rfl) (pe_ifExp (PW.pt (pw_and (pt_cmpR op_gt (pe_ix ix_list (pv 1) pe_int (fun _ _ => rfl)) pe_int (nomark _)) (pw_and1 (pt_cmpR op_eq (pe_cal C__law_draw hr (pa_cons (pv 1) (pa_cons pe_int pa_nil))) pe_int (nomark _))))) (pe_op op_add pe_int (pe_cal C__law_draw hr (pa_cons (pv 1) (pa_cons pe_int pa_nil)))) (pe_cal C__law_draw hr (pa_cons (pv 1) (pa_cons pe_int pa_nil)))))
  (pss_cut (ps_set (i := 3) sc_law.nd rfl (Or.inl rfl) (pe_cal C__law_row hr (pa_cons (pv 1) (pa_cons (pv 2) pa_nil))))
  (pss_cut (ps_if (pt_not (pt_val (pe_cal C__law_parted_right hr (pa_cons (pv 1) (pa_cons (pv 3) pa_nil))))) (pss_one (ps_ret pe_bl)) pss_nil)
  (pss_cut (ps_if (pt_cmpR op_gt (pv 2) pe_int (nomark _)) (pss_cons (ps_par (i := 4) (j := 5) (by rfl) sc_law.nd rfl rfl (by decide) rfl rfl (pa_cons (pe_cal C__law_draw hr (pa_cons (pv 1) (pa_cons (pv 2) pa_nil))) (pa_cons (pe_cal C__law_draw hr (pa_cons (pv 1) (pa_cons (pv 2) pa_nil))) pa_nil)) (by rfl))
  (pss_cons (ps_set (i := 6) sc_law.nd rfl (Or.inl rfl) (pe_callTy call_list_of (by rfl) T.listN (by decide +kernel) (pa_cons (pv 3) pa_nil)))
  (pss_cons (ps_asg (pe_tup (pa_cons (pe_ix ix_tup (pv 3) (pv 5) (fun _ _ => rfl)) (pa_cons (pe_ix ix_tup (pv 3) (pv 4) (fun _ _ => rfl)) pa_nil))) (pg_tup (by rfl) (pgs_cons (pg_sub (pv 6) (pv 4) set_list) (pgs_cons (pg_sub (pv 6) (pv 5) set_list) pgs_nil))))
  (pss_one (ps_if (pt_not (pt_val (pe_cal C__law_parted_right hr (pa_cons (pv 1) (pa_cons (pe_callTy call_tupF (by rfl) T.tupleN (by decide +kernel) (pa_cons (pv 6) pa_nil)) pa_nil))))) (pss_one (ps_ret pe_bl)) pss_nil))))) pss_nil)
  (pss_one (ps_ret (pe_and (pe_cmpR op_eq (pe_calN C_falls hr (pa_cons (pe_calN C_places hr (pa_cons (pv 3) pa_nil)) pa_nil)) (pe_calN C_falls hr (pa_cons (pv 3) pa_nil)) (nomark _)) (pe_one (pe_cal C__law_parted_right hr (pa_cons (pv 1) (pa_cons (pe_calN C_places hr (pa_cons (pv 3) pa_nil)) pa_nil)))))))))))), ?_⟩
    refine ⟨fun σ' H' => ∃ p q : Addr, σ' = [some (.ref a), some (.ref p), none, none, none, none, none] ∧ Pool H' p q, ?_, ?_⟩
    · exact ⟨_, rfl, a, ns, rfl, hS, hn, fun H' p q _ _ _ hP => ⟨p, q, rfl, hP⟩⟩
    · rintro σ' H1 ⟨p, q, rfl, hP⟩
      refine ⟨fun σ' H' => ∃ m : Nat, σ' = [some (.ref a), some (.ref p), some (.int (m : Int)), none, none, none, none] ∧ Pool H' p q ∧ m ≤ 60, ?_, ?_⟩
      · obtain ⟨u, v, cs, hp, hq, npq, hu, _⟩ := id hP
        refine ⟨_, rfl, _, _, _, _, rfl, rfl, SqL.of hp, rfl, _, _, rfl, rfl, _, rfl, ?_⟩
        have small : ∀ H2, Pool H2 p q → sp__law_draw K mg [.ref p, .int 13] H2 (fun x H' => ∃ m : Nat, [some (.ref a), some (.ref p), some x, none, none, none, none] = [some (V.ref a), some (V.ref p), some (.int (m : Int)), none, none, none, none] ∧ Pool H' p q ∧ m ≤ 60) (fun _ _ _ => False) := fun H2 P2 => ⟨p, q, 13, rfl, P2, by decide, by decide, fun H3 r _ P3 r0 r1 => ⟨r.toNat, by rw [show ((r.toNat : Nat) : Int) = r by omega], P3, by omega⟩⟩
        refine ite2 (fun e => ?_) (fun e => ?_)
        · refine ⟨_, rfl, p, q, 3, rfl, hP, by decide, by decide, fun H2 r k2 P2 r0 r1 => ⟨rfl, _, rfl, ?_⟩⟩
          refine ite2 (fun e2 => ?_) (fun e2 => ?_)
          · refine ⟨_, rfl, p, q, 48, rfl, P2, by decide, by decide, fun H3 r _ P3 r0 r1 => ⟨_, _, rfl, rfl, ⟨(13 + r).toNat, by rw [show (((13 + r).toNat : Nat) : Int) = 13 + r by omega]; rfl, P3, by omega⟩⟩⟩
          · exact ⟨_, rfl, small H2 P2⟩
        · exact ⟨_, rfl, small H1 hP⟩
      · rintro σ' H2 ⟨m, rfl, P2, hm⟩
        refine ⟨fun σ' H' => ∃ (l : Addr) (ms : List Int), σ' = [some (.ref a), some (.ref p), some (.int (m : Int)), some (.ref l), none, none, none] ∧ Pool H' p q ∧ TupD H' l (ms.map V.int) ∧ IsRow ms ∧ ms.length = m ∧ l ≠ p ∧ l ≠ q, ?_, ?_⟩
        · exact ⟨_, rfl, _, rfl, p, q, m, rfl, P2, by omega, fun H3 l ms k3 P3 nl hl hrow hlm => ⟨l, ms, rfl, P3, hl, hrow, hlm, P2.nep nl, P2.neq nl⟩⟩
        · rintro σ' H3 ⟨l, ms, rfl, P3, hl, hrow, hlm, nlp, nlq⟩
          have Lk : ∀ {Hx Hy : Hp}, Keep p q Hx Hy → TupD Hx l (ms.map V.int) → TupD Hy l (ms.map V.int) := fun kx h => h.same fun o e => kx _ _ e nlp nlq
          refine ⟨fun σ' H' => σ' = [some (.ref a), some (.ref p), some (.int (m : Int)), some (.ref l), none, none, none] ∧ Pool H' p q ∧ TupD H' l (ms.map V.int), ?_, ?_⟩
          · exact ⟨_, rfl, _, rfl, p, q, l, ms, rfl, P3, hl, hrow, nlp, nlq, fun H4 k4 P4 => ⟨_, rfl, iteF ⟨rfl, P4, Lk k4 hl⟩⟩⟩
          · rintro σ' H4 ⟨rfl, P4, hl4⟩
            refine ⟨fun σ' H' => ∃ v4 v5 v6 : Option V, σ' = [some (.ref a), some (.ref p), some (.int (m : Int)), some (.ref l), v4, v5, v6] ∧ Pool H' p q ∧ TupD H' l (ms.map V.int), ?_, ?_⟩
            · refine ⟨_, rfl, _, _, rfl, rfl, _, rfl, ?_⟩
              refine ite2 (fun e => ?_) (fun e => ?_)
              · have hm1 : 1 < m := by
                  have z := of_decide_eq_true e
                  omega
                refine ⟨_, rfl, _, rfl, p, q, m, rfl, P4, by omega, by omega, fun H5 i k5 P5 i0 i1 => ⟨_, rfl, _, rfl, p, q, m, rfl, P5, by omega, by omega, fun H6 j k6 P6 j0 j1 => ⟨_, _, rfl, ?_⟩⟩⟩
                obtain ⟨i, rfl⟩ : ∃ i' : Nat, i = (i' : Int) := ⟨i.toNat, by omega⟩
                obtain ⟨j, rfl⟩ : ∃ j' : Nat, j = (j' : Int) := ⟨j.toNat, by omega⟩
                have hl6 := Lk (k5.trans k6) hl4
                have hi : i < ms.length := by omega
                have hj : j < ms.length := by omega
                refine ⟨_, rfl, _, _, rfl, .inr hl6.seqT, fun b nb => ?_⟩
                have nlb : l ≠ b := hl6.ne nb
                have hl7 : TupD (upd H6 b (.lst (ms.map V.int))) l (ms.map V.int) := hl6.upd nlb
                have P7 := P6.new (o := .lst (ms.map V.int)) nb
                have nbp := P6.nep nb
                have nbq := P6.neq nb
                refine ⟨_, rfl, _, rfl, _, _, j, .int ms[j], rfl, rfl, hl7.seqT, atI_nat (by simp [hj]), _, rfl, _, rfl, _, _, i, .int ms[i], rfl, rfl, hl7.seqT, atI_nat (by simp [hi]), by show 2 ≤ sizeLine; decide, fun T nT => ?_⟩
                have nbT : b ≠ T := ne_of_none upd_same nT
                have nlT : l ≠ T := hl7.ne nT
                refine ⟨T, _, rfl, .inl (.inl upd_same), rfl, _, _, rfl, _, rfl, _, rfl, b, _, _, i, rfl, rfl, by rw [upd_ne nbT, upd_same], ixN_nat (by rw [List.length_map]; exact hi), _, _, rfl, _, rfl, _, rfl, b, _, _, j, rfl, rfl, upd_same, ixN_nat (by rw [List.length_set, List.length_map]; exact hj), rfl, ?_⟩
                have P8 := (P7.new (o := .tup [V.int ms[j], V.int ms[i]]) nT)
                have hl8 : TupD (upd (upd H6 b (.lst (ms.map V.int))) T (.tup [V.int ms[j], V.int ms[i]])) l (ms.map V.int) := hl7.upd nlT
                generalize upd (upd H6 b (.lst (ms.map V.int))) T (.tup [V.int ms[j], V.int ms[i]]) = H8 at P8 hl8 ⊢
                have P9 : Pool (upd (upd H8 b (.lst ((ms.map V.int).set i (.int ms[j])))) b (.lst (((ms.map V.int).set i (.int ms[j])).set j (.int ms[i])))) p q := (P8.mut nbp nbq).mut nbp nbq
                have hl9 : TupD (upd (upd H8 b (.lst ((ms.map V.int).set i (.int ms[j])))) b (.lst (((ms.map V.int).set i (.int ms[j])).set j (.int ms[i])))) l (ms.map V.int) := (hl8.upd nlb).upd nlb
                have hb9 : (upd (upd H8 b (.lst ((ms.map V.int).set i (.int ms[j])))) b (.lst (((ms.map V.int).set i (.int ms[j])).set j (.int ms[i])))) b = some (.lst (((ms.set i ms[j]).set j ms[i]).map V.int)) := by rw [upd_same, List.map_set, List.map_set]
                generalize (upd (upd H8 b (.lst ((ms.map V.int).set i (.int ms[j])))) b (.lst (((ms.map V.int).set i (.int ms[j])).set j (.int ms[i])))) = H9 at P9 hl9 hb9 ⊢
                refine ⟨_, rfl, _, rfl, _, _, rfl, SqL.of hb9, fun t ob nt od oc => ⟨p, q, t, _, rfl, P9.new nt, .new od oc, swap_row hrow hi hj, P9.nep nt, P9.neq nt, fun H10 k10 P10 => ⟨_, rfl, iteF ⟨_, _, _, rfl, P10, Lk k10 (hl9.upd (hl9.ne nt))⟩⟩⟩⟩
              · exact ⟨none, none, none, rfl, P4, hl4⟩
            · rintro σ' H5 ⟨v4, v5, v6, rfl, P5, hl5⟩
              refine ⟨_, rfl, _, _, rfl, dp_tupI hl5.seqT, fun n1 H6 pl e1 _ s6 npl hpl => ?_, fun i H' e hb _ _ _ => row_notBad hrow hb⟩
              have en1 := pi_inj (PyData.tuple.inj e1)
              subst en1
              have hrp := placesOf_row hrow
              refine ⟨_, _, rfl, dp_tupI hpl.seqT, fun n2 H7 e2 _ s7 => ?_, fun i H' e hb _ _ _ => row_notBad hrp hb⟩
              have en2 := pi_inj (PyData.tuple.inj e2)
              subst en2
              refine ⟨_, rfl, _, _, rfl, dp_tupI (hl5.same fun o e => (s6.trans s7) _ _ e).seqT, fun n3 H8 e3 _ s8 => ?_, fun i H' e hb _ _ _ => row_notBad hrow hb⟩
              have en3 := pi_inj (PyData.tuple.inj e3)
              subst en3
              refine ⟨rfl, _, rfl, ?_⟩
              rw [falls_places hrow, decide_eq_true rfl]
              have s58 := (s6.trans s7).trans s8
              refine iteT ⟨_, rfl, _, rfl, _, _, rfl, dp_tupI (hl5.same fun o e => s58 _ _ e).seqT, fun n4 H9 t e4 _ s9 nt ht => ?_, fun i H' e hb _ _ _ => row_notBad hrow hb⟩
              have en4 := pi_inj (PyData.tuple.inj e4)
              subst en4
              have P8 := P5.same s58
              exact ⟨p, q, t, _, rfl, P8.same s9, ht, hrp, P8.nep nt, P8.neq nt, fun H10 _ _ => k H10⟩
def spLaw (K : PySem.W.Frag) : Sp := sp_law K (fun _ => none)
end
theorem all_mk {l : PySem.W.OpenLaw} {w : World} {K : PySem.W.Frag} {h : Heap} {mg : Str → Option Value} {fa : Addr} (X : K.In h) (G : h.Ns mainGlobals mg) (hfa : mg "law" = some (.ref fa))
    {fI Rf : Addr} {odI anI : Option Addr} {slI : Array (Option Value)} {ocI kVI dcI pmI cdI ctI : Value}
    (tI : PySem.W.typeIn K (.ref fI) = some (.type "function")) (lI : K.lookup fI = some ⟨ocI, odI, .func (PySem.W.fnOf "__init__" "Refused.__init__" (defArgs s_init) (defBody s_init) (defScope s_init) .none kVI dcI pmI anI cdI ctI), slI⟩) (cI : PySem.W.codeIn K cdI "Refused.__init__" = true) (kI : PySem.W.keepIn K (.ref fI) = true)
    {CBadRow NBadRow : Addr} {nmBadRow qBadRow : Str} {bsBadRow : List Value} {snBadRow : List Str} {subBadRow : List Value} {abBadRow : Bool} {colBadRow : Option Bool} {ddBadRow : Option Addr} {m0BadRow m1BadRow m2BadRow m3BadRow m5BadRow : Option Value} {tkBadRow : Tok}
    (aBadRow : PySem.W.nsIn K mainGlobals "BadRow" = some (some (.ref CBadRow))) (xBadRow : K.lookup CBadRow = some (excClassObj nmBadRow qBadRow CBadRow NBadRow bsBadRow [.ref Rf, .type "ValueError", .type "Exception", .type "BaseException", .type "object"] true snBadRow subBadRow abBadRow colBadRow ddBadRow m0BadRow m1BadRow m2BadRow m3BadRow m5BadRow "ValueError.__new__"))
    (sBadRow : PySem.W.findIn K (.ref CBadRow) "__setattr__" = some (some (.builtin "object.__setattr__"))) (iBadRow : PySem.W.findIn K (.ref CBadRow) "__init__" = some (some (.ref fI))) (wBadRow : PySem.W.findIn K (.ref CBadRow) "what" = some none) (eBadRow : PySem.W.subIn K (.ref CBadRow) (.type "BaseException") = some true) (yBadRow : PySem.W.typeIn K (.ref CBadRow) = some (.type "type")) (kBadRow : PySem.W.keepIn K (.ref CBadRow) = true) (jBadRow : PySem.W.hasDictIn K CBadRow = true) (uBadRow : PySem.W.subIn K (.ref CBadRow) (.ref CBadRow) = some true)
    (wkBadRow : PySem.W.findIn K (.ref CBadRow) "kind" = some none) (vrdBadRow : PySem.W.readsIn K CBadRow (.type "type") = true) (vfcBadRow : PySem.W.findCls K (.ref CBadRow) (.type "type") "__name__" = some (.get (.builtin "getset_descriptor.__get__") (.builtin "type.__name__") (.ref CBadRow) (.type "type"))) (vnmBadRow : nameIn K CBadRow = some (.str "BadRow" tkBadRow))
    (vclBadRow : (PySem.W.clsIn K CBadRow).isSome = true) (vgaBadRow : PySem.W.findIn K (.ref CBadRow) "__getattribute__" = some (some (.builtin "BaseException.__getattribute__"))) (vggBadRow : PySem.W.findIn K (.ref CBadRow) "__getattr__" = some none) (vacBadRow : PySem.W.findIn K (.ref CBadRow) "__class__" = some (some (.builtin "object.__class__"))) (vspBadRow : PySem.W.specialIn K (.builtin "object.__class__") "__get__" = some (some (.builtin "getset_descriptor.__get__"))) (vtkBadRow : PySem.W.takesIn K (.builtin "object.__class__") = some true) (vmrBadRow : PySem.W.mroIn K CBadRow (.type "object") = some true) (vkrBadRow : PySem.W.kitOne K (.ref CBadRow) (.ref Rf) = some true) (vkvBadRow : PySem.W.kitOne K (.ref CBadRow) (.type "ValueError") = some true)
    (aRefused : PySem.W.nsIn K mainGlobals "Refused" = some (some (.ref Rf)))
    {f0 : Addr} {od0 an0 : Option Addr} {sl0 : Array (Option Value)} {oc0 kV0 dc0 pm0 cd0 ct0 : Value}
    (a0 : PySem.W.nsIn K mainGlobals "is_number" = some (some (.ref f0))) (l0 : K.lookup f0 = some ⟨oc0, od0, .func (PySem.W.fnOf "is_number" "is_number" (defArgs s_is_number) (defBody s_is_number) (defScope s_is_number) .none kV0 dc0 pm0 an0 cd0 ct0), sl0⟩) (c0 : PySem.W.codeIn K cd0 "is_number" = true) (k0 : PySem.W.keepIn K (.ref f0) = true)
    {f1 : Addr} {od1 an1 : Option Addr} {sl1 : Array (Option Value)} {oc1 kV1 dc1 pm1 cd1 ct1 : Value}
    (a1 : PySem.W.nsIn K mainGlobals "within" = some (some (.ref f1))) (l1 : K.lookup f1 = some ⟨oc1, od1, .func (PySem.W.fnOf "within" "within" (defArgs s_within) (defBody s_within) (defScope s_within) .none kV1 dc1 pm1 an1 cd1 ct1), sl1⟩) (c1 : PySem.W.codeIn K cd1 "within" = true) (k1 : PySem.W.keepIn K (.ref f1) = true)
    {f2 : Addr} {od2 an2 : Option Addr} {sl2 : Array (Option Value)} {oc2 kV2 dc2 pm2 cd2 ct2 : Value}
    (a2 : PySem.W.nsIn K mainGlobals "made_row" = some (some (.ref f2))) (l2 : K.lookup f2 = some ⟨oc2, od2, .func (PySem.W.fnOf "made_row" "made_row" (defArgs s_made_row) (defBody s_made_row) (defScope s_made_row) .none kV2 dc2 pm2 an2 cd2 ct2), sl2⟩) (c2 : PySem.W.codeIn K cd2 "made_row" = true) (k2 : PySem.W.keepIn K (.ref f2) = true)
    {f3 : Addr} {od3 an3 : Option Addr} {sl3 : Array (Option Value)} {oc3 kV3 dc3 pm3 cd3 ct3 : Value}
    (a3 : PySem.W.nsIn K mainGlobals "places" = some (some (.ref f3))) (l3 : K.lookup f3 = some ⟨oc3, od3, .func (PySem.W.fnOf "places" "places" (defArgs s_places) (defBody s_places) (defScope s_places) .none kV3 dc3 pm3 an3 cd3 ct3), sl3⟩) (c3 : PySem.W.codeIn K cd3 "places" = true) (k3 : PySem.W.keepIn K (.ref f3) = true)
    {f4 : Addr} {od4 an4 : Option Addr} {sl4 : Array (Option Value)} {oc4 kV4 dc4 pm4 cd4 ct4 : Value}
    (a4 : PySem.W.nsIn K mainGlobals "layers" = some (some (.ref f4))) (l4 : K.lookup f4 = some ⟨oc4, od4, .func (PySem.W.fnOf "layers" "layers" (defArgs s_layers) (defBody s_layers) (defScope s_layers) .none kV4 dc4 pm4 an4 cd4 ct4), sl4⟩) (c4 : PySem.W.codeIn K cd4 "layers" = true) (k4 : PySem.W.keepIn K (.ref f4) = true)
    {f5 : Addr} {od5 an5 : Option Addr} {sl5 : Array (Option Value)} {oc5 kV5 dc5 pm5 cd5 ct5 : Value}
    (a5 : PySem.W.nsIn K mainGlobals "falls" = some (some (.ref f5))) (l5 : K.lookup f5 = some ⟨oc5, od5, .func (PySem.W.fnOf "falls" "falls" (defArgs s_falls) (defBody s_falls) (defScope s_falls) .none kV5 dc5 pm5 an5 cd5 ct5), sl5⟩) (c5 : PySem.W.codeIn K cd5 "falls" = true) (k5 : PySem.W.keepIn K (.ref f5) = true)
    {f6 : Addr} {od6 an6 : Option Addr} {sl6 : Array (Option Value)} {oc6 kV6 dc6 pm6 cd6 ct6 : Value}
    (a6 : PySem.W.nsIn K mainGlobals "falling" = some (some (.ref f6))) (l6 : K.lookup f6 = some ⟨oc6, od6, .func (PySem.W.fnOf "falling" "falling" (defArgs s_falling) (defBody s_falling) (defScope s_falling) .none kV6 dc6 pm6 an6 cd6 ct6), sl6⟩) (c6 : PySem.W.codeIn K cd6 "falling" = true) (k6 : PySem.W.keepIn K (.ref f6) = true)
    {f7 : Addr} {od7 an7 : Option Addr} {sl7 : Array (Option Value)} {oc7 kV7 dc7 pm7 cd7 ct7 : Value}
    (a7 : PySem.W.nsIn K mainGlobals "_law_pool" = some (some (.ref f7))) (l7 : K.lookup f7 = some ⟨oc7, od7, .func (PySem.W.fnOf "_law_pool" "_law_pool" (defArgs s__law_pool) (defBody s__law_pool) (defScope s__law_pool) .none kV7 dc7 pm7 an7 cd7 ct7), sl7⟩) (c7 : PySem.W.codeIn K cd7 "_law_pool" = true) (k7 : PySem.W.keepIn K (.ref f7) = true)
    {f8 : Addr} {od8 an8 : Option Addr} {sl8 : Array (Option Value)} {oc8 kV8 dc8 pm8 cd8 ct8 : Value}
    (a8 : PySem.W.nsIn K mainGlobals "_law_draw" = some (some (.ref f8))) (l8 : K.lookup f8 = some ⟨oc8, od8, .func (PySem.W.fnOf "_law_draw" "_law_draw" (defArgs s__law_draw) (defBody s__law_draw) (defScope s__law_draw) .none kV8 dc8 pm8 an8 cd8 ct8), sl8⟩) (c8 : PySem.W.codeIn K cd8 "_law_draw" = true) (k8 : PySem.W.keepIn K (.ref f8) = true)
    {f9 : Addr} {od9 an9 : Option Addr} {sl9 : Array (Option Value)} {oc9 kV9 dc9 pm9 cd9 ct9 : Value}
    (a9 : PySem.W.nsIn K mainGlobals "_law_turned" = some (some (.ref f9))) (l9 : K.lookup f9 = some ⟨oc9, od9, .func (PySem.W.fnOf "_law_turned" "_law_turned" (defArgs s__law_turned) (defBody s__law_turned) (defScope s__law_turned) .none kV9 dc9 pm9 an9 cd9 ct9), sl9⟩) (c9 : PySem.W.codeIn K cd9 "_law_turned" = true) (k9 : PySem.W.keepIn K (.ref f9) = true)
    {f10 : Addr} {od10 an10 : Option Addr} {sl10 : Array (Option Value)} {oc10 kV10 dc10 pm10 cd10 ct10 : Value}
    (a10 : PySem.W.nsIn K mainGlobals "_law_row" = some (some (.ref f10))) (l10 : K.lookup f10 = some ⟨oc10, od10, .func (PySem.W.fnOf "_law_row" "_law_row" (defArgs s__law_row) (defBody s__law_row) (defScope s__law_row) .none kV10 dc10 pm10 an10 cd10 ct10), sl10⟩) (c10 : PySem.W.codeIn K cd10 "_law_row" = true) (k10 : PySem.W.keepIn K (.ref f10) = true)
    {f11 : Addr} {od11 an11 : Option Addr} {sl11 : Array (Option Value)} {oc11 kV11 dc11 pm11 cd11 ct11 : Value}
    (a11 : PySem.W.nsIn K mainGlobals "_law_rises" = some (some (.ref f11))) (l11 : K.lookup f11 = some ⟨oc11, od11, .func (PySem.W.fnOf "_law_rises" "_law_rises" (defArgs s__law_rises) (defBody s__law_rises) (defScope s__law_rises) .none kV11 dc11 pm11 an11 cd11 ct11), sl11⟩) (c11 : PySem.W.codeIn K cd11 "_law_rises" = true) (k11 : PySem.W.keepIn K (.ref f11) = true)
    {f12 : Addr} {od12 an12 : Option Addr} {sl12 : Array (Option Value)} {oc12 kV12 dc12 pm12 cd12 ct12 : Value}
    (a12 : PySem.W.nsIn K mainGlobals "_law_parted_right" = some (some (.ref f12))) (l12 : K.lookup f12 = some ⟨oc12, od12, .func (PySem.W.fnOf "_law_parted_right" "_law_parted_right" (defArgs s__law_parted_right) (defBody s__law_parted_right) (defScope s__law_parted_right) .none kV12 dc12 pm12 an12 cd12 ct12), sl12⟩) (c12 : PySem.W.codeIn K cd12 "_law_parted_right" = true) (k12 : PySem.W.keepIn K (.ref f12) = true)
    {f13 : Addr} {od13 an13 : Option Addr} {sl13 : Array (Option Value)} {oc13 kV13 dc13 pm13 cd13 ct13 : Value}
    (a13 : PySem.W.nsIn K mainGlobals "law" = some (some (.ref f13))) (l13 : K.lookup f13 = some ⟨oc13, od13, .func (PySem.W.fnOf "law" "law" (defArgs s_law) (defBody s_law) (defScope s_law) .none kV13 dc13 pm13 an13 cd13 ct13), sl13⟩) (c13 : PySem.W.codeIn K cd13 "law" = true) (k13 : PySem.W.keepIn K (.ref f13) = true)
    {tMOST_WAGONS : Tok} (gMOST_WAGONS : PySem.W.nsIn K mainGlobals "MOST_WAGONS" = some (some (.int 400 tMOST_WAGONS)))
    (zlen : PySem.W.nsIn K mainGlobals "len" = some none)
    (zint : PySem.W.nsIn K mainGlobals "int" = some none)
    (zbool : PySem.W.nsIn K mainGlobals "bool" = some none)
    (zlist : PySem.W.nsIn K mainGlobals "list" = some none)
    (ztuple : PySem.W.nsIn K mainGlobals "tuple" = some none)
    (zrange : PySem.W.nsIn K mainGlobals "range" = some none)
    (zisinstance : PySem.W.nsIn K mainGlobals "isinstance" = some none)
    (zenumerate : PySem.W.nsIn K mainGlobals "enumerate" = some none)
    (zzip : PySem.W.nsIn K mainGlobals "zip" = some none)
    (zsum : PySem.W.nsIn K mainGlobals "sum" = some none)
    (zmax : PySem.W.nsIn K mainGlobals "max" = some none)
    (zmin : PySem.W.nsIn K mainGlobals "min" = some none)
    (zsorted : PySem.W.nsIn K mainGlobals "sorted" = some none)
    (zValueError : PySem.W.nsIn K mainGlobals "ValueError" = some none)
    : ∃ fd : FuncData, (∀ (s : Shared) (v : Value), BindsTo s fd ⟨[v], []⟩ [("script", v)]) ∧ ∀ base : Heap, K.In base → base.Ns mainGlobals mg → FnOk l.prog w K mg base CX0 7 fa fd ["script"] (spLaw K) := by
  have e := hfa.symm.trans (PySem.W.mg_of X G a13)
  cases e
  have T : Nms mg := ⟨PySem.W.mg_none_of X G zlen, PySem.W.mg_none_of X G zint, PySem.W.mg_none_of X G zbool, PySem.W.mg_none_of X G zlist, PySem.W.mg_none_of X G ztuple, PySem.W.mg_none_of X G zrange, PySem.W.mg_none_of X G zisinstance, PySem.W.mg_none_of X G zenumerate, PySem.W.mg_none_of X G zzip, PySem.W.mg_none_of X G zsum, PySem.W.mg_none_of X G zmax, PySem.W.mg_none_of X G zmin, PySem.W.mg_none_of X G zsorted⟩
  have FI := fun_mk (st := s_init) lI cI kI
  have bI := FI.binds (ps := ["self", "what"]) fun _ _ _ _ _ _ us hl => match us, hl with | [_, _], _ => rfl
  have F0 := fun_mk (st := s_is_number) l0 c0 k0
  have b0 := F0.binds (ps := ["thing"]) fun _ _ _ _ _ _ us hl => match us, hl with | [_], _ => rfl
  have F1 := fun_mk (st := s_within) l1 c1 k1
  have b1 := F1.binds (ps := ["thing", "low", "high"]) fun _ _ _ _ _ _ us hl => match us, hl with | [_, _, _], _ => rfl
  have F2 := fun_mk (st := s_made_row) l2 c2 k2
  have b2 := F2.binds (ps := ["thing"]) fun _ _ _ _ _ _ us hl => match us, hl with | [_], _ => rfl
  have F3 := fun_mk (st := s_places) l3 c3 k3
  have b3 := F3.binds (ps := ["row"]) fun _ _ _ _ _ _ us hl => match us, hl with | [_], _ => rfl
  have F4 := fun_mk (st := s_layers) l4 c4 k4
  have b4 := F4.binds (ps := ["row"]) fun _ _ _ _ _ _ us hl => match us, hl with | [_], _ => rfl
  have F5 := fun_mk (st := s_falls) l5 c5 k5
  have b5 := F5.binds (ps := ["row"]) fun _ _ _ _ _ _ us hl => match us, hl with | [_], _ => rfl
  have F6 := fun_mk (st := s_falling) l6 c6 k6
  have b6 := F6.binds (ps := ["row"]) fun _ _ _ _ _ _ us hl => match us, hl with | [_], _ => rfl
  have F7 := fun_mk (st := s__law_pool) l7 c7 k7
  have b7 := F7.binds (ps := ["script"]) fun _ _ _ _ _ _ us hl => match us, hl with | [_], _ => rfl
  have F8 := fun_mk (st := s__law_draw) l8 c8 k8
  have b8 := F8.binds (ps := ["pool", "many"]) fun _ _ _ _ _ _ us hl => match us, hl with | [_, _], _ => rfl
  have F9 := fun_mk (st := s__law_turned) l9 c9 k9
  have b9 := F9.binds (ps := ["pool", "many"]) fun _ _ _ _ _ _ us hl => match us, hl with | [_, _], _ => rfl
  have F10 := fun_mk (st := s__law_row) l10 c10 k10
  have b10 := F10.binds (ps := ["pool", "many"]) fun _ _ _ _ _ _ us hl => match us, hl with | [_, _], _ => rfl
  have F11 := fun_mk (st := s__law_rises) l11 c11 k11
  have b11 := F11.binds (ps := ["row"]) fun _ _ _ _ _ _ us hl => match us, hl with | [_], _ => rfl
  have F12 := fun_mk (st := s__law_parted_right) l12 c12 k12
  have b12 := F12.binds (ps := ["pool", "row"]) fun _ _ _ _ _ _ us hl => match us, hl with | [_, _], _ => rfl
  have F13 := fun_mk (st := s_law) l13 c13 k13
  refine ⟨PySem.W.fnOf "law" "law" (defArgs s_law) (defBody s_law) (defScope s_law) .none kV13 dc13 pm13 an13 cd13 ct13, fun s v => .of_eq rfl, fun base _ _ => ?_⟩
  have R_BadRow : Err l.prog w K mg base "BadRow" (ecOf mg "BadRow") := by
    have hm := PySem.W.mg_of X G aBadRow
    rw [ecOf_eq hm]
    exact ⟨hm, ⟨⟨_, _, _, _, _, _, _, _, _, _, _, _, _, _, _, xBadRow, rfl⟩, sBadRow, eBadRow, yBadRow, kBadRow⟩, wBadRow, wkBadRow, ⟨⟨vgaBadRow, vggBadRow, eBadRow, jBadRow, vacBadRow, vspBadRow, vtkBadRow, vmrBadRow⟩, vrdBadRow, vfcBadRow, ⟨_, vnmBadRow⟩⟩, ⟨fI, _, iBadRow, tI, ok_init FI, bI⟩, PySem.W.exm_ref eBadRow jBadRow yBadRow uBadRow⟩
  have C_is_number : Cal l.prog w K mg base 1 "is_number" ["thing"] (sp_is_number K mg) := ⟨f0, _, ok_is_number F0 T , PySem.W.mg_of X G a0, k0, b0⟩
  have C_within : Cal l.prog w K mg base 2 "within" ["thing", "low", "high"] (sp_within K mg) := ⟨f1, _, ok_within F1 T C_is_number, PySem.W.mg_of X G a1, k1, b1⟩
  have C_made_row : CalX l.prog w K mg base 3 "made_row" ["thing"] (sp_made_row K mg) := ⟨f2, _, ok_made_row F2 T C_within R_BadRow ⟨_, PySem.W.mg_of X G gMOST_WAGONS⟩, PySem.W.mg_of X G a2, k2, b2⟩
  have C_places : CalX l.prog w K mg base 4 "places" ["row"] (sp_places K mg) := ⟨f3, _, ok_places F3 T C_made_row, PySem.W.mg_of X G a3, k3, b3⟩
  have C_layers : CalX l.prog w K mg base 4 "layers" ["row"] (sp_layers K mg) := ⟨f4, _, ok_layers F4 T C_made_row, PySem.W.mg_of X G a4, k4, b4⟩
  have C_falls : CalX l.prog w K mg base 5 "falls" ["row"] (sp_falls K mg) := ⟨f5, _, ok_falls F5 T C_layers, PySem.W.mg_of X G a5, k5, b5⟩
  have C_falling : CalX l.prog w K mg base 5 "falling" ["row"] (sp_falling K mg) := ⟨f6, _, ok_falling F6 T C_layers, PySem.W.mg_of X G a6, k6, b6⟩
  have C__law_pool : Cal l.prog w K mg base 1 "_law_pool" ["script"] (sp__law_pool K mg) := ⟨f7, _, ok__law_pool F7 T , PySem.W.mg_of X G a7, k7, b7⟩
  have C__law_draw : Cal l.prog w K mg base 1 "_law_draw" ["pool", "many"] (sp__law_draw K mg) := ⟨f8, _, ok__law_draw F8 T , PySem.W.mg_of X G a8, k8, b8⟩
  have C__law_turned : Cal l.prog w K mg base 2 "_law_turned" ["pool", "many"] (sp__law_turned K mg) := ⟨f9, _, ok__law_turned F9 T C__law_draw, PySem.W.mg_of X G a9, k9, b9⟩
  have C__law_row : Cal l.prog w K mg base 3 "_law_row" ["pool", "many"] (sp__law_row K mg) := ⟨f10, _, ok__law_row F10 T C__law_draw C__law_turned, PySem.W.mg_of X G a10, k10, b10⟩
  have C__law_rises : Cal l.prog w K mg base 1 "_law_rises" ["row"] (sp__law_rises K mg) := ⟨f11, _, ok__law_rises F11 T , PySem.W.mg_of X G a11, k11, b11⟩
  have C__law_parted_right : Cal l.prog w K mg base 6 "_law_parted_right" ["pool", "row"] (sp__law_parted_right K mg) := ⟨f12, _, ok__law_parted_right F12 T C_layers C_falls C_falling C__law_draw C__law_rises, PySem.W.mg_of X G a12, k12, b12⟩
  exact ok_law F13 T C_places C_falls C__law_pool C__law_draw C__law_row C__law_parted_right
theorem walk {l : PySem.W.OpenLaw} {q : Program} {loose : List Str} {XP : (Str → Option Value) → Heap → Prop} {YP : World → Heap → Prop} {d : DefRec} {K : Params → PySem.W.Frag} (hn : l.most = some 63) (hdf : d.params.defaults = [])
    (hY : ∀ (w : World) (h : Heap), YP w h → (K w.params).In h)
    (F : ∀ (w : World) (mg : Str → Option Value) (fa : Addr) (h : Heap), (K w.params).In h → h.Ns mainGlobals mg → mg d.name = some (.ref fa) →
      ∃ fd : FuncData, (∀ (s : Shared) (u : Value), BindsTo s fd ⟨[u], []⟩ [("script", u)]) ∧ ∀ base : Heap, (K w.params).In base → base.Ns mainGlobals mg → FnOk l.prog w (K w.params) mg base CX0 7 fa fd ["script"] (spLaw (K w.params))) :
    PySem.W.WalkO q loose XP YP l.row.toRowW d [] (fun f vs => PySem.call f vs) :=
  L2.walk_of (n := 63) (k := 7) (x := "script") (CX := fun _ => CX0) (sp := fun w => spLaw (K w.params)) hn (by decide) hdf ⟨rfl, by decide, by decide⟩ hY F (fun _ _ a ns hl _ hS => ⟨a, ns, rfl, hS, hl, fun _ => rfl⟩) fun _ _ _ _ _ z => z
end Tw

open PySem PySem.W PyProof.Rows in
set_option maxRecDepth 100000 in
set_option maxHeartbeats 0 in
theorem PySem.Challenge.cw_trackworth_k30_layers_part_a_row_holds : PySem.Challenge.rw_trackworth_k30_layers_part_a_row.Holds := by
  w_on; o_law; k_head; (case hw => w_witness2)
  k_fill
  refine Tw.walk (l := PySem.Challenge.rw_trackworth_k30_layers_part_a_row) rfl rfl (fun w h Y => PySem.W.kIn_of Y) ?F
  case F =>
    intro w mg fa h KX G hmg
    refine' Tw.all_mk KX G hmg ?tI ?lI ?cI ?kI ?aBadRow ?xBadRow ?sBadRow ?iBadRow ?wBadRow ?eBadRow ?yBadRow ?kBadRow ?jBadRow ?uBadRow ?wkBadRow ?vrdBadRow ?vfcBadRow ?vnmBadRow ?vclBadRow ?vgaBadRow ?vggBadRow ?vacBadRow ?vspBadRow ?vtkBadRow ?vmrBadRow ?vkrBadRow ?vkvBadRow ?aRefused ?a0 ?l0 ?c0 ?k0 ?a1 ?l1 ?c1 ?k1 ?a2 ?l2 ?c2 ?k2 ?a3 ?l3 ?c3 ?k3 ?a4 ?l4 ?c4 ?k4 ?a5 ?l5 ?c5 ?k5 ?a6 ?l6 ?c6 ?k6 ?a7 ?l7 ?c7 ?k7 ?a8 ?l8 ?c8 ?k8 ?a9 ?l9 ?c9 ?k9 ?a10 ?l10 ?c10 ?k10 ?a11 ?l11 ?c11 ?k11 ?a12 ?l12 ?c12 ?k12 ?a13 ?l13 ?c13 ?k13 ?gMOST_WAGONS ?zlen ?zint ?zbool ?zlist ?ztuple ?zrange ?zisinstance ?zenumerate ?zzip ?zsum ?zmax ?zmin ?zsorted ?zValueError
    (case aBadRow => k_is)
    (case xBadRow => k_is)
    (case sBadRow => k_is)
    (case iBadRow => k_is)
    (case wBadRow => k_is)
    (case eBadRow => k_is)
    (case yBadRow => k_is)
    (case kBadRow => k_is)
    (case jBadRow => k_is)
    (case uBadRow => first | rfl | k_is)
    (case aRefused => k_is)
    (case tI => k_is)
    (case lI => k_is)
    (case cI => k_is)
    (case kI => k_is)
    (case wkBadRow => k_is)
    (case vrdBadRow => first | k_is | kernel_rfl | rfl)
    (case vfcBadRow => first | k_is | kernel_rfl | rfl)
    (case vnmBadRow => first | rfl | k_is)
    (case vclBadRow => first | k_is | kernel_rfl | rfl)
    (case vgaBadRow => first | k_is | kernel_rfl | rfl)
    (case vggBadRow => first | k_is | kernel_rfl | rfl)
    (case vacBadRow => first | k_is | kernel_rfl | rfl)
    (case vspBadRow => first | k_is | kernel_rfl | rfl)
    (case vtkBadRow => first | k_is | kernel_rfl | rfl)
    (case vmrBadRow => first | k_is | kernel_rfl | rfl)
    (case vkrBadRow => first | k_is | kernel_rfl | rfl)
    (case vkvBadRow => first | k_is | kernel_rfl | rfl)
    (case a0 => k_is)
    (case l0 => k_is)
    (case c0 => k_is)
    (case k0 => k_is)
    (case a1 => k_is)
    (case l1 => k_is)
    (case c1 => k_is)
    (case k1 => k_is)
    (case a2 => k_is)
    (case l2 => k_is)
    (case c2 => k_is)
    (case k2 => k_is)
    (case a3 => k_is)
    (case l3 => k_is)
    (case c3 => k_is)
    (case k3 => k_is)
    (case a4 => k_is)
    (case l4 => k_is)
    (case c4 => k_is)
    (case k4 => k_is)
    (case a5 => k_is)
    (case l5 => k_is)
    (case c5 => k_is)
    (case k5 => k_is)
    (case a6 => k_is)
    (case l6 => k_is)
    (case c6 => k_is)
    (case k6 => k_is)
    (case a7 => k_is)
    (case l7 => k_is)
    (case c7 => k_is)
    (case k7 => k_is)
    (case a8 => k_is)
    (case l8 => k_is)
    (case c8 => k_is)
    (case k8 => k_is)
    (case a9 => k_is)
    (case l9 => k_is)
    (case c9 => k_is)
    (case k9 => k_is)
    (case a10 => k_is)
    (case l10 => k_is)
    (case c10 => k_is)
    (case k10 => k_is)
    (case a11 => k_is)
    (case l11 => k_is)
    (case c11 => k_is)
    (case k11 => k_is)
    (case a12 => k_is)
    (case l12 => k_is)
    (case c12 => k_is)
    (case k12 => k_is)
    (case a13 => k_is)
    (case l13 => k_is)
    (case c13 => k_is)
    (case k13 => k_is)
    (case gMOST_WAGONS => k_is)
    (case zlen => k_is)
    (case zint => k_is)
    (case zbool => k_is)
    (case zlist => k_is)
    (case ztuple => k_is)
    (case zrange => k_is)
    (case zisinstance => k_is)
    (case zenumerate => k_is)
    (case zzip => k_is)
    (case zsum => k_is)
    (case zmax => k_is)
    (case zmin => k_is)
    (case zsorted => k_is)
    (case zValueError => k_is)

