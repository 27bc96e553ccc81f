import PyProof.Rows.All
import Wide.All
import OpenK.AllK
import Wide.FinOn
import HandS.ForMost
import HandS.Wide
import HandS.Codes
import HandS.IsInst
import HandS.TupAny
import HandS.Walk
import HandS.Conv
import HandS.Style
import HandS.Zip
import HandS.Strs
import HandS.SetFor
import HandS.SortInts
import HandS.Flow
import KE.GoesEnum
import HandS.SortKw
import KE.DataMinMax
import HandS.ForExc
import HandS.ExcInit
import HandS.ExcField
import HandS.ExcIs
import HandS.TryMany
import KE.KTypeName
import KE.KExcIs
import KE.GoesZip
import KE.GoesMore
import HandS.Lambda
import HandS.TupMul
import HandS.TupLe
import HandS.EndTab
import PySem.Challenge.RW_trackworth_k06_rows_and_places
set_option Elab.async false
set_option linter.all false
set_option maxRecDepth 100000
set_option maxHeartbeats 4000000
set_option maxHeartbeats 4000000
namespace Tw
open PySem PySem.Spec PyProof.Rows L2
open C8 (pss_cut tCut)
/-! ### data -/
def pi (ns : List Int) : List PyData := ns.map PyData.int
theorem dpAll_ints {K : PySem.W.Frag} {H : Hp} : ∀ ns : List Int, DpAll K H (ns.map V.int) (pi ns)
  | [] => .nil
  | n :: r => .cons (.int n) (dpAll_ints r)
theorem dp_lstI {K : PySem.W.Frag} {H : Hp} {a : Addr} {ns : List Int} (h : SqL K H a (ns.map V.int)) : Dp K H (.ref a) (.list (pi ns)) := .lst h (dpAll_ints ns)
theorem dp_tupI {K : PySem.W.Frag} {H : Hp} {a : Addr} {ns : List Int} (h : SqT K H a (ns.map V.int)) : Dp K H (.ref a) (.tuple (pi ns)) := .tup h (dpAll_ints ns)
theorem lay_ints : ∀ ns : List Int, PyData.canLayAll0 (pi ns) = true
  | [] => by simp [pi, PyData.canLayAll0]
  | n :: r => by
    have ih := lay_ints r
    simp only [pi, List.map_cons, PyData.canLayAll0, PyData.canLay0, Bool.true_and]
    exact ih
theorem depth_ints : ∀ ns : List Int, PyData.depthAll (pi ns) = 0
  | [] => by simp [pi, PyData.depthAll]
  | n :: r => by
    have ih := depth_ints r
    simp only [pi, List.map_cons, PyData.depthAll, PyData.depth]
    unfold pi at ih
    omega
theorem shaped_mk {d : PyData} (h1 : d.canLay0 = true) (h2 : d.depth ≤ 64) : SeqAt.shaped d = true := by
  unfold SeqAt.shaped
  rw [h1, decide_eq_true h2]
  rfl
theorem shaped_lstI (ns : List Int) : SeqAt.shaped (.list (pi ns)) = true := shaped_mk (by simp only [PyData.canLay0]; exact lay_ints ns) (by simp only [PyData.depth, depth_ints]; decide)
theorem shaped_tupI (ns : List Int) : SeqAt.shaped (.tuple (pi ns)) = true := shaped_mk (by simp only [PyData.canLay0]; exact lay_ints ns) (by simp only [PyData.depth, depth_ints]; decide)
theorem eqv_ints : ∀ ns ms : List Int, PyData.eqvAll (pi ns) (pi ms) = decide (ns = ms)
  | [], [] => by simp [pi, PyData.eqvAll]
  | [], m :: ms => by simp [pi, PyData.eqvAll]
  | n :: ns, [] => by simp [pi, PyData.eqvAll]
  | n :: ns, m :: ms => by
    have ih := eqv_ints ns ms
    unfold pi at ih
    simp only [pi, List.map_cons, PyData.eqvAll, PyData.eqv, ih]
    by_cases h : n = m
    · by_cases h2 : ns = ms
      · simp [h, h2]
      · simp [h, h2]
    · simp [h]
theorem eqv_lstI (ns ms : List Int) : PyData.eqv (.list (pi ns)) (.list (pi ms)) = decide (ns = ms) := by simp only [PyData.eqv]; exact eqv_ints ns ms
theorem eqv_tupI (ns ms : List Int) : PyData.eqv (.tuple (pi ns)) (.tuple (pi ms)) = decide (ns = ms) := by simp only [PyData.eqv]; exact eqv_ints ns ms
/-! ### heaps: all but p and q is kept -/
def Keep (p q : Addr) (H H' : Hp) : Prop := ∀ b o, H b = some o → b ≠ p → b ≠ q → H' b = some o
theorem Keep.refl {p q : Addr} {H : Hp} : Keep p q H H := fun _ _ h _ _ => h
theorem Keep.trans {p q : Addr} {H H1 H2 : Hp} (a : Keep p q H H1) (b : Keep p q H1 H2) : Keep p q H H2 := fun x o h n1 n2 => b x o (a x o h n1 n2) n1 n2
theorem Keep.new {p q x : Addr} {o : HO} {H H1 : Hp} (a : Keep p q H H1) (n : H1 x = none) : Keep p q H (upd H1 x o) := fun b u h n1 n2 => by
  have := a b u h n1 n2
  rw [upd_ne (ne_of_none this n)]; exact this
theorem Keep.atp {p q : Addr} {o : HO} {H H1 : Hp} (a : Keep p q H H1) : Keep p q H (upd H1 p o) := fun b u h n1 n2 => by
  rw [upd_ne n1]; exact a b u h n1 n2
theorem Keep.atq {p q : Addr} {o : HO} {H H1 : Hp} (a : Keep p q H H1) : Keep p q H (upd H1 q o) := fun b u h n1 n2 => by
  rw [upd_ne n2]; exact a b u h n1 n2
/-- a change at an object that H did not have -/
theorem Keep.mut {p q x : Addr} {o : HO} {H H1 : Hp} (a : Keep p q H H1) (n : H x = none) : Keep p q H (upd H1 x o) := fun b u h n1 n2 => by
  rw [upd_ne (ne_of_none h n)]; exact a b u h n1 n2
theorem Keep.of {p q : Addr} {H H1 : Hp} (a : ∀ b o, H b = some o → H1 b = some o) : Keep p q H H1 := fun b u h _ _ => a b u h
theorem Keep.free {p q x : Addr} {H H1 : Hp} (a : Keep p q H H1) (n1 : x ≠ p) (n2 : x ≠ q) (h : H1 x = none) : H x = none := by
  cases e : H x with
  | none => rfl
  | some o =>
    rw [a x o e n1 n2] at h
    cases h
theorem same_upd {H : Hp} {p : Addr} {o : HO} (h : H p = none) : Same H (upd H p o) := fun b x e => by
  rw [upd_ne (ne_of_none e h)]
  exact e
/-- a change at an object that H did not have -/
theorem _root_.L2.Same.mutN {H H1 : Hp} {x : Addr} {o : HO} (a : Same H H1) (n : H x = none) : Same H (upd H1 x o) := fun b u h => by
  rw [upd_ne (ne_of_none h n)]; exact a b u h
theorem seq_get {K : PySem.W.Frag} {H H' : Hp} {a : Addr} {xs : List V} (k : ∀ o, H a = some o → H' a = some o) (h : SqL K H a xs) : SqL K H' a xs := by
  rcases h with h | h
  · rcases h with h | ⟨o, h⟩
    · exact .inl (.inl (k _ h))
    · exact .inl (.inr ⟨o, k _ h⟩)
  · exact .inr h
theorem seqT_get {K : PySem.W.Frag} {H H' : Hp} {a : Addr} {xs : List V} (k : ∀ o, H a = some o → H' a = some o) (h : SqT K H a xs) : SqT K H' a xs := by
  rcases h with h | h
  · rcases h with h | ⟨o, h⟩
    · exact .inl (.inl (k _ h))
    · exact .inl (.inr ⟨o, k _ h⟩)
  · exact .inr h
theorem _root_.L2.Same.seqT {K : PySem.W.Frag} {H H' : Hp} {a : Addr} {xs : List V} (e : Same H H') (h : SqT K H a xs) : SqT K H' a xs := seqT_get (e a) h
theorem lenI {ns : List Int} {n : Nat} (h : ns.length ≤ n) (hn : n ≤ 16777216) : (ns.map V.int).length ≤ sizeLine := by
  rw [List.length_map, sizeLine_eq]; omega
theorem getI {ns : List Int} {i : Nat} {y : V} (h : (ns.map V.int)[i]? = some y) : ∃ n, y = .int n ∧ ns[i]? = some n := by
  rw [List.getElem?_map] at h
  cases e : ns[i]? with
  | none => rw [e] at h; cases h
  | some n => rw [e] at h; exact ⟨n, (Option.some.inj h).symm, rfl⟩
/-! ### the draws' state: p the list of three, q the list of the further cells -/
def Pool (H : Hp) (p q : Addr) : Prop := ∃ (a b : Int) (cs : List Int), H p = some (.lst [.int a, .int b, .ref q]) ∧ H q = some (.lst (cs.map V.int)) ∧ p ≠ q ∧ 0 ≤ a ∧ 0 ≤ b ∧ b < 4294967296 ∧ cs.length ≤ 63
theorem Pool.same {H H' : Hp} {p q : Addr} (h : Pool H p q) (s : ∀ b o, H b = some o → H' b = some o) : Pool H' p q := by
  obtain ⟨a, b, cs, h1, h2, r⟩ := h
  exact ⟨a, b, cs, s _ _ h1, s _ _ h2, r⟩
theorem Pool.new {H : Hp} {p q x : Addr} {o : HO} (h : Pool H p q) (n : H x = none) : Pool (upd H x o) p q := h.same fun b u e => by
  rw [upd_ne (ne_of_none e n)]; exact e
theorem Pool.nep {H : Hp} {p q x : Addr} (h : Pool H p q) (n : H x = none) : x ≠ p := by
  obtain ⟨_, _, _, h1, _⟩ := h
  exact (ne_of_none h1 n).symm
theorem Pool.neq {H : Hp} {p q x : Addr} (h : Pool H p q) (n : H x = none) : x ≠ q := by
  obtain ⟨_, _, _, _, h2, _⟩ := h
  exact (ne_of_none h2 n).symm
theorem Pool.mut {H : Hp} {p q x : Addr} {o : HO} (h : Pool H p q) (n1 : x ≠ p) (n2 : x ≠ q) : Pool (upd H x o) p q := by
  obtain ⟨a, b, cs, h1, h2, r⟩ := h
  exact ⟨a, b, cs, by rw [upd_ne n1.symm]; exact h1, by rw [upd_ne n2.symm]; exact h2, r⟩
def spDraw : Sp := fun vs H Q _ => ∃ (p q : Addr) (m : Int), vs = [.ref p, .int m] ∧ Pool H p q ∧ 1 ≤ m ∧ m < 1073741824 ∧
  ∀ (H' : Hp) (r : Int), Keep p q H H' → Pool H' p q → 0 ≤ r → r < m → Q (.int r) H'
/-- a def of the top: where it stands, what it promises -/
structure Cal (P : Program) (w : World) (K : PySem.W.Frag) (mg : Str → Option Value) (base : Heap) (k : Nat) (x : Str) (ps : List Str) (sp : Sp) : Prop where
  ex : ∃ (f : Addr) (fd : FuncData), FnOk P w K mg base CX0 k f fd ps sp ∧ mg x = some (.ref f) ∧ PySem.W.keepIn K (.ref f) = true ∧ Binds K fd ps []
section
variable {X : Cx} {k n : Nat} {x : Str} {ps : List Str} {sp : Sp} {p pos : Pos} {e : Expr} {es : List Expr} {t : TA}
theorem pe_cal (C : Cal X.prog X.w X.K X.mg X.base k x ps sp) (hr : Room n X.A) (ha : PA X (e :: es) t) (hle : k ≤ n := by decide) (hg : Gl X x := by rfl) (hdb : (x == ("__debug__" : Str)) = false := by decide)
    (he : starEach (e :: es) X.env = (false, eval e X.env) :: starEach es X.env := by rfl) (hpl : (backTo pos (starEach es X.env)).any (·.1) = false := by rfl) :
    PE X (.Call (.Name x p) (e :: es) [] pos) (tCall sp [] (fun _ _ _ => False) t) := by
  obtain ⟨f, fd, F, hm, hk, hb⟩ := C.ex
  exact pe_call F (hr.mono hle) hg hm hk hb .nil pass0 ha hdb he hpl
end
/-- the built-ins that no name of the module hides -/
structure Nms (mg : Str → Option Value) : Prop where
  len : mg "len" = none
  intN : mg "int" = none
  boolN : mg "bool" = none
  listN : mg "list" = none
  tupleN : mg "tuple" = none
  rangeN : mg "range" = none
  isinstanceN : mg "isinstance" = none
  enumerateN : mg "enumerate" = none
  zipN : mg "zip" = none
  sumN : mg "sum" = none
  maxN : mg "max" = none
  minN : mg "min" = none
  sortedN : mg "sorted" = none
/-! ### data of any kind: its type -/
def tyD : PyData → String
  | .none => "NoneType"
  | .bool _ => "bool"
  | .int _ => "int"
  | .str _ => "str"
  | .list _ => "list"
  | .tuple _ => "tuple"
  | .dict _ => "dict"
theorem sqL_ty {K : PySem.W.Frag} {H : Hp} {a : Addr} {xs : List V} (h : SqL K H a xs) : TyX K H (.ref a) (.type "list") := by
  rcases h with (h | ⟨o, h⟩) | ⟨o, its, n, hk, hc, _⟩
  · exact .base (.lst h)
  · exact .base (.frz h)
  · exact .kList hk hc
theorem sqT_ty {K : PySem.W.Frag} {H : Hp} {a : Addr} {xs : List V} (h : SqT K H a xs) : TyX K H (.ref a) (.type "tuple") := by
  rcases h with (h | ⟨o, h⟩) | ⟨o, its, n, hk, hc, _⟩
  · exact .base (.tup h)
  · exact .fTuple h
  · exact .kTuple hk hc
theorem dp_ty {K : PySem.W.Frag} {H : Hp} {v : V} {d : PyData} (h : Dp K H v d) : TyX K H v (.type (tyD d)) := by
  cases h with
  | non => exact .base .non
  | bl b => exact .base (.bl b)
  | int i => exact .base (.int i)
  | str x => exact .base (.str x)
  | lst h _ => exact sqL_ty h
  | tup h _ => exact sqT_ty h
def isBl : PyData → Bool
  | .bool _ => true
  | _ => false
def isIn : PyData → Bool
  | .bool _ => true
  | .int _ => true
  | _ => false
def isTu : PyData → Bool
  | .tuple _ => true
  | _ => false
theorem kit_int {K : PySem.W.Frag} (d : PyData) : PySem.W.kitOne K (.type (tyD d)) (.type "int") = some (isIn d) := by
  cases d <;> first | exact kit_ty (show kitB "NoneType" "int" = some false by decide +kernel) | exact kit_ty (show kitB "bool" "int" = some true by decide +kernel) | exact kit_ty (show kitB "int" "int" = some true by decide +kernel) | exact kit_ty (show kitB "str" "int" = some false by decide +kernel) | exact kit_ty (show kitB "list" "int" = some false by decide +kernel) | exact kit_ty (show kitB "tuple" "int" = some false by decide +kernel) | exact kit_ty (show kitB "dict" "int" = some false by decide +kernel)
theorem kit_bool {K : PySem.W.Frag} (d : PyData) : PySem.W.kitOne K (.type (tyD d)) (.type "bool") = some (isBl d) := by
  cases d <;> first | exact kit_ty (show kitB "NoneType" "bool" = some false by decide +kernel) | exact kit_ty (show kitB "bool" "bool" = some true by decide +kernel) | exact kit_ty (show kitB "int" "bool" = some false by decide +kernel) | exact kit_ty (show kitB "str" "bool" = some false by decide +kernel) | exact kit_ty (show kitB "list" "bool" = some false by decide +kernel) | exact kit_ty (show kitB "tuple" "bool" = some false by decide +kernel) | exact kit_ty (show kitB "dict" "bool" = some false by decide +kernel)
theorem kit_tuple {K : PySem.W.Frag} (d : PyData) : PySem.W.kitOne K (.type (tyD d)) (.type "tuple") = some (isTu d) := by
  cases d <;> first | exact kit_ty (show kitB "NoneType" "tuple" = some false by decide +kernel) | exact kit_ty (show kitB "bool" "tuple" = some false by decide +kernel) | exact kit_ty (show kitB "int" "tuple" = some false by decide +kernel) | exact kit_ty (show kitB "str" "tuple" = some false by decide +kernel) | exact kit_ty (show kitB "list" "tuple" = some false by decide +kernel) | exact kit_ty (show kitB "tuple" "tuple" = some true by decide +kernel) | exact kit_ty (show kitB "dict" "tuple" = some false by decide +kernel)
/-- low <= thing <= high, of a number that is no truth value -/
def inD (lo hi : Int) : PyData → Bool
  | .int i => decide (lo ≤ i) && decide (i ≤ hi)
  | _ => false
mutual
theorem dp_mono {K : PySem.W.Frag} {H H' : Hp} (k : ∀ a o, H a = some o → H' a = some o) : ∀ (d : PyData) (v : V), Dp K H v d → Dp K H' v d
  | .none, _, h => by cases h; exact .non
  | .bool b, _, h => by cases h; exact .bl b
  | .int i, _, h => by cases h; exact .int i
  | .str x, _, h => by cases h; exact .str x
  | .list ds, _, h => by
    cases h with
    | lst hs ha => exact .lst (seq_get (k _) hs) (dpAll_mono k ds _ ha)
  | .tuple ds, _, h => by
    cases h with
    | tup hs ha => exact .tup (seqT_get (k _) hs) (dpAll_mono k ds _ ha)
  | .dict _, _, h => by cases h
theorem dpAll_mono {K : PySem.W.Frag} {H H' : Hp} (k : ∀ a o, H a = some o → H' a = some o) : ∀ (ds : List PyData) (vs : List V), DpAll K H vs ds → DpAll K H' vs ds
  | [], _, h => by cases h; exact .nil
  | d :: ds, _, h => by
    cases h with
    | cons h1 h2 => exact .cons (dp_mono k d _ h1) (dpAll_mono k ds _ h2)
end
theorem dpAll_len {K : PySem.W.Frag} {H : Hp} : ∀ {vs : List V} {ds : List PyData}, DpAll K H vs ds → vs.length = ds.length
  | _, _, .nil => rfl
  | _, _, .cons _ h => by rw [List.length_cons, List.length_cons, dpAll_len h]
theorem dpAll_get {K : PySem.W.Frag} {H : Hp} : ∀ {vs : List V} {ds : List PyData} {i : Nat} {x : V}, DpAll K H vs ds → vs[i]? = some x → ∃ d, ds[i]? = some d ∧ Dp K H x d
  | _, _, i, x, .nil, e => by simp at e
  | _, _, 0, x, .cons h _, e => by simp at e; subst e; exact ⟨_, rfl, h⟩
  | _, _, i + 1, x, .cons _ h, e => by
    obtain ⟨d, h1, h2⟩ := dpAll_get (i := i) (x := x) h (by simpa using e)
    exact ⟨d, by simpa using h1, h2⟩
theorem dpAll_pi {K : PySem.W.Frag} {H : Hp} : ∀ {vs : List V} {ns : List Int}, DpAll K H vs (pi ns) → vs = ns.map V.int
  | [], [], _ => rfl
  | _ :: _, [], h => by cases h
  | [], _ :: _, h => by cases h
  | v :: vs, n :: ns, h => by
    cases h with
    | cons h1 h2 =>
      cases h1
      rw [dpAll_pi h2]; rfl
/-- the class of the program's own error x -/
def ecOf (mg : Str → Option Value) (x : Str) : Addr := match mg x with
  | some (.ref a) => a
  | _ => 0
theorem ecOf_eq {mg : Str → Option Value} {x : Str} {a : Addr} (h : mg x = some (.ref a)) : ecOf mg x = a := by
  unfold ecOf
  rw [h]
/-! ### rows -/
def IsRow (ns : List Int) : Prop := ns.Nodup ∧ (∀ x ∈ ns, 0 ≤ x ∧ x < ns.length) ∧ ns.length ≤ 400
/-- the first j items are different wagons of a row of n -/
def RowPre (n j : Nat) (ds : List PyData) : Prop := ∃ ns : List Int, ds.take j = pi ns ∧ ns.length = j ∧ ns.Nodup ∧ ∀ x ∈ ns, 0 ≤ x ∧ x < (n : Int)
/-- what made_row finds wrong -/
def RowBad (d : PyData) (i : Int) : Prop := (i = -1 ∧ ∀ ds, d = .tuple ds → 400 < ds.length) ∨
  ∃ (ds : List PyData) (j : Nat), d = .tuple ds ∧ ds.length ≤ 400 ∧ i = (j : Int) ∧ j < ds.length ∧ RowPre ds.length j ds ∧ ¬ RowPre ds.length (j + 1) ds
theorem pi_len (ns : List Int) : (pi ns).length = ns.length := List.length_map ..
theorem pi_inj : ∀ {ns ms : List Int}, pi ns = pi ms → ns = ms
  | [], [], _ => rfl
  | [], _ :: _, h => by cases h
  | _ :: _, [], h => by cases h
  | n :: ns, m :: ms, h => by
    have h' : PyData.int n :: pi ns = PyData.int m :: pi ms := h
    injection h' with h1 h2
    injection h1 with h1
    rw [h1, pi_inj h2]
theorem isRow_pre {ns : List Int} (h : IsRow ns) {j : Nat} (hj : j ≤ ns.length) : RowPre ns.length j (pi ns) := by
  refine ⟨ns.take j, ?_, by rw [List.length_take]; omega, h.1.sublist (List.take_sublist ..), fun x hx => h.2.1 x (List.mem_of_mem_take hx)⟩
  unfold pi
  rw [List.map_take]
theorem isRow_notBad {ns : List Int} (h : IsRow ns) {i : Int} (b : RowBad (.tuple (pi ns)) i) : False := by
  rcases b with ⟨_, b⟩ | ⟨ds, j, e, hl, _, hj, _, b⟩
  · have z := b _ rfl
    rw [pi_len] at z
    have := h.2.2
    omega
  · injection e with e
    subst e
    rw [pi_len] at hj b
    exact b (isRow_pre h hj)
theorem rowPre_all {ds : List PyData} (hl : ds.length ≤ 400) (h : RowPre ds.length ds.length ds) : ∃ ns, ds = pi ns ∧ IsRow ns := by
  obtain ⟨ns, e, hn, nd, hb⟩ := h
  rw [List.take_length] at e
  exact ⟨ns, e, nd, fun x hx => by rw [hn]; exact hb x hx, by omega⟩
end Tw

set_option maxHeartbeats 4000000
namespace Tw
open PySem PySem.Spec PyProof.Rows L2
/-! ### enumerate(t), t a tuple -/
set_option maxHeartbeats 4000000 in
theorem meetsEnumB {v : Value} {ob : Obj} {Hh : Heap → Prop} (Bg : Begins v ob Hh) : Meets (Builtin.«enumerate.__new__» ⟨[.type "enumerate", v], []⟩) (fun _ Rr st => Hh st.heap ∧
      Rr (.ok (.ret (.ref (st.heap.push ob).objs.size))) { st with heap := (st.heap.push ob).push { cls := .type "enumerate", data := .fields #[.none, .bool false, .ref st.heap.objs.size, rawInt 0, .none, .none] } }) :=
  .of_wp fun pr wo Ar Rr st hyp => by
    obtain ⟨hp, g, d, tk, os⟩ := st; obtain ⟨hh1, hyp⟩ := hyp
    have hsubE := sub_enumerate
    have itq : ∀ {Aq : Around} {Eq : Value → Shared → Prop} {Qq : Value → Shared → Prop}, Qq (.ref hp.objs.size) ⟨hp.push ob, g, d, tk, os⟩ → wpAny (model pr wo) Aq (pyIter v) Qq Eq ⟨hp, g, d, tk, os⟩ := fun z => Bg.iter pr wo _ _ ⟨hp, g, d, tk, os⟩ _ hh1 z
    wp_walk using itq
    refine wpAny_stack_any fun stk => wpAny_pure ?_
    split
    · rename_i cc _ _ _ _ _
      cases (cc == Value.type "enumerate") <;> (wp_walk using itq; exact ⟨_, rfl, hyp⟩)
    · wp_walk using itq; exact ⟨_, rfl, hyp⟩
section
variable {prog : Program} {w : World} {A : Around} {E : Value → Shared → Prop} {s : Shared}
theorem callEnumT {a : Addr} {items : Array Value} {Q : Value → Shared → Prop} (ht : s.heap.IsTuple a items)
    (h : ∀ h', IsEnum h' (s.heap.objs.size + 1) s.heap.objs.size 0 .none → h'.IsTupleIter s.heap.objs.size a 0 → (∀ b o, s.heap.get? b = some o → h'.get? b = some o) → Q (.ref (s.heap.objs.size + 1)) { s with heap := h' }) :
    wpAny (model prog w) A (call (.type "enumerate") [.ref a]) Q E s := by
  refine callType_new F.called_enumerate (by decide) (F.typeCall_enumerate_1 _) (F.newCall_enumerate_1 _) (fun obj => F.args_object_init_2 obj _) F.entry_enumerate_new (meetsEnumB (begins_tuple a items)) ⟨ht, ?_⟩
  have hz : (s.heap.push { cls := .type "tuple_iterator", data := .fields #[.ref a, .int 0 0] }).objs.size = s.heap.objs.size + 1 := Heap.size_push ..
  show _ ∧ _
  rw [hz]
  have he : IsEnum ((s.heap.push { cls := .type "tuple_iterator", data := .fields #[.ref a, .int 0 0] }).push { cls := .type "enumerate", data := .fields #[.none, .bool false, .ref s.heap.objs.size, rawInt 0, .none, .none] }) (s.heap.objs.size + 1) s.heap.objs.size 0 .none := by
    have q := Heap.get?_push_size (s.heap.push { cls := .type "tuple_iterator", data := .fields #[.ref a, .int 0 0] }) (o := { cls := .type "enumerate", data := .fields #[.none, .bool false, .ref s.heap.objs.size, rawInt 0, .none, .none] }) rfl
    rw [hz] at q; exact q
  exact ⟨⟨_, he, rfl⟩, h _ he ⟨_, Heap.get?_push_of_some _ (Heap.get?_push_size _ rfl), rfl, rfl⟩ fun b o y => Heap.get?_push_of_some _ (Heap.get?_push_of_some _ y)⟩
end
section
variable {prog : Program} {w : World} {A : Around} {E : Value → Shared → Prop} {s : Shared}
theorem wpAny_pyNext_enum_end_tup {e it a : Addr} {i : Nat} {items : Array Value} {old : Value} {Q : Option Value → Shared → Prop} (hh : A.handled = none) (he : IsEnum s.heap e it i old) (hit : s.heap.IsTupleIter it a i) (ht : s.heap.IsTuple a items) (hx : items.size ≤ i)
    (hQ : ∀ h', Heap.ExtBut it s.heap h' → Q none { s with heap := h' }) : wpAny (model prog w) A (pyNext (.ref e)) Q E s := by
  let D : Draws prog w A.in1 it [it, a] i (fun _ _ => False) (fun n h => n = i ∧ h.IsTupleIter it a i ∧ h.IsTuple a items) :=
    { live := fun _ _ st => let ⟨o, ho, _⟩ := st.2.1; ⟨o, ho⟩
      frame := fun _ _ _ st hk => ⟨st.1, st.2.1.at fun o z => hk it (by simp) o z, st.2.2.at fun o z => hk a (by simp) o z⟩
      item := fun j s Q E hj st _ => absurd st.1 (Nat.ne_of_lt hj)
      done := fun s Q E st hE => wpAny_nextOf_tuple_end hh st.2.1 st.2.2 (by simpa using hx) hE }
  exact wpAny_pyNext_enum_endD D he ⟨rfl, hit, ht⟩ hQ
end
/-- the tuple at a, each item in a new pair with its place -/
def IteT (K : PySem.W.Frag) (a : Addr) : It :=
  ⟨fun i H => ∃ (xs : List V) (x : V), SqT K H a xs ∧ xs[i]? = some x, fun i H v H' => ∃ T x, v = .ref T ∧ H T = none ∧ H' = upd H T (.tup [.int (i : Nat), x]) ∧ ∀ xs, SqT K H a xs → xs[i]? = some x, fun i H => ∃ xs : List V, SqT K H a xs ∧ xs.length ≤ i⟩
theorem turnEnumT {P : Program} {w : World} {K : PySem.W.Frag} {elts : List Expr} {kk : Nat} {tpos : Pos} (a e it : Addr) :
    Turn P w K (.Tuple elts kk tpos) (IteT K a) [e, it] e (fun i h => (∃ old, IsEnum h e it ((i : Nat) : Int) old) ∧ h.IsTupleIter it a i ∧ e ≠ it ∧ a ≠ it ∧ e ≠ a) where
  mem := List.mem_cons_self
  obj := fun i h st b hb => by
    obtain ⟨⟨old, he⟩, ⟨o, ho, hc, hd⟩, _⟩ := st
    rcases List.mem_cons.mp hb with z | z
    · subst z; exact ⟨_, he, fun v q => nomatch q⟩
    · have z' := List.mem_singleton.mp z
      subst z'; exact ⟨o, ho, fun v q => by rw [hd] at q; cases q⟩
  keep := fun i h h' st kp => by
    obtain ⟨⟨old, he⟩, hi, r⟩ := st
    exact ⟨⟨old, kp e List.mem_cons_self _ he⟩, hi.at fun o z => kp it (List.mem_cons_of_mem _ List.mem_cons_self) o z, r⟩
  item := by
    intro X hP hw hK hc i pins s σ H E I hf st hg
    subst hP hw hK
    obtain ⟨⟨old, he⟩, hit, hne, hat, hea⟩ := st
    obtain ⟨xs, x, hq, hx⟩ := hg
    obtain ⟨its, rv, pt, hz⟩ := I.tuple hq
    obtain ⟨u, hu, ru⟩ := rv.get hx
    have lte : e < s.heap.objs.size := Heap.lt_size he
    have lti : it < s.heap.objs.size := by
      obtain ⟨_, z, _⟩ := hit
      exact Heap.lt_size z
    have hlt : i < its.toArray.size := by
      have z := (List.getElem?_eq_some_iff.mp hu).1
      simpa using z
    refine wpAny_pyNext_enum_itemC (Draws.tuple (A := X.A.in1) (I.ok.hd hc) it a hat its.toArray) he ⟨hit, pt⟩ hlt hne ?_ fun x1 h1 tk1 hx1 out1 st1 new1 sz1 kp1 => ?_
    · intro z
      rcases List.mem_cons.mp z with z | z
      · exact hne z
      · exact hea (List.mem_singleton.mp z)
    have ex : x1 = u := by
      have z : its[i]? = some x1 := by simpa using hx1
      rw [hu] at z
      exact (Option.some.inj z).symm
    subst ex
    refine ⟨_, rfl, wpAny_letOwnedTupleGo_enum (s := { s with heap := h1, toks := tk1 + 1 }) out1 fun h2 he2 sb => ?_⟩
    have new2 : h2.get? s.heap.objs.size = some { cls := .type "tuple", data := .seq #[.int i tk1, x1] } := (sb.2 _ (Nat.ne_of_gt lte)).trans new1
    have okT : ObjOk X.prog X.w (upd H s.heap.objs.size (.tup [.int (i : Nat), x])) h2 s.heap.objs.size (.tup [.int (i : Nat), x]) := ⟨by show 2 ≤ sizeLine; decide, [.int i tk1, x1], .cons ⟨_, rfl⟩ (.cons ru .nil), ⟨_, new2, rfl, _, rfl⟩⟩
    have ne_of_mem : ∀ {b : Addr}, b ∉ [e, it] → b ≠ e ∧ b ≠ it := fun {b} hb => ⟨fun z => hb (by rw [z]; exact List.mem_cons_self), fun z => hb (by rw [z]; exact List.mem_cons_of_mem _ List.mem_cons_self)⟩
    have I1 : Inv X pins σ (upd H s.heap.objs.size (.tup [.int (i : Nat), x])) { s with heap := h2, toks := tk1 + 1 } :=
      I.turnedNew (ch := [e, it]) (fun b ob hb z => (sb.2 b (ne_of_mem hb).1).trans (kp1 b ob (ne_of_mem hb).1 (ne_of_mem hb).2 z)) hf (Nat.le_refl _) okT
    refine ⟨.ref s.heap.objs.size, _, I1, rfl, ⟨_, x, rfl, I.hok.fresh (Nat.le_refl _), rfl, fun ys hy => by rw [I.tuple_inj hy hq]; exact hx⟩, ⟨⟨x1, ?_⟩, st1.1.at fun o z => (sb.2 it (Ne.symm hne)).trans z, hne, hat, hea⟩, fun b hb => ?_⟩
    · rw [show ((i + 1 : Nat) : Int) = (i : Int) + 1 by omega]; exact he2
    · have ltb : b < s.heap.objs.size := by
        rcases List.mem_cons.mp hb with z | z
        · rw [z]; exact lte
        · rw [List.mem_singleton.mp z]; exact lti
      rw [upd_ne (Nat.ne_of_lt ltb)]; exact (hf b hb).1
  done := by
    intro X hP hw hK hc i pins s σ H E I hf st hg
    subst hP hw hK
    obtain ⟨⟨old, he⟩, hit, hne, hat, hea⟩ := st
    obtain ⟨xs, hq, hx⟩ := hg
    obtain ⟨its, rv, pt, hz⟩ := I.tuple hq
    have hl := rv.length
    have f1 := hf it (List.mem_cons_of_mem _ List.mem_cons_self)
    obtain ⟨g0, g1, g2, g3, g4, g5⟩ := f1
    exact wpAny_pyNext_enum_end_tup (I.ok.hd hc) he hit pt (by simp; omega) fun h' eb => ⟨rfl, I.turned (t' := s.toks) (fun b o hb z => eb b o hb z) g0 g1 g3 g4 g5⟩
  self := fun A i s Q E st h => let ⟨⟨_, he⟩, _⟩ := st; wpAny_pyIter_enum he h
def iEnumT (K : PySem.W.Frag) (ta : TA) : TI := fun σ H R => ta σ H fun vs H1 => ∃ a xs, vs = [.ref a] ∧ SqT K H1 a xs ∧ R (IteT K a) H1
theorem pi_enumT {X : Cx} {e : Expr} {ta : TA} {p pos tpos : Pos} {elts : List Expr} {kk : Nat} (hg : Gl X "enumerate") (hm : X.mg "enumerate" = none) (ha : PA X [e] ta) (hs : starEach [e] X.env = [(false, eval e X.env)] := by rfl) :
    PI X (.Tuple elts kk tpos) (.Call (.Name "enumerate" p) [e] [] pos) (iEnumT X.K ta) := by
  refine ⟨fun pins s σ H R I h => ?_⟩
  refine Call_ (ld_blt I hg hm boot_enumerate (PyProof.Rows.callWith_type1 (thn (ha.run pos pins s σ H _ I h) fun us s1 ⟨vs, H1, I1, r1, q1⟩ => ?_) hs rfl))
  obtain ⟨a, xs, ex, hq, q⟩ := q1
  subst ex
  cases r1 with
  | cons r rr =>
    cases rr; cases r
    obtain ⟨its, rv, pt, hz⟩ := I1.tuple hq
    have lta : a < s1.heap.objs.size := by
      obtain ⟨_, z, _⟩ := pt
      exact Heap.lt_size z
    refine callEnumT (show s1.heap.IsTuple a its.toArray from pt) fun h' he hit kp => wpAny_pyIter_enum he ?_
    have I2 : Inv X pins σ H1 { s1 with heap := h' } := I1.kept (t' := s1.toks) kp
    refine ⟨s1.heap.objs.size + 1, [s1.heap.objs.size + 1, s1.heap.objs.size], _, _, H1, rfl, I2, turnEnumT a (s1.heap.objs.size + 1) s1.heap.objs.size, ⟨⟨.none, he⟩, hit, Nat.succ_ne_self _, Nat.ne_of_lt lta, Nat.ne_of_gt (Nat.lt_succ_of_lt lta)⟩, fun b hb => ?_, q⟩
    have le : s1.heap.objs.size ≤ b := by
      rcases List.mem_cons.mp hb with z | z
      · rw [z]; exact Nat.le_succ _
      · rw [List.mem_singleton.mp z]; exact Nat.le_refl _
    exact I1.fpOk le (I1.hok.fresh le)
/-- the walk -/
theorem walk_enumT {K : PySem.W.Frag} {a : Addr} {xs : List V} : Walk (IteT K a) xs.length (fun H => SqT K H a xs) (fun i H v H' => ∃ T x, v = .ref T ∧ H T = none ∧ H' = upd H T (.tup [.int (i : Nat), x]) ∧ xs[i]? = some x) where
  goes := fun i H hi h => ⟨xs, xs[i], h, List.getElem?_eq_getElem hi⟩
  stops := fun H h => ⟨xs, h, Nat.le_refl _⟩
  yields := fun i H x H' hi h y => by
    obtain ⟨T, z, e1, e2, e3, e4⟩ := y
    exact ⟨T, z, e1, e2, e3, e4 xs h⟩
end Tw

set_option maxHeartbeats 4000000
namespace Tw
open PySem PySem.Spec PyProof.Rows L2
/-! ### max of a tuple of ints, with default= and without -/
theorem alike_ints (ns : List Int) : PySem.W.AlikeAll (pi ns) := by
  refine ⟨fun x hx y hy => ?_, fun x hx => ?_⟩
  · obtain ⟨i, _, rfl⟩ := List.mem_map.mp hx
    obtain ⟨j, _, rfl⟩ := List.mem_map.mp hy
    rfl
  · obtain ⟨i, _, rfl⟩ := List.mem_map.mp hx
    intro z; cases z
theorem foldmax : ∀ (ns : List Int) (n : Int), (ns.foldl max n ∈ n :: ns) ∧ ∀ y ∈ n :: ns, y ≤ ns.foldl max n
  | [], n => ⟨List.mem_cons_self, fun y hy => by
    rcases List.mem_cons.mp hy with h | h
    · rw [h]; exact Int.le_refl _
    · cases h⟩
  | m :: ms, n => by
    obtain ⟨h1, h2⟩ := foldmax ms (max n m)
    show (ms.foldl max (max n m) ∈ n :: m :: ms) ∧ ∀ y ∈ n :: m :: ms, y ≤ ms.foldl max (max n m)
    have h3 := h2 (max n m) List.mem_cons_self
    refine ⟨?_, fun y hy => ?_⟩
    · rcases List.mem_cons.mp h1 with h | h
      · rw [h]
        by_cases c : n ≤ m
        · rw [Int.max_eq_right c]; exact List.mem_cons_of_mem _ List.mem_cons_self
        · rw [Int.max_eq_left (by omega)]; exact List.mem_cons_self
      · exact List.mem_cons_of_mem _ (List.mem_cons_of_mem _ h)
    · rcases List.mem_cons.mp hy with h | h
      · rw [h]; omega
      · rcases List.mem_cons.mp h with h | h
        · rw [h]; omega
        · exact h2 y (List.mem_cons_of_mem _ h)
theorem maxD_pi (n : Int) (ns : List Int) : ∃ m, PySem.W.maxD (.int n) (pi ns) = .int m ∧ m ∈ n :: ns ∧ ∀ y ∈ n :: ns, y ≤ m :=
  ⟨_, PySem.W.maxD_ints n ns, foldmax ns n⟩
section
variable {X : Cx}
def rMaxT (K : PySem.W.Frag) : List V → Hp → VK → Prop := fun vs H Q => ∃ (a : Addr) (ns : List Int), vs = [V.ref a] ∧ SqT K H a (ns.map V.int) ∧ 0 < ns.length ∧ ∀ m, m ∈ ns → (∀ y, y ∈ ns → y ≤ m) → Q (.int m) H
theorem cr_maxT (hc : X.calm = true) (hu : X.A.units + 64 < cLine) : CallR X (.builtin "max") (rMaxT X.K) := by
  intro pins s σ H vs us Q I r h
  obtain ⟨a, ns, rfl, hs, hne, q⟩ := h
  obtain ⟨its, rv, hl, _⟩ := I.tuple hs
  rw [Vals.ref1 r]
  obtain ⟨as, hr⟩ := Dp.readsAll I (pi ns) _ its (dpAll_ints ns) rv
  cases ns with
  | nil => exact absurd hne (Nat.lt_irrefl 0)
  | cons n ns =>
    obtain ⟨m, e1, e2, e3⟩ := maxD_pi n ns
    refine PySem.W.max_tuple_data (x := .int n) (xs := pi ns) (I.ok.hd hc) (show s.heap.IsTuple a its.toArray from hl) (show ReadsAll s.heap its.toArray.toList (pi (n :: ns)) as by simpa using hr) (alike_ints (n :: ns)) (by
      have z := depth_ints (n :: ns)
      show X.A.units + 1 + PyData.depthAll (pi (n :: ns)) < cLine
      omega) fun i v h' tk bs _ rd kp => ?_
    rw [e1] at rd
    cases rd with
    | int i t => exact ⟨.int m, H, I.kept (t' := tk) kp, ⟨_, rfl⟩, q m e2 e3⟩
def rMaxTD (K : PySem.W.Frag) : List V → List V → Hp → VK → Prop := fun vs zs H Q => ∃ (a : Addr) (ns : List Int) (d : Int), vs = [V.ref a] ∧ zs = [.int d] ∧ SqT K H a (ns.map V.int) ∧ (ns = [] → Q (.int d) H) ∧ ∀ m, m ∈ ns → (∀ y, y ∈ ns → y ≤ m) → Q (.int m) H
theorem cr_maxTD (hc : X.calm = true) (hu : X.A.units + 64 < cLine) : CallRK X (.builtin "max") ["default"] (rMaxTD X.K) := by
  intro pins s σ H vs zs us ws Q I r rz h
  obtain ⟨a, ns, d, rfl, rfl, hs, q0, q⟩ := h
  obtain ⟨its, rv, hl, _⟩ := I.tuple hs
  rw [Vals.ref1 r]
  cases rz with
  | cons rd rn =>
    cases rn
    obtain ⟨t, rfl⟩ := rd
    obtain ⟨as, hr⟩ := Dp.readsAll I (pi ns) _ its (dpAll_ints ns) rv
    refine PySem.W.max_tuple_default (xs := pi ns) (I.ok.hd hc) (show s.heap.IsTuple a its.toArray from hl) (by simpa using hr) (alike_ints ns) (by
      have z := depth_ints ns
      omega) (fun e h' tk kp => ?_) fun y ys i v h' tk bs e _ rd kp => ?_
    · have e' : ns = [] := List.map_eq_nil_iff.mp e
      exact ⟨.int d, H, I.kept (t' := tk) kp, ⟨_, rfl⟩, q0 e'⟩
    · cases ns with
      | nil => cases e
      | cons n ns =>
        have e' : PyData.int n :: pi ns = y :: ys := e
        injection e' with e1 e2
        subst e1 e2
        obtain ⟨m, e1, e2, e3⟩ := maxD_pi n ns
        rw [e1] at rd
        cases rd with
        | int i t => exact ⟨.int m, H, I.kept (t' := tk) kp, ⟨_, rfl⟩, q m e2 e3⟩
end
end Tw

set_option maxHeartbeats 4000000
namespace Tw
open PySem PySem.Spec PyProof.Rows L2
open PySem.W PySem.Calls Builtin Builtin.ObjectAttr Builtin.Getset_descriptor
/-! ### self.__class__.__name__ of an own error that is being made -/
def nameIn (K : PySem.W.Frag) (C : Addr) : Option Value := (K.lookup C).bind fun o => (o.slots[2]?).join
structure KindC (K : PySem.W.Frag) (C : Addr) (nm : Str) : Prop where
  ex : ExcC K C
  rd : readsIn K C (.type "type") = true
  fc : findCls K (.ref C) (.type "type") "__name__" = some (.get (.builtin "getset_descriptor.__get__") (.builtin "type.__name__") (.ref C) (.type "type"))
  nm : ∃ tk, nameIn K C = some (.str nm tk)
section
variable {prog : Program} {w : World} {A : Around} {E : Value → Shared → Prop} {s : Shared} {K : Frag} {x C : Addr} {ox : Obj} {od : Option Obj}
theorem getattr_class {expr : Bool} {Q : Value → Shared → Prop} (X : K.In s.heap) (I : PySem.W.InstAt s.heap x ox C od) (T : ExcC K C) (h : Q (.ref C) { s with toks := s.toks + 1 }) : wpAny (model prog w) A (getAttr (.ref x) "__class__" expr) Q E s := by
  have hcl : (clsIn K C).isSome = true := by obtain ⟨cd, hc, _⟩ := any_some T.hd; rw [hc]; rfl
  have hf : findObj K C od "__class__" = some (.bind (.builtin "getset_descriptor.__get__") (.builtin "object.__class__")) := findObj_dataE hcl T.ha T.hn T.ht
  obtain ⟨hp, g, d, t, os⟩ := s
  have L0 := I.type (M := model prog w)
  have L1 := looks_findIn (M := model prog w) X T.hg
  have L2 := looks_findIn (M := model prog w) X T.hk
  have L3 := looks_find (M := model prog w) X I hf
  have sub : Looks (model prog w) hp (isInstance (.ref x) (.type "BaseException")) true := L0.andThen (looks_subIn X T.hs)
  have hx0 : (expr && onTheHeap (Value.builtin "BaseException.__getattribute__")) = false := by cases expr <;> rfl
  have hx2 : (Value.builtin "BaseException.__getattribute__" == Value.builtin "object.__getattribute__") = false := by decide +kernel
  have hx1 : (onTheHeap (Value.ref C) && Value.builtin "BaseException.__getattribute__" == Value.builtin "object.__getattribute__") = false := by rw [hx2]; rfl
  unfold getAttr getAttrBy
  refine wpAny_bind (wpAny_mkText (wpAny_holding (wpAny_bind (L0.at (wpAny_bind (L1.at ?_))))))
  show wpAny _ _ (if (onTheHeap (Value.ref C) && Value.builtin "BaseException.__getattribute__" == Value.builtin "object.__getattribute__") = true then _ else _) _ _ _
  rw [hx1, if_neg Bool.false_ne_true]
  unfold getAttrByItsOwn hookBefore
  refine wpAny_bind ?_
  rw [if_pos (show onTheHeap (Value.ref C) = true from rfl)]
  refine L2.at ?_
  refine wpAny_bind (wpAny_attempt (wpAny_holding ?_))
  unfold callGetattribute
  rw [hx0, if_neg Bool.false_ne_true]
  unfold boundAndCalled
  rw [PySem.F.excAttr_ValueError.ga.bind (.ref x)]
  refine wpAny_bind (wpAny_pure ?_)
  show wpAny _ _ (call (.builtin "BaseException.__getattribute__") [.ref x, .str "__class__" t]) _ _ _
  refine wpAny_call (codeAny_call_builtin PySem.F.excAttr_ValueError.ga.plain PySem.F.entry_bexc_ga ?_)
  refine @PySem.W.check_slot (model prog w) _ _ ⟨hp, g, d, t + 1, os⟩ "BaseException.__getattribute__" "BaseException" "__getattribute__" (.ref x) [.str "__class__" t] [] _ (by decide +kernel) (by decide +kernel) sub (PySem.F.args_bexc_ga (.ref x) (.str "__class__" t)) ?_
  unfold Builtin.«object.__getattribute__»
  refine wpAny_bind (wpAny_of_eq (a := ((Value.ref x : Value), [Value.str "__class__" t])) (by first | rfl | (simp only [slotArgs]; rfl)) ?_)
  refine wpAny_bind (wpAny_pure (wpAny_bind (L0.at (wpAny_bind (L3.at ?_)))))
  refine wpAny_bind (wpAny_holding (wpAny_call (class_get (s := ⟨hp, g, d, t + 1, os⟩) (ox := ox) (od := od) X I T.hm ?_)))
  refine wpAny_pure ?_
  show wpAny _ _ (handedOut (.ref C)) _ _ _
  rw [handedOut_of (show handedIn (.ref C) = true from rfl)]
  first | exact wpAny_pure h | exact wpAny_pure (wpAny_pure h)
theorem slot_looks {M : Model} {v : Value} (X : K.In s.heap) (e : nameIn K C = some v) : Looks M s.heap (PySem.slotAt C 2) (some v) := by
  unfold nameIn at e
  obtain ⟨o, ho, e⟩ := Option.bind_eq_some_iff.mp e
  intro A' Q' E' s' k q
  unfold PySem.slotAt
  refine wpAny_bind (wpAny_loadPart (k _ _ (X _ _ ho)) (wpAny_pure ?_))
  rw [e]
  exact q
theorem own_name_get {R : Result → Shared → Prop} {tp : Value} {nm : Str} {tk : Tok} (X : K.In s.heap) (ht : typeIn K (.ref C) = some (.type "type")) (hn : nameIn K C = some (.str nm tk)) (h : R (.ok (.ret (.str nm tk))) s) :
    codeAny (model prog w) A (.call (.builtin "getset_descriptor.__get__") ⟨[.builtin "type.__name__", .ref C, tp], []⟩) R s := by
  obtain ⟨hh, g, dr, t, os⟩ := s
  have L0 : Looks (model prog w) hh (typeOf (.ref C)) (.type "type") := looks_typeIn X ht
  have L1 : Looks (model prog w) hh (isSubtype (.type "type") (.type "type")) true := Looks.of_pure (by rw [isSubtype_type]; kernel_rfl)
  have L2 := slot_looks (M := model prog w) (s := ⟨hh, g, dr, t, os⟩) X hn
  refine codeAny_call_builtin KF.slot_gs.plain KF.entry_gs (KF.slot_gs.check _ _ _ _ _ _ _ _ ktyn_type (KF.args_gs _ _ _) ?_)
  unfold Builtin.«getset_descriptor.__get__» descrGet
  rw [dga_obj]
  refine wpAny_bind (wpAny_pure ?_)
  unfold descrGetter descrCheckInstance descrNameAndClass isInstance
  simp only [ktyn_owner]
  repeat lk
  refine ⟨Code.quiet_builtin _ (by decide +kernel), codeAny_builtin ktyn_entry ?_⟩
  unfold Builtin.«type.__name__»
  dsimp only
  unfold keptObject
  refine wpAny_bind (L2.at ?_)
  first
    | exact wpAny_pure h
    | exact wpAny_bind (wpAny_pure h)
    | exact wpAny_bind (wpAny_pure (wpAny_pure h))
theorem own_name {expr : Bool} {Q : Value → Shared → Prop} {nm : Str} {tk : Tok} (X : K.In s.heap) (hr : readsIn K C (.type "type") = true) (e : findCls K (.ref C) (.type "type") "__name__" = some (.get (.builtin "getset_descriptor.__get__") (.builtin "type.__name__") (.ref C) (.type "type")))
    (ht : typeIn K (.ref C) = some (.type "type")) (hn : nameIn K C = some (.str nm tk)) (h : Q (.str nm tk) { s with toks := s.toks + 1 }) : wpAny (model prog w) A (getAttr (.ref C) "__name__" expr) Q E s := by
  refine cls_bind X hr e ?_
  refine wpAny_call (own_name_get (s := { s with toks := s.toks + 1 }) X ht hn ?_)
  exact handed_on rfl h
end
def tKind (K : PySem.W.Frag) (to : TE) : TE := fun σ H Q => to σ H fun x H1 => ∃ (a C dx : Addr) (fs : List (Str × V)) (nm : Str), x = .ref a ∧ H1 a = some (exo a C (some dx)) ∧ H1 dx = some (exd dx fs) ∧ KindC K C nm ∧ PySem.W.typeIn K (.ref C) = some (.type "type") ∧ Q (.str nm) H1
theorem pe_kind {X : Cx} {o : Expr} {to : TE} {p1 p2 : Pos} (ho : PE X o to) (hb : attributeBase o "__class__" X.env (eval o X.env) = eval o X.env := by rfl)
    (hb2 : attributeBase (.Attribute o "__class__" p1) "__name__" X.env (eval (.Attribute o "__class__" p1) X.env) = eval (.Attribute o "__class__" p1) X.env := by rfl) :
    PE X (.Attribute (.Attribute o "__class__" p1) "__name__" p2) (tKind X.K to) := by
  refine ⟨fun pins s σ H Q I h => ?_⟩
  refine attr_of hb2 (attr_of hb (thn (ho.run pins s σ H _ I h) fun u s1 hh => ?_))
  obtain ⟨x, H1, I1, rx, a, C, dx, fs, nm, ex, ea, ed, T, ty, q⟩ := hh
  subst ex
  obtain rfl : u = Value.ref a := rx
  obtain ⟨t1, hobj⟩ := exo_at I1.hok ea
  obtain ⟨mA, hns, hr⟩ := exd_at I1.hok ed
  obtain ⟨oD, es, ep, hoD, _⟩ := id hns
  obtain ⟨tk, hn⟩ := T.nm
  have J : PySem.W.InstAt s1.heap a _ C (some oD) := ⟨hobj, rfl, rfl, hoD⟩
  refine getattr_class I1.kIn J T.ex ?_
  have I2 := I1.tok (s1.toks + 1)
  refine own_name I2.kIn T.rd T.fc ty hn ?_
  exact ⟨.str nm, H1, I2.tok _, ⟨_, rfl⟩, q⟩
end Tw
namespace Tw
open PySem PySem.Spec PyProof.Rows L2
/-! ### the program's own errors: what and kind -/
/-- the fields of such an error -/
abbrev efs (c : Str) (v : V) : List (Str × V) := [("kind", .str c), ("what", v)]
def sp_init (K : PySem.W.Frag) : Sp := fun vs H Q _ => ∃ (a C : Addr) (v : V) (c : Str), vs = [.ref a, v] ∧ OexC K C ∧ PySem.W.findIn K (.ref C) "what" = some none ∧ PySem.W.findIn K (.ref C) "kind" = some none ∧ KindC K C c ∧ H a = some (exo a C none) ∧
  ∀ dx, H dx = none → dx ≠ a → Q .non (upd (upd H dx (exd dx (efs c v))) a (exo a C (some dx)))
structure Err (P : Program) (w : World) (K : PySem.W.Frag) (mg : Str → Option Value) (base : Heap) (x : Str) (C : Addr) : Prop where
  mgC : mg x = some (.ref C)
  ox : OexC K C
  noW : PySem.W.findIn K (.ref C) "what" = some none
  noK : PySem.W.findIn K (.ref C) "kind" = some none
  kd : KindC K C x
  ini : ∃ (fI : Addr) (fd : FuncData), PySem.W.findIn K (.ref C) "__init__" = some (some (.ref fI)) ∧ PySem.W.typeIn K (.ref fI) = some (.type "function") ∧ FnOk P w K mg base CX0 1 fI fd ["self", "what"] (sp_init K) ∧ Binds K fd ["self", "what"] []
  te : PySem.W.exmOne K (.ref C) (.ref C) = some true
/-- what the making of such an error asks, behind its argument -/
theorem err_ans {K : PySem.W.Frag} {C : Addr} {c : Str} {v : V} {H1 : Hp} {Q : XK} (ox : OexC K C) (noW : PySem.W.findIn K (.ref C) "what" = some none) (noK : PySem.W.findIn K (.ref C) "kind" = some none) (kd : KindC K C c) (h : ∀ d, H1 d = none → Q (.ref C) (some d) (upd H1 d (.xd (efs c v)))) :
    [v].length ≤ 1000 ∧ ∀ a, H1 a = none → sp_init K (.ref a :: ([v] ++ [])) (upd H1 a (exo a C none))
      (fun u H2 => u = .non ∧ ∃ (d : Addr) (fs : List (Str × V)), H2 a = some (exo a C (some d)) ∧ H2 d = some (exd d fs) ∧ H1 d = none ∧ Q (.ref C) (some d) (upd (del H2 a) d (.xd fs))) (fun _ _ _ => False) := by
  refine ⟨by show 1 ≤ 1000; decide, fun a na => ⟨a, C, v, c, rfl, ox, noW, noK, kd, upd_same, fun dx n1 n2 => ⟨rfl, dx, efs c v, upd_same, ?_, ?_, ?_⟩⟩⟩
  · rw [upd_ne n2, upd_same]
  · rw [upd_ne n2] at n1
    exact n1
  · have nd : H1 dx = none := by
      rw [upd_ne n2] at n1
      exact n1
    have e : upd (del (upd (upd (upd H1 a (exo a C none)) dx (exd dx (efs c v))) a (exo a C (some dx))) a) dx (.xd (efs c v)) = upd H1 dx (.xd (efs c v)) := by
      funext b
      by_cases h1 : b = dx
      · rw [h1, upd_same, upd_same]
      · rw [upd_ne h1, upd_ne h1]
        by_cases h2 : b = a
        · rw [h2, del_same, na]
        · rw [del_ne h2, upd_ne h2, upd_ne h1, upd_ne h2]
    rw [e]
    exact h dx nd
section
variable {X : Cx} {n : Nat} {x : Str} {C : Addr} {p pos pos2 : Pos} {e : Expr} {ta : TA} {W : WX}
theorem pmk_err (R : Err X.prog X.w X.K X.mg X.base x C) (hr : Room n X.A) (ha : PA X [e] ta) (hle : 2 ≤ n := by decide) (hg : Gl X x := by rfl)
    (hdb : (x == ("__debug__" : Str)) = false := by decide) (he : starEach (e :: []) X.env = (false, eval e X.env) :: starEach [] X.env := by rfl) (hpl : (backTo pos (starEach [] X.env)).any (·.1) = false := by rfl) :
    PMk X (.Call (.Name x p) [e] [] pos) (tMkO C (sp_init X.K) [] ta) := by
  obtain ⟨fI, fd, iC, tI, F1, hb⟩ := R.ini
  exact pmk_oex (CX := CX0) R.ox iC tI F1 (hr.mono hle) hb .nil pass0 hg R.mgC ha hdb he hpl
/-- raise X(e) -/
theorem ps_err (hc : X.calm = true) (R : Err X.prog X.w X.K X.mg X.base x C) (hr : Room n X.A) (tk : Takes X W) (ha : PA X [e] ta) (hle : 2 ≤ n := by decide) (hg : Gl X x := by rfl)
    (hdb : (x == ("__debug__" : Str)) = false := by decide) (he : starEach (e :: []) X.env = (false, eval e X.env) :: starEach [] X.env := by rfl) (hpl : (backTo pos (starEach [] X.env)).any (·.1) = false := by rfl) :
    PS X (.Raise (some (.Call (.Name x p) [e] [] pos)) none pos2) (fun _ σ H => tMkO C (sp_init X.K) [] ta σ H fun cls d H' => W cls d σ H') := ps_raise hc tk (pmk_err R hr ha hle hg hdb he hpl)
end
/-- Refused.__init__ read -/
theorem init_read {K : PySem.W.Frag} {vs : List V} {H : Hp} {Q : VK} {E : XK} {N : List Str} (h : sp_init K vs H Q E) (hN : N.length = 2) :
    (tSeq (tOst K "what" (tVar 0) (tVar 1)) (tOst K "kind" (tVar 0) (tKind K (tVar 0)))) { nx := fun _ H' => Q .non H', rt := Q } (L2.start N vs) H := by
  obtain ⟨a, C, v, c, rfl, ox, noW, noK, kd, ha, k⟩ := h
  have s0 : (L2.start N [.ref a, v])[0]? = some (some (.ref a)) := rfl
  have s1 : (L2.start N [.ref a, v])[1]? = some (some v) := rfl
  refine ⟨v, s1, .ref a, s0, a, C, rfl, ox, noW, .inl ⟨ha, fun dx n1 n2 => ?_⟩⟩
  have hdx : (upd (upd H dx (exd dx [("what", v)])) a (exo a C (some dx))) dx = some (exd dx [("what", v)]) := by rw [upd_ne n2, upd_same]
  refine ⟨.ref a, s0, a, C, dx, [("what", v)], c, rfl, upd_same, hdx, kd, ox.tyC, .ref a, s0, a, C, rfl, ox, noK, .inr ⟨dx, [("what", v)], upd_same, hdx, by show 1 ≤ 900; decide, ?_⟩⟩
  have e : upd (upd (upd H dx (exd dx [("what", v)])) a (exo a C (some dx))) dx (exd dx (efs c v)) = upd (upd H dx (exd dx (efs c v))) a (exo a C (some dx)) := by
    funext b
    by_cases h1 : b = dx
    · rw [h1, upd_same, upd_ne n2, upd_same]
    · rw [upd_ne h1]
      by_cases h2 : b = a
      · rw [h2, upd_same, upd_same]
      · rw [upd_ne h2, upd_ne h1, upd_ne h2, upd_ne h1]
  show Q .non (upd (upd (upd H dx (exd dx [("what", v)])) a (exo a C (some dx))) dx (exd dx (efs c v)))
  rw [e]
  exact k dx n1 n2
/-- a def that may raise -/
structure CalX (P : Program) (w : World) (K : PySem.W.Frag) (mg : Str → Option Value) (base : Heap) (k : Nat) (x : Str) (ps : List Str) (sp : Sp) : Prop where
  ex : ∃ (f : Addr) (fd : FuncData), FnOk P w K mg base (L2.CX P w) k f fd ps sp ∧ mg x = some (.ref f) ∧ PySem.W.keepIn K (.ref f) = true ∧ Binds K fd ps []
section
variable {X : Cx} {k n : Nat} {x : Str} {ps : List Str} {sp : Sp} {p pos : Pos} {e : Expr} {es : List Expr} {t : TA}
/-- its call where it raises nothing -/
theorem pe_calN (C : CalX X.prog X.w X.K X.mg X.base k x ps sp) (hr : Room n X.A) (ha : PA X (e :: es) t) (hle : k ≤ n := by decide) (hg : Gl X x := by rfl) (hdb : (x == ("__debug__" : Str)) = false := by decide)
    (he : starEach (e :: es) X.env = (false, eval e X.env) :: starEach es X.env := by rfl) (hpl : (backTo pos (starEach es X.env)).any (·.1) = false := by rfl) :
    PE X (.Call (.Name x p) (e :: es) [] pos) (tCall sp [] (fun _ _ _ => False) t) := by
  obtain ⟨f, fd, F, hm, hk, hb⟩ := C.ex
  refine pe_call F (hr.mono hle) hg hm hk hb .nil (fun pins σ H s e s' I z => ?_) ha hdb he hpl
  obtain ⟨_, _, _, _, _, _, _, _, _, _, _, _, z⟩ := z
  exact z.elim
/-- its call where what it raises goes on: in a def that may raise, or within a try -/
theorem pe_calW {W : WX} (C : CalX X.prog X.w X.K X.mg X.base k x ps sp) (hr : Room n X.A) (tk : Takes X W) (ha : PA X (e :: es) t) (hle : k ≤ n := by decide) (hg : Gl X x := by rfl) (hdb : (x == ("__debug__" : Str)) = false := by decide)
    (he : starEach (e :: es) X.env = (false, eval e X.env) :: starEach es X.env := by rfl) (hpl : (backTo pos (starEach es X.env)).any (·.1) = false := by rfl) :
    PE X (.Call (.Name x p) (e :: es) [] pos) (tCallS sp (WE W) t) := by
  obtain ⟨f, fd, F, hm, hk, hb⟩ := C.ex
  exact pe_callS F (hr.mono hle) hg hm hk hb (fun σ => passAt tk σ) ha hdb he hpl
end
end Tw

set_option maxHeartbeats 4000000
namespace Tw
open PySem PySem.Spec PyProof.Rows L2
/-! ### rows: every wagon has its place -/
theorem pigeon : ∀ (n : Nat) (l : List Int), l.Nodup → (∀ x ∈ l, 0 ≤ x ∧ x < (n : Int)) → l.length ≤ n
  | 0, l, _, hb => by
    cases l with
    | nil => exact Nat.le_refl _
    | cons x r =>
      have z := hb x List.mem_cons_self
      omega
  | n + 1, l, nd, hb => by
    by_cases c : (n : Int) ∈ l
    · have h1 := pigeon n (l.erase (n : Int)) (nd.erase _) (fun x hx => by
        have z := (nd.mem_erase_iff).mp hx
        have b := hb x z.2
        have ne := z.1
        omega)
      rw [List.length_erase_of_mem c] at h1
      omega
    · have h1 := pigeon n l nd (fun x hx => by
        have b := hb x hx
        have ne : x ≠ (n : Int) := fun e => c (e ▸ hx)
        omega)
      omega
theorem IsRow.all {ns : List Int} (h : IsRow ns) {w : Nat} (hw : w < ns.length) : (w : Int) ∈ ns := by
  refine Classical.byContradiction fun c => ?_
  have z := pigeon ns.length ((w : Int) :: ns) (List.nodup_cons.mpr ⟨c, h.1⟩) (fun x hx => by
    rcases List.mem_cons.mp hx with e | e
    · rw [e]; omega
    · exact h.2.1 x e)
  rw [List.length_cons] at z
  omega
theorem IsRow.ints {ns : List Int} (h : IsRow ns) {i : Nat} (hi : i < ns.length) : ∃ j : Nat, ns[i] = (j : Int) ∧ j < ns.length := by
  have z := h.2.1 _ (List.getElem_mem hi)
  exact ⟨ns[i].toNat, by omega, by omega⟩
/-- the place of each wagon -/
def placesOf (ns : List Int) : List Int := (List.range ns.length).map fun (w : Nat) => ((ns.idxOf (w : Int) : Nat) : Int)
theorem placesOf_len (ns : List Int) : (placesOf ns).length = ns.length := by simp [placesOf]
theorem idxOf_get {ns : List Int} (nd : ns.Nodup) {i : Nat} (hi : i < ns.length) : ns.idxOf ns[i] = i := by
  have h1 : ns.idxOf ns[i] < ns.length := List.idxOf_lt_length_of_mem (List.getElem_mem hi)
  have h2 : ns[ns.idxOf ns[i]] = ns[i] := List.getElem_idxOf h1
  exact (List.getElem_inj nd).mp h2
theorem placesOf_get {ns : List Int} {w : Nat} (hw : w < ns.length) : (placesOf ns)[w]? = some ((ns.idxOf (w : Int) : Nat) : Int) := by
  simp [placesOf, hw]
theorem placesOf_row {ns : List Int} (h : IsRow ns) : IsRow (placesOf ns) := by
  refine ⟨?_, ?_, by rw [placesOf_len]; exact h.2.2⟩
  · unfold placesOf
    rw [List.nodup_iff_pairwise_ne, List.pairwise_map]
    refine List.Pairwise.imp_of_mem ?_ (List.nodup_iff_pairwise_ne.mp List.nodup_range)
    intro a b ha hb hne e
    have la := List.idxOf_lt_length_of_mem (h.all (List.mem_range.mp ha))
    have lb := List.idxOf_lt_length_of_mem (h.all (List.mem_range.mp hb))
    have e' : ns.idxOf (a : Int) = ns.idxOf (b : Int) := by omega
    have ga : ns[ns.idxOf (a : Int)] = (a : Int) := List.getElem_idxOf la
    have gb : ns[ns.idxOf (b : Int)] = (b : Int) := List.getElem_idxOf lb
    have : (a : Int) = (b : Int) := by
      rw [← ga, ← gb]
      congr 1
    exact hne (by omega)
  · intro x hx
    unfold placesOf at hx
    obtain ⟨w, hw, rfl⟩ := List.mem_map.mp hx
    have l := List.idxOf_lt_length_of_mem (h.all (List.mem_range.mp hw))
    rw [placesOf_len]
    omega
theorem placesOf_at {ns : List Int} (h : IsRow ns) {p : Nat} (hp : p < ns.length) : (placesOf ns)[ns[p].toNat]? = some (p : Int) := by
  obtain ⟨j, ej, hj⟩ := h.ints hp
  have : ns[p].toNat = j := by omega
  rw [this, placesOf_get hj, ← ej, idxOf_get h.1 hp]
theorem placesOf_uniq {ns L : List Int} (h : IsRow ns) (hl : L.length = ns.length) (ha : ∀ p (hp : p < ns.length), L[ns[p].toNat]? = some (p : Int)) : L = placesOf ns := by
  apply List.ext_getElem?
  intro w
  by_cases hw : w < ns.length
  · obtain ⟨p, hp, e⟩ := List.getElem_of_mem (h.all hw)
    have h1 := ha p hp
    have h2 := placesOf_at h hp
    have ew : ns[p].toNat = w := by omega
    rw [ew] at h1 h2
    rw [h1, h2]
  · rw [List.getElem?_eq_none (by omega), List.getElem?_eq_none (by rw [placesOf_len]; omega)]
theorem placesOf_twice {ns : List Int} (h : IsRow ns) : placesOf (placesOf ns) = ns := by
  symm
  refine placesOf_uniq (placesOf_row h) (placesOf_len ns).symm fun p hp => ?_
  rw [placesOf_len] at hp
  have e := placesOf_get hp
  have e' : (placesOf ns)[p]'(by rw [placesOf_len]; exact hp) = ((ns.idxOf (p : Int) : Nat) : Int) := by
    rw [List.getElem?_eq_getElem (by rw [placesOf_len]; exact hp)] at e
    exact Option.some.inj e
  rw [e']
  have l := List.idxOf_lt_length_of_mem (h.all hp)
  rw [Int.toNat_natCast, List.getElem?_eq_getElem l, List.getElem_idxOf l]
/-- what stands behind i steps of «found[wagon] = place» -/
def PutOk (ns L : List Int) (i : Nat) : Prop := L.length = ns.length ∧ ∀ p (hp : p < ns.length), p < i → L[ns[p].toNat]? = some (p : Int)
theorem putOk_step {ns L : List Int} (h : IsRow ns) {i j : Nat} (hi : i < ns.length) (ej : ns[i] = (j : Int)) (p : PutOk ns L i) : PutOk ns (L.set j (i : Int)) (i + 1) := by
  refine ⟨by rw [List.length_set]; exact p.1, fun q hq hqi => ?_⟩
  obtain ⟨j', ej', hj'⟩ := h.ints hi
  have hj : j < ns.length := by omega
  by_cases c : q = i
  · subst c
    have : ns[q].toNat = j := by omega
    rw [this, List.getElem?_set_self (by rw [p.1]; exact hj)]
  · have ne : j ≠ ns[q].toNat := fun e => by
      obtain ⟨k, ek, _⟩ := h.ints hq
      have : ns[q] = ns[i] := by omega
      exact c ((List.getElem_inj h.1).mp this)
    rw [List.getElem?_set_ne ne]
    exact p.2 q hq (by omega)
theorem putOk_done {ns L : List Int} (h : IsRow ns) (p : PutOk ns L ns.length) : L = placesOf ns := placesOf_uniq h p.1 fun q hq => p.2 q hq hq
theorem range_row {n : Nat} (hn : n ≤ 400) : IsRow ((List.range n).map fun (j : Nat) => (j : Int)) := by
  refine ⟨?_, ?_, by simpa using hn⟩
  · rw [List.nodup_iff_pairwise_ne, List.pairwise_map]
    exact List.Pairwise.imp (fun h e => h (by omega)) (List.nodup_iff_pairwise_ne.mp List.nodup_range)
  · intro x hx
    obtain ⟨j, hj, rfl⟩ := List.mem_map.mp hx
    have := List.mem_range.mp hj
    simp only [List.length_map, List.length_range]
    omega
theorem IsRow.perm {ns ms : List Int} (h : IsRow ns) (p : ms.Perm ns) : IsRow ms :=
  ⟨p.nodup_iff.mpr h.1, fun x hx => by rw [p.length_eq]; exact h.2.1 x (p.mem_iff.mp hx), by rw [p.length_eq]; exact h.2.2⟩
theorem eraseIdx_mapI : ∀ (L : List Int) (j : Nat), (L.map V.int).eraseIdx j = (L.eraseIdx j).map V.int
  | [], _ => rfl
  | _ :: _, 0 => rfl
  | x :: r, j + 1 => by
    show V.int x :: (r.map V.int).eraseIdx j = V.int x :: (r.eraseIdx j).map V.int
    rw [eraseIdx_mapI r j]
theorem perm_eraseIdx : ∀ (L : List Int) (j : Nat) (h : j < L.length), L.Perm (L[j] :: L.eraseIdx j)
  | x :: r, 0, _ => .refl _
  | x :: r, j + 1, h => by
    have h2 : j < r.length := Nat.lt_of_succ_lt_succ h
    have ih := perm_eraseIdx r j h2
    show (x :: r).Perm (r[j] :: x :: r.eraseIdx j)
    exact (ih.cons x).trans (.swap _ _ _)
theorem swap_row {L : List Int} (h : IsRow L) {i j : Nat} (hi : i < L.length) (hj : j < L.length) : IsRow ((L.set i L[j]).set j L[i]) := by
  have len : ((L.set i L[j]).set j L[i]).length = L.length := by rw [List.length_set, List.length_set]
  have get : ∀ a (ha : a < ((L.set i L[j]).set j L[i]).length), ∃ b, ∃ hb : b < L.length, ((L.set i L[j]).set j L[i])[a] = L[b] ∧ b = (if a = j then i else if a = i then j else a) := fun a ha => by
    rw [List.getElem_set]
    by_cases c : a = j
    · exact ⟨i, hi, by rw [if_pos c.symm], by rw [if_pos c]⟩
    · rw [List.getElem_set]
      by_cases d : a = i
      · exact ⟨j, hj, by rw [if_neg (Ne.symm c), if_pos d.symm], by rw [if_neg c, if_pos d]⟩
      · exact ⟨a, by omega, by rw [if_neg (Ne.symm c), if_neg (Ne.symm d)], by rw [if_neg c, if_neg d]⟩
  refine ⟨?_, fun x hx => ?_, by rw [len]; exact h.2.2⟩
  · rw [List.nodup_iff_pairwise_ne, List.pairwise_iff_getElem]
    intro a b ha hb hab e
    obtain ⟨a', ha', ea, fa⟩ := get a ha
    obtain ⟨b', hb', eb, fb⟩ := get b hb
    have e2 : L[a'] = L[b'] := by rw [← ea, ← eb]; exact e
    have e3 := (List.getElem_inj h.1).mp e2
    rw [fa, fb] at e3
    split at e3 <;> split at e3 <;> (try split at e3) <;> (try split at e3) <;> omega
  · obtain ⟨a, ha, e⟩ := List.getElem_of_mem hx
    obtain ⟨b, hb, e2, _⟩ := get a ha
    rw [len, ← e, e2]
    exact h.2.1 _ (List.getElem_mem hb)
theorem rev_row {L : List Int} (h : IsRow L) : IsRow L.reverse := h.perm (List.reverse_perm L)
/-- 0, 1, .. -/
def rgI (n : Nat) : List Int := (List.range n).map fun (j : Nat) => (j : Int)
theorem rgI_len (n : Nat) : (rgI n).length = n := by simp [rgI]
theorem rgI_get {n i : Nat} (h : i < n) : (rgI n)[i]? = some (i : Int) := by simp [rgI, h]
theorem rgV_I (n : Nat) : rgV 0 (n : Int) = (rgI n).map V.int := by
  unfold rgV rgI
  rw [List.map_map, show ((n : Int) - 0).toNat = n by omega]
  apply List.map_congr_left
  intro j _
  show V.int (0 + (j : Int)) = V.int (j : Int)
  rw [Int.zero_add]
theorem rgI_row {n : Nat} (hn : n ≤ 400) : IsRow (rgI n) := range_row hn
theorem ixN_nat {n j : Nat} (hj : j < n) : ixN n (j : Int) = some j := by
  unfold ixN
  rw [if_pos (by omega), if_pos (by omega)]; simp
theorem seqIndex_nat {n j : Nat} (hj : j < n) : seqIndex? (j : Int) n = some j := by
  unfold seqIndex?
  have h0 : ¬ ((j : Int) < 0) := by omega
  have h1 : (j : Int) < (n : Int) := by omega
  have h2 : (0 : Int) ≤ (j : Int) := by omega
  simp [h0, h1, h2]
end Tw

set_option maxHeartbeats 4000000
namespace Tw
open PySem PySem.Spec PyProof.Rows L2
/-! ### tuples whose object is known to have no dict of its own: their methods may be called -/
def TupD (H : Hp) (p : Addr) (xs : List V) : Prop := ∃ o : Obj, o.dict = none ∧ o.cls = .type "tuple" ∧ H p = some (.frz o (.tup xs))
theorem TupD.new {H : Hp} {l : Addr} {ys : List V} {o : Obj} (od : o.dict = none) (oc : o.cls = .type "tuple") : TupD (upd H l (.frz o (.tup ys))) l ys := ⟨o, od, oc, upd_same⟩
theorem TupD.seqT {K : PySem.W.Frag} {H : Hp} {p : Addr} {xs : List V} (h : TupD H p xs) : SqT K H p xs := by
  obtain ⟨o, _, _, e⟩ := h
  exact .inl (.inr ⟨o, e⟩)
theorem TupD.same {H H' : Hp} {p : Addr} {xs : List V} (h : TupD H p xs) (s : ∀ o, H p = some o → H' p = some o) : TupD H' p xs := by
  obtain ⟨o, od, oc, e⟩ := h
  exact ⟨o, od, oc, s _ e⟩
theorem TupD.has {H : Hp} {p : Addr} {xs : List V} (h : TupD H p xs) : ∃ u, H p = some u := by
  obtain ⟨o, od, oc, e⟩ := h
  exact ⟨_, e⟩
theorem TupD.ne {H : Hp} {p q : Addr} {xs : List V} (h : TupD H p xs) (n : H q = none) : p ≠ q := by
  obtain ⟨o, e⟩ := h.has
  exact ne_of_none e n
theorem TupD.upd {H : Hp} {p q : Addr} {xs : List V} {u : HO} (h : TupD H p xs) (n : p ≠ q) : TupD (upd H q u) p xs := h.same fun o e => by rw [upd_ne n]; exact e
section
variable {X : Cx}
/-- tuple(xs) of a list -/
def rTupF (K : PySem.W.Frag) : List V → Hp → VK → Prop := fun xs H Q => ∃ (p : Addr) (ys : List V), xs = [.ref p] ∧ SqL K H p ys ∧ ∀ (l : Addr) (o : Obj), H l = none → o.dict = none → o.cls = .type "tuple" → Q (.ref l) (upd H l (.frz o (.tup ys)))
theorem call_tupF : CallR X (.type "tuple") (rTupF X.K) := by
  intro pins s σ H xs us Q I r h
  obtain ⟨p, ys, rfl, hq, q⟩ := h
  obtain ⟨u, rfl, rx⟩ := vals1 r
  cases rx
  obtain ⟨its, rv, pl, hz⟩ := I.list hq
  have hlen := rv.length
  refine call_tuple_list pl.isList (fun h' kp => ?_) (by simp only [List.size_toArray] <;> omega)
  have J1 : Inv X pins σ H { s with heap := h' } := I.kept (t' := s.toks) kp
  have J2 : Inv X pins σ (upd H h'.objs.size (.frz { cls := .type "tuple", data := .seq its.toArray } (.tup ys))) { s with heap := h'.push { cls := .type "tuple", data := .seq its.toArray } } :=
    J1.laid (t' := s.toks) (fun b o e => Heap.get?_push_of_some _ e) (Nat.le_refl _) ⟨Heap.get?_push_size _ rfl, hz, its, rv, IsTup.new _ _⟩
  exact ⟨.ref h'.objs.size, _, J2, rfl, q _ _ (J1.hok.fresh (Nat.le_refl _)) rfl rfl⟩
variable {o e : Expr} {es : List Expr} {to : TE} {t : TA} {name : Str} {apos cpos : Pos} {id : String} {r : V → List V → Hp → VK → Prop}
/-- o.m(e, ..), o such a tuple -/
def tBMT (r : V → List V → Hp → VK → Prop) (to : TE) (t : TA) : TE := fun σ H Q => to σ H fun x H1 => (∃ p xs, x = .ref p ∧ TupD H1 p xs) ∧ t σ H1 fun vs H2 => r x vs H2 Q
theorem pe_bmT (slot : Slot "tuple" name id) (hty : typeOf (.builtin id) = pure (.type "method_descriptor")) (hm : MtR X id r) (ho : PE X o to) (ha : PA X (e :: es) t)
    (hbase : attributeBase o name X.env (eval o X.env) = eval o X.env := by rfl)
    (hfew : ((backTo cpos (starEach (e :: es) X.env)).all (fun x => !x.1) && (backToKw cpos (keywordEach [] X.env)).all (fun x => x.1.isSome) && decide ((e :: es).length + ([] : List Keyword).length + (if ([] : List Keyword).isEmpty then 0 else 1) < 30)) = true := by rfl)
    (hline : (apos.endLine == cpos.line) = true := by rfl) (hs : starEach (e :: es) X.env = (false, eval e X.env) :: starEach es X.env := by rfl) (hplain : (backTo cpos (starEach es X.env)).any (·.1) = false := by rfl) :
    PE X (.Call (.Attribute o name apos) (e :: es) [] cpos) (tBMT r to t) := by
  refine ⟨fun pins s σ H Q I h => ?_⟩
  refine wpAny_Call_method_late hbase hfew hline rfl (thn (ho.run pins s σ H _ I h) fun v s1 ⟨x, H1, I1, r1, ty, q1⟩ => ?_)
  obtain ⟨p, xs, rfl, ob, od, oc, ep⟩ := ty
  cases r1
  obtain ⟨eg, _⟩ := I1.hok p _ ep
  refine ⟨"tuple", id, PySem.F.plainAttrs_tuple, slot, hty, ⟨ob, eg, oc⟩, fun a ea => by cases ea; exact ⟨ob, eg, od⟩, ?_⟩
  have hA := ha.run cpos pins s1 σ H1 _ I1 q1
  rw [hs] at hA ⊢
  refine Calls.callWith_builtin (by show (false || (backTo cpos (starEach es X.env)).any (·.1)) = false; rw [hplain] <;> rfl) (Calls.evalArgs_plain ?_)
  exact thn hA fun us s2 ⟨vs, H2, I2, r2, q2⟩ => hm pins s2 σ H2 (.ref p) vs (.ref p) us Q I2 rfl r2 q2
end
/-- (e, ..), the tuple's object known -/
def tTupD (t : TA) : TE := fun σ H Q => t σ H fun xs H1 => xs.length ≤ sizeLine ∧ ∀ (p : Addr) (o : Obj), H1 p = none → o.dict = none → o.cls = .type "tuple" → Q (.ref p) (L2.upd H1 p (.frz o (.tup xs)))
section
variable {X : Cx}
theorem pe_tupD {es : List Expr} {t : TA} {k : Nat} {pos : Pos} (ha : PA X es t) : PE X (.Tuple es k pos) (tTupD t) := by
  refine ⟨fun pins s σ H Q I hq => ?_⟩
  refine wpAny_Tuple_spliced (thn (ha.run pos pins s σ H _ I hq) fun us s1 ⟨ys, H1, I1, rv, sz, q⟩ => ⟨by rw [← rv.length]; exact sz, ?_⟩)
  have free := I1.hok.fresh (Nat.le_refl s1.heap.objs.size)
  refine ⟨.ref s1.heap.objs.size, L2.upd H1 s1.heap.objs.size (.frz { cls := .type "tuple", data := .seq us.toArray } (.tup ys)), I1.laid (t' := s1.toks) (fun b u z => Heap.get?_push_of_some _ z) (Nat.le_refl _) ?_, rfl, q _ _ free rfl rfl⟩
  exact ⟨Heap.get?_push_size _ rfl, sz, us, rv, ⟨_, Heap.get?_push_size _ rfl, rfl, _, rfl⟩⟩
end
/-! ### t.index(n), t a tuple of ints -/
theorem flat_intsV (ns : List Int) : (ns.map V.int).all flatV = true := by
  rw [List.all_map]
  exact List.all_eq_true.mpr fun _ _ => rfl
section
variable {X : Cx}
def rTupIdx (K : PySem.W.Frag) : V → List V → Hp → VK → Prop := fun x xs H Q => ∃ (p : Addr) (ns : List Int) (z : Int) (j : Nat), x = .ref p ∧ xs = [.int z] ∧ SqT K H p (ns.map V.int) ∧ ns[j]? = some z ∧ (∀ m, m < j → ns[m]? ≠ some z) ∧ Q (.int (j : Nat)) H
theorem mt_tupIdx : MtR X "tuple.index" (rTupIdx X.K) := by
  intro pins s σ H x xs v us Q I rx rs h
  obtain ⟨p, ns, z, j, rfl, rfl, hq, hy, hno, q⟩ := h
  cases rx
  obtain ⟨u, rfl, ru⟩ := vals1 rs
  obtain ⟨its, rv, pl, hz⟩ := I.tuple hq
  obtain ⟨⟨cls, dd, dt, sl⟩, ho, hc, n, hd⟩ := pl
  simp only at hc hd
  subst hc hd
  have hlen := rv.length
  have itemAt : ∀ (m : Nat) (hm : m < its.toArray.size), ∃ (y : Int) (t : Tok), ns[m]? = some y ∧ its.toArray[m] = Value.int y t := fun m hm => by
    have hm2 : m < its.length := by simpa using hm
    have hm3 : m < ns.length := by
      rw [List.length_map] at hlen
      omega
    obtain ⟨w2, hw2, t, hw3⟩ := rv.get (i := m) (x := .int ns[m]) (by simp [hm3])
    have e3 := (List.getElem?_eq_some_iff.mp hw2).2
    refine ⟨ns[m], t, List.getElem?_eq_getElem hm3, ?_⟩
    rw [← hw3, ← e3]
    simp
  have hj : j < its.toArray.size := by
    have z1 := (List.getElem?_eq_some_iff.mp hy).1
    rw [List.length_map] at hlen
    simpa [← hlen] using z1
  refine call_meets PySem.F.slot_tuple_index ⟨_, ho, rfl⟩ PySem.F.entry_tuple_index (PySem.F.args_tuple_index_2 _ _) (TI.tuple_indexAt p its.toArray n dd sl u (eqU (.int z)) j hj ?_ ?_) ⟨ho, fun w2 hw2 => mem_eqAt (x := .int z) ru rfl rv (flat_intsV ns) w2 (by simpa using hw2), ⟨.int (j : Nat), H, I.tok _, ⟨_, rfl⟩, q⟩⟩
  · obtain ⟨y, t, h1, h2⟩ := itemAt j hj
    rw [hy] at h1
    cases h1
    rw [h2]
    show (z == z) = true
    exact beq_self_eq_true z
  · intro m hm hmj
    obtain ⟨y, t, h1, h2⟩ := itemAt m hm
    rw [h2]
    show (y == z) = false
    exact beq_eq_false_iff_ne.mpr fun e => hno m hmj (e ▸ h1)
end
end Tw

set_option maxHeartbeats 4000000
namespace Tw
open PySem PySem.Spec PyProof.Rows L2
theorem walk_zipT {K : PySem.W.Frag} {a b : Addr} {xs ys : List V} {n : Nat} (hn : n = min xs.length ys.length) : Walk (RZ.ItzT K a b) n (fun H => SqT K H a xs ∧ SqT K H b ys) (YPair (fun i => xs[i]?) (fun i => ys[i]?)) where
  goes := fun i H hi q => by
    have h1 : i < xs.length := by omega
    have h2 : i < ys.length := by omega
    exact ⟨xs, ys, xs[i], ys[i], q.1, q.2, List.getElem?_eq_getElem h1, List.getElem?_eq_getElem h2⟩
  stops := fun H q => ⟨xs, ys, q.1, q.2, by omega⟩
  yields := fun i H x H' hi q y => by
    obtain ⟨T, u, v, e1, e2, e3, f1, f2⟩ := y
    exact ⟨T, u, v, e1, e2, e3, f1 xs q.1, f2 ys q.2⟩
theorem cut_tail (xs : List V) : cutV xs (some 1) none = xs.drop 1 := by
  unfold cutV
  rw [show HT.sIx xs.length 0 (some 1) = min 1 xs.length from HT.sIx_nat xs.length 0 1, HT.sIx_none]
  cases xs with
  | nil => rfl
  | cons x r =>
    rw [show min 1 (x :: r).length = 1 by rw [List.length_cons]; omega]
    show (List.take ((x :: r).length - 1) r) = r
    rw [List.length_cons, Nat.add_sub_cancel]
    exact List.take_length
section
variable {X : Cx}
/-- t[i:j] of a tuple, the same one or a new one -/
def rSlU (K : PySem.W.Frag) : V → Option Int → Option Int → Hp → VK → Prop := fun x lo hi H Q => ∃ (a : Addr) (xs : List V), x = .ref a ∧ SqT K H a xs ∧ ∀ (p : Addr) (H' : Hp), Same H H' → SqT K H' p (cutV xs lo hi) → Q (.ref p) H'
theorem sl_tupU : SlR X (rSlU X.K) := by
  intro pins s σ H x v vl vu lo hi sl Q I rx hs pl pu h
  obtain ⟨a, xs, rfl, hq, q⟩ := h
  refine sl_tupA pins s σ H _ v vl vu lo hi sl Q I rx hs pl pu ⟨a, xs, rfl, hq, fun w => q a H (Same.refl H) ?_, fun _ p np => q p _ (same_upd np) (.inl (.inl upd_same))⟩
  have e : cutV xs lo hi = xs := by
    unfold cutV
    rw [w.1, w.2, List.drop_zero, Nat.sub_zero, List.take_length]
  rw [e]
  exact hq
/-- t + u of tuples -/
def rCatU (K : PySem.W.Frag) : R2 := fun x y H Q => ∃ (a b : Addr) (xs ys : List V), x = .ref a ∧ y = .ref b ∧ SqT K H a xs ∧ SqT K H b ys ∧ xs.length + ys.length ≤ sizeLine ∧ ∀ (p : Addr) (H' : Hp), Same H H' → SqT K H' p (xs ++ ys) → Q (.ref p) H'
theorem op_catU : OpR X (binaryOp .Add) (rCatU X.K) := by
  intro pins s σ H x y v u Q I rx ry h
  obtain ⟨a, b, xs, ys, rfl, rfl, ha, hb, hz, q⟩ := h
  refine op_catA pins s σ H _ _ v u Q I rx ry ⟨a, b, xs, ys, rfl, rfl, ha, hb, hz, fun e => q b H (Same.refl H) (by rw [e]; exact hb), fun _ e => q a H (Same.refl H) (by rw [e, List.append_nil]; exact ha), fun _ _ p np => q p _ (same_upd np) (.inl (.inl upd_same))⟩
end
/-! ### rising -/
def stepsUp (ns : List Int) (i : Nat) : Prop := ∀ j, j < i → ∀ (h : j + 1 < ns.length), ns[j] < ns[j + 1]
theorem up_iff (ns : List Int) : stepsUp ns (ns.length - 1) ↔ ns.Pairwise (· < ·) := by
  constructor
  · intro h
    rw [List.pairwise_iff_getElem]
    have key : ∀ d i (hi : i + d + 1 < ns.length), ns[i] < ns[i + d + 1] := fun d => by
      induction d with
      | zero => intro i hi; exact h i (by omega) hi
      | succ d ih =>
        intro i hi
        have h1 := ih i (by omega)
        have h2 := h (i + d + 1) (by omega) hi
        show ns[i] < ns[i + d + 1 + 1]
        omega
    intro i j hi hj hij
    have := key (j - i - 1) i (by omega)
    have e : i + (j - i - 1) + 1 = j := by omega
    simp only [e] at this
    exact this
  · intro h j hj hl
    exact (List.pairwise_iff_getElem.mp h) j (j + 1) (by omega) hl (Nat.lt_succ_self j)
end Tw

set_option maxHeartbeats 4000000
namespace Tw
open PySem PySem.Spec PyProof.Rows L2
/-! ### layers of a row, by two words: the wagons of a layer rise; ahead of each wagon of a layer above 0 stands a greater one of the layer before -/
structure LayOk (ns : List Int) (ls : List Nat) : Prop where
  len : ls.length = ns.length
  rise : ∀ (i j : Nat) (hi : i < ns.length) (hj : j < ns.length), i < j → ls[i]? = ls[j]? → ns[i] < ns[j]
  above : ∀ (j c : Nat) (hj : j < ns.length), ls[j]? = some (c + 1) → ∃ i, ∃ hi : i < ns.length, i < j ∧ ls[i]? = some c ∧ ns[j] < ns[i]
/-- while the row is gone through: the last wagon of each layer -/
structure Tops (ns : List Int) (ls : List Nat) (T : List Int) (i : Nat) : Prop where
  len : ls.length = i
  le : i ≤ ns.length
  rise : ∀ (a b : Nat) (ha : a < ns.length) (hb : b < ns.length), a < b → b < i → ls[a]? = ls[b]? → ns[a] < ns[b]
  above : ∀ (b c : Nat) (hb : b < ns.length), b < i → ls[b]? = some (c + 1) → ∃ a, ∃ ha : a < ns.length, a < b ∧ ls[a]? = some c ∧ ns[b] < ns[a]
  dec : T.Pairwise (· > ·)
  low : ∀ (a l : Nat), ls[a]? = some l → l < T.length
  top : ∀ (c : Nat) (hc : c < T.length), ∃ a, ∃ ha : a < ns.length, a < i ∧ ls[a]? = some c ∧ ns[a] = T[c]
  most : ∀ (a c : Nat) (ha : a < ns.length) (hc : c < T.length), ls[a]? = some c → ns[a] ≤ T[c]
theorem tops_nil (ns : List Int) : Tops ns [] [] 0 :=
  ⟨rfl, Nat.zero_le _, fun _ _ _ _ _ h => absurd h (Nat.not_lt_zero _), fun _ _ _ h => absurd h (Nat.not_lt_zero _), .nil, fun a l h => by simp at h, fun c hc => absurd hc (Nat.not_lt_zero _), fun _ _ _ hc => absurd hc (Nat.not_lt_zero _)⟩
theorem cut_dec (w : Int) : ∀ T : List Int, T.Pairwise (· > ·) → ∀ c (hc : c < T.length), w < T[c] ↔ c < (T.filter fun t => decide (w < t)).length
  | [], _, c, hc => absurd hc (Nat.not_lt_zero _)
  | t :: r, h, c, hc => by
    rw [List.pairwise_cons] at h
    by_cases d : w < t
    · rw [List.filter_cons_of_pos (by simpa using d), List.length_cons]
      cases c with
      | zero => exact ⟨fun _ => Nat.succ_pos _, fun _ => d⟩
      | succ c =>
        have hc' : c < r.length := Nat.lt_of_succ_lt_succ hc
        have ih := cut_dec w r h.2 c hc'
        show w < r[c] ↔ c + 1 < _
        rw [ih]
        omega
    · have e : (t :: r).filter (fun t => decide (w < t)) = [] := by
        rw [List.filter_eq_nil_iff]
        intro x hx
        rcases List.mem_cons.mp hx with q | q
        · rw [q]; simpa using d
        · have := h.1 x q
          simp only [decide_eq_true_eq]
          omega
      rw [e]
      constructor
      · intro z
        have : (t :: r)[c] ∈ t :: r := List.getElem_mem hc
        rcases List.mem_cons.mp this with q | q
        · rw [q] at z; exact absurd z d
        · have := h.1 _ q
          omega
      · intro z; exact absurd z (Nat.not_lt_zero _)
/-- one wagon more -/
theorem tops_step {ns : List Int} (nd : ns.Nodup) {ls : List Nat} {T : List Int} {i : Nat} (h : Tops ns ls T i) (hi : i < ns.length) :
    Tops ns (ls ++ [(T.filter fun t => decide (ns[i] < t)).length]) (if (T.filter fun t => decide (ns[i] < t)).length = T.length then T ++ [ns[i]] else T.set (T.filter fun t => decide (ns[i] < t)).length ns[i]) (i + 1) := by
  have cut := cut_dec ns[i] T h.dec
  have hL : (T.filter fun t => decide (ns[i] < t)).length ≤ T.length := List.length_filter_le ..
  generalize eL : (T.filter fun t => decide (ns[i] < t)).length = L at cut hL ⊢
  have old : ∀ a, a < i → (ls ++ [L])[a]? = ls[a]? := fun a ha => List.getElem?_append_left (by rw [h.len]; exact ha)
  have new : (ls ++ [L])[i]? = some L := by rw [List.getElem?_append_right (by rw [h.len]; exact Nat.le_refl _), h.len, Nat.sub_self]; rfl
  have lt_of : ∀ {a l : Nat}, ls[a]? = some l → a < i := fun {a l} e => by
    have := (List.getElem?_eq_some_iff.mp e).1
    rw [h.len] at this; exact this
  have lelen : ∀ {a l : Nat}, (ls ++ [L])[a]? = some l → (a < i ∧ ls[a]? = some l) ∨ (a = i ∧ l = L) := fun {a l} e => by
    have z := (List.getElem?_eq_some_iff.mp e).1
    rw [List.length_append, h.len] at z
    simp only [List.length_singleton] at z
    by_cases c : a < i
    · rw [old a c] at e; exact .inl ⟨c, e⟩
    · have : a = i := by omega
      subst this
      rw [new] at e
      exact .inr ⟨rfl, (Option.some.inj e).symm⟩
  have decI := List.pairwise_iff_getElem.mp h.dec
  have ne_top : ∀ c (hc : c < T.length), T[c] ≠ ns[i] := fun c hc e => by
    obtain ⟨a, ha, hai, _, ea⟩ := h.top c hc
    have : ns[a] = ns[i] := by rw [ea, e]
    have := (List.getElem_inj nd).mp this
    omega
  have get : ∀ c, c < (if L = T.length then T ++ [ns[i]] else T.set L ns[i]).length → (if L = T.length then T ++ [ns[i]] else T.set L ns[i])[c]? = if c = L then some ns[i] else T[c]? := fun c hc => by
    by_cases e : L = T.length
    · rw [if_pos e] at hc ⊢
      rw [List.length_append, List.length_singleton] at hc
      by_cases d : c = L
      · rw [if_pos d, d, e, List.getElem?_append_right (Nat.le_refl _), Nat.sub_self]; rfl
      · rw [if_neg d, List.getElem?_append_left (by omega)]
    · rw [if_neg e] at hc ⊢
      rw [List.length_set] at hc
      by_cases d : c = L
      · rw [if_pos d, d, List.getElem?_set_self (by omega)]
      · rw [if_neg d, List.getElem?_set_ne (Ne.symm d)]
  have len' : (if L = T.length then T ++ [ns[i]] else T.set L ns[i]).length = max T.length (L + 1) := by
    by_cases e : L = T.length
    · rw [if_pos e, List.length_append, List.length_singleton]; omega
    · rw [if_neg e, List.length_set]; omega
  generalize (if L = T.length then T ++ [ns[i]] else T.set L ns[i]) = T' at get len' ⊢
  have get' : ∀ c (hc : c < T'.length), (c = L ∧ T'[c] = ns[i]) ∨ (c ≠ L ∧ ∃ hT : c < T.length, T'[c] = T[c]) := fun c hc => by
    have z := get c hc
    rw [List.getElem?_eq_getElem hc] at z
    by_cases d : c = L
    · rw [if_pos d] at z; exact .inl ⟨d, Option.some.inj z⟩
    · rw [if_neg d] at z
      obtain ⟨hT, e⟩ := List.getElem?_eq_some_iff.mp z.symm
      exact .inr ⟨d, hT, e.symm⟩
  refine ⟨by rw [List.length_append, h.len]; rfl, hi, ?_, ?_, ?_, ?_, ?_, ?_⟩
  · intro a b ha hb hab hbi e
    by_cases c : b < i
    · rw [old a (by omega), old b c] at e
      exact h.rise a b ha hb hab c e
    · have eb : b = i := by omega
      subst eb
      rw [new, old a hab] at e
      have hLT := h.low a L e
      have m := h.most a L ha hLT e
      have nc : ¬ ns[b] < T[L] := fun z => absurd ((cut L hLT).mp z) (Nat.lt_irrefl _)
      have := ne_top L hLT
      omega
  · intro b c hb hbi e
    rcases lelen e with ⟨c1, e1⟩ | ⟨c1, e1⟩
    · obtain ⟨a, ha, hab, ea, en⟩ := h.above b c hb c1 e1
      exact ⟨a, ha, hab, by rw [old a (by omega)]; exact ea, en⟩
    · subst c1
      have hcT : c < T.length := by omega
      obtain ⟨a, ha, hai, ea, en⟩ := h.top c hcT
      refine ⟨a, ha, hai, by rw [old a hai]; exact ea, ?_⟩
      rw [en]
      exact (cut c hcT).mpr (by omega)
  · rw [List.pairwise_iff_getElem]
    intro a b ha hb hab
    rcases get' a ha with ⟨ea, va⟩ | ⟨ea, hTa, va⟩ <;> rcases get' b hb with ⟨eb, vb⟩ | ⟨eb, hTb, vb⟩
    · omega
    · rw [va, vb]
      have nc : ¬ ns[i] < T[b] := fun z => by
        have := (cut b hTb).mp z
        omega
      have := ne_top b hTb
      omega
    · rw [va, vb]
      exact (cut a hTa).mpr (by omega)
    · rw [va, vb]
      exact decI a b hTa hTb hab
  · intro a l e
    rw [len']
    rcases lelen e with ⟨_, e1⟩ | ⟨_, e1⟩
    · have := h.low a l e1
      omega
    · omega
  · intro c hc
    rcases get' c hc with ⟨ec, vc⟩ | ⟨ec, hT, vc⟩
    · exact ⟨i, hi, Nat.lt_succ_self i, by rw [new, ec], vc.symm⟩
    · obtain ⟨a, ha, hai, ea, en⟩ := h.top c hT
      exact ⟨a, ha, Nat.lt_succ_of_lt hai, by rw [old a hai]; exact ea, by rw [vc]; exact en⟩
  · intro a c ha hc e
    rcases lelen e with ⟨c1, e1⟩ | ⟨c1, e1⟩
    · rcases get' c hc with ⟨ec, vc⟩ | ⟨ec, hT, vc⟩
      · rw [vc]
        have hLT := h.low a c e1
        have m := h.most a c ha hLT e1
        have nc : ¬ ns[i] < T[c] := fun z => by
          have := (cut c hLT).mp z
          omega
        omega
      · rw [vc]; exact h.most a c ha hT e1
    · subst c1
      rcases get' c hc with ⟨ec, vc⟩ | ⟨ec, hT, vc⟩
      · omega
      · exact absurd e1 ec
/-- layers(row), step by step: the layers so far, the tops -/
def layStep (s : List Nat × List Int) (w : Int) : List Nat × List Int :=
  (s.1 ++ [(s.2.filter fun t => decide (w < t)).length], if (s.2.filter fun t => decide (w < t)).length = s.2.length then s.2 ++ [w] else s.2.set (s.2.filter fun t => decide (w < t)).length w)
def layAt (ns : List Int) (i : Nat) : List Nat × List Int := (ns.take i).foldl layStep ([], [])
def layF (ns : List Int) : List Nat := (layAt ns ns.length).1
theorem layAt_succ {ns : List Int} {i : Nat} (hi : i < ns.length) : layAt ns (i + 1) = layStep (layAt ns i) ns[i] := by
  unfold layAt
  rw [List.take_add_one, List.getElem?_eq_getElem hi, List.foldl_append]
  rfl
theorem layAt_tops {ns : List Int} (nd : ns.Nodup) : ∀ i, i ≤ ns.length → Tops ns (layAt ns i).1 (layAt ns i).2 i
  | 0, _ => tops_nil ns
  | i + 1, h => by
    rw [layAt_succ h]
    exact tops_step nd (layAt_tops nd i (Nat.le_of_succ_le h)) h
theorem layAt_len {ns : List Int} (nd : ns.Nodup) {i : Nat} (hi : i ≤ ns.length) : (layAt ns i).2.length ≤ i := by
  have h := layAt_tops nd i hi
  have key : ∀ j, j ≤ i → j ≤ ns.length → (layAt ns j).2.length ≤ j := fun j => by
    induction j with
    | zero => intro _ _; exact Nat.le_refl _
    | succ j ih =>
      intro h1 h2
      rw [layAt_succ h2]
      unfold layStep
      dsimp only
      split
      · rw [List.length_append, List.length_singleton]
        have := ih (by omega) (by omega)
        omega
      · rw [List.length_set]
        have := ih (by omega) (by omega)
        omega
  exact key i (Nat.le_refl _) hi
theorem tops_done {ns : List Int} {ls : List Nat} {T : List Int} (h : Tops ns ls T ns.length) : LayOk ns ls :=
  ⟨h.len, fun i j hi hj hij e => h.rise i j hi hj hij hj e, fun j c hj e => h.above j c hj hj e⟩
theorem layF_ok {ns : List Int} (nd : ns.Nodup) : LayOk ns (layF ns) := tops_done (layAt_tops nd ns.length (Nat.le_refl _))
def nI (ls : List Nat) : List Int := ls.map fun (l : Nat) => (l : Int)
end Tw

set_option maxHeartbeats 4000000
namespace Tw
open PySem PySem.Spec PyProof.Rows L2
/-! ### falls(row), falling(row) -/
def fallsF (ns : List Int) : Nat := ((layF ns).map fun l => l + 1).foldl max 0
theorem foldmaxN : ∀ (l : List Nat) (a : Nat), (∀ x ∈ l, x ≤ l.foldl max a) ∧ a ≤ l.foldl max a ∧ (l.foldl max a = a ∨ l.foldl max a ∈ l)
  | [], a => ⟨fun x hx => (nomatch hx), Nat.le_refl _, .inl rfl⟩
  | y :: r, a => by
    obtain ⟨h1, h2, h3⟩ := foldmaxN r (max a y)
    show (∀ x ∈ y :: r, x ≤ r.foldl max (max a y)) ∧ a ≤ r.foldl max (max a y) ∧ (r.foldl max (max a y) = a ∨ r.foldl max (max a y) ∈ y :: r)
    refine ⟨fun x hx => ?_, by omega, ?_⟩
    · rcases List.mem_cons.mp hx with e | e
      · rw [e]; omega
      · exact h1 x e
    · rcases h3 with e | e
      · by_cases c : a ≤ y
        · right
          rw [e, Nat.max_eq_right c]; exact List.mem_cons_self
        · left
          rw [e, Nat.max_eq_left (by omega)]
      · right; exact List.mem_cons_of_mem _ e
theorem fallsF_lt {ns : List Int} {l : Nat} (h : l ∈ layF ns) : l < fallsF ns :=
  (foldmaxN _ 0).1 (l + 1) (List.mem_map.mpr ⟨l, h, rfl⟩)
theorem fallsF_top {ns : List Int} (h : 0 < fallsF ns) : fallsF ns - 1 ∈ layF ns := by
  rcases (foldmaxN ((layF ns).map fun l => l + 1) 0).2.2 with e | e
  · unfold fallsF at h
    omega
  · obtain ⟨l, hl, e2⟩ := List.mem_map.mp e
    have : fallsF ns - 1 = l := by
      unfold fallsF
      omega
    rw [this]
    exact hl
theorem fallsF_nil {ns : List Int} (nd : ns.Nodup) : fallsF ns = 0 ↔ ns = [] := by
  have hl := (layF_ok nd).len
  constructor
  · intro h
    cases ns with
    | nil => rfl
    | cons x r =>
      have h0 : 0 < (layF (x :: r)).length := by rw [hl]; exact Nat.succ_pos _
      have := fallsF_lt (List.getElem_mem h0)
      omega
  · rintro rfl
    rfl
theorem maxI_falls {ns : List Int} {m : Int} (hm : m ∈ nI (layF ns)) (hmax : ∀ y ∈ nI (layF ns), y ≤ m) : m + 1 = (fallsF ns : Int) := by
  unfold nI at hm hmax
  obtain ⟨l, hl, rfl⟩ := List.mem_map.mp hm
  have h1 := fallsF_lt hl
  have h2 := fallsF_top (ns := ns) (by omega)
  have h3 := hmax _ (List.mem_map.mpr ⟨_, h2, rfl⟩)
  omega
theorem idxOf_first : ∀ (l : List Nat) (x k : Nat), k < l.idxOf x → l[k]? ≠ some x
  | [], _, k, h => by
    rw [List.idxOf_nil] at h
    exact absurd h (Nat.not_lt_zero _)
  | y :: r, x, k, h => by
    rw [List.idxOf_cons] at h
    by_cases c : y = x
    · subst c
      simp at h
    · have c2 : (y == x) = false := beq_eq_false_iff_ne.mpr c
      rw [c2] at h
      cases k with
      | zero =>
        intro e
        exact c (Option.some.inj e)
      | succ k => exact idxOf_first r x k (Nat.lt_of_succ_lt_succ h)
/-- the places of the falling wagons below p: layer c, the wagon cur -/
def fallGo (ns : List Int) (ls : List Nat) : Nat → Nat → Int → List Nat
  | 0, _, _ => []
  | p + 1, c, cur => if ls[p]? = some (c - 1) ∧ 0 < c ∧ cur < ns.getD p 0 then p :: fallGo ns ls p (c - 1) (ns.getD p 0) else fallGo ns ls p c cur
def fallPos (ns : List Int) : List Nat := if fallsF ns = 0 then [] else
  (layF ns).idxOf (fallsF ns - 1) :: fallGo ns (layF ns) ((layF ns).idxOf (fallsF ns - 1)) (fallsF ns - 1) (ns.getD ((layF ns).idxOf (fallsF ns - 1)) 0)
def fallingF (ns : List Int) : List Int := (fallPos ns).reverse.map fun p => ns.getD p 0
theorem getD_get {ns : List Int} {i : Nat} (h : i < ns.length) : ns.getD i 0 = ns[i] := by
  rw [List.getD_eq_getElem?_getD, List.getElem?_eq_getElem h]; rfl
structure GoOk (ns : List Int) (ls : List Nat) (p c : Nat) (cur : Int) (R : List Nat) : Prop where
  len : R.length = c
  dec : R.Pairwise (· > ·)
  lt : ∀ x ∈ R, x < p
  lay : ∀ (k : Nat) (hk : k < R.length), ls[R[k]]? = some (c - 1 - k)
  val : (cur :: R.map fun p => ns.getD p 0).Pairwise (· < ·)
theorem fallGo_ok {ns : List Int} {ls : List Nat} (h : LayOk ns ls) : ∀ (p c : Nat) (cur : Int), p ≤ ns.length → (0 < c → ∃ i, ∃ hi : i < ns.length, i < p ∧ ls[i]? = some (c - 1) ∧ cur < ns[i]) → GoOk ns ls p c cur (fallGo ns ls p c cur)
  | 0, c, cur, _, hx => by
    have hc : c = 0 := by
      refine Nat.eq_zero_of_not_pos fun z => ?_
      obtain ⟨i, _, hi, _⟩ := hx z
      exact Nat.not_lt_zero _ hi
    subst hc
    exact ⟨rfl, .nil, fun x hx => (nomatch hx), fun k hk => absurd hk (Nat.not_lt_zero _), List.pairwise_cons.mpr ⟨fun x hx => (nomatch hx), .nil⟩⟩
  | p + 1, c, cur, hp, hx => by
    unfold fallGo
    have hpl : p < ns.length := hp
    by_cases cnd : ls[p]? = some (c - 1) ∧ 0 < c ∧ cur < ns.getD p 0
    · rw [if_pos cnd]
      obtain ⟨c1, c2, c3⟩ := cnd
      rw [getD_get hpl] at c3 ⊢
      have ih := fallGo_ok h p (c - 1) ns[p] (Nat.le_of_succ_le hp) (fun hc => by
        obtain ⟨i, hi, hip, e, hn⟩ := h.above p (c - 2) hpl (by rw [c1]; congr 1; omega)
        exact ⟨i, hi, hip, by rw [e]; congr 1, hn⟩)
      refine ⟨by rw [List.length_cons, ih.len]; omega, List.pairwise_cons.mpr ⟨fun x hx => ih.lt x hx, ih.dec⟩, fun x hx => ?_, fun k hk => ?_, ?_⟩
      · rcases List.mem_cons.mp hx with e | e
        · rw [e]; exact Nat.lt_succ_self p
        · exact Nat.lt_succ_of_lt (ih.lt x e)
      · cases k with
        | zero => exact c1
        | succ k =>
          have hk' : k < (fallGo ns ls p (c - 1) ns[p]).length := Nat.lt_of_succ_lt_succ hk
          have := ih.lay k hk'
          show ls[(fallGo ns ls p (c - 1) ns[p])[k]]? = some (c - 1 - (k + 1))
          rw [this]
          congr 1
          omega
      · rw [List.map_cons, getD_get hpl]
        have v := ih.val
        refine List.pairwise_cons.mpr ⟨fun x hx => ?_, v⟩
        rcases List.mem_cons.mp hx with e | e
        · rw [e]; exact c3
        · have := (List.pairwise_cons.mp v).1 x e
          omega
    · rw [if_neg cnd]
      have ih := fallGo_ok h p c cur (Nat.le_of_succ_le hp) (fun hc => by
        obtain ⟨i, hi, hip, e, hn⟩ := hx hc
        refine ⟨i, hi, ?_, e, hn⟩
        have : i ≠ p := fun z => by
          subst z
          exact cnd ⟨e, hc, by rw [getD_get hpl]; exact hn⟩
        omega)
      exact ⟨ih.len, ih.dec, fun x hx => Nat.lt_succ_of_lt (ih.lt x hx), ih.lay, ih.val⟩
/-- the places of falling(row), as they stand: ascending, layer k at the k-th, the wagons falling -/
structure FallOk (ns : List Int) (R : List Nat) : Prop where
  len : R.length = fallsF ns
  inc : R.Pairwise (· < ·)
  lt : ∀ x ∈ R, x < ns.length
  lay : ∀ (k : Nat) (hk : k < R.length), (layF ns)[R[k]]? = some k
  val : (R.map fun p => ns.getD p 0).Pairwise (· > ·)
theorem lastIdx {ns : List Int} (nd : ns.Nodup) (h : 0 < fallsF ns) : (layF ns).idxOf (fallsF ns - 1) < ns.length ∧ (layF ns)[(layF ns).idxOf (fallsF ns - 1)]? = some (fallsF ns - 1) := by
  have hm := fallsF_top h
  have h1 := List.idxOf_lt_length_of_mem hm
  refine ⟨by rw [← (layF_ok nd).len]; exact h1, ?_⟩
  rw [List.getElem?_eq_getElem h1, List.getElem_idxOf h1]
theorem fallPos_ok {ns : List Int} (nd : ns.Nodup) : FallOk ns (fallPos ns).reverse := by
  have L := layF_ok nd
  unfold fallPos
  by_cases h0 : fallsF ns = 0
  · rw [if_pos h0]
    exact ⟨by rw [h0]; rfl, .nil, fun x hx => (nomatch hx), fun k hk => absurd hk (Nat.not_lt_zero _), .nil⟩
  · rw [if_neg h0]
    obtain ⟨hl, hlay⟩ := lastIdx nd (Nat.pos_of_ne_zero h0)
    generalize (layF ns).idxOf (fallsF ns - 1) = last at hl hlay ⊢
    have G := fallGo_ok L last (fallsF ns - 1) (ns.getD last 0) (Nat.le_of_lt hl) (fun hc => by
      obtain ⟨i, hi, hip, e, hn⟩ := L.above last (fallsF ns - 2) hl (by rw [hlay]; congr 1; omega)
      exact ⟨i, hi, hip, by rw [e]; congr 1, by rw [getD_get hl]; exact hn⟩)
    generalize fallGo ns (layF ns) last (fallsF ns - 1) (ns.getD last 0) = R at G ⊢
    have lenR : (last :: R).length = fallsF ns := by rw [List.length_cons, G.len]; omega
    refine ⟨by rw [List.length_reverse]; exact lenR, ?_, fun x hx => ?_, fun k hk => ?_, ?_⟩
    · rw [List.pairwise_reverse]
      exact List.pairwise_cons.mpr ⟨fun x hx => G.lt x hx, G.dec⟩
    · rw [List.mem_reverse] at hx
      rcases List.mem_cons.mp hx with e | e
      · rw [e]; exact hl
      · have := G.lt x e
        omega
    · rw [List.length_reverse] at hk
      rw [List.getElem_reverse]
      have key : ∀ (j : Nat) (hj : j < (last :: R).length), j + k + 1 = (last :: R).length → (layF ns)[(last :: R)[j]]? = some k := fun j hj e => by
        cases j with
        | zero =>
          show (layF ns)[last]? = some k
          rw [hlay]; congr 1; omega
        | succ j =>
          have hj' : j < R.length := Nat.lt_of_succ_lt_succ hj
          show (layF ns)[R[j]]? = some k
          have eL : (last :: R).length = R.length + 1 := rfl
          have gl := G.len
          rw [G.lay j hj']; congr 1; omega
      exact key _ (by omega) (by omega)
    · rw [List.map_reverse, List.pairwise_reverse]
      exact G.val
end Tw

set_option maxHeartbeats 4000000
namespace Tw
open PySem PySem.Spec PyProof.Rows L2
/-! ### zip(t, l), t a tuple and l a list -/
def ItzM (K : PySem.W.Frag) (a b : Addr) : It where
  go := fun i H => ∃ (xs ys : List V) (x y : V), SqT K H a xs ∧ SqL K H b ys ∧ xs[i]? = some x ∧ ys[i]? = some y
  yld := fun i H v H' => ∃ T x y, v = .ref T ∧ H T = none ∧ H' = upd H T (.tup [x, y]) ∧ (∀ xs, SqT K H a xs → xs[i]? = some x) ∧ ∀ ys, SqL K H b ys → ys[i]? = some y
  stop := fun i H => ∃ xs ys : List V, SqT K H a xs ∧ SqL K H b ys ∧ i ≤ xs.length ∧ i ≤ ys.length ∧ (i = xs.length ∨ i = ys.length)
theorem turnZipM {P : Program} {w : World} {K : PySem.W.Frag} {elts : List Expr} {kk : Nat} {tpos : Pos} {a b z TI TO i1 i2 : Addr} (Z : ZipSep2 z TI TO i1 i2 [i1, a] [i2, b]) :
    Turn P w K (.Tuple elts kk tpos) (ItzM K a b) [z, TI, TO, i1, i2] z (fun i h => IsZip h z TI TO .none ∧ IsTupOf2 h TI (.ref i1) (.ref i2) ∧ (∃ u v, IsTupOf2 h TO u v) ∧ h.IsTupleIter i1 a i ∧ h.IsListIter i2 b i) where
  mem := by simp
  obj := fun i h st c hc => by
    obtain ⟨hz, hTI, ⟨_, _, hTO⟩, ⟨o1, e1, _, d1⟩, ⟨o2, e2, _, d2⟩⟩ := st
    simp only [List.mem_cons, List.not_mem_nil, or_false] at hc
    rcases hc with rfl | rfl | rfl | rfl | rfl
    · exact ⟨_, hz, fun v q => nomatch q⟩
    · exact ⟨_, hTI, fun v q => nomatch q⟩
    · exact ⟨_, hTO, fun v q => nomatch q⟩
    · exact ⟨o1, e1, fun v q => by rw [d1] at q; cases q⟩
    · exact ⟨o2, e2, fun v q => by rw [d2] at q; cases q⟩
  keep := fun i h h' st k => by
    obtain ⟨hz, hTI, ⟨u, v, hTO⟩, h1, h2⟩ := st
    exact ⟨k z (by simp) _ hz, k TI (by simp) _ hTI, ⟨u, v, k TO (by simp) _ hTO⟩, h1.at fun o q => k i1 (by simp) o q, h2.at fun o q => k i2 (by simp) o q⟩
  item := by
    intro X hP hw hK hc i pins s σ H E I hf st hg
    subst hP hw hK
    obtain ⟨hz, hTI, ⟨_, _, hTO⟩, h1, h2⟩ := st
    obtain ⟨xs, ys, x, y, hqx, hqy, hx, hy⟩ := hg
    obtain ⟨its, rv, p1, _⟩ := I.tuple hqx
    obtain ⟨its2, rv2, p2, _⟩ := I.list hqy
    obtain ⟨u, hu, ru⟩ := rv.get hx
    obtain ⟨u2, hu2, ru2⟩ := rv2.get hy
    have lz : z < s.heap.objs.size := Heap.lt_size hz
    have l1 : i < its.toArray.size := by
      have q := (List.getElem?_eq_some_iff.mp hu).1
      simpa using q
    have l2 : i < its2.toArray.size := by
      have q := (List.getElem?_eq_some_iff.mp hu2).1
      simpa using q
    have n1 : a ≠ i1 := fun e => by
      obtain ⟨o, eo, ec, _⟩ := h1
      obtain ⟨o', eo', ec', _⟩ := p1
      rw [e, eo] at eo'
      cases eo'
      rw [ec] at ec'
      exact absurd ec' (by decide)
    have n2 : b ≠ i2 := fun e => by
      obtain ⟨o, eo, ec, _⟩ := h2
      obtain ⟨o', eo', ec', _⟩ := p2.isList
      rw [e, eo] at eo'
      cases eo'
      rw [ec] at ec'
      exact absurd ec' (by decide)
    refine wpAny_pyNext_zipD2_item Z (Draws.tuple (A := X.A.in1) (I.ok.hd hc) i1 a n1 its.toArray) (Draws.list (A := X.A.in1) (I.ok.hd hc) i2 b n2 its2.toArray) hz hTI hTO ⟨h1, p1⟩ ⟨h2, p2.isList⟩ l1 l2 fun v1 v2 h1' tk1 hv1 hv2 z1 to1 s1 s2 new1 sz1 kp1 => ?_
    have e1 : v1 = u := by
      have q : its[i]? = some v1 := by simpa using hv1
      rw [hu] at q
      exact (Option.some.inj q).symm
    have e2 : v2 = u2 := by
      have q : its2[i]? = some v2 := by simpa using hv2
      rw [hu2] at q
      exact (Option.some.inj q).symm
    subst e1 e2
    refine ⟨_, rfl, wpAny_letOwnedTupleGo_zip (s := { s with heap := h1', toks := tk1 }) z1 fun h2' zz sb => ?_⟩
    have new2 : h2'.get? s.heap.objs.size = some { cls := .type "tuple", data := .seq #[v1, v2] } := (sb.2 _ (Nat.ne_of_gt lz)).trans new1
    have okT : ObjOk X.prog X.w (upd H s.heap.objs.size (.tup [x, y])) h2' s.heap.objs.size (.tup [x, y]) := ⟨by show 2 ≤ sizeLine; decide, [v1, v2], .cons ru (.cons ru2 .nil), ⟨_, new2, rfl, _, rfl⟩⟩
    have I1 : Inv X pins σ (upd H s.heap.objs.size (.tup [x, y])) { s with heap := h2', toks := tk1 } :=
      I.turnedNew (ch := [z, TI, TO, i1, i2]) (fun c o hb q => (sb.2 c (fun q' => hb (by simp [q']))).trans (kp1 c o (fun q' => hb (by simp [q'])) (fun q' => hb (by simp [q'])) (fun q' => hb (by simp [q'])) (fun q' => hb (by simp [q'])) q)) hf (Nat.le_refl _) okT
    refine ⟨.ref s.heap.objs.size, _, I1, rfl, ⟨_, x, y, rfl, I.hok.fresh (Nat.le_refl _), rfl, fun l hl => by rw [I.tuple_inj hl hqx]; exact hx, fun l hl => by rw [I.list_inj hl hqy]; exact hy⟩, ⟨zz, ?_, ⟨v1, v2, ?_⟩, ?_, ?_⟩, fun c hcm => ?_⟩
    · exact (sb.2 _ Z.TIz).trans (kp1 _ _ Z.TIz Z.TITO Z.TIi1 Z.TIi2 hTI)
    · exact (sb.2 _ Z.TOz).trans to1
    · exact s1.1.at fun o q => (sb.2 _ Z.zi1.symm).trans q
    · exact s2.1.at fun o q => (sb.2 _ Z.zi2.symm).trans q
    · have lt : c < s.heap.objs.size := by
        simp only [List.mem_cons, List.not_mem_nil, or_false] at hcm
        rcases hcm with rfl | rfl | rfl | rfl | rfl
        · exact lz
        · exact Heap.lt_size hTI
        · exact Heap.lt_size hTO
        · obtain ⟨_, q, _⟩ := h1; exact Heap.lt_size q
        · obtain ⟨_, q, _⟩ := h2; exact Heap.lt_size q
      rw [upd_ne (Nat.ne_of_lt lt)]
      exact (hf c hcm).1
  done := by
    intro X hP hw hK hc i pins s σ H E I hf st hg
    subst hP hw hK
    obtain ⟨hz, hTI, ⟨_, _, hTO⟩, h1, h2⟩ := st
    obtain ⟨xs, ys, hqx, hqy, le1, le2, hend⟩ := hg
    obtain ⟨its, rv, p1, _⟩ := I.tuple hqx
    obtain ⟨its2, rv2, p2, _⟩ := I.list hqy
    have g1 : its.toArray.size = xs.length := by rw [List.size_toArray, rv.length]
    have g2 : its2.toArray.size = ys.length := by rw [List.size_toArray, rv2.length]
    have n1 : a ≠ i1 := fun e => by
      obtain ⟨o, eo, ec, _⟩ := h1
      obtain ⟨o', eo', ec', _⟩ := p1
      rw [e, eo] at eo'
      cases eo'
      rw [ec] at ec'
      exact absurd ec' (by decide)
    have n2 : b ≠ i2 := fun e => by
      obtain ⟨o, eo, ec, _⟩ := h2
      obtain ⟨o', eo', ec', _⟩ := p2.isList
      rw [e, eo] at eo'
      cases eo'
      rw [ec] at ec'
      exact absurd ec' (by decide)
    exact wpAny_pyNext_zipD2_end Z (Draws.tuple (A := X.A.in1) (I.ok.hd hc) i1 a n1 its.toArray) (Draws.list (A := X.A.in1) (I.ok.hd hc) i2 b n2 its2.toArray) hz hTI hTO ⟨h1, p1⟩ ⟨h2, p2.isList⟩ (by omega) (by omega) (by omega) fun h' tk hk => ⟨rfl, I.turnedL (t' := tk) (ch := [z, TI, TO, i1, i2]) (fun c o hb q =>
      hk c o (fun q' => hb (by simp [q'])) (fun q' => hb (by simp [q'])) (fun q' => hb (by simp [q'])) (fun q' => hb (by simp [q'])) q) hf⟩
  self := fun A i s Q E st h => wpAny_pyIter_zip st.1 h
def rLenS (K : PySem.W.Frag) : List V → Hp → VK → Prop := fun xs H Q => ∃ p ys, xs = [.ref p] ∧ (SqL K H p ys ∨ SqT K H p ys) ∧ Q (.int (ys.length : Nat)) H
def iZipM (K : PySem.W.Frag) (ta : TA) : TI := fun σ H R => ta σ H fun vs H1 => ∃ a b xs ys, vs = [.ref a, .ref b] ∧ SqT K H1 a xs ∧ SqL K H1 b ys ∧ R (ItzM K a b) H1
theorem pi_zipM {X : Cx} {e e2 : Expr} {ta : TA} {p pos tpos : Pos} {elts : List Expr} {kk : Nat} (hg : Gl X "zip") (hm : X.mg "zip" = none) (ha : PA X [e, e2] ta)
    (hs : starEach [e, e2] X.env = (false, eval e X.env) :: starEach [e2] X.env := by rfl) (hpl : (backTo pos (starEach [e2] X.env)).any (·.1) = false := by rfl) :
    PI X (.Tuple elts kk tpos) (.Call (.Name "zip" p) [e, e2] [] pos) (iZipM X.K ta) := by
  refine ⟨fun pins s σ H R I h => ?_⟩
  refine Call_ (ld_blt I hg hm PyProof.Rows.boot_zip (PyProof.Rows.callWith_type1 (thn (ha.run pos pins s σ H _ I h) fun us s1 ⟨vs, H1, I1, r1, q1⟩ => ?_) hs hpl))
  obtain ⟨a, b, xs, ys, ex, hqx, hqy, q⟩ := q1
  subst ex
  cases r1 with
  | cons r rr =>
    cases rr with
    | cons r' rr =>
      cases rr
      cases r
      cases r'
      obtain ⟨its, rv, p1, _⟩ := I1.tuple hqx
      obtain ⟨its2, rv2, p2, _⟩ := I1.list hqy
      have la : a < s1.heap.objs.size := by
        obtain ⟨_, q, _⟩ := p1
        exact Heap.lt_size q
      have lb : b < s1.heap.objs.size := p2.lt
      refine zip_begins2 (begins_tuple a its.toArray) (begins_list b its2.toArray) p1 p2.isList fun h' hz hTI hTO h1 h2 hsz hk => wpAny_pyIter_zip hz ?_
      have I2 : Inv X pins σ H1 { s1 with heap := h' } := I1.kept (t' := s1.toks) hk
      refine ⟨s1.heap.objs.size + 4, [s1.heap.objs.size + 4, s1.heap.objs.size + 2, s1.heap.objs.size + 3, s1.heap.objs.size, s1.heap.objs.size + 1], _, _, H1, rfl, I2, turnZipM (zip_sep2 (fun c hc => by rw [List.mem_singleton.mp hc]; exact la) (fun c hc => by rw [List.mem_singleton.mp hc]; exact lb)), ⟨hz, hTI, ⟨_, _, hTO⟩, ⟨_, h1, rfl, rfl⟩, ⟨_, h2, rfl, rfl⟩⟩, fun c hcm => ?_, q⟩
      have le : s1.heap.objs.size ≤ c := by
        simp only [List.mem_cons, List.not_mem_nil, or_false] at hcm
        rcases hcm with q | q | q | q | q
        · rw [q]; exact Nat.le_add_right _ 4
        · rw [q]; exact Nat.le_add_right _ 2
        · rw [q]; exact Nat.le_add_right _ 3
        · rw [q]; exact Nat.le_refl _
        · rw [q]; exact Nat.le_add_right _ 1
      exact I1.fpOk le (I1.hok.fresh le)
theorem walk_zipM {K : PySem.W.Frag} {a b : Addr} {xs ys : List V} {n : Nat} (hn : n = min xs.length ys.length) : Walk (ItzM K a b) n (fun H => SqT K H a xs ∧ SqL K H b ys) (YPair (fun i => xs[i]?) (fun i => ys[i]?)) where
  goes := fun i H hi q => by
    have h1 : i < xs.length := by omega
    have h2 : i < ys.length := by omega
    exact ⟨xs, ys, xs[i], ys[i], q.1, q.2, List.getElem?_eq_getElem h1, List.getElem?_eq_getElem h2⟩
  stops := fun H q => ⟨xs, ys, q.1, q.2, by omega, by omega, by omega⟩
  yields := fun i H x H' hi q y => by
    obtain ⟨T, u, v, e1, e2, e3, f1, f2⟩ := y
    exact ⟨T, u, v, e1, e2, e3, f1 xs q.1, f2 ys q.2⟩
end Tw

set_option maxHeartbeats 4000000
namespace Tw
open PySem PySem.Spec PyProof.Rows L2
/-! ### t[::-1] of a tuple -/
section
variable {prog : Program} {w : World} {A : Around} {E : Value → Shared → Prop} {s : Shared}
theorem appliedBack {sl : Addr} {vl vu vs : Value} {n : Nat} {Q : Int × Int × Nat → Shared → Prop} (hs : s.heap.IsSliceOf sl vl vu vs) (pl : IsPart vl none) (pu : IsPart vu none) (ps : IsPart vs (some (-1)))
    (h : Q ((n : Int) - 1, -1, n) s) : wpAny (model prog w) A (Builtin.Slice.sliceApplied (.ref sl) (pure (n : Int))) Q E s := by
  obtain ⟨os, hos, hcs, hds⟩ := id hs
  unfold Builtin.Slice.sliceApplied Builtin.Slice.sliceFields
  refine wpAny_bind (wpAny_bind (wpAny_field hos hds (x := vl) rfl (wpAny_bind (wpAny_field hos hds (x := vu) rfl (wpAny_bind (wpAny_field hos hds (x := vs) rfl (wpAny_pure ?_)))))))
  refine wpAny_bind (HT.slicePart_ ps ?_)
  show wpAny _ _ (if ((-1 : Int) == 0) = true then _ else _) _ _ s
  rw [if_neg (by decide)]
  refine wpAny_bind (HT.slicePart_ pl (wpAny_bind (HT.slicePart_ pu (wpAny_bind (wpAny_pure ?_)))))
  have e1 : Builtin.Slice.sliceAdjust none none (-1) (n : Int) = ((n : Int) - 1, -1) := by
    unfold Builtin.Slice.sliceAdjust
    simp
  have e2 : Builtin.Slice.slicePlaces ((n : Int) - 1) (-1) (-1) = n := by
    unfold Builtin.Slice.slicePlaces
    simp only [show ¬ ((-1 : Int) > 0) by decide, if_false, show - (-1 : Int) = 1 by decide, Int.ediv_one]
    split
    · omega
    · omega
  show wpAny _ _ (match Builtin.Slice.sliceAdjust none none (-1) (n : Int) with | (lo, hi) => pure (lo, (-1 : Int), Builtin.Slice.slicePlaces lo hi (-1))) _ _ s
  rw [e1]
  show wpAny _ _ (pure ((n : Int) - 1, (-1 : Int), Builtin.Slice.slicePlaces ((n : Int) - 1) (-1) (-1))) _ _ s
  rw [e2]
  exact wpAny_pure h
theorem pickBack (xs : List Value) : ((List.range xs.length).filterMap fun (k : Nat) => xs.toArray[((xs.length : Int) - 1 + (k : Int) * -1).toNat]?) = xs.reverse := by
  apply List.ext_getElem?
  intro i
  have e : ∀ m, m ≤ xs.length → ((List.range m).filterMap fun (k : Nat) => xs.toArray[((xs.length : Int) - 1 + (k : Int) * -1).toNat]?) = xs.reverse.take m := fun m => by
    induction m with
    | zero => intro _; rfl
    | succ m ih =>
      intro hm
      rw [List.range_succ, List.filterMap_append, ih (by omega), List.take_add_one]
      congr 1
      have hi : ((xs.length : Int) - 1 + (m : Int) * -1).toNat = xs.length - 1 - m := by omega
      have h2 : xs.length - 1 - m < xs.length := by omega
      rw [List.getElem?_reverse (by omega)]
      simp only [List.filterMap_cons, List.filterMap_nil, hi, List.getElem?_toArray, List.getElem?_eq_getElem h2]
      rfl
  rw [e xs.length (Nat.le_refl _), List.take_of_length_le (by rw [List.length_reverse]; exact Nat.le_refl _)]
theorem getItem_tuple_back {t sl : Addr} {items : List Value} {vl vu vs : Value} {Q : Value → Shared → Prop} (ht : IsTup s.heap t items.toArray) (hs : s.heap.IsSliceOf sl vl vu vs) (pl : IsPart vl none) (pu : IsPart vu none) (ps : IsPart vs (some (-1)))
    (h : Q (.ref s.heap.objs.size) { s with heap := s.heap.push { cls := .type "tuple", data := .seq items.reverse.toArray } })
    (hsz : items.length ≤ sizeLine) : wpAny (model prog w) A (getItem (.ref t) (.ref sl)) Q E s := by
  obtain ⟨os, hos, hcs, hds⟩ := id hs
  have hTs : s.TypeIs (.ref sl) "slice" := ⟨os, hos, hcs⟩
  unfold getItem
  try with_reducible refine wpAny_holding ?_
  first | refine wpAny_bind (wpAny_pure ?_) | skip
  refine wpAny_bind (wpAny_sequenceKey ht.typeIs (by decide) ?_)
  refine wpAny_bind (wpAny_callSpecial?_slot (name := Str.ofString "__getitem__") ht.typeIs PyProof.Rows.slot_tuple_getitem
    (wpAny_call_entry PyProof.Rows.slot_tuple_getitem ht.typeIs entry_tuple_getitem ?_ (args_tuple_getitem _ _)))
  show wpAny _ _ (Builtin.Tuple.tupleItemsOf (.ref t) >>= _) _ _ s
  refine wpAny_bind (PyProof.Rows.tupleItemsOf_ ht ?_)
  refine wpAny_bind (wpAny_typeOf hTs ?_)
  rw [if_pos (by decide)]
  have e0 : ((items.toArray.size : Nat) : Int) = ((items.length : Nat) : Int) := by rw [List.size_toArray]
  rw [show (pure ((items.toArray.size : Nat) : Int) : Sem Int) = pure ((items.length : Nat) : Int) by rw [e0]]
  refine wpAny_bind (appliedBack hs pl pu ps ?_)
  have hno : ¬ (((((items.length : Nat) : Int) - 1) == 0 && (-1 : Int) == 1 && items.length == items.toArray.size) = true) := by
    rw [show ((-1 : Int) == 1) = false from rfl, Bool.and_false, Bool.false_and]
    exact Bool.false_ne_true
  show wpAny _ _ (if ((((items.length : Nat) : Int) - 1) == 0 && (-1 : Int) == 1 && items.length == items.toArray.size) = true then _ else _) _ _ s
  rw [if_neg hno, pickBack]
  have htake : sizeOk (.seq items.reverse.toArray) := by
    show items.reverse.toArray.size ≤ sizeLine
    rw [List.size_toArray, List.length_reverse]
    exact hsz
  first
    | exact wpAny_bind (m := Builtin.Tuple.tupleExact _) (wpAny_newObj_type (wpAny_pure ⟨_, rfl, wpAny_pure h⟩) htake)
    | exact wpAny_bind (m := Builtin.Tuple.tupleExact _) (wpAny_newObj_type (wpAny_bind (wpAny_pure (wpAny_pure ⟨_, rfl, wpAny_pure h⟩))) htake)
    | exact wpAny_bind (wpAny_bind (m := Builtin.Tuple.tupleExact _) (wpAny_newObj_type (wpAny_pure (wpAny_pure ⟨_, rfl, wpAny_pure h⟩)) htake))
    | exact wpAny_bind (wpAny_bind (m := Builtin.Tuple.tupleExact _) (wpAny_newObj_type (wpAny_pure ⟨_, rfl, wpAny_pure h⟩) htake))
end
section
variable {X : Cx}
def tRevT (K : PySem.W.Frag) (te : TE) : TE := fun σ H Q => te σ H fun x H1 => ∃ (a : Addr) (xs : List V), x = .ref a ∧ SqT K H1 a xs ∧ ∀ p, H1 p = none → Q (.ref p) (upd H1 p (.tup xs.reverse))
theorem pe_revT {e : Expr} {te : TE} {k : Nat} {p1 p2 p3 pos : Pos} (he : PE X e te) : PE X (.Subscript e (.Slice none none (some (.UnaryOp .USub (.Constant (.int 1) k p1) p2)) p3) pos) (tRevT X.K te) := by
  refine ⟨fun pins s σ H Q I h => ?_⟩
  refine Subscript_ (thn (he.run pins s σ H _ I h) fun v s1 ⟨x, H1, I1, r1, a, xs, ex, hx, q⟩ => ?_)
  subst ex
  cases r1
  refine wpAny_Slice (thn (po_none.run pins s1 σ H1 (fun o H2 => o = none ∧ H2 = H1) I1 ⟨rfl, rfl⟩) fun vl s2 ⟨l, H2, I2, pl, el, e2⟩ => ?_)
  subst el e2
  refine thn (po_none.run pins s2 σ H2 (fun o H3 => o = none ∧ H3 = H2) I2 ⟨rfl, rfl⟩) fun vu s3 ⟨u, H3, I3, pu, eu, e3⟩ => ?_
  subst eu e3
  have minus : PO X (some (.UnaryOp .USub (.Constant (.int 1) k p1) p2)) (tPart (tUn (rU fun i => .int (-i)) (tC (.int 1)))) := po_some (pe_un un_neg pe_int)
  refine thn (minus.run pins s3 σ H3 (fun o H4 => o = some (-1) ∧ H4 = H3) I3 ⟨1, rfl, -1, rfl, rfl, rfl⟩) fun vs s4 ⟨o, H4, I4, ps, eo, e4⟩ => ?_
  subst eo e4
  have I5 : Inv X pins σ H4 { s4 with heap := s4.heap.push { cls := .type "slice", data := .fields #[vl, vu, vs] } } := I4.kept (t' := s4.toks) fun b ob q => Heap.get?_push_of_some _ q
  obtain ⟨its, r, ht, hz⟩ := I5.tuple hx
  show wpAny (model X.prog X.w) X.A (subscriptTail e (.Slice none none (some (.UnaryOp .USub (.Constant (.int 1) k p1) p2)) p3) (.ref a) (.ref s4.heap.objs.size)) (EP X pins σ Q) X.xe { s4 with heap := s4.heap.push { cls := .type "slice", data := .fields #[vl, vu, vs] } }
  refine tail_any (ops := [.ref a, .ref s4.heap.objs.size]) ht.typeIs PyProof.Rows.slot_tuple_getitem.lookup ?_ (by with_unfolding_all rfl)
  refine getItem_tuple_back ht (Heap.IsSliceOf.new _ vl vu vs) pl pu ps ?_ (by rw [← r.length]; exact hz)
  refine ⟨.ref _, _, I5.laid (t' := s4.toks) (o := .tup xs.reverse) (fun b ob q => Heap.get?_push_of_some _ q) (Nat.le_refl _) ?_, rfl, q _ (I5.hok.fresh (Nat.le_refl _))⟩
  exact ⟨by rw [List.length_reverse]; exact hz, _, r.reverse, IsTup.new _ _⟩
end
end Tw

set_option maxHeartbeats 4000000
namespace Tw
open PySem PySem.Spec PyProof.Rows L2
/-! ### the wagons of a lot, in their order -/
def lotT (xs ts : List Int) (c : Int) (j : Nat) : List Int := (((xs.zip ts).take j).filter fun p => decide (p.2 = c)).map (·.1)
def lotZ (xs ts : List Int) (c : Int) : List Int := ((xs.zip ts).filter fun p => decide (p.2 = c)).map (·.1)
theorem lotT_zero (xs ts : List Int) (c : Int) : lotT xs ts c 0 = [] := rfl
theorem lotT_all {xs ts : List Int} {c : Int} {n : Nat} (h : n = min xs.length ts.length) : lotT xs ts c n = lotZ xs ts c := by
  unfold lotT lotZ
  rw [List.take_of_length_le (by rw [List.length_zip]; omega)]
theorem lotT_len (xs ts : List Int) (c : Int) (j : Nat) : (lotT xs ts c j).length ≤ xs.length := by
  unfold lotT
  rw [List.length_map]
  refine Nat.le_trans (List.length_filter_le ..) ?_
  rw [List.length_take, List.length_zip]
  omega
theorem lotZ_len (xs ts : List Int) (c : Int) : (lotZ xs ts c).length ≤ xs.length := by
  unfold lotZ
  rw [List.length_map]
  refine Nat.le_trans (List.length_filter_le ..) ?_
  rw [List.length_zip]
  omega
theorem lotT_step {xs ts : List Int} {c x t : Int} {j : Nat} (h1 : xs[j]? = some x) (h2 : ts[j]? = some t) : lotT xs ts c (j + 1) = if t = c then lotT xs ts c j ++ [x] else lotT xs ts c j := by
  have e : (xs.zip ts)[j]? = some (x, t) := List.getElem?_zip_eq_some.mpr ⟨h1, h2⟩
  unfold lotT
  rw [List.take_add_one, e]
  by_cases d : t = c
  · rw [if_pos d]
    simp [d]
  · rw [if_neg d]
    simp [d]
theorem lot_pair (xs ts : List Int) (c : Int) : (lotZ xs ts c).Pairwise (· < ·) ↔ ∀ (i j : Nat) (x y : Int), i < j → xs[i]? = some x → xs[j]? = some y → ts[i]? = some c → ts[j]? = some c → x < y := by
  unfold lotZ
  rw [List.pairwise_map, List.pairwise_filter, List.pairwise_iff_getElem]
  constructor
  · intro h i j x y hij h1 h2 h3 h4
    have ei : (xs.zip ts)[i]? = some (x, c) := List.getElem?_zip_eq_some.mpr ⟨h1, h3⟩
    have ej : (xs.zip ts)[j]? = some (y, c) := List.getElem?_zip_eq_some.mpr ⟨h2, h4⟩
    obtain ⟨li, gi⟩ := List.getElem?_eq_some_iff.mp ei
    obtain ⟨lj, gj⟩ := List.getElem?_eq_some_iff.mp ej
    have z := h i j li lj hij
    rw [gi, gj] at z
    exact z (decide_eq_true rfl) (decide_eq_true rfl)
  · intro h i j hi hj hij p q
    have ei : (xs.zip ts)[i]? = some (xs.zip ts)[i] := List.getElem?_eq_getElem hi
    have ej : (xs.zip ts)[j]? = some (xs.zip ts)[j] := List.getElem?_eq_getElem hj
    obtain ⟨a1, a2⟩ := List.getElem?_zip_eq_some.mp ei
    obtain ⟨b1, b2⟩ := List.getElem?_zip_eq_some.mp ej
    rw [of_decide_eq_true p] at a2
    rw [of_decide_eq_true q] at b2
    exact h i j _ _ hij a1 b1 a2 b2
theorem lot_some {xs ts : List Int} {c x : Int} {i : Nat} (h1 : xs[i]? = some x) (h2 : ts[i]? = some c) : lotZ xs ts c ≠ [] := by
  have e : (xs.zip ts)[i]? = some (x, c) := List.getElem?_zip_eq_some.mpr ⟨h1, h2⟩
  intro z
  unfold lotZ at z
  have z1 := List.map_eq_nil_iff.mp z
  have z2 := List.filter_eq_nil_iff.mp z1 (x, c) (List.mem_of_getElem? e)
  exact z2 (decide_eq_true rfl)
/-- the lots together are all -/
theorem lots_upto (L : List (Int × Int)) : ∀ F : Nat, (∀ p ∈ L, 0 ≤ p.2) → ((List.range F).map fun (c : Nat) => (((L.filter fun p => decide (p.2 = (c : Int))).length : Nat) : Int)).sum = (((L.filter fun p => decide (p.2 < (F : Int))).length : Nat) : Int)
  | 0, h => by
    have e : L.filter (fun p => decide (p.2 < ((0 : Nat) : Int))) = [] := List.filter_eq_nil_iff.mpr fun p hp z => by
      have := h p hp
      have := of_decide_eq_true z
      omega
    rw [e]
    rfl
  | F + 1, h => by
    rw [List.range_succ, List.map_append, List.sum_append, lots_upto L F h]
    have key : ∀ M : List (Int × Int), (M.filter fun p => decide (p.2 < (F : Int))).length + (M.filter fun p => decide (p.2 = (F : Int))).length = (M.filter fun p => decide (p.2 < ((F + 1 : Nat) : Int))).length := fun M => by
      induction M with
      | nil => rfl
      | cons p r ih =>
        by_cases c1 : p.2 < (F : Int)
        · have c2 : ¬ p.2 = (F : Int) := by omega
          have c3 : p.2 < ((F + 1 : Nat) : Int) := by omega
          rw [List.filter_cons_of_pos (by simpa using c1), List.filter_cons_of_neg (by simpa using c2), List.filter_cons_of_pos (p := fun p : Int × Int => decide (p.2 < ((F + 1 : Nat) : Int))) (decide_eq_true c3), List.length_cons, List.length_cons]
          omega
        · by_cases c2 : p.2 = (F : Int)
          · have c3 : p.2 < ((F + 1 : Nat) : Int) := by omega
            rw [List.filter_cons_of_neg (by simpa using c1), List.filter_cons_of_pos (by simpa using c2), List.filter_cons_of_pos (p := fun p : Int × Int => decide (p.2 < ((F + 1 : Nat) : Int))) (decide_eq_true c3), List.length_cons, List.length_cons]
            omega
          · have c3 : ¬ p.2 < ((F + 1 : Nat) : Int) := by omega
            rw [List.filter_cons_of_neg (by simpa using c1), List.filter_cons_of_neg (by simpa using c2), List.filter_cons_of_neg (p := fun p : Int × Int => decide (p.2 < ((F + 1 : Nat) : Int))) (by simpa using c3)]
            exact ih
    have k := key L
    simp only [List.map_cons, List.map_nil, List.sum_cons, List.sum_nil]
    omega
theorem lots_sum {xs ts : List Int} {F : Nat} (hl : ts.length = xs.length) (h : ∀ t ∈ ts, 0 ≤ t ∧ t < (F : Int)) : ((List.range F).map fun (c : Nat) => (((lotZ xs ts (c : Int)).length : Nat) : Int)).sum = ((xs.length : Nat) : Int) := by
  have hz : ∀ p ∈ xs.zip ts, 0 ≤ p.2 ∧ p.2 < (F : Int) := fun p hp => h p.2 (List.of_mem_zip hp).2
  have e : ((List.range F).map fun (c : Nat) => (((lotZ xs ts (c : Int)).length : Nat) : Int)) = ((List.range F).map fun (c : Nat) => ((((xs.zip ts).filter fun p => decide (p.2 = (c : Int))).length : Nat) : Int)) := by
    apply List.map_congr_left
    intro c _
    unfold lotZ
    rw [List.length_map]
  rw [e, lots_upto _ F (fun p hp => (hz p hp).1), List.filter_eq_self.mpr fun p hp => decide_eq_true (hz p hp).2, List.length_zip, hl, Nat.min_self]
theorem row_notBad {ns : List Int} (h : IsRow ns) {i : Int} (hb : RowBad (.tuple (pi ns)) i) : False := by
  rcases hb with ⟨_, hb⟩ | ⟨ds, j, e, _, _, hj, _, hn⟩
  · have z := hb _ rfl
    rw [pi_len] at z
    have := h.2.2
    omega
  · injection e with e
    subst e
    rw [pi_len] at hj hn
    refine hn ⟨ns.take (j + 1), ?_, ?_, (List.take_sublist _ _).nodup h.1, fun x hx => h.2.1 x (List.mem_of_mem_take hx)⟩
    · unfold pi
      rw [List.map_take]
    · rw [List.length_take]
      omega
/-! ### falling rows in few lots -/
theorem count_le {c : Int} : ∀ {l : List Int}, l.Pairwise (fun a b => ¬ (a = c ∧ b = c)) → l.count c ≤ 1
  | [], _ => Nat.zero_le _
  | x :: r, h => by
    rw [List.pairwise_cons] at h
    by_cases e : x = c
    · have z : r.count c = 0 := List.count_eq_zero.mpr fun hm => h.1 c hm ⟨e, rfl⟩
      rw [List.count_cons, z]
      split <;> omega
    · rw [List.count_cons_of_ne e]
      exact count_le h.2
section
variable {ns ps : List Int} {R : List Nat}
theorem alike_pair (h : FallOk ns R) (hp : ps.length = ns.length) {c : Int} (hr : (lotZ ns ps c).Pairwise (· < ·)) : (R.map fun p => ps.getD p 0).Pairwise (fun a b => ¬ (a = c ∧ b = c)) := by
  rw [List.pairwise_map, List.pairwise_iff_getElem]
  intro i j hi hj hij e
  have l1 := h.lt _ (List.getElem_mem hi)
  have l2 := h.lt _ (List.getElem_mem hj)
  have up := (List.pairwise_iff_getElem.mp h.inc) i j hi hj hij
  have dn := (List.pairwise_iff_getElem.mp h.val) i j (by simpa using hi) (by simpa using hj) hij
  simp only [List.getElem_map] at dn
  rw [getD_get l1, getD_get l2] at dn
  rw [getD_get (by omega : R[i] < ps.length), getD_get (by omega : R[j] < ps.length)] at e
  have z := (lot_pair ns ps c).mp hr R[i] R[j] ns[R[i]] ns[R[j]] up (List.getElem?_eq_getElem l1) (List.getElem?_eq_getElem l2) (by rw [List.getElem?_eq_getElem (by omega), e.1]) (by rw [List.getElem?_eq_getElem (by omega), e.2])
  omega
def brokenF (ns ps : List Int) (m : Nat) : List Int := (rgI m).filter fun c => !decide ((lotZ ns ps c).Pairwise (· < ·))
theorem alike_broken (h : FallOk ns R) (hp : ps.length = ns.length) {m : Nat} {c : Int} (hc : c ∈ rgI m) (h1 : 1 < (R.map fun p => ps.getD p 0).count c) : c ∈ brokenF ns ps m := by
  refine List.mem_filter.mpr ⟨hc, ?_⟩
  by_cases d : (lotZ ns ps c).Pairwise (· < ·)
  · have := count_le (alike_pair h hp d)
    omega
  · rw [decide_eq_false d]; rfl
theorem broken_some (h : FallOk ns R) (hp : ps.length = ns.length) {m : Nat} (hR : R.length = m + 1) (hb : ∀ t ∈ ps, 0 ≤ t ∧ t < (m : Int)) : brokenF ns ps m ≠ [] := by
  intro e
  have inb : ∀ x ∈ R.map (fun p => ps.getD p 0), 0 ≤ x ∧ x < (m : Int) := fun x hx => by
    obtain ⟨p, hpR, rfl⟩ := List.mem_map.mp hx
    have l := h.lt p hpR
    rw [getD_get (by omega)]
    exact hb _ (List.getElem_mem _)
  have nd : (R.map fun p => ps.getD p 0).Nodup := by
    rw [List.nodup_iff_pairwise_ne, List.pairwise_iff_getElem]
    intro i j hi hj hij ee
    have b := inb _ (List.getElem_mem hi)
    have hm : (R.map fun p => ps.getD p 0)[i] ∈ rgI m := by
      unfold rgI
      exact List.mem_map.mpr ⟨(R.map fun p => ps.getD p 0)[i].toNat, List.mem_range.mpr (by omega), by omega⟩
    have nb := List.filter_eq_nil_iff.mp e _ hm
    have up : (lotZ ns ps (R.map fun p => ps.getD p 0)[i]).Pairwise (· < ·) := by
      refine Classical.byContradiction fun z => nb ?_
      rw [decide_eq_false z]; rfl
    have z := (List.pairwise_iff_getElem.mp (alike_pair h hp up)) i j hi hj hij
    exact z ⟨rfl, ee.symm⟩
  have := pigeon m _ nd inb
  rw [List.length_map] at this
  omega
end
/-! ### as many falls in the row of the places -/
theorem dec_le {ns : List Int} (nd : ns.Nodup) {Q : List Nat} (up : Q.Pairwise (· < ·)) (lt : ∀ x ∈ Q, x < ns.length) (dn : (Q.map fun p => ns.getD p 0).Pairwise (· > ·)) : Q.length ≤ fallsF ns := by
  have L := layF_ok nd
  have z := pigeon (fallsF ns) (Q.map fun p => (((layF ns).getD p 0 : Nat) : Int)) (by
    rw [List.nodup_iff_pairwise_ne, List.pairwise_map, List.pairwise_iff_getElem]
    intro i j hi hj hij e
    have l1 := lt _ (List.getElem_mem hi)
    have l2 := lt _ (List.getElem_mem hj)
    have u := (List.pairwise_iff_getElem.mp up) i j hi hj hij
    have d := (List.pairwise_iff_getElem.mp dn) i j (by simpa using hi) (by simpa using hj) hij
    simp only [List.getElem_map] at d
    rw [getD_get l1, getD_get l2] at d
    have g : ∀ {k : Nat} (hk : k < ns.length), (layF ns)[k]? = some ((layF ns).getD k 0) := fun {k} hk => by
      rw [List.getD_eq_getElem?_getD, List.getElem?_eq_getElem (by rw [L.len]; exact hk)]; rfl
    have := L.rise Q[i] Q[j] l1 l2 u (by rw [g l1, g l2]; congr 1; omega)
    omega) (fun x hx => by
    obtain ⟨p, hp, rfl⟩ := List.mem_map.mp hx
    have l := lt p hp
    have hm : (layF ns).getD p 0 ∈ layF ns := by
      rw [List.getD_eq_getElem?_getD, List.getElem?_eq_getElem (by rw [L.len]; exact l)]
      exact List.getElem_mem _
    have := fallsF_lt hm
    omega)
  rw [List.length_map] at z
  exact z
theorem falls_le_places {ns : List Int} (h : IsRow ns) : fallsF ns ≤ fallsF (placesOf ns) := by
  have F := fallPos_ok h.1
  generalize (fallPos ns).reverse = R at F
  have inv : ∀ p, p < ns.length → (placesOf ns).getD (ns.getD p 0).toNat 0 = (p : Int) := fun p hp => by
    rw [List.getD_eq_getElem?_getD, getD_get hp, placesOf_at h hp]; rfl
  have low : ∀ p, p < ns.length → 0 ≤ ns.getD p 0 ∧ ns.getD p 0 < ns.length := fun p hp => by
    rw [getD_get hp]; exact h.2.1 _ (List.getElem_mem hp)
  have z := dec_le (placesOf_row h).1 (Q := (R.map fun p => (ns.getD p 0).toNat).reverse) (by
    rw [List.pairwise_reverse, List.pairwise_map]
    have v := F.val
    rw [List.pairwise_map] at v
    refine v.imp_of_mem ?_
    intro a b ha hb hab
    have := low a (F.lt a ha)
    have := low b (F.lt b hb)
    omega) (fun x hx => by
    rw [List.mem_reverse] at hx
    obtain ⟨p, hp, rfl⟩ := List.mem_map.mp hx
    have := low p (F.lt p hp)
    rw [placesOf_len]
    omega) (by
    rw [List.map_reverse, List.pairwise_reverse, List.map_map, List.pairwise_map]
    refine F.inc.imp_of_mem ?_
    intro a b ha hb hab
    show (placesOf ns).getD (ns.getD b 0).toNat 0 > (placesOf ns).getD (ns.getD a 0).toNat 0
    rw [inv a (F.lt a ha), inv b (F.lt b hb)]
    omega)
  rw [List.length_reverse, List.length_map, F.len] at z
  exact z
theorem falls_places {ns : List Int} (h : IsRow ns) : fallsF (placesOf ns) = fallsF ns := by
  have a := falls_le_places h
  have b := falls_le_places (placesOf_row h)
  rw [placesOf_twice h] at b
  omega
end Tw

set_option maxHeartbeats 4000000
namespace Tw
open PySem PySem.Spec PyProof.Rows L2
/-! ### isinstance(e, c), e a caught error with fields -/
structure IsC (K : PySem.W.Frag) (C : Addr) : Prop where
  cl : (PySem.W.clsIn K C).isSome = true
  ga : PySem.W.findIn K (.ref C) "__getattribute__" = some (some (.builtin "BaseException.__getattribute__"))
  gg : PySem.W.findIn K (.ref C) "__getattr__" = some none
  su : PySem.W.subIn K (.ref C) (.type "BaseException") = some true
  hd : PySem.W.hasDictIn K C = true
  ac : PySem.W.findIn K (.ref C) "__class__" = some (some (.builtin "object.__class__"))
  sp : PySem.W.specialIn K (.builtin "object.__class__") "__get__" = some (some (.builtin "getset_descriptor.__get__"))
  tk : PySem.W.takesIn K (.builtin "object.__class__") = some true
  mr : PySem.W.mroIn K C (.type "object") = some true
theorem IsC.xf {K : PySem.W.Frag} {C : Addr} (h : IsC K C) : XfC K C := ⟨h.ga, h.gg, h.su, h.hd⟩
def rIsX (K : PySem.W.Frag) (C a : Addr) (cls : Value) (d : Option Addr) : List V → Hp → VK → Prop := fun xs H Q => ∃ (c : V) (cv : Value) (b : Bool) (dd : Addr) (fs : List (Str × V)), xs = [.ref a, c] ∧ cls = .ref C ∧ d = some dd ∧ H dd = some (.xd fs) ∧ (∀ u, RelV c u → u = cv) ∧ PySem.W.kitOne K (.ref C) cv = some b ∧ Q (.bl b) H
theorem call_isX {X : Cx} {a C : Addr} {cls : Value} {d : Option Addr} {oe : Obj} {pn : List (Addr × Obj)} (T : IsC X.K C) (hz : Zc cls d oe) (hf : ∃ vs, oe.data = .fields vs) : CallR (X.suite a ((a, oe) :: pn)) (.builtin "isinstance") (rIsX X.K C a cls d) := by
  intro pins s σ H xs us Q I r h
  obtain ⟨c, cv, b, dd, fs, rfl, ec, ed, ea, hcv, e, q⟩ := h
  subst ec ed
  cases r with
  | cons rx rr =>
    cases rr with
    | cons rt rr =>
      cases rr
      cases rx
      have ec := hcv _ rt
      subst ec
      obtain ⟨hget, _⟩ := I.pin (a, oe) (List.mem_append.mpr (.inl List.mem_cons_self))
      obtain ⟨vs, hd⟩ := hf
      have hx : ObjOk X.prog X.w H s.heap dd (.xd fs) := I.hok dd _ ea
      obtain ⟨mA, hns, hr⟩ := hx
      obtain ⟨od, ho, hl⟩ := lookIn_ns hns
      have J : PySem.W.InstAt s.heap a oe C (some od) := ⟨hget, hz.1, by unfold PySem.W.notCls; rw [hd] <;> rfl, by rw [hz.2]; exact ho⟩
      exact PySem.W.kia_one (PySem.W.kitx_exc T.cl T.ga T.gg T.su T.ac T.sp T.tk T.mr) I.kIn J e (fun z => nomatch z) fun tk => ⟨.bl b, H, I.kept (t' := tk) fun _ _ z => z, rfl, q⟩
/-- what _law_refused makes of the reading of what it calls -/
def TRef (mg : Str → Option Value) (x : Str) : (XK → Hp → VK → Prop) → Hp → VK → Prop := fun tl H Q =>
  tl (fun cls d H' => cls = .ref (ecOf mg x) ∧ ∃ (dd : Addr) (v : V), d = some dd ∧ H' dd = some (.xd (efs x v)) ∧ Q v H') H (fun _ H' => Q .non H')
theorem takes_len {X : Cx} {W : WX} (tk : Takes X W) : Takes X (fun c d σ H => σ.length = X.N.length → W c d σ H) := fun u s' h => by
  obtain ⟨a, B, sI, pins, σ, H, cls, d, e, I, nb, up, sky, na, os, ag, w⟩ := h
  exact tk u s' ⟨a, B, sI, pins, σ, H, cls, d, e, I, nb, up, sky, na, os, ag, w I.len⟩
/-! ### a def that calls the lambda it gets -/
structure Giv (K : PySem.W.Frag) (mg : Str → Option Value) (x a : Str) (Ng : List Str) (TT : (XK → Hp → VK → Prop) → Hp → VK → Prop) : Prop where
  ex : ∃ (g : Addr) (pg : Arguments) (bg : List Stmt) (sg : Scope) (dV kV doc pm cdv ct oc : Value) (an od : Option Addr) (osl : Array (Option Value)), mg x = some (.ref g) ∧ PySem.W.keepIn K (.ref g) = true ∧
    K.lookup g = some ⟨oc, od, .func (PySem.W.fnOf x x pg bg sg dV kV doc pm an cdv ct), osl⟩ ∧ PySem.W.codeIn K cdv x = true ∧ L2.Binds K (PySem.W.fnOf x x pg bg sg dV kV doc pm an cdv ct) [a] [] ∧ FnScope Ng [a] sg ∧ Ng[0]? = some a ∧ Vis sg a ∧
    ∀ X : Cx, X.K = K → X.mg = mg → ∀ q : Str, LamX.GivesTo X Ng x sg g cdv bg a q TT
theorem pe_giv {X : Cx} {T : List (Addr × Str)} {TT : (XK → Hp → VK → Prop) → Hp → VK → Prop} {x a : Str} {c P : Addr} {k n : Nat} {Ng : List Str} {params : Arguments} {body : Expr} {scope : Scope} {t : XK → TE} {p lpos pos : Pos} (G : Giv X.K X.mg x a Ng TT)
    (TB : LamX.TabB X.base X.mg c P) (hcode : X.env.code = .ref c) (hmT : (P, X.env.qual ++ "<lambda>") ∈ T) (hu : ∀ p ∈ T, p.1 = P → p.2 = X.env.qual ++ "<lambda>") (hr : Room n X.A)
    (hbody : ∀ (A : Around) (outer : List Env) (s : Shared) (H : Hp) (E : XK) (f c' : Addr), Room k (A.deeper (LamX.lamEnv X scope s.heap.objs.size f c')) → PE (LamX.lamCx X A outer s H E scope f c') body (t E))
    (L : LamX.LamS X.env.scope scope) (hle : k + 2 ≤ n := by decide) (hg : Gl X x := by rfl) (hdef : defaultsOf params X.env = ([], []) := by rfl)
    (hbind : ∀ (q : Str) (cl : List (Str × Addr)) (pm cv ctv : Value), bindArgs (PySem.W.kla_fn "<lambda>" q params body scope cl pm cv ctv) ⟨[], []⟩ = pure [] := by intro _ _ _ _ _; rfl)
    (hdb : (x == ("__debug__" : Str)) = false := by decide) (hd : (a == ("__debug__" : Str)) = false := by decide) (hcd : (a == ("__classdict__" : Str)) = false := by decide) :
    PE X (.Call (.Name x p) [.Lambda params body scope lpos] [] pos) (LamX.tLam T TT t) := by
  obtain ⟨g, pg, bg, sg, dV, kV, doc, pm, cdv, ct, oc, an, od, osl, hm, hk, lk, hcg, hb, Sg, hNg, hva, hG⟩ := G.ex
  exact LamX.pe_lamcall hg hm hk lk hcg hb Sg hNg hva (hG X rfl rfl _) TB hcode hmT hu (hr.mono hle) L hdef hbind hbody hdb hd hcd
/-- a def whose code object is known -/
theorem ok_code {P : Program} {w : World} {K : PySem.W.Frag} {mg : Str → Option Value} {base : Heap} {x qual : Str} {st : Stmt} {f : Addr} {N ps : List Str} {k : Nat} {sp : Sp} {oc : Value} {od an : Option Addr} {osl : Array (Option Value)} {kV doc pm cdv ct : Value}
    (lk : K.lookup f = some ⟨oc, od, .func (PySem.W.fnOf x qual (defArgs st) (defBody st) (defScope st) .none kV doc pm an cdv ct), osl⟩) (hcd : PySem.W.codeIn K cdv qual = true) (S : FnScope N ps (defScope st)) (len : ∀ vs H Q E, sp vs H Q E → vs.length = ps.length)
    (hbody : ∀ (A : Around) (outer : List Env) (s : Shared) (H : Hp) (vs : List V) (Q : VK) (E : XK), Room k (A.deeper (envOfC qual (defScope st) s.heap.objs.size f cdv)) → sp vs H Q E →
      ∃ t, PSs (cxOf CX0 P w K mg base N qual (defScope st) f cdv A outer s H E).nox (defBody st) t ∧ t { nx := fun _ H' => Q .non H', rt := Q } (start N vs) H) : FnOk P w K mg base CX0 (k + 1) f (PySem.W.fnOf x qual (defArgs st) (defBody st) (defScope st) .none kV doc pm an cdv ct) ps sp :=
  fn_of lk hcd S len fun A outer s H vs Q E hr hsp => by
    obtain ⟨t, h, q⟩ := hbody A outer s H vs Q E hr hsp
    exact ⟨t, h.nox, q⟩
/-! ### data stays while a lambda is made -/
theorem seqL_ext {K : PySem.W.Frag} {H H' : Hp} {a : Addr} {xs : List V} (k : LamX.ExtN H H') (h : SqL K H a xs) : SqL K H' a xs := by
  rcases h with (h | ⟨o, h⟩) | h
  · exact .inl (.inl (k _ _ h fun _ z => nomatch z))
  · exact .inl (.inr ⟨o, k _ _ h fun _ z => nomatch z⟩)
  · exact .inr h
theorem seqT_ext {K : PySem.W.Frag} {H H' : Hp} {a : Addr} {xs : List V} (k : LamX.ExtN H H') (h : SqT K H a xs) : SqT K H' a xs := by
  rcases h with (h | ⟨o, h⟩) | h
  · exact .inl (.inl (k _ _ h fun _ z => nomatch z))
  · exact .inl (.inr ⟨o, k _ _ h fun _ z => nomatch z⟩)
  · exact .inr h
mutual
theorem dp_ext {K : PySem.W.Frag} {H H' : Hp} (k : LamX.ExtN H H') : ∀ (d : PyData) (v : V), Dp K H v d → Dp K H' v d
  | .none, _, h => by cases h; exact .non
  | .bool b, _, h => by cases h; exact .bl b
  | .int i, _, h => by cases h; exact .int i
  | .str x, _, h => by cases h; exact .str x
  | .list ds, _, h => by
    cases h with
    | lst hs ha => exact .lst (seqL_ext k hs) (dpAll_ext k ds _ ha)
  | .tuple ds, _, h => by
    cases h with
    | tup hs ha => exact .tup (seqT_ext k hs) (dpAll_ext k ds _ ha)
  | .dict _, _, h => by cases h
theorem dpAll_ext {K : PySem.W.Frag} {H H' : Hp} (k : LamX.ExtN H H') : ∀ (ds : List PyData) (vs : List V), DpAll K H vs ds → DpAll K H' vs ds
  | [], _, h => by cases h; exact .nil
  | d :: ds, _, h => by
    cases h with
    | cons h1 h2 => exact .cons (dp_ext k d _ h1) (dpAll_ext k ds _ h2)
end
theorem tabS_keep {H H' : Hp} {p q P : Addr} {nm : Str} (hP : Pool H p q) (k : Keep p q H H') (t : LamX.TabS H P nm) : LamX.TabS H' P nm := by
  obtain ⟨a, b, cs, e1, e2, _⟩ := hP
  obtain ⟨ps, h1, h2, h3⟩ := t
  have ne : ∀ {x : Addr} {o : HO}, H x = some o → (∀ ys, o ≠ .lst ys) → H' x = some o := fun {x o} e no => k x o e (fun z => by
    rw [z, e1] at e
    exact no _ (Option.some.inj e).symm) (fun z => by
    rw [z, e2] at e
    exact no _ (Option.some.inj e).symm)
  refine ⟨ps, ne h1 (fun ys z => nomatch z), h2, fun pos cv hc => ?_⟩
  obtain ⟨c, e3, e4⟩ := h3 pos cv hc
  exact ⟨c, e3, ne e4 (fun ys z => by
    have z' : HO.ext _ = HO.lst ys := z
    cases z')⟩
theorem tabs_keep {H H' : Hp} {p q : Addr} {T : List (Addr × Str)} (hP : Pool H p q) (k : Keep p q H H') (t : LamX.Tabs T H) : LamX.Tabs T H' := fun x hx => tabS_keep hP k (t x hx)
/-! ### what made_row finds wrong is one thing -/
theorem rowPre_less {n j : Nat} {ds : List PyData} (h : RowPre n (j + 1) ds) : RowPre n j ds := by
  obtain ⟨ns, e, hl, nd, hb⟩ := h
  refine ⟨ns.take j, ?_, by rw [List.length_take]; omega, (List.take_sublist _ _).nodup nd, fun x hx => hb x (List.mem_of_mem_take hx)⟩
  have z : (ds.take (j + 1)).take j = (pi ns).take j := by rw [e]
  rw [List.take_take, Nat.min_eq_left (Nat.le_succ j)] at z
  rw [z]
  unfold pi
  rw [List.map_take]
theorem rowPre_mono {n i j : Nat} {ds : List PyData} (h : RowPre n j ds) (hij : i ≤ j) : RowPre n i ds := by
  induction j with
  | zero =>
    have : i = 0 := by omega
    subst this
    exact h
  | succ j ih =>
    by_cases c : i = j + 1
    · subst c; exact h
    · exact ih (rowPre_less h) (by omega)
theorem rowBad_one {d : PyData} {i j : Int} (h1 : RowBad d i) (h2 : RowBad d j) : i = j := by
  rcases h1 with ⟨e1, b1⟩ | ⟨ds, a, ed, l1, e1, a1, p1, n1⟩
  · rcases h2 with ⟨e2, _⟩ | ⟨ds, b, ed, l2, _, _, _, _⟩
    · rw [e1, e2]
    · have := b1 ds ed
      omega
  · rcases h2 with ⟨_, b2⟩ | ⟨es, b, ee, l2, e2, a2, p2, n2⟩
    · have := b2 ds ed
      omega
    · rw [ed] at ee
      have ee' := PyData.tuple.inj ee
      subst ee'
      by_cases c : a = b
      · rw [e1, e2, c]
      · by_cases c2 : a < b
        · exact (n1 (rowPre_mono p2 c2)).elim
        · exact (n2 (rowPre_mono p1 (by omega))).elim
theorem bad_none {d : PyData} (h : ∀ ds, d ≠ .tuple ds) : RowBad d (-1) := .inl ⟨rfl, fun ds e => (h ds e).elim⟩
theorem bad_long {ds : List PyData} (h : 400 < ds.length) : RowBad (.tuple ds) (-1) := .inl ⟨rfl, fun es e => by
  have z := PyData.tuple.inj e
  rw [← z]
  exact h⟩
theorem bad_at {ns : List Int} {e : PyData} {r : List PyData} (nd : ns.Nodup) (hl : ns.length + 1 + r.length ≤ 400) (hb : ∀ x ∈ ns, 0 ≤ x ∧ x < ((ns.length + 1 + r.length : Nat) : Int))
    (he : ∀ y : Int, e = .int y → 0 ≤ y → y < ((ns.length + 1 + r.length : Nat) : Int) → y ∈ ns) : RowBad (.tuple (pi ns ++ e :: r)) (ns.length : Int) := by
  have len : (pi ns ++ e :: r).length = ns.length + 1 + r.length := by
    rw [List.length_append, pi_len, List.length_cons]
    omega
  have tk : ∀ m, (pi ns ++ e :: r).take (ns.length + m) = pi ns ++ (e :: r).take m := fun m => by
    have z := List.take_length_add_append (l₁ := pi ns) (l₂ := e :: r) (i := m)
    rw [pi_len] at z
    exact z
  refine .inr ⟨_, ns.length, rfl, by rw [len]; exact hl, rfl, by rw [len]; omega, ⟨ns, ?_, rfl, nd, by rw [len]; exact hb⟩, ?_⟩
  · have z := tk 0
    rw [List.take_zero, List.append_nil, Nat.add_zero] at z
    exact z
  · rintro ⟨ms, e1, hm, ndm, hbm⟩
    rw [tk 1] at e1
    have e2 : pi ns ++ [e] = pi ms := e1
    have hl1 : ns.length < ms.length := by omega
    have g : (pi ms)[ns.length]? = some e := by
      rw [← e2, List.getElem?_append_right (by rw [pi_len]; exact Nat.le_refl _), pi_len, Nat.sub_self]
      rfl
    have g2 : e = .int ms[ns.length] := by
      unfold pi at g
      rw [List.getElem?_map, List.getElem?_eq_getElem hl1] at g
      exact (Option.some.inj g).symm
    have g3 : ms.take ns.length = ns := by
      apply pi_inj
      unfold pi
      rw [List.map_take]
      show (pi ms).take ns.length = pi ns
      rw [← e2, List.take_left' (pi_len ns)]
    have b := hbm _ (List.getElem_mem hl1)
    rw [len] at b
    have hin := he _ g2 b.1 b.2
    have hin2 : ms[ns.length] ∈ ms.take ns.length := by
      rw [g3]
      exact hin
    obtain ⟨j, hj, ej⟩ := List.getElem_of_mem hin2
    rw [List.length_take] at hj
    rw [List.getElem_take] at ej
    have := (List.getElem_inj ndm).mp ej
    omega
/-- a pair of what is no row and what is wrong in it -/
def WrG (K : PySem.W.Frag) (H : Hp) (x : V) : Prop := ∃ (t : Addr) (v : V) (d : PyData) (w : Int), x = .ref t ∧ SqT K H t [v, .int w] ∧ Dp K H v d ∧ RowBad d w
theorem WrG.same {K : PySem.W.Frag} {H H' : Hp} {x : V} (h : WrG K H x) (s : Same H H') : WrG K H' x := by
  obtain ⟨t, v, d, w, e, h1, h2, h3⟩ := h
  exact ⟨t, v, d, w, e, s.seqT h1, dp_mono s _ _ h2, h3⟩
theorem newT {K : PySem.W.Frag} {H : Hp} {t : Addr} {xs : List V} : SqT K (upd H t (.tup xs)) t xs := .inl (.inl upd_same)
theorem dpAll_app {K : PySem.W.Frag} {H : Hp} : ∀ {xs ys : List V} {ds es : List PyData}, DpAll K H xs ds → DpAll K H ys es → DpAll K H (xs ++ ys) (ds ++ es)
  | _, _, _, _, .nil, h => h
  | _, _, _, _, .cons a b, h => .cons a (dpAll_app b h)
theorem cut_head (xs : List V) : cutV xs none (some 1) = xs.take 1 := by
  unfold cutV
  rw [HT.sIx_none, show HT.sIx xs.length xs.length (some 1) = min 1 xs.length from HT.sIx_nat xs.length xs.length 1, List.drop_zero, Nat.sub_zero]
  cases xs with
  | nil => rfl
  | cons x r =>
    rw [show min 1 (x :: r).length = 1 by rw [List.length_cons]; omega]
theorem bad1 {ns : List Int} {e : PyData} (r : List PyData) (h : IsRow ns) (hl : ns.length + 1 + r.length ≤ 400) (he : ∀ y : Int, e = .int y → y < 0 ∨ ((ns.length + 1 + r.length : Nat) : Int) ≤ y ∨ y ∈ ns) : RowBad (.tuple (pi ns ++ e :: r)) (ns.length : Int) :=
  bad_at h.1 hl (fun x hx => by
    have := h.2.1 x hx
    omega) fun y ey y0 y1 => by
    rcases he y ey with z | z | z
    · omega
    · omega
    · exact z
theorem WrG.ext {K : PySem.W.Frag} {H H' : Hp} {x : V} (h : WrG K H x) (s : LamX.ExtN H H') : WrG K H' x := by
  obtain ⟨t, v, d, w, e, h1, h2, h3⟩ := h
  exact ⟨t, v, d, w, e, seqT_ext s h1, dp_ext s _ _ h2, h3⟩
theorem cut_zero (xs : List V) : cutV xs none (some 0) = [] := by
  unfold cutV
  rw [HT.sIx_none, show HT.sIx xs.length xs.length (some 0) = min 0 xs.length from HT.sIx_nat xs.length xs.length 0, List.drop_zero, Nat.zero_min]
  rfl
theorem nilRow : IsRow [] := ⟨.nil, fun x hx => (nomatch hx), Nat.zero_le _⟩
end Tw

set_option maxHeartbeats 4000000
namespace Tw
open PySem PySem.Spec PyProof.Rows L2
/-! ### a wagon's layer is the longest way down to it -/
theorem lay_desc {ns : List Int} {ls : List Nat} (L : LayOk ns ls) : ∀ (e j c : Nat) (hj : j < ns.length), ls[j]? = some (c + e) → ∃ i, ∃ hi : i < ns.length, i ≤ j ∧ ls[i]? = some c ∧ ns[j] ≤ ns[i]
  | 0, j, c, hj, h => ⟨j, hj, Nat.le_refl _, h, Int.le_refl _⟩
  | e + 1, j, c, hj, h => by
    obtain ⟨i, hi, hij, h1, h2⟩ := L.above j (c + e) hj h
    obtain ⟨i', hi', hii, h3, h4⟩ := lay_desc L e i c hi h1
    exact ⟨i', hi', by omega, h3, by omega⟩
theorem lay_lt {ns : List Int} {ls : List Nat} (L : LayOk ns ls) {i j : Nat} (hi : i < ns.length) (hj : j < ns.length) (hij : j < i) (hv : ns[i] < ns[j]) : ls.getD j 0 < ls.getD i 0 := by
  have g : ∀ {k : Nat}, k < ns.length → ls[k]? = some (ls.getD k 0) := fun {k} hk => by
    rw [List.getD_eq_getElem?_getD, List.getElem?_eq_getElem (by rw [L.len]; exact hk)]; rfl
  refine Classical.byContradiction fun z => ?_
  obtain ⟨i', hi', h1, h2, h3⟩ := lay_desc L (ls.getD j 0 - ls.getD i 0) j (ls.getD i 0) hj (by rw [g hj]; congr 1; omega)
  have r := L.rise i' i hi' hi (by omega) (by rw [h2, g hi])
  omega
/-- the greatest of «layer + 1» of the greater wagons ahead, and 0 -/
theorem lay_max {ns : List Int} {ls : List Nat} (L : LayOk ns ls) {i : Nat} (hi : i < ns.length) {m : Int} {X : List Int} (hX : ∀ x : Int, x ∈ X ↔ ∃ j, j < i ∧ ns.getD i 0 < ns.getD j 0 ∧ x = ((ls.getD j 0 : Nat) : Int) + 1)
    (hm : m ∈ X ++ [0]) (hmax : ∀ y ∈ X ++ [0], y ≤ m) : m = ((ls.getD i 0 : Nat) : Int) := by
  have le : m ≤ ((ls.getD i 0 : Nat) : Int) := by
    rcases List.mem_append.mp hm with h | h
    · obtain ⟨j, hj, hv, e⟩ := (hX m).mp h
      rw [getD_get hi, getD_get (by omega : j < ns.length)] at hv
      have := lay_lt L hi (by omega) hj hv
      omega
    · rw [List.mem_singleton.mp h]
      omega
  have ge : ((ls.getD i 0 : Nat) : Int) ≤ m := by
    by_cases c : ls.getD i 0 = 0
    · rw [c]
      exact hmax 0 (List.mem_append.mpr (.inr List.mem_cons_self))
    · obtain ⟨j, hj, hij, h1, h2⟩ := L.above i (ls.getD i 0 - 1) hi (by
        rw [List.getElem?_eq_getElem (by rw [L.len]; exact hi)]
        have e : ls.getD i 0 = ls[i]'(by rw [L.len]; exact hi) := by
          rw [List.getD_eq_getElem?_getD, List.getElem?_eq_getElem (by rw [L.len]; exact hi)]; rfl
        congr 1
        omega)
      have ej : ls.getD j 0 = ls.getD i 0 - 1 := by rw [List.getD_eq_getElem?_getD, h1]; rfl
      have := hmax (((ls.getD j 0 : Nat) : Int) + 1) (List.mem_append.mpr (.inl ((hX _).mpr ⟨j, hij, by rw [getD_get hi, getD_get hj]; exact h2, rfl⟩)))
      omega
  omega
/-! ### ways down, told by their places -/
structure Chain (ns : List Int) (i : Nat) (C : List Nat) : Prop where
  ne : C ≠ []
  up : C.Pairwise (· < ·)
  lt : ∀ x ∈ C, x < i
  dn : (C.map fun p => ns.getD p 0).Pairwise (· > ·)
theorem Chain.mono {ns : List Int} {i j : Nat} {C : List Nat} (h : Chain ns i C) (hij : i ≤ j) : Chain ns j C := ⟨h.ne, h.up, fun x hx => Nat.lt_of_lt_of_le (h.lt x hx) hij, h.dn⟩
theorem Chain.one {ns : List Int} (i : Nat) : Chain ns (i + 1) [i] := ⟨by simp, List.pairwise_singleton .., fun x hx => by rw [List.mem_singleton.mp hx]; exact Nat.lt_succ_self i, List.pairwise_singleton ..⟩
theorem last_least : ∀ (l : List Int) (h : l ≠ []), l.Pairwise (· > ·) → ∀ a ∈ l, l.getLast h ≤ a
  | [x], _, _, a, ha => by
    rw [List.mem_singleton.mp ha]
    exact Int.le_refl _
  | x :: y :: r, _, hp, a, ha => by
    rw [List.pairwise_cons] at hp
    have ih := last_least (y :: r) (by simp) hp.2
    rw [List.getLast_cons (by simp)]
    rcases List.mem_cons.mp ha with e | e
    · have := hp.1 _ (List.getLast_mem (by simp : y :: r ≠ []))
      rw [e]
      omega
    · exact ih a e
theorem Chain.snoc {ns : List Int} {i : Nat} {C : List Nat} (h : Chain ns i C) (hv : ns.getD i 0 < ns.getD (C.getLast h.ne) 0) : Chain ns (i + 1) (C ++ [i]) := by
  refine ⟨by simp, ?_, fun x hx => ?_, ?_⟩
  · rw [List.pairwise_append]
    exact ⟨h.up, List.pairwise_singleton .., fun a ha b hb => by rw [List.mem_singleton.mp hb]; exact h.lt a ha⟩
  · rcases List.mem_append.mp hx with e | e
    · exact Nat.lt_succ_of_lt (h.lt x e)
    · rw [List.mem_singleton.mp e]; exact Nat.lt_succ_self i
  · rw [List.map_append, List.pairwise_append]
    refine ⟨h.dn, List.pairwise_singleton .., fun a ha b hb => ?_⟩
    have e : b = ns.getD i 0 := List.mem_singleton.mp hb
    have hne : (C.map fun p => ns.getD p 0) ≠ [] := by
      intro z
      exact h.ne (List.map_eq_nil_iff.mp z)
    have := last_least _ hne h.dn a ha
    rw [List.getLast_map] at this
    rw [e]
    omega
theorem chain_le {ns : List Int} {ls : List Nat} (L : LayOk ns ls) {i : Nat} {C : List Nat} (h : Chain ns i C) (hi : i ≤ ns.length) : C.length ≤ ls.getD (C.getLast h.ne) 0 + 1 := by
  have key : ∀ (k : Nat) (hk : k < C.length), k ≤ ls.getD C[k] 0 := fun k => by
    induction k with
    | zero => intro _; exact Nat.zero_le _
    | succ k ih =>
      intro hk
      have h1 := ih (by omega)
      have lt1 := h.lt _ (List.getElem_mem (by omega : k < C.length))
      have lt2 := h.lt _ (List.getElem_mem hk)
      have u := (List.pairwise_iff_getElem.mp h.up) k (k + 1) (by omega) hk (Nat.lt_succ_self k)
      have d := (List.pairwise_iff_getElem.mp h.dn) k (k + 1) (by simp; omega) (by simpa using hk) (Nat.lt_succ_self k)
      simp only [List.getElem_map] at d
      rw [getD_get (by omega : C[k] < ns.length), getD_get (by omega : C[k + 1] < ns.length)] at d
      have := lay_lt L (by omega : C[k + 1] < ns.length) (by omega : C[k] < ns.length) u d
      omega
  have hl : 0 < C.length := List.length_pos_iff.mpr h.ne
  have e : C.getLast h.ne = C[C.length - 1] := List.getLast_eq_getElem h.ne
  have := key (C.length - 1) (by omega)
  rw [e]
  omega
/-! ### rows that rise, rows that fall -/
theorem falls_rise (n : Nat) : fallsF (rgI n) = if n = 0 then 0 else 1 := by
  have nd : (rgI n).Nodup := by
    unfold rgI
    rw [List.nodup_iff_pairwise_ne, List.pairwise_map]
    exact List.Pairwise.imp (fun h e => h (by omega)) (List.nodup_iff_pairwise_ne.mp List.nodup_range)
  by_cases c : n = 0
  · rw [if_pos c, (fallsF_nil nd)]
    subst c
    rfl
  · rw [if_neg c]
    have h0 : fallsF (rgI n) ≠ 0 := fun z => by
      have := (fallsF_nil nd).mp z
      have l := rgI_len n
      rw [this] at l
      exact c l.symm
    have F := fallPos_ok nd
    have h1 : fallsF (rgI n) ≤ 1 := by
      refine Classical.byContradiction fun z => ?_
      rw [← F.len] at z
      have l0 := F.lt _ (List.getElem_mem (by omega : 0 < (fallPos (rgI n)).reverse.length))
      have l1 := F.lt _ (List.getElem_mem (by omega : 1 < (fallPos (rgI n)).reverse.length))
      have u := (List.pairwise_iff_getElem.mp F.inc) 0 1 (by omega) (by omega) (by omega)
      have d := (List.pairwise_iff_getElem.mp F.val) 0 1 (by rw [List.length_map]; omega) (by rw [List.length_map]; omega) (by omega)
      simp only [List.getElem_map] at d
      rw [rgI_len] at l0 l1
      have g : ∀ {k : Nat}, k < n → (rgI n).getD k 0 = (k : Int) := fun {k} hk => by rw [List.getD_eq_getElem?_getD, rgI_get hk]; rfl
      rw [g l0, g l1] at d
      omega
    omega
theorem rev_get {n k : Nat} (hk : k < n) : (rgI n).reverse.getD k 0 = ((n - 1 - k : Nat) : Int) := by
  rw [List.getD_eq_getElem?_getD, List.getElem?_reverse (by rw [rgI_len]; exact hk), rgI_len, rgI_get (by omega)]
  rfl
theorem lays_fall {n : Nat} (hn : n ≤ 400) : fallsF (rgI n).reverse = n ∧ nI (layF (rgI n).reverse) = rgI n := by
  have hrow : IsRow (rgI n).reverse := rev_row (rgI_row hn)
  have len : (rgI n).reverse.length = n := by rw [List.length_reverse, rgI_len]
  have L := layF_ok hrow.1
  have F := fallPos_ok hrow.1
  have le : fallsF (rgI n).reverse ≤ n := by
    have z := pigeon n ((fallPos (rgI n).reverse).reverse.map fun (j : Nat) => (j : Int)) (by
      rw [List.nodup_iff_pairwise_ne, List.pairwise_map]
      exact F.inc.imp fun h e => by omega) (fun x hx => by
      obtain ⟨j, hj, rfl⟩ := List.mem_map.mp hx
      have := F.lt j hj
      rw [len] at this
      omega)
    rw [List.length_map, F.len] at z
    exact z
  have step : ∀ k, k < n → k ≤ (layF (rgI n).reverse).getD k 0 := fun k => by
    induction k with
    | zero => intro _; exact Nat.zero_le _
    | succ k ih =>
      intro hk
      have h1 := ih (by omega)
      have hv : (rgI n).reverse.getD (k + 1) 0 < (rgI n).reverse.getD k 0 := by
        rw [rev_get hk, rev_get (by omega)]
        omega
      rw [getD_get (by rw [len]; exact hk), getD_get (by rw [len]; omega)] at hv
      have := lay_lt L (by rw [len]; exact hk) (by rw [len]; omega) (show k < k + 1 by omega) hv
      omega
  have top : ∀ k, k < n → (layF (rgI n).reverse).getD k 0 < fallsF (rgI n).reverse := fun k hk => fallsF_lt (by
    rw [List.getD_eq_getElem?_getD, List.getElem?_eq_getElem (by rw [L.len, len]; exact hk)]
    exact List.getElem_mem _)
  have room : ∀ k, k < n → (layF (rgI n).reverse).getD k 0 + (n - 1 - k) < fallsF (rgI n).reverse := fun k hk => by
    have key : ∀ e k, k + e = n - 1 → k < n → (layF (rgI n).reverse).getD k 0 + e < fallsF (rgI n).reverse := fun e => by
      induction e with
      | zero => intro k _ hk; exact top k hk
      | succ e ih =>
        intro k hke hk
        have h1 := ih (k + 1) (by omega) (by omega)
        have hv : (rgI n).reverse.getD (k + 1) 0 < (rgI n).reverse.getD k 0 := by
          rw [rev_get (by omega), rev_get hk]
          omega
        rw [getD_get (by rw [len]; omega), getD_get (by rw [len]; exact hk)] at hv
        have := lay_lt L (by rw [len]; omega) (by rw [len]; exact hk) (show k < k + 1 by omega) hv
        omega
    exact key (n - 1 - k) k (by omega) hk
  refine ⟨?_, ?_⟩
  · by_cases c : n = 0
    · omega
    · have h1 := step (n - 1) (by omega)
      have h2 := top (n - 1) (by omega)
      omega
  · apply List.ext_getElem?
    intro k
    by_cases hk : k < n
    · have h1 := step k hk
      have h2 := room k hk
      have e : (layF (rgI n).reverse).getD k 0 = k := by omega
      unfold nI
      rw [List.getElem?_map, List.getElem?_eq_getElem (by rw [L.len, len]; exact hk), rgI_get hk]
      rw [List.getD_eq_getElem?_getD, List.getElem?_eq_getElem (by rw [L.len, len]; exact hk)] at e
      show some _ = _
      have e' : (layF (rgI n).reverse)[k]'(by rw [L.len, len]; exact hk) = k := e
      rw [e']
    · rw [List.getElem?_eq_none (by unfold nI; rw [List.length_map, L.len, len]; omega), List.getElem?_eq_none (by rw [rgI_len]; omega)]
end Tw

set_option maxHeartbeats 1000000
namespace Tw
open PySem PySem.Spec PyProof.Rows L2
/-! ### yards -/
def prD (p : Int × Int) : PyData := .tuple [.int p.1, .int p.2]
def ltP (p q : Int × Int) : Prop := p.1 < q.1 ∨ (p.1 = q.1 ∧ p.2 < q.2)
/-- tracks that join lanes and rise -/
structure TrkOk (k l : Int) (ts : List (Int × Int)) : Prop where
  inr : ∀ p ∈ ts, 0 ≤ p.1 ∧ p.1 < k ∧ 0 ≤ p.2 ∧ p.2 < l
  up : ∀ (i : Nat) (p q : Int × Int), ts[i]? = some p → ts[i + 1]? = some q → ltP p q
structure IsYard (k l : Int) (ts : List (Int × Int)) : Prop where
  hk : 1 ≤ k ∧ k ≤ 12
  hl : 1 ≤ l ∧ l ≤ 12
  hn : ts.length ≤ 60
  ok : TrkOk k l ts
def yardD (k l : Int) (ts : List (Int × Int)) : PyData := .tuple [.int k, .int l, .tuple (ts.map prD)]
def TrkPre (k l : Int) (j : Nat) (ds : List PyData) : Prop := ∃ ts : List (Int × Int), ds.take j = ts.map prD ∧ ts.length = j ∧ TrkOk k l ts
/-- what made_yard finds wrong -/
def YardBad (d : PyData) (i : Int) : Prop := (i = -1 ∧ ∀ ds, d = .tuple ds → ds.length ≠ 3) ∨ ∃ x y z, d = .tuple [x, y, z] ∧ ((i = -2 ∧ inD 1 12 x = false) ∨ (i = -3 ∧ inD 1 12 x = true ∧ inD 1 12 y = false) ∨
  ∃ k l : Int, x = .int k ∧ y = .int l ∧ (1 ≤ k ∧ k ≤ 12) ∧ (1 ≤ l ∧ l ≤ 12) ∧ ((i = -4 ∧ ∀ ds, z = .tuple ds → 60 < ds.length) ∨ ∃ (ds : List PyData) (j : Nat), z = .tuple ds ∧ ds.length ≤ 60 ∧ i = (j : Int) ∧ j < ds.length ∧ TrkPre k l j ds ∧ ¬ TrkPre k l (j + 1) ds))
theorem prD_inj {p q : Int × Int} (h : prD p = prD q) : p = q := by
  unfold prD at h
  injection h with h
  injection h with h1 h2
  injection h2 with h2 _
  injection h1 with h1
  injection h2 with h2
  exact Prod.ext h1 h2
theorem map_prD_inj : ∀ {ts us : List (Int × Int)}, ts.map prD = us.map prD → ts = us
  | [], [], _ => rfl
  | [], _ :: _, h => by cases h
  | _ :: _, [], h => by cases h
  | p :: ts, q :: us, h => by
    rw [List.map_cons, List.map_cons] at h
    injection h with h1 h2
    rw [prD_inj h1, map_prD_inj h2]
theorem le_pair (a b c d : Int) : Ob.lexAt (fun j => decide ([a, b].getD j 0 = [c, d].getD j 0)) (fun j => decide ([a, b].getD j 0 ≤ [c, d].getD j 0)) (decide ([a, b].length ≤ [c, d].length)) 0 (min [a, b].length [c, d].length) = true ↔ ¬ ltP (c, d) (a, b) := by
  show (if decide (a = c) = true then (if decide (b = d) = true then decide (2 ≤ 2) else decide (b ≤ d)) else decide (a ≤ c)) = true ↔ _
  unfold ltP
  by_cases h1 : a = c
  · subst h1
    rw [if_pos (decide_eq_true rfl)]
    by_cases h2 : b = d
    · subst h2
      rw [if_pos (decide_eq_true rfl)]
      constructor
      · intro _ z
        rcases z with z | ⟨_, z⟩ <;> exact absurd z (by show ¬ _ < _; omega)
      · intro _
        rfl
    · rw [if_neg (by rw [decide_eq_false h2]; exact Bool.false_ne_true)]
      constructor
      · intro e z
        have e' := of_decide_eq_true e
        rcases z with z | ⟨_, z⟩
        · exact absurd z (by show ¬ _ < _; omega)
        · have z' : d < b := z
          omega
      · intro z
        refine decide_eq_true (Classical.byContradiction fun w => z (.inr ⟨rfl, ?_⟩))
        show d < b
        omega
  · rw [if_neg (by rw [decide_eq_false h1]; exact Bool.false_ne_true)]
    constructor
    · intro e z
      have e' := of_decide_eq_true e
      rcases z with z | ⟨z, _⟩
      · have z' : c < a := z
        omega
      · exact h1 z.symm
    · intro z
      refine decide_eq_true (Classical.byContradiction fun w => z (.inl ?_))
      show c < a
      omega
theorem inD_int {lo hi : Int} {d : PyData} (h : inD lo hi d = true) : ∃ y : Int, d = .int y ∧ lo ≤ y ∧ y ≤ hi := by
  cases d with
  | int y =>
    have z : (decide (lo ≤ y) && decide (y ≤ hi)) = true := h
    rw [Bool.and_eq_true] at z
    exact ⟨y, rfl, of_decide_eq_true z.1, of_decide_eq_true z.2⟩
  | _ => cases h
theorem inD_of {lo hi y : Int} (h1 : lo ≤ y) (h2 : y ≤ hi) : inD lo hi (.int y) = true := by
  show (decide (lo ≤ y) && decide (y ≤ hi)) = true
  rw [decide_eq_true h1, decide_eq_true h2]
  rfl
theorem trkOk_snoc {k l : Int} {ts : List (Int × Int)} {p : Int × Int} (h : TrkOk k l ts) (hp : 0 ≤ p.1 ∧ p.1 < k ∧ 0 ≤ p.2 ∧ p.2 < l) (hl : ∀ q, ts[ts.length - 1]? = some q → ltP q p) : TrkOk k l (ts ++ [p]) := by
  refine ⟨fun x hx => ?_, fun i a b h1 h2 => ?_⟩
  · rcases List.mem_append.mp hx with e | e
    · exact h.inr x e
    · rw [List.mem_singleton.mp e]
      exact hp
  · have l2 := (List.getElem?_eq_some_iff.mp h2).1
    rw [List.length_append, List.length_singleton] at l2
    rw [List.getElem?_append_left (by omega)] at h1
    by_cases c : i + 1 < ts.length
    · rw [List.getElem?_append_left c] at h2
      exact h.up i a b h1 h2
    · have e : i = ts.length - 1 := by omega
      rw [List.getElem?_append_right (by omega), show i + 1 - ts.length = 0 by omega] at h2
      have e2 : p = b := Option.some.inj h2
      rw [← e2]
      exact hl a (by rw [← e]; exact h1)
end Tw
namespace Tw
open PySem PySem.Spec PyProof.Rows L2
open C8 (pss_cut tCut)
def top (i : Nat) : Stmt := PySem.Challenge.pw_trackworth_k06_rows_and_places.main.body.getD i (.Pass ⟨0, 0, 0, 0⟩)
section
variable {P : Program} {w : World} {K : PySem.W.Frag} {mg : Str → Option Value} {base : Heap}
abbrev s_init : Stmt := inClass (top 1) 0
theorem sc_init : FnScope ["self", "what"] ["self", "what"] (defScope s_init) := ⟨rfl, rfl, rfl, by decide +kernel, rfl, by decide +kernel, by decide +kernel⟩
theorem ok_init {f : Addr} {fd : FuncData} (F : Fun K "__init__" "Refused.__init__" s_init f fd) : FnOk P w K mg base CX0 1 f fd ["self", "what"] (sp_init K) := by
  refine F.ok sc_init (fun vs H Q E h => ?_) (fun cdv A outer s H vs Q E hr h => ?_)
  · obtain ⟨a, C, v, c, rfl, _⟩ := h
    rfl
  · exact ⟨_, pss_cons (ps_ost (pv 0) (pv 1)) (pss_one (ps_ost (pv 0) (pe_kind (pv 0)))), init_read h rfl⟩
def isNum : PyData → Bool
  | .int _ => true
  | _ => false
def sp_is_number (K : PySem.W.Frag) (mg : Str → Option Value) : Sp := fun vs H Q _ => ∃ (v : V) (d : PyData), vs = [v] ∧ Dp K H v d ∧ Q (.bl (isNum d)) H
--OK
abbrev s_is_number : Stmt := top 4
theorem sc_is_number : FnScope ["thing"] ["thing"] (defScope s_is_number) := ⟨rfl, rfl, rfl, by decide +kernel, rfl, by decide +kernel, by decide +kernel⟩
theorem ok_is_number {f : Addr} {fd : FuncData} (F : Fun K "is_number" "is_number" s_is_number f fd) (T : Nms mg)  : FnOk P w K mg base CX0 1 f fd ["thing"] (sp_is_number K mg) := by
  refine F.ok sc_is_number (fun vs H Q E h => ?_) (fun cdv A outer s H vs Q E hr h => ?_)
  · obtain ⟨v, d, rfl, _⟩ := h
    rfl
  · obtain ⟨v, d, rfl, hd, k⟩ := h
    refine ⟨_, (pss_one (ps_ret (pe_and (pe_callB call_isi (by rfl) T.isinstanceN (by decide +kernel) (pa_cons (pv 0) (pa_cons (pe_bltn (v := .ty "int") (by rfl) T.intN boot_int rfl) pa_nil))) (pe_one (pe_not (pe_callB call_isi (by rfl) T.isinstanceN (by decide +kernel) (pa_cons (pv 0) (pa_cons (pe_bltn (v := .ty "bool") (by rfl) T.boolN (by decide +kernel) rfl) pa_nil)))))))), ?_⟩
    refine ⟨_, rfl, _, _, _, _, _, rfl, .ty _, dp_ty hd, kit_int d, _, rfl, ?_⟩
    have tX := dp_ty hd
    have kB := @kit_bool K d
    cases hd with
    | bl b => exact iteT ⟨_, rfl, _, _, _, _, _, rfl, .ty _, tX, kB, _, rfl, k⟩
    | int i => exact iteT ⟨_, rfl, _, _, _, _, _, rfl, .ty _, tX, kB, _, rfl, k⟩
    | _ => exact iteF k
def sp_within (K : PySem.W.Frag) (mg : Str → Option Value) : Sp := fun vs H Q _ => ∃ (v : V) (d : PyData) (lo hi : Int), vs = [v, .int lo, .int hi] ∧ Dp K H v d ∧ Q (.bl (inD lo hi d)) H
--OK
abbrev s_within : Stmt := top 5
theorem sc_within : FnScope ["thing", "low", "high"] ["thing", "low", "high"] (defScope s_within) := ⟨rfl, rfl, rfl, by decide +kernel, rfl, by decide +kernel, by decide +kernel⟩
theorem ok_within {f : Addr} {fd : FuncData} (F : Fun K "within" "within" s_within f fd) (T : Nms mg) (C_is_number : Cal P w K mg base 1 "is_number" ["thing"] (sp_is_number K mg)) : FnOk P w K mg base CX0 2 f fd ["thing", "low", "high"] (sp_within K mg) := by
  refine F.ok sc_within (fun vs H Q E h => ?_) (fun cdv A outer s H vs Q E hr h => ?_)
  · obtain ⟨v, d, lo, hi, rfl, _⟩ := h
    rfl
  · obtain ⟨v, d, lo, hi, rfl, hd, k⟩ := h
    refine ⟨_, (pss_one (ps_ret (pe_and (pe_cal C_is_number hr (pa_cons (pv 0) pa_nil)) (pe_one (pe_chain op_le op_le (pv 1) (pv 0) (pv 2)))))), ?_⟩
    refine ⟨_, rfl, _, d, rfl, hd, ?_⟩
    cases hd with
    | int i =>
      refine ⟨true, rfl, iteT ?_⟩
      refine ⟨_, rfl, _, rfl, _, _, rfl, rfl, _, rfl, ?_⟩
      have k2 : Q (.bl (decide (lo ≤ i) && decide (i ≤ hi))) H := k
      by_cases c : lo ≤ i
      · rw [decide_eq_true c] at k2 ⊢
        exact iteT ⟨_, rfl, _, _, rfl, rfl, k2⟩
      · rw [decide_eq_false c] at k2 ⊢
        exact iteF k2
    | _ => exact ⟨false, rfl, iteF k⟩
def sp_made_row (K : PySem.W.Frag) (mg : Str → Option Value) : Sp := fun vs H Q E => ∃ (v : V) (d : PyData), vs = [v] ∧ Dp K H v d ∧
  (∀ (ns : List Int) (H' : Hp) (p : Addr), d = .tuple (pi ns) → IsRow ns → Same H H' → H p = none → TupD H' p (ns.map V.int) → Q (.ref p) H') ∧
  (∀ (i : Int) (H' : Hp) (e : Addr), RowBad d i → Same H H' → H e = none → H' e = some (.xd (efs "BadRow" (.int i))) → E (.ref (ecOf mg "BadRow")) (some e) H')
--OK
def seenL (n : Nat) (ns : List Int) : List V := (List.range n).map fun (j : Nat) => V.bl (decide ((j : Int) ∈ ns))
theorem seenL_nil (n : Nat) : (List.replicate n [V.bl false]).flatten = seenL n [] := by
  have h1 : (List.replicate n [V.bl false]).flatten = List.replicate n (V.bl false) := by
    induction n with
    | zero => rfl
    | succ n ih => rw [List.replicate_succ, List.flatten_cons, ih]; rfl
  rw [h1]
  apply List.ext_getElem
  · simp [seenL]
  · intro i h1 h2
    simp [seenL]
theorem seenL_get {n : Nat} {ns : List Int} {j : Nat} (h : j < n) : (seenL n ns)[j]? = some (V.bl (decide ((j : Int) ∈ ns))) := by
  simp [seenL, h]
theorem seenL_set {n : Nat} {ns : List Int} {j : Nat} : (seenL n ns).set j (V.bl true) = seenL n (ns ++ [(j : Int)]) := by
  apply List.ext_getElem
  · simp [seenL]
  · intro i h1 h2
    rw [List.getElem_set]
    simp only [seenL, List.getElem_map, List.getElem_range, List.mem_append, List.mem_singleton]
    by_cases c : j = i
    · subst c; simp
    · have c' : ¬ ((i : Int) = (j : Int)) := by omega
      rw [if_neg c]
      simp [c']
abbrev s_made_row : Stmt := top 8
theorem sc_made_row : FnScope ["thing", "seen", "at", "wagon"] ["thing"] (defScope s_made_row) := ⟨rfl, rfl, rfl, by decide +kernel, rfl, by decide +kernel, by decide +kernel⟩
theorem ok_made_row {f : Addr} {fd : FuncData} (F : Fun K "made_row" "made_row" s_made_row f fd) (T : Nms mg) (C_within : Cal P w K mg base 2 "within" ["thing", "low", "high"] (sp_within K mg)) (R_BadRow : Err P w K mg base "BadRow" (ecOf mg "BadRow")) (g_MOST_WAGONS : ∃ t, mg "MOST_WAGONS" = some (Value.int 400 t)) : FnOk P w K mg base (L2.CX P w) 3 f fd ["thing"] (sp_made_row K mg) := by
  refine F.okX sc_made_row (fun vs H Q E h => ?_) (fun cdv A outer s H vs Q E hr h => ?_)
  · obtain ⟨v, d, rfl, _⟩ := h
    rfl
  · obtain ⟨v, d, rfl, hd, kQ, kE⟩ := h
    obtain ⟨tW, gW⟩ := g_MOST_WAGONS
    refine ⟨_, (pss_cons (ps_if (PW.pt (pw_or (pt_not (pt_val (pe_callB call_isi (by rfl) T.isinstanceN (by decide +kernel) (pa_cons (pv 0) (pa_cons (pe_bltn (v := .ty "tuple") (by rfl) T.tupleN (by decide +kernel) rfl) pa_nil))))) (pw_or1 (pt_cmpR op_gt (pe_callB call_len_seq (by rfl) T.len PySem.boot_len (pa_cons (pv 0) pa_nil)) (pe_glob (v := .int 400) rfl gW ⟨_, rfl⟩) (nomark _))))) (pss_one (ps_err rfl R_BadRow hr (takes_of rfl rfl rfl rfl) (pa_cons (pe_un un_neg pe_int) pa_nil))) pss_nil)
  (pss_cons (ps_set (i := 1) sc_made_row.nd rfl (Or.inl rfl) (pe_op op_rep (pe_lst (pa_cons pe_bl pa_nil)) (pe_callB call_len_seq (by rfl) T.len PySem.boot_len (pa_cons (pv 0) pa_nil))))
  (pss_cut (ps_for (passes_of rfl) rfl (pi_enumT (by rfl) T.enumerateN (pa_cons (pv 0) pa_nil)) (pg_tup (by rfl) (pgs_cons (pg_name (i := 2) sc_made_row.nd rfl (Or.inl rfl)) (pgs_cons (pg_name (i := 3) sc_made_row.nd rfl (Or.inl rfl)) pgs_nil))) (pss_cons (ps_if (PW.pt (pw_or (pt_not (pt_val (pe_cal C_within hr (pa_cons (pv 3) (pa_cons pe_int (pa_cons (pe_op op_sub (pe_callB call_len_seq (by rfl) T.len PySem.boot_len (pa_cons (pv 0) pa_nil)) pe_int) pa_nil)))))) (pw_or1 (pt_val (pe_ix ix_list (pv 1) (pv 3) (fun _ _ => rfl)))))) (pss_one (ps_err rfl R_BadRow hr (takes_of rfl rfl rfl rfl) (pa_cons (pv 2) pa_nil))) pss_nil)
  (pss_one (ps_asg pe_bl (pg_sub (pv 1) (pv 3) set_list)))))
  (pss_one (ps_ret (pe_callTy call_tupF (by rfl) T.tupleN (by decide +kernel) (pa_cons (pe_callTy call_list_of (by rfl) T.listN (by decide +kernel) (pa_cons (pv 0) pa_nil)) pa_nil))))))), ?_⟩
    refine ⟨_, rfl, _, _, _, _, _, rfl, .ty _, dp_ty hd, kit_tuple d, _, rfl, ?_⟩
    have raise1 : RowBad d (-1) → ∀ z, H z = none → E (.ref (ecOf mg "BadRow")) (some z) (upd H z (.xd (efs "BadRow" (.int (-1))))) := fun hb z nz => kE (-1) _ z hb (same_upd nz) nz upd_same
    have notTu : isTu d = false → RowBad d (-1) := fun hz => .inl ⟨rfl, fun ds e => by rw [e] at hz; cases hz⟩
    cases hb : isTu d with
    | false => exact iteT (iteT ⟨_, rfl, err_ans R_BadRow.ox R_BadRow.noW R_BadRow.noK R_BadRow.kd (raise1 (notTu hb))⟩)
    | true =>
      refine iteF ?_
      cases hd with
      | non => cases hb
      | bl _ => cases hb
      | int _ => cases hb
      | str _ => cases hb
      | lst _ _ => cases hb
      | @tup a xs ds hT hA =>
      have hxl := dpAll_len hA
      refine ⟨_, rfl, _, _, rfl, .inr hT, _, _, rfl, rfl, _, rfl, ?_⟩
      by_cases hl : 400 < xs.length
      · rw [decide_eq_true (show (400 : Int) < (xs.length : Int) by omega)]
        exact iteT ⟨_, rfl, err_ans R_BadRow.ox R_BadRow.noW R_BadRow.noK R_BadRow.kd (raise1 (.inl ⟨rfl, fun ds' e => by injection e with e; rw [← e, ← hxl]; exact hl⟩))⟩
      · rw [decide_eq_false (show ¬ (400 : Int) < (xs.length : Int) by omega)]
        refine iteF ?_
        refine ⟨by show 1 ≤ sizeLine; decide, fun l0 nl0 => ?_⟩
        have s0 : Same H (upd H l0 (.lst [.bl false])) := same_upd nl0
        refine ⟨_, rfl, _, _, rfl, .inr (s0.seqT hT), _, _, _, rfl, rfl, upd_same, by omega, by omega, ?_, fun l nl => ?_⟩
        · rw [sizeLine_eq]; simp only [List.length_singleton]; omega
        have s1 : Same H (upd (upd H l0 (.lst [.bl false])) l (.lst (List.replicate (xs.length : Int).toNat [V.bl false]).flatten)) := s0.trans (same_upd nl)
        have nl' : H l = none := s0.free nl
        refine ⟨fun σ' H' => ∃ v2 v3, σ' = [some (.ref a), some (.ref l), v2, v3] ∧ Same H H' ∧ RowPre ds.length ds.length ds, ?_, ?_⟩
        · refine ⟨_, rfl, _, _, rfl, s1.seqT hT, for_it (walk_enumT (K := K) (xs := xs)) (fun i σ' H' => ∃ v2 v3 ns, σ' = [some (.ref a), some (.ref l), v2, v3] ∧ Same H H' ∧ H' l = some (.lst (seenL xs.length ns)) ∧ ds.take i = pi ns ∧ ns.length = i ∧ ns.Nodup ∧ ∀ x ∈ ns, 0 ≤ x ∧ x < (ds.length : Int)) ?_ ?_ ?_ ?_⟩
          · refine ⟨none, none, [], rfl, s1, ?_, rfl, rfl, List.nodup_nil, fun x hx => nomatch hx⟩
            rw [upd_same]
            simp only [Int.toNat_natCast]
            rw [seenL_nil]
          · rintro i σ' H' hi ⟨_, _, _, _, sm, _⟩
            exact sm.seqT hT
          · rintro i x σ' H1 H' hi ⟨v2, v3, ns, rfl, sm, hs, ht, hn, nd, hb⟩ ⟨T, x', rfl, nT, rfl, hx⟩
            refine ⟨T, _, rfl, .inl (.inl upd_same), rfl, _, _, rfl, _, _, rfl, rfl, ?_⟩
            obtain ⟨dx, hdx, hDx⟩ := dpAll_get hA hx
            have smT : Same H (upd H1 T (.tup [.int (i : Nat), x'])) := sm.trans (same_upd nT)
            have hdi : i < ds.length := by rw [← hxl]; exact hi
            have pre : RowPre ds.length i ds := ⟨ns, ht, hn, nd, hb⟩
            have nlT : l ≠ T := ne_of_none hs nT
            have hsT : upd H1 T (.tup [.int (i : Nat), x']) l = some (.lst (seenL xs.length ns)) := by rw [upd_ne nlT]; exact hs
            have bad : ¬ RowPre ds.length (i + 1) ds → ∀ Hx, Same H Hx → ∀ z, Hx z = none → E (.ref (ecOf mg "BadRow")) (some z) (upd Hx z (.xd (efs "BadRow" (.int (i : Nat))))) := fun nb Hx sx z nz =>
              kE _ _ z (.inr ⟨ds, i, rfl, by omega, rfl, hdi, pre, nb⟩) (sx.trans (same_upd nz)) (sx.free nz) upd_same
            have step : ∀ y : Int, dx = .int y → 0 ≤ y → y < ds.length → y ∉ ns → RowPre ds.length (i + 1) ds ∧ ds.take (i + 1) = pi (ns ++ [y]) ∧ (ns ++ [y]).Nodup ∧ ∀ x ∈ ns ++ [y], 0 ≤ x ∧ x < (ds.length : Int) := fun y ey y0 y1 yn => by
              have e1 : ds.take (i + 1) = pi (ns ++ [y]) := by
                rw [List.take_add_one, ht, hdx, ey]
                simp [pi]
              have e2 : (ns ++ [y]).Nodup := by
                rw [List.nodup_append]
                exact ⟨nd, List.nodup_cons.mpr ⟨List.not_mem_nil, List.nodup_nil⟩, fun a ha b hb => by rw [List.mem_singleton.mp hb]; intro z; exact yn (z ▸ ha)⟩
              have e3 : ∀ x ∈ ns ++ [y], 0 ≤ x ∧ x < (ds.length : Int) := fun x hx => by
                rcases List.mem_append.mp hx with h | h
                · exact hb x h
                · rw [List.mem_singleton.mp h]; exact ⟨y0, y1⟩
              exact ⟨⟨ns ++ [y], e1, by rw [List.length_append, hn]; rfl, e2, e3⟩, e1, e2, e3⟩
            have only : RowPre ds.length (i + 1) ds → ∃ y : Int, dx = .int y ∧ 0 ≤ y ∧ y < ds.length ∧ y ∉ ns := fun ⟨ms, e, hm, ndm, hbm⟩ => by
              have hmi : i < ms.length := by omega
              have e1 : (ds.take (i + 1))[i]? = (pi ms)[i]? := by rw [e]
              rw [List.getElem?_take_of_lt (Nat.lt_succ_self i), hdx] at e1
              have e2 : (pi ms)[i]? = some (.int ms[i]) := by simp [pi, hmi]
              rw [e2] at e1
              have e3 : pi ns = pi (ms.take i) := by
                rw [← ht]
                have z : (ds.take (i + 1)).take i = (pi ms).take i := by rw [e]
                rw [List.take_take, Nat.min_eq_left (Nat.le_succ i)] at z
                rw [z]
                unfold pi
                rw [List.map_take]
              have e4 := pi_inj e3
              refine ⟨ms[i], Option.some.inj e1, (hbm _ (List.getElem_mem hmi)).1, (hbm _ (List.getElem_mem hmi)).2, fun z => ?_⟩
              rw [e4] at z
              obtain ⟨j, hj, ej⟩ := List.getElem_of_mem z
              rw [List.getElem_take] at ej
              rw [List.length_take] at hj
              have := (List.getElem_inj ndm).mp ej
              omega
            refine ⟨_, rfl, _, rfl, _, _, rfl, .inr (smT.seqT hT), _, _, rfl, rfl, x', dx, 0, (xs.length : Int) - 1, rfl, dp_mono smT _ _ hDx, _, rfl, ?_⟩
            cases hin : inD 0 ((xs.length : Int) - 1) dx with
            | false =>
              refine iteT (iteT ⟨_, rfl, err_ans R_BadRow.ox R_BadRow.noW R_BadRow.noK R_BadRow.kd (bad ?_ _ smT)⟩)
              intro hp
              obtain ⟨y, ey, y0, y1, _⟩ := only hp
              rw [ey] at hin
              have z : (decide ((0 : Int) ≤ y) && decide (y ≤ (xs.length : Int) - 1)) = false := hin
              rw [decide_eq_true y0, decide_eq_true (show y ≤ (xs.length : Int) - 1 by omega)] at z
              cases z
            | true =>
              refine iteF ?_
              obtain ⟨y, ey, y0, y1⟩ : ∃ y : Int, dx = .int y ∧ 0 ≤ y ∧ y < xs.length := by
                cases dx with
                | int y =>
                  have z : (decide ((0 : Int) ≤ y) && decide (y ≤ (xs.length : Int) - 1)) = true := hin
                  rw [Bool.and_eq_true] at z
                  have z1 := of_decide_eq_true z.1
                  have z2 := of_decide_eq_true z.2
                  exact ⟨y, rfl, z1, by omega⟩
                | _ => cases hin
              subst ey
              have ex : x' = .int y := by cases hDx; rfl
              subst ex
              obtain ⟨j, rfl⟩ : ∃ j : Nat, y = (j : Int) := ⟨y.toNat, by omega⟩
              have hj : j < xs.length := by omega
              refine ⟨_, rfl, _, rfl, _, _, _, _, rfl, rfl, SqL.of hsT, atI_nat (seenL_get hj), _, rfl, ?_⟩
              by_cases c : (j : Int) ∈ ns
              · rw [decide_eq_true c]
                refine iteT ⟨_, rfl, err_ans R_BadRow.ox R_BadRow.noW R_BadRow.noK R_BadRow.kd (bad ?_ _ smT)⟩
                intro hp
                obtain ⟨y, ey, _, _, yn⟩ := only hp
                injection ey with ey
                exact yn (ey ▸ c)
              · rw [decide_eq_false c]
                obtain ⟨_, st2, st3, st4⟩ := step _ rfl y0 (by omega) c
                refine iteF ⟨_, rfl, _, rfl, _, _, _, _, rfl, rfl, hsT, ixN_nat (by rw [show (seenL xs.length ns).length = xs.length by simp [seenL]]; exact hj), ?_⟩
                refine ⟨_, _, ns ++ [(j : Int)], rfl, fun b o hbo => ?_, by rw [upd_same, seenL_set], st2, by rw [List.length_append, hn]; rfl, st3, st4⟩
                have nbl : b ≠ l := ne_of_none hbo nl'
                rw [upd_ne nbl]
                exact smT b o hbo
          · rintro σ' H' ⟨v2, v3, ns, rfl, sm, hs, ht, hn, nd, hb⟩
            rw [hxl] at ht hn
            exact ⟨v2, v3, rfl, sm, ns, ht, hn, nd, hb⟩
        · rintro σ' H' ⟨v2, v3, rfl, sm, hpre⟩
          obtain ⟨ns, e, hrow⟩ := rowPre_all (by omega) hpre
          refine ⟨_, rfl, _, _, rfl, .inr (sm.seqT hT), fun l2 nl2 => ⟨_, _, rfl, SqL.of upd_same, fun l3 ob nl3 od oc => ?_⟩⟩
          refine kQ ns _ l3 (by rw [e]) hrow (sm.trans ((same_upd nl2).trans (same_upd nl3))) ((sm.trans (same_upd nl2)).free nl3) ?_
          rw [← dpAll_pi (K := K) (H := H) (vs := xs) (ns := ns) (by rw [← e]; exact hA)]
          exact .new od oc
def sp_is_row (K : PySem.W.Frag) (mg : Str → Option Value) : Sp := fun vs H Q _ => ∃ (v : V) (d : PyData), vs = [v] ∧ Dp K H v d ∧
  (∀ (ns : List Int) (H' : Hp), d = .tuple (pi ns) → IsRow ns → Same H H' → Q (.bl true) H') ∧ (∀ (i : Int) (H' : Hp), RowBad d i → Same H H' → Q (.bl false) H')
--OK
abbrev s_is_row : Stmt := top 9
theorem sc_is_row : FnScope ["thing"] ["thing"] (defScope s_is_row) := ⟨rfl, rfl, rfl, by decide +kernel, rfl, by decide +kernel, by decide +kernel⟩
theorem ok_is_row {f : Addr} {fd : FuncData} (F : Fun K "is_row" "is_row" s_is_row f fd) (T : Nms mg) (C_made_row : CalX P w K mg base 3 "made_row" ["thing"] (sp_made_row K mg)) (R_BadRow : Err P w K mg base "BadRow" (ecOf mg "BadRow")) : FnOk P w K mg base CX0 4 f fd ["thing"] (sp_is_row K mg) := by
  refine F.ok sc_is_row (fun vs H Q E h => ?_) (fun cdv A outer s H vs Q E hr h => ?_)
  · obtain ⟨v, d, rfl, _⟩ := h
    rfl
  · obtain ⟨v, d, rfl, hd, kT, kF⟩ := h
    refine ⟨_, (pss_cons (ps_try_only rfl rfl ⟨by rfl, by decide, .inl R_BadRow.mgC⟩ LamX.takes0 (fun W pn xe tk _ => (pss_one (ps_expr (pe_calW C_made_row hr tk (pa_cons (pv 0) pa_nil))))) (fun a oe cls d pn hz hf => (pss_one (ps_ret pe_bl))))
  (pss_one (ps_ret pe_bl))), ?_⟩
    refine ⟨_, rfl, v, d, rfl, hd, fun ns H1 p ed hrow s1 _ _ => kT ns H1 ed hrow s1, fun i H1 e hb s1 _ _ => ⟨true, R_BadRow.te, fun _ a _ => kF i H1 hb s1, fun z => nomatch z⟩⟩
def sp_places (K : PySem.W.Frag) (mg : Str → Option Value) : Sp := fun vs H Q E => ∃ (v : V) (d : PyData), vs = [v] ∧ Dp K H v d ∧
  (∀ (ns : List Int) (H' : Hp) (p : Addr), d = .tuple (pi ns) → IsRow ns → Same H H' → H p = none → TupD H' p ((placesOf ns).map V.int) → Q (.ref p) H') ∧
  (∀ (i : Int) (H' : Hp) (e : Addr), RowBad d i → Same H H' → H e = none → H' e = some (.xd (efs "BadRow" (.int i))) → E (.ref (ecOf mg "BadRow")) (some e) H')
--OK
abbrev s_places : Stmt := top 10
theorem sc_places : FnScope ["row", "found", "place", "wagon"] ["row"] (defScope s_places) := ⟨rfl, rfl, rfl, by decide +kernel, rfl, by decide +kernel, by decide +kernel⟩
theorem ok_places {f : Addr} {fd : FuncData} (F : Fun K "places" "places" s_places f fd) (T : Nms mg) (C_made_row : CalX P w K mg base 3 "made_row" ["thing"] (sp_made_row K mg)) : FnOk P w K mg base (L2.CX P w) 4 f fd ["row"] (sp_places K mg) := by
  refine F.okX sc_places (fun vs H Q E h => ?_) (fun cdv A outer s H vs Q E hr h => ?_)
  · obtain ⟨v, d, rfl, _⟩ := h
    rfl
  · obtain ⟨v, d, rfl, hd, kQ, kE⟩ := h
    refine ⟨_, (pss_cons (ps_set (i := 1) sc_places.nd rfl (Or.inl rfl) (pe_op op_rep (pe_lst (pa_cons pe_int pa_nil)) (pe_callB call_len_seq (by rfl) T.len PySem.boot_len (pa_cons (pe_calW C_made_row hr (takes_of rfl rfl rfl rfl) (pa_cons (pv 0) pa_nil)) pa_nil))))
  (pss_cons (ps_for (passes_of rfl) rfl (pi_enumT (by rfl) T.enumerateN (pa_cons (pv 0) pa_nil)) (pg_tup (by rfl) (pgs_cons (pg_name (i := 2) sc_places.nd rfl (Or.inl rfl)) (pgs_cons (pg_name (i := 3) sc_places.nd rfl (Or.inl rfl)) pgs_nil))) (pss_one (ps_asg (pv 2) (pg_sub (pv 1) (pv 3) set_list))))
  (pss_one (ps_ret (pe_callTy call_tupF (by rfl) T.tupleN (by decide +kernel) (pa_cons (pv 1) pa_nil)))))), ?_⟩
    refine ⟨by show 1 ≤ sizeLine; decide, fun l0 nl0 => ?_⟩
    have s0 : Same H (upd H l0 (.lst [.int 0])) := same_upd nl0
    refine ⟨_, rfl, v, d, rfl, dp_mono s0 _ _ hd, fun ns H1 p ed hrow s1 np hp => ?_, fun i H' e hb s1 ne he => kE i H' e hb (s0.trans s1) (s0.free ne) he⟩
    subst ed
    have s01 : Same H H1 := s0.trans s1
    have h400 := hrow.2.2
    have hl0 : H1 l0 = some (.lst [.int 0]) := s1 _ _ upd_same
    refine ⟨_, _, rfl, .inr hp.seqT, _, _, _, rfl, rfl, hl0, by omega, ?_, ?_, fun l nl => ?_⟩
    · rw [List.length_map]; omega
    · rw [sizeLine_eq]; simp only [List.length_singleton, List.length_map, Int.toNat_natCast]; omega
    have s2 : Same H (upd H1 l (.lst (List.replicate ((ns.map V.int).length : Int).toNat [V.int 0]).flatten)) := s01.trans (same_upd nl)
    have nlH : H l = none := s01.free nl
    obtain ⟨a, xs, rfl, hT, exs⟩ : ∃ a xs, v = .ref a ∧ SqT K H a xs ∧ xs = ns.map V.int := by
      cases hd with
      | tup hT hA => exact ⟨_, _, rfl, hT, dpAll_pi hA⟩
    subst exs
    have fl : ∀ n : Nat, (List.replicate n [V.int 0]).flatten = (List.replicate n (0 : Int)).map V.int := fun n => by
      induction n with
      | zero => rfl
      | succ n ih => rw [List.replicate_succ, List.flatten_cons, ih]; rfl
    refine ⟨_, rfl, _, _, rfl, s2.seqT hT, for_it (walk_enumT (K := K) (xs := ns.map V.int)) (fun i σ' H' => ∃ v2 v3 L, σ' = [some (.ref a), some (.ref l), v2, v3] ∧ Same H H' ∧ H' l = some (.lst (L.map V.int)) ∧ PutOk ns L i) ?_ ?_ ?_ ?_⟩
    · refine ⟨none, none, List.replicate ns.length 0, rfl, s2, ?_, ⟨by simp, fun p hp hz => absurd hz (Nat.not_lt_zero _)⟩⟩
      rw [upd_same, List.length_map, Int.toNat_natCast, fl]
    · rintro i σ' H' hi ⟨_, _, _, _, sm, _⟩
      exact sm.seqT hT
    · rintro i x σ' H2 H' hi ⟨v2, v3, L, rfl, sm, hs, hput⟩ ⟨T, x', rfl, nT, rfl, hx⟩
      refine ⟨T, _, rfl, .inl (.inl upd_same), rfl, _, _, rfl, _, _, rfl, rfl, ?_⟩
      rw [List.length_map] at hi
      obtain ⟨y, rfl, hy⟩ := getI hx
      have ey : ns[i] = y := by
        rw [List.getElem?_eq_getElem hi] at hy
        exact Option.some.inj hy
      obtain ⟨j, ej, hj⟩ := hrow.ints hi
      have eyj : y = (j : Int) := by rw [← ey]; exact ej
      subst eyj
      have nlT : l ≠ T := ne_of_none hs nT
      have hsT : upd H2 T (.tup [.int (i : Nat), .int (j : Int)]) l = some (.lst (L.map V.int)) := by rw [upd_ne nlT]; exact hs
      refine ⟨_, rfl, _, rfl, _, rfl, _, _, _, j, rfl, rfl, hsT, ?_, ?_⟩
      · unfold ixN
        rw [if_pos (by omega), if_pos (by rw [List.length_map, hput.1]; omega)]
        simp
      · refine ⟨_, _, L.set j (i : Int), rfl, fun b o hbo => ?_, ?_, putOk_step hrow hi ej hput⟩
        · rw [upd_ne (ne_of_none hbo nlH), upd_ne (ne_of_none (sm b o hbo) nT)]
          exact sm b o hbo
        · rw [upd_same, List.map_set]
    · rintro σ' H' ⟨v2, v3, L, rfl, sm, hs, hput⟩
      rw [List.length_map] at hput
      refine ⟨_, rfl, _, _, rfl, SqL.of hs, fun l3 ob nl3 od oc => ?_⟩
      refine kQ ns _ l3 rfl hrow (sm.trans (same_upd nl3)) (sm.free nl3) ?_
      rw [← putOk_done hrow hput]
      exact .new od oc
def sp__law_pool (K : PySem.W.Frag) (mg : Str → Option Value) : Sp := fun vs H Q _ => ∃ (a : Addr) (ns : List Int), vs = [.ref a] ∧ SqL K H a (ns.map V.int) ∧ ns.length ≤ 63 ∧
  ∀ (H' : Hp) (p q : Addr), Same H H' → H p = none → H q = none → Pool H' p q → Q (.ref p) H'
--OK
abbrev s__law_pool : Stmt := top 12
theorem sc__law_pool : FnScope ["script", "first", "size"] ["script"] (defScope s__law_pool) := ⟨rfl, rfl, rfl, by decide +kernel, rfl, by decide +kernel, by decide +kernel⟩
theorem ok__law_pool {f : Addr} {fd : FuncData} (F : Fun K "_law_pool" "_law_pool" s__law_pool f fd) (T : Nms mg)  : FnOk P w K mg base CX0 1 f fd ["script"] (sp__law_pool K mg) := by
  refine F.ok sc__law_pool (fun vs H Q E h => ?_) (fun cdv A outer s H vs Q E hr h => ?_)
  · obtain ⟨a, ns, rfl, _⟩ := h
    rfl
  · obtain ⟨a, ns, rfl, hS, hn, k⟩ := h
    refine ⟨_, (pss_cut (ps_set (i := 1) sc__law_pool.nd rfl (Or.inl rfl) (pe_ifExp (pt_cmpR op_gt (pe_callB call_len_seq (by rfl) T.len PySem.boot_len (pa_cons (pv 0) pa_nil)) pe_int (nomark _)) (pe_callTy call_int1 (by rfl) T.intN (by decide +kernel) (pa_cons (pe_ix ix_list (pv 0) pe_int (fun _ _ => rfl)) pa_nil)) pe_int))
  (pss_cut (ps_set (i := 2) sc__law_pool.nd rfl (Or.inl rfl) (pe_ifExp (pt_cmpR op_ge (pv 1) pe_int (nomark _)) (pe_op op_mul pe_int (pv 1)) (pe_op op_sub (pe_un un_neg pe_int) (pe_op op_mul pe_int (pv 1)))))
  (pss_one (ps_ret (pe_lst (pa_cons (pe_ifExp (pt_cmpR op_ge (pv 2) (pe_op op_pow pe_int pe_int) (nomark _)) (pv 2) pe_int) (pa_cons (pe_op op_add (pe_op op_modN (pe_callTy call_int1 (by rfl) T.intN (by decide +kernel) (pa_cons (pe_op op_add (pe_op op_mul (pv 2) pe_int) pe_int) pa_nil)) pe_int) pe_int) (pa_cons (pe_callTy call_list_of (by rfl) T.listN (by decide +kernel) (pa_cons (pe_slice sl_list (pv 0) (po_some pe_int) po_none) pa_nil)) pa_nil)))))))), ?_⟩
    refine ⟨fun σ' H' => ∃ z : Int, σ' = [some (.ref a), some (.int z), none] ∧ H = H', ?_, ?_⟩
    · refine ⟨_, rfl, _, _, rfl, .inl hS, _, _, rfl, rfl, _, rfl, ?_⟩
      refine ite2 (fun e0 => ?_) (fun e0 => ?_)
      · have h0 : 0 < ns.length := by
          have z := of_decide_eq_true e0
          rw [List.length_map] at z
          omega
        refine ⟨_, rfl, _, _, (0 : Nat), .int ns[0], rfl, rfl, hS, atI_nat (by simp [h0]), .inl ⟨_, rfl, ?_⟩⟩
        exact ⟨_, rfl, rfl⟩
      · exact ⟨_, rfl, rfl⟩
    · rintro σ' H' ⟨z, rfl, rfl⟩
      refine ⟨fun σ' H' => ∃ y : Int, 0 ≤ y ∧ σ' = [some (.ref a), some (.int z), some (.int y)] ∧ H = H', ?_, ?_⟩
      · refine ⟨_, rfl, _, _, rfl, rfl, _, rfl, ?_⟩
        refine ite2 (fun e1 => ?_) (fun e1 => ?_)
        · refine ⟨_, rfl, _, _, rfl, rfl, .inl ⟨by decide, by decide⟩, ?_⟩
          have e1' : 0 ≤ z := of_decide_eq_true e1
          exact ⟨2 * z, by omega, rfl, rfl⟩
        · refine ⟨_, rfl, _, rfl, _, _, rfl, rfl, .inl ⟨by decide, by decide⟩, _, _, rfl, rfl, ?_⟩
          have e1' : ¬ 0 ≤ z := fun q => e1 (decide_eq_true q)
          exact ⟨-1 - 2 * z, by omega, rfl, rfl⟩
      · rintro σ' H' ⟨y, hy, rfl, rfl⟩
        refine ⟨_, rfl, _, _, rfl, rfl, ⟨by decide, by decide, by decide⟩, _, _, rfl, rfl, _, rfl, ?_⟩
        have b0 := Int.fmod_nonneg_of_pos (y * 48271 + 1009) (show (0:Int) < 2147483629 by decide)
        have b1 := Int.fmod_lt_of_pos (y * 48271 + 1009) (show (0:Int) < 2147483629 by decide)
        have endp : ∀ u : Int, 0 ≤ u → ∀ c (nc : H c = none) d (nd : upd H c (.lst (cutV (ns.map V.int) (some 1) none)) d = none) e (ne : upd (upd H c (.lst (cutV (ns.map V.int) (some 1) none))) d (.lst (cutV (ns.map V.int) (some 1) none)) e = none),
            Q (.ref e) (upd (upd (upd H c (.lst (cutV (ns.map V.int) (some 1) none))) d (.lst (cutV (ns.map V.int) (some 1) none))) e (.lst [.int u, .int ((y * 48271 + 1009).fmod 2147483629 + 3), .ref d])) := fun u hu c nc d nd e ne => by
          have s1 := same_upd (o := .lst (cutV (ns.map V.int) (some 1) none)) nc
          have s2 := same_upd (o := .lst (cutV (ns.map V.int) (some 1) none)) nd
          have s3 := same_upd (o := .lst [.int u, .int ((y * 48271 + 1009).fmod 2147483629 + 3), .ref d]) ne
          refine k _ e d (s1.trans (s2.trans s3)) ((s1.trans s2).free ne) (s1.free nd) ?_
          have ed : d ≠ e := ne_of_none upd_same ne
          have ec : cutV (ns.map V.int) (some 1) none = (ns.drop 1).map V.int := by
            unfold cutV
            rw [show HT.sIx (ns.map V.int).length 0 (some 1) = min 1 (ns.map V.int).length from HT.sIx_nat _ 0 1, HT.sIx_none]
            cases ns with
            | nil => rfl
            | cons x r =>
              rw [show min 1 (List.map V.int (x :: r)).length = 1 by rw [List.length_map, List.length_cons]; omega]
              show (List.map V.int r).take ((List.map V.int (x :: r)).length - 1) = List.map V.int r
              rw [List.length_map, List.length_cons, Nat.add_sub_cancel]
              exact List.take_of_length_le (by rw [List.length_map]; exact Nat.le_refl _)
          refine ⟨u, _, ns.drop 1, upd_same, ?_, ed.symm, hu, by omega, by omega, by rw [List.length_drop]; omega⟩
          rw [upd_ne ed, upd_same, ec]
        refine ite2 (fun e1 => ?_) (fun e1 => ?_)
        · refine ⟨_, rfl, _, rfl, _, _, rfl, rfl, .inr ⟨by decide, by decide⟩, _, _, rfl, rfl, .inl ⟨_, rfl, _, _, rfl, rfl, (by show (2147483629 : Int) ≠ 0; decide), _, _, rfl, rfl, ?_⟩⟩
          refine ⟨_, rfl, _, rfl, _, _, rfl, hS, fun c nc => ⟨_, _, rfl, .inl (SqL.of upd_same), fun d nd => ⟨by show 3 ≤ sizeLine; decide, fun e ne => endp y hy c nc d nd e ne⟩⟩⟩
        · refine ⟨_, rfl, _, _, rfl, rfl, .inr ⟨by decide, by decide⟩, _, _, rfl, rfl, .inl ⟨_, rfl, _, _, rfl, rfl, (by show (2147483629 : Int) ≠ 0; decide), _, _, rfl, rfl, ?_⟩⟩
          refine ⟨_, rfl, _, rfl, _, _, rfl, hS, fun c nc => ⟨_, _, rfl, .inl (SqL.of upd_same), fun d nd => ⟨by show 3 ≤ sizeLine; decide, fun e ne => endp 0 (Int.le_refl _) c nc d nd e ne⟩⟩⟩
def sp__law_draw (K : PySem.W.Frag) (mg : Str → Option Value) : Sp := spDraw
--OK
theorem seqIndex_zero (c : Nat) : seqIndex? 0 (c + 1) = some 0 := by
  unfold seqIndex?
  simp
abbrev s__law_draw : Stmt := top 13
theorem sc__law_draw : FnScope ["pool", "many", "cell", "size", "found"] ["pool", "many"] (defScope s__law_draw) := ⟨rfl, rfl, rfl, by decide +kernel, rfl, by decide +kernel, by decide +kernel⟩
theorem ok__law_draw {f : Addr} {fd : FuncData} (F : Fun K "_law_draw" "_law_draw" s__law_draw f fd) (T : Nms mg)  : FnOk P w K mg base CX0 1 f fd ["pool", "many"] (sp__law_draw K mg) := by
  refine F.ok sc__law_draw (fun vs H Q E h => ?_) (fun cdv A outer s H vs Q E hr h => ?_)
  · obtain ⟨p, q, m, rfl, _⟩ := h
    rfl
  · obtain ⟨p, q, m, rfl, hP, hm1, hm2, k⟩ := h
    refine ⟨_, (pss_cut (ps_if (PW.pt (pw_and (pt_cmpR op_eq (pe_ix ix_list (pv 0) pe_int (fun _ _ => rfl)) pe_int (nomark _)) (pw_and1 (pt_cmpR (op_neD hr.units) (pe_ix ix_list (pv 0) pe_int (fun _ _ => rfl)) (pe_lst pa_nil) (nomark _))))) (pss_cons (ps_set (i := 2) sc__law_draw.nd rfl (Or.inl rfl) (pe_callTy call_int1 (by rfl) T.intN (by decide +kernel) (pa_cons (pe_bm PySem.F.plainAttrs_list PySem.F.slot_list_pop PySem.F.type_list_pop mt_popAt (pe_ix ix_list (pv 0) pe_int (fun _ _ => rfl)) (pa_cons pe_int pa_nil)) pa_nil)))
  (pss_cut (ps_set (i := 3) sc__law_draw.nd rfl (Or.inl rfl) (pe_ifExp (pt_cmpR op_ge (pv 2) pe_int (nomark _)) (pe_op op_mul pe_int (pv 2)) (pe_op op_sub (pe_un un_neg pe_int) (pe_op op_mul pe_int (pv 2)))))
  (pss_cut (ps_asg (pe_ifExp (pt_cmpR op_ge (pv 3) (pe_op op_pow pe_int pe_int) (nomark _)) (pv 3) pe_int) (pg_sub (pv 0) pe_int set_list))
  (pss_one (ps_asg (pe_op op_add (pe_op op_modN (pe_callTy call_int1 (by rfl) T.intN (by decide +kernel) (pa_cons (pe_op op_add (pe_ix ix_list (pv 0) pe_int (fun _ _ => rfl)) (pe_op op_mul (pv 3) pe_int)) pa_nil)) pe_int) pe_int) (pg_sub (pv 0) pe_int set_list)))))) pss_nil)
  (pss_cons (ps_if (pt_cmpR op_gt (pe_ix ix_list (pv 0) pe_int (fun _ _ => rfl)) pe_int (nomark _)) (pss_cons (ps_set (i := 4) sc__law_draw.nd rfl (Or.inl rfl) (pe_op op_modN (pe_callTy call_int1 (by rfl) T.intN (by decide +kernel) (pa_cons (pe_ix ix_list (pv 0) pe_int (fun _ _ => rfl)) pa_nil)) (pv 1)))
  (pss_cons (ps_asg (pe_op op_fdivN (pe_ix ix_list (pv 0) pe_int (fun _ _ => rfl)) (pv 1)) (pg_sub (pv 0) pe_int set_list))
  (pss_one (ps_ret (pv 4))))) pss_nil)
  (pss_cons (ps_asg (pe_op op_modN (pe_callTy call_int1 (by rfl) T.intN (by decide +kernel) (pa_cons (pe_op op_add (pe_op op_mul (pe_ix ix_list (pv 0) pe_int (fun _ _ => rfl)) pe_int) pe_int) pa_nil)) pe_int) (pg_sub (pv 0) pe_int set_list))
  (pss_one (ps_ret (pe_op op_modN (pe_op op_fdivN (pe_op op_modN (pe_callTy call_int1 (by rfl) T.intN (by decide +kernel) (pa_cons (pe_op op_mul (pe_ix ix_list (pv 0) pe_int (fun _ _ => rfl)) (pe_ix ix_list (pv 0) pe_int (fun _ _ => rfl))) pa_nil)) pe_int) pe_int) (pv 1))))))), ?_⟩
    obtain ⟨a, b, cs, hp, hq, npq, ha, hb, hb2, hc⟩ := hP
    refine ⟨fun σ' H' => ∃ (a b : Int) (cs : List Int) (v2 v3 : Option V), σ' = [some (.ref p), some (.int m), v2, v3, none] ∧ Keep p q H H' ∧ H' p = some (.lst [.int a, .int b, .ref q]) ∧ H' q = some (.lst (cs.map V.int)) ∧ 0 ≤ a ∧ 0 ≤ b ∧ b < 4294967296 ∧ cs.length ≤ 63, ?_, ?_⟩
    · refine ⟨_, rfl, _, _, _, _, rfl, rfl, SqL.of hp, rfl, rfl, _, rfl, ?_⟩
      refine ite2 (fun e0 => ?_) (fun e0 => ?_)
      · -- pool[2] != []
        refine ⟨_, rfl, _, _, _, _, rfl, rfl, SqL.of hp, rfl, Nat.zero_le _, fun l nl => ?_⟩
        have nlp : p ≠ l := ne_of_none hp nl
        have nlq : q ≠ l := ne_of_none hq nl
        have hp1 : upd H l (.lst []) p = some (.lst [.int a, .int b, .ref q]) := by rw [upd_ne nlp]; exact hp
        have hq1 : upd H l (.lst []) q = some (.lst (cs.map V.int)) := by rw [upd_ne nlq]; exact hq
        have k1 : Keep p q H (upd H l (.lst [])) := Keep.refl.new nl
        refine ⟨.list (pi cs), .list (pi []), dp_lstI (SqL.of hq1), dp_lstI (ns := []) (SqL.of upd_same), shaped_lstI _, shaped_lstI _, _, rfl, ?_⟩
        rw [eqv_lstI]
        cases cs with
        | nil =>
          exact ⟨a, b, [], none, none, rfl, k1, hp1, hq1, ha, hb, hb2, hc⟩
        | cons c cs =>
          refine ⟨_, rfl, _, _, _, _, rfl, rfl, SqL.of hp1, rfl, .inl ⟨rfl, _, SqL.of hq1⟩, q, _, 0, 0, .int c, rfl, rfl, hq1, by decide, by decide, seqIndex_zero _, rfl, .inl ⟨_, rfl, ?_⟩⟩
          have hp2 : upd (upd H l (.lst [])) q (.lst (((c :: cs).map V.int).eraseIdx 0)) p = some (.lst [.int a, .int b, .ref q]) := by rw [upd_ne npq]; exact hp1
          have hc' : cs.length ≤ 63 := Nat.le_of_succ_le hc
          refine ⟨fun σ' H' => ∃ z : Int, 0 ≤ z ∧ σ' = [some (.ref p), some (.int m), some (.int c), some (.int z), none] ∧ H' = upd (upd H l (.lst [])) q (.lst (cs.map V.int)), ?_, ?_⟩
          · refine ⟨_, rfl, _, _, rfl, rfl, _, rfl, ?_⟩
            refine ite2 (fun e1 => ?_) (fun e1 => ?_)
            · refine ⟨_, rfl, _, _, rfl, rfl, .inl ⟨by decide, by decide⟩, ?_⟩
              have e1' : 0 ≤ c := of_decide_eq_true e1
              exact ⟨2 * c, by omega, rfl, rfl⟩
            · refine ⟨_, rfl, _, rfl, _, _, rfl, rfl, .inl ⟨by decide, by decide⟩, _, _, rfl, rfl, ?_⟩
              have e1' : ¬ 0 ≤ c := fun z => e1 (decide_eq_true z)
              exact ⟨-1 - 2 * c, by omega, rfl, rfl⟩
          · rintro σ' H' ⟨z, hz, rfl, rfl⟩
            refine ⟨fun σ' H' => ∃ a' : Int, 0 ≤ a' ∧ σ' = [some (.ref p), some (.int m), some (.int c), some (.int z), none] ∧ H' = upd (upd (upd H l (.lst [])) q (.lst (cs.map V.int))) p (.lst [.int a', .int b, .ref q]), ?_, ?_⟩
            · refine ⟨_, rfl, _, _, rfl, rfl, ⟨by decide, by decide, by decide⟩, _, _, rfl, rfl, _, rfl, ?_⟩
              refine ite2 (fun e1 => ?_) (fun e1 => ?_)
              · refine ⟨_, rfl, _, rfl, _, _, _, _, rfl, rfl, hp2, rfl, ?_⟩
                exact ⟨z, hz, rfl, rfl⟩
              · refine ⟨_, rfl, _, _, _, _, rfl, rfl, hp2, rfl, ?_⟩
                exact ⟨0, Int.le_refl _, rfl, rfl⟩
            · rintro σ' H' ⟨a', ha', rfl, rfl⟩
              refine ⟨_, rfl, _, _, _, _, rfl, rfl, SqL.of upd_same, rfl, _, rfl, _, _, rfl, rfl, .inr ⟨by decide, by decide⟩, _, _, rfl, rfl, .inl ⟨_, rfl, _, _, rfl, rfl, (by show (2147483629 : Int) ≠ 0; decide), _, _, rfl, rfl, _, rfl, _, _, _, _, rfl, rfl, upd_same, rfl, ?_⟩⟩
              refine ⟨a', _, cs, _, _, rfl, ?_, upd_same, ?_, ha', ?_, ?_, hc'⟩
              · exact (((k1.atq).atp).atp)
              · rw [upd_ne npq.symm, upd_ne npq.symm, upd_same]
              · show 0 ≤ (b + z * 69621).fmod 2147483629 + 3
                have := Int.fmod_nonneg_of_pos (b + z * 69621) (show (0:Int) < 2147483629 by decide)
                omega
              · show (b + z * 69621).fmod 2147483629 + 3 < 4294967296
                have := Int.fmod_lt_of_pos (b + z * 69621) (show (0:Int) < 2147483629 by decide)
                omega
      · exact ⟨a, b, cs, none, none, rfl, Keep.refl, hp, hq, ha, hb, hb2, hc⟩
    · rintro σ' H' ⟨a, b, cs, v2, v3, rfl, kp, hp, hq, ha, hb, hb2, hc⟩
      refine ⟨_, rfl, _, _, _, _, rfl, rfl, SqL.of hp, rfl, _, _, rfl, rfl, _, rfl, ?_⟩
      refine ite2 (fun e0 => ?_) (fun e0 => ?_)
      · -- found = int(pool[0]) % many
        refine ⟨_, rfl, _, _, _, _, rfl, rfl, SqL.of hp, rfl, .inl ⟨_, rfl, _, rfl, _, _, rfl, rfl, by show m ≠ 0; omega, ?_⟩⟩
        refine ⟨_, rfl, _, _, _, _, rfl, rfl, SqL.of hp, rfl, _, rfl, _, _, rfl, rfl, ⟨by omega, by omega⟩, ?_⟩
        refine ⟨_, rfl, _, _, _, _, rfl, rfl, hp, rfl, ?_⟩
        refine ⟨_, rfl, ?_⟩
        refine k _ _ kp.atp ⟨a.fdiv m, b, cs, upd_same, by rw [upd_ne npq.symm]; exact hq, npq, ?_, hb, hb2, hc⟩ (Int.fmod_nonneg_of_pos _ (by omega)) (Int.fmod_lt_of_pos _ (by omega))
        exact Int.fdiv_nonneg ha (by omega)
      · refine ⟨_, rfl, _, _, _, _, rfl, rfl, SqL.of hp, rfl, _, _, rfl, rfl, .inr ⟨by decide, by decide⟩, _, _, rfl, rfl, .inl ⟨_, rfl, _, _, rfl, rfl, (by show (2147483647 : Int) ≠ 0; decide), _, rfl, _, _, _, _, rfl, rfl, hp, rfl, ?_⟩⟩
        have b1 := Int.fmod_nonneg_of_pos (b * 48271 + 11) (show (0:Int) < 2147483647 by decide)
        have b2 := Int.fmod_lt_of_pos (b * 48271 + 11) (show (0:Int) < 2147483647 by decide)
        refine ⟨_, rfl, _, _, _, _, rfl, rfl, SqL.of upd_same, rfl, _, rfl, _, _, _, _, rfl, rfl, SqL.of upd_same, rfl, _, _, rfl, rfl, .inl ⟨?_, ?_⟩, .inl ⟨_, rfl, _, _, rfl, rfl, (by show (2147483629 : Int) ≠ 0; decide), _, _, rfl, rfl, ⟨by decide, by decide⟩, _, rfl, _, _, rfl, rfl, by show m ≠ 0; omega, ?_⟩⟩
        · show -(2 ^ 64) < (b * 48271 + 11).fmod 2147483647
          omega
        · show (b * 48271 + 11).fmod 2147483647 < 2 ^ 64
          omega
        · refine k _ _ kp.atp ⟨a, _, cs, upd_same, by rw [upd_ne npq.symm]; exact hq, npq, ha, b1, ?_, hc⟩ (Int.fmod_nonneg_of_pos _ (by omega)) (Int.fmod_lt_of_pos _ (by omega))
          show (b * 48271 + 11).fmod 2147483647 < 4294967296
          omega
def sp__law_pick (K : PySem.W.Frag) (mg : Str → Option Value) : Sp := fun vs H Q _ => ∃ (p q t : Addr) (ns : List Int), vs = [.ref p, .ref t] ∧ Pool H p q ∧ H t = some (.lst (ns.map V.int)) ∧ t ≠ p ∧ t ≠ q ∧ 0 < ns.length ∧ ns.length < 1000000 ∧
  ∀ (H' : Hp) (x : Int), Keep p q H H' → Pool H' p q → x ∈ ns → Q (.int x) H'
--OK
abbrev s__law_pick : Stmt := top 14
theorem sc__law_pick : FnScope ["pool", "things"] ["pool", "things"] (defScope s__law_pick) := ⟨rfl, rfl, rfl, by decide +kernel, rfl, by decide +kernel, by decide +kernel⟩
theorem ok__law_pick {f : Addr} {fd : FuncData} (F : Fun K "_law_pick" "_law_pick" s__law_pick f fd) (T : Nms mg) (C__law_draw : Cal P w K mg base 1 "_law_draw" ["pool", "many"] (sp__law_draw K mg)) : FnOk P w K mg base CX0 2 f fd ["pool", "things"] (sp__law_pick K mg) := by
  refine F.ok sc__law_pick (fun vs H Q E h => ?_) (fun cdv A outer s H vs Q E hr h => ?_)
  · obtain ⟨p, q, t, ns, rfl, _⟩ := h
    rfl
  · obtain ⟨p, q, t, ns, rfl, hP, ht, ntp, ntq, h0, h1, k⟩ := h
    refine ⟨_, (pss_one (ps_ret (pe_ix ix_list (pv 1) (pe_cal C__law_draw hr (pa_cons (pv 0) (pa_cons (pe_callB call_len_seq (by rfl) T.len PySem.boot_len (pa_cons (pv 1) pa_nil)) pa_nil))) (fun _ _ => rfl)))), ?_⟩
    refine ⟨_, rfl, _, rfl, _, rfl, _, _, rfl, .inl (SqL.of ht), p, q, _, rfl, hP, by rw [List.length_map]; omega, by rw [List.length_map]; omega, fun H1 r k1 P1 r0 r1 => ?_⟩
    rw [List.length_map] at r1
    obtain ⟨j, rfl⟩ : ∃ j : Nat, r = (j : Int) := ⟨r.toNat, by omega⟩
    have hj : j < ns.length := by omega
    exact ⟨t, _, _, .int ns[j], rfl, rfl, SqL.of (k1 _ _ ht ntp ntq), atI_nat (by simp [hj]), k H1 _ k1 P1 (List.getElem_mem hj)⟩
def isWh : PyData → Bool
  | .int _ => true
  | _ => false
def sp__law_is_whole (K : PySem.W.Frag) (mg : Str → Option Value) : Sp := fun vs H Q _ => ∃ (v : V) (d : PyData), vs = [v] ∧ Dp K H v d ∧ Q (.bl (isWh d)) H
--OK
abbrev s__law_is_whole : Stmt := top 15
theorem sc__law_is_whole : FnScope ["thing"] ["thing"] (defScope s__law_is_whole) := ⟨rfl, rfl, rfl, by decide +kernel, rfl, by decide +kernel, by decide +kernel⟩
theorem ok__law_is_whole {f : Addr} {fd : FuncData} (F : Fun K "_law_is_whole" "_law_is_whole" s__law_is_whole f fd) (T : Nms mg)  : FnOk P w K mg base CX0 1 f fd ["thing"] (sp__law_is_whole K mg) := by
  refine F.ok sc__law_is_whole (fun vs H Q E h => ?_) (fun cdv A outer s H vs Q E hr h => ?_)
  · obtain ⟨v, d, rfl, _⟩ := h
    rfl
  · obtain ⟨v, d, rfl, hd, k⟩ := h
    refine ⟨_, (pss_one (ps_ret (pe_and (pe_callB call_isi (by rfl) T.isinstanceN (by decide +kernel) (pa_cons (pv 0) (pa_cons (pe_bltn (v := .ty "int") (by rfl) T.intN boot_int rfl) pa_nil))) (pe_one (pe_not (pe_callB call_isi (by rfl) T.isinstanceN (by decide +kernel) (pa_cons (pv 0) (pa_cons (pe_bltn (v := .ty "bool") (by rfl) T.boolN (by decide +kernel) rfl) pa_nil)))))))), ?_⟩
    refine ⟨_, rfl, _, _, _, _, _, rfl, .ty _, dp_ty hd, kit_int d, _, rfl, ?_⟩
    have tX := dp_ty hd
    have kB := @kit_bool K d
    cases hd with
    | bl b => exact iteT ⟨_, rfl, _, _, _, _, _, rfl, .ty _, tX, kB, _, rfl, k⟩
    | int i => exact iteT ⟨_, rfl, _, _, _, _, _, rfl, .ty _, tX, kB, _, rfl, k⟩
    | _ => exact iteF k
def sp__law_turned (K : PySem.W.Frag) (mg : Str → Option Value) : Sp := fun vs H Q _ => ∃ (p q : Addr) (m : Nat), vs = [.ref p, .int (m : Int)] ∧ Pool H p q ∧ m ≤ 100000 ∧
  ∀ (H' : Hp) (l : Addr) (xs : List Int), Keep p q H H' → Pool H' p q → H l = none → H' l = some (.lst (xs.map V.int)) → xs.Perm (rgI m) → Q (.ref l) H'
--OK
abbrev s__law_turned : Stmt := top 16
theorem sc__law_turned : FnScope ["pool", "many", "left", "found", "turn"] ["pool", "many"] (defScope s__law_turned) := ⟨rfl, rfl, rfl, by decide +kernel, rfl, by decide +kernel, by decide +kernel⟩
theorem ok__law_turned {f : Addr} {fd : FuncData} (F : Fun K "_law_turned" "_law_turned" s__law_turned f fd) (T : Nms mg) (C__law_draw : Cal P w K mg base 1 "_law_draw" ["pool", "many"] (sp__law_draw K mg)) : FnOk P w K mg base CX0 2 f fd ["pool", "many"] (sp__law_turned K mg) := by
  refine F.ok sc__law_turned (fun vs H Q E h => ?_) (fun cdv A outer s H vs Q E hr h => ?_)
  · obtain ⟨p, q, m, rfl, _⟩ := h
    rfl
  · obtain ⟨p, q, m, rfl, hP, hm, k⟩ := h
    refine ⟨_, (pss_cons (ps_par (i := 2) (j := 3) (by rfl) sc__law_turned.nd rfl rfl (by decide) rfl rfl (pa_cons (pe_listRg rfl (by rfl) T.listN (prg_1 (by rfl) T.rangeN (pv 1))) (pa_cons (pe_lst pa_nil) pa_nil)) (by rfl))
  (pss_cons (ps_for PassesOwn.never rfl (pi_range1 (by rfl) T.rangeN (pa_cons (pv 1) pa_nil)) (pg_name (i := 4) sc__law_turned.nd rfl (Or.inl rfl)) (pss_one (ps_expr (pe_bm PySem.F.plainAttrs_list PySem.F.slot_list_append PySem.F.type_list_append mt_append (pv 3) (pa_cons (pe_bm PySem.F.plainAttrs_list PySem.F.slot_list_pop PySem.F.type_list_pop mt_popAt (pv 2) (pa_cons (pe_cal C__law_draw hr (pa_cons (pv 0) (pa_cons (pe_callB call_len_seq (by rfl) T.len PySem.boot_len (pa_cons (pv 2) pa_nil)) pa_nil))) pa_nil)) pa_nil)))))
  (pss_one (ps_ret (pv 3))))), ?_⟩
    refine ⟨_, rfl, _, rfl, RgOk.of_le (by decide) (by omega) (by decide) (by omega), fun a na => ⟨Nat.zero_le _, fun b nb => ⟨_, _, rfl, ?_⟩⟩⟩
    have nab : a ≠ b := ne_of_none upd_same nb
    have na' := hP.nep na
    have na2 := hP.neq na
    have k1 : Keep p q H (upd (upd H a (.lst (rgV 0 (m : Int)))) b (.lst [])) := (Keep.refl.new na).new nb
    have nbH : H b = none := (same_upd na).free nb
    have nb' := hP.nep nbH
    have nb2 := hP.neq nbH
    refine ⟨_, rfl, _, rfl, by omega, by omega, for_range (lo := 0) (n := (m : Int).toNat) (fun i σ' H' => ∃ (v4 : Option V) (L F : List Int), σ' = [some (.ref p), some (.int (m : Int)), some (.ref a), some (.ref b), v4] ∧ Keep p q H H' ∧ Pool H' p q ∧ H' a = some (.lst (L.map V.int)) ∧ H' b = some (.lst (F.map V.int)) ∧ (L ++ F).Perm (rgI m) ∧ L.length + i = m) ?_ ?_ ?_⟩
    · refine ⟨none, rgI m, [], rfl, k1, (hP.new na).new nb, ?_, upd_same, by rw [List.append_nil], rgI_len m⟩
      rw [upd_ne nab, upd_same, rgV_I]
    · rintro i σ' H' hi ⟨v4, L, F, rfl, kp, hP1, ha, hb, pm, hl⟩
      have hl0 : 0 < L.length := by omega
      have hF : F.length ≤ m := by
        have z := pm.length_eq
        rw [List.length_append, rgI_len] at z
        omega
      refine ⟨_, rfl, .inl ⟨rfl, _, SqL.of hb⟩, _, rfl, .inl ⟨rfl, _, SqL.of ha⟩, _, rfl, _, rfl, _, _, rfl, .inl (SqL.of ha), p, q, _, rfl, hP1, by rw [List.length_map]; omega, by rw [List.length_map]; omega, fun H1 r kd P1 r0 r1 => ?_⟩
      rw [List.length_map] at r1
      obtain ⟨j, rfl⟩ : ∃ j : Nat, r = (j : Int) := ⟨r.toNat, by omega⟩
      have hj : j < L.length := by omega
      have ha1 : H1 a = some (.lst (L.map V.int)) := kd _ _ ha na' na2
      have hb1 : H1 b = some (.lst (F.map V.int)) := kd _ _ hb nb' nb2
      refine ⟨a, _, _, j, .int L[j], rfl, rfl, ha1, by omega, by omega, seqIndex_nat (by rw [List.length_map]; exact hj), by simp [hj], ?_⟩
      refine ⟨b, _, _, rfl, rfl, by rw [upd_ne nab.symm]; exact hb1, by rw [sizeLine_eq, List.length_map]; omega, ?_⟩
      refine ⟨_, L.eraseIdx j, F ++ [L[j]], rfl, (((kp.trans kd).mut na).mut nbH), (P1.mut na' na2).mut nb' nb2, ?_, ?_, ?_, ?_⟩
      · rw [upd_ne nab, upd_same, eraseIdx_mapI]
      · rw [upd_same, List.map_append]
        rfl
      · refine List.Perm.trans ?_ pm
        have e1 : L.Perm (L[j] :: L.eraseIdx j) := perm_eraseIdx L j hj
        refine List.Perm.trans ?_ (e1.symm.append_right F)
        rw [← List.append_assoc]
        refine List.perm_append_comm.trans ?_
        exact List.Perm.refl _
      · rw [List.length_eraseIdx, if_pos hj]
        omega
    · rintro σ' H' ⟨v4, L, F, rfl, kp, hP1, ha, hb, pm, hl⟩
      have hL : L = [] := List.eq_nil_of_length_eq_zero (by omega)
      subst hL
      exact ⟨_, rfl, k H' b F kp hP1 nbH hb (by simpa using pm)⟩
--OK
abbrev s__law_refused : Stmt := top 17
theorem sc__law_refused : FnScope ["call", "error"] ["call"] (defScope s__law_refused) := ⟨rfl, rfl, rfl, by decide +kernel, rfl, by decide +kernel, by decide +kernel⟩
theorem giv__law_refused {X : Cx} {C Rf g : Addr} {cdg : Value} {q : Str} (T : X.mg "isinstance" = none) (zV : X.mg "ValueError" = none) (R : X.mg "BadRow" = some (.ref C)) (te : PySem.W.exmOne X.K (.ref C) (.ref C) = some true) (I : IsC X.K C)
    (noW : PySem.W.findIn X.K (.ref C) "what" = some none) (gR : X.mg "Refused" = some (.ref Rf)) (kR : PySem.W.kitOne X.K (.ref C) (.ref Rf) = some true) (kV : PySem.W.kitOne X.K (.ref C) (.type "ValueError") = some true) :
    LamX.GivesTo X ["call", "error"] "_law_refused" (defScope s__law_refused) g cdg (defBody s__law_refused) "call" q (TRef X.mg "BadRow") := by
  intro f c' s H Q tl act hc h
  unfold TRef at h
  rw [ecOf_eq R] at h
  refine ⟨_, pss_cons (ps_try_as (X := (cxOf C8.CX0 X.prog X.w X.K X.mg X.base ["call", "error"] "_law_refused" (defScope s__law_refused) g cdg X.A X.stack s H C8.E0).nox) (c := .ref C) (i := 1)
      (tb := fun W D σ H => ∃ Ech : XK, (∀ cls d σ' H', Ech cls d H' → σ'.length = 2 → W cls d σ' H') ∧ σ[0]? = some (some (.ref f)) ∧ H c' = some (LamX.CodeO c' q) ∧ tl Ech H fun _ H' => D.nx σ H')
      rfl rfl sc__law_refused.nd rfl rfl ⟨rfl, by decide, .inl R⟩ LamX.takes0 (fun W pn xe tk _ => ?_)
      (fun a oe cls d pn hz hf => pss_one (ps_ret (pe_ifExp (PW.pt (pw_and (pt_val (pe_callB (call_isX I hz hf) (by rfl) T (by decide +kernel) (pa_cons (pv 1) (pa_cons (pe_glob (v := .ref Rf) (by rfl) gR rfl) pa_nil))))
        (pw_and1 (pt_val (pe_callB (call_isX I hz hf) (by rfl) T (by decide +kernel) (pa_cons (pv 1) (pa_cons (pe_bltn (v := .ty "ValueError") (by rfl) zV (by decide +kernel) rfl) pa_nil))))))) (pe_xf I.xf noW hz hf (pv 1)) pe_non))))
    (pss_one (ps_ret pe_non)), ?_⟩
  · refine ⟨fun pins s' σ H' D J h' => ?_⟩
    obtain ⟨Ech, hW, h1, h2, h3⟩ := h'
    exact (pss_one (ps_expr (act _ pn xe Ech _ _ (takes_len tk) hW))).run pins s' σ H' D J ⟨h1, h2, h3⟩
  · refine ⟨_, fun cls d σ' H' he hl => ?_, rfl, hc, h⟩
    obtain ⟨ec, dd, v, ed, ea, q⟩ := he
    refine ⟨true, by rw [ec]; exact te, fun _ a na => ?_, fun z => nomatch z⟩
    have g1 : (σ'.set 1 (some (.ref a)))[1]? = some (some (V.ref a)) := by
      rw [List.getElem?_set_self (by omega)]
    refine ⟨.ref a, g1, _, _, true, dd, _, rfl, ec, ed, ea, fun u r => r, kR, _, rfl, iteT ?_⟩
    refine ⟨.ref a, g1, _, _, true, dd, _, rfl, ec, ed, ea, fun u r => r, kV, _, rfl, iteT ?_⟩
    exact ⟨.ref a, g1, rfl, ec, dd, _, v, ed, ea, rfl, q⟩
def sp__law_row (K : PySem.W.Frag) (mg : Str → Option Value) : Sp := fun vs H Q _ => ∃ (p q : Addr) (m : Nat), vs = [.ref p, .int (m : Int)] ∧ Pool H p q ∧ m ≤ 400 ∧
  ∀ (H' : Hp) (l : Addr) (ns : List Int), Keep p q H H' → Pool H' p q → H l = none → TupD H' l (ns.map V.int) → IsRow ns → ns.length = m → Q (.ref l) H'
--OK
abbrev s__law_row : Stmt := top 18
theorem sc__law_row : FnScope ["pool", "many", "way", "row", "turn", "one", "other"] ["pool", "many"] (defScope s__law_row) := ⟨rfl, rfl, rfl, by decide +kernel, rfl, by decide +kernel, by decide +kernel⟩
theorem ok__law_row {f : Addr} {fd : FuncData} (F : Fun K "_law_row" "_law_row" s__law_row f fd) (T : Nms mg) (C__law_draw : Cal P w K mg base 1 "_law_draw" ["pool", "many"] (sp__law_draw K mg)) (C__law_turned : Cal P w K mg base 2 "_law_turned" ["pool", "many"] (sp__law_turned K mg)) : FnOk P w K mg base CX0 3 f fd ["pool", "many"] (sp__law_row K mg) := by
  refine F.ok sc__law_row (fun vs H Q E h => ?_) (fun cdv A outer s H vs Q E hr h => ?_)
  · obtain ⟨p, q, m, rfl, _⟩ := h
    rfl
  · obtain ⟨p, q, m, rfl, hP, hm, k⟩ := h
    refine ⟨_, (pss_cons (ps_set (i := 2) sc__law_row.nd rfl (Or.inl rfl) (pe_cal C__law_draw hr (pa_cons (pv 0) (pa_cons pe_int pa_nil))))
  (pss_cons (ps_if (pt_cmpR op_lt (pv 2) pe_int (nomark _)) (pss_one (ps_ret (pe_callTy call_tupF (by rfl) T.tupleN (by decide +kernel) (pa_cons (pe_cal C__law_turned hr (pa_cons (pv 0) (pa_cons (pv 1) pa_nil))) pa_nil)))) pss_nil)
  (pss_cut (ps_set (i := 3) sc__law_row.nd rfl (Or.inl rfl) (pe_ifExp (pt_cmpR op_eq (pv 2) pe_int (nomark _)) (pe_listRg rfl (by rfl) T.listN (prg_1 (by rfl) T.rangeN (pv 1))) (pe_revL (pe_listRg rfl (by rfl) T.listN (prg_1 (by rfl) T.rangeN (pv 1))))))
  (pss_cons (ps_for PassesOwn.never rfl (pi_range1 (by rfl) T.rangeN (pa_cons (pe_ifExp (pt_cmpR op_gt (pv 1) pe_int (nomark _)) (pe_cal C__law_draw hr (pa_cons (pv 0) (pa_cons pe_int pa_nil))) pe_int) pa_nil)) (pg_name (i := 4) sc__law_row.nd rfl (Or.inl rfl)) (pss_cons (ps_par (i := 5) (j := 6) (by rfl) sc__law_row.nd rfl rfl (by decide) rfl rfl (pa_cons (pe_cal C__law_draw hr (pa_cons (pv 0) (pa_cons (pv 1) pa_nil))) (pa_cons (pe_cal C__law_draw hr (pa_cons (pv 0) (pa_cons (pv 1) pa_nil))) pa_nil)) (by rfl))
  (pss_one (ps_asg (pe_tup (pa_cons (pe_ix ix_list (pv 3) (pv 6) (fun _ _ => rfl)) (pa_cons (pe_ix ix_list (pv 3) (pv 5) (fun _ _ => rfl)) pa_nil))) (pg_tup (by rfl) (pgs_cons (pg_sub (pv 3) (pv 5) set_list) (pgs_cons (pg_sub (pv 3) (pv 6) set_list) pgs_nil)))))))
  (pss_one (ps_ret (pe_callTy call_tupF (by rfl) T.tupleN (by decide +kernel) (pa_cons (pv 3) pa_nil)))))))), ?_⟩
    refine ⟨_, rfl, p, q, 4, rfl, hP, by decide, by decide, fun H1 r k1 P1 r0 r1 => ?_⟩
    refine ⟨_, rfl, _, _, rfl, rfl, _, rfl, ?_⟩
    refine ite2 (fun e0 => ?_) (fun e0 => ?_)
    · refine ⟨_, rfl, _, rfl, p, q, m, rfl, P1, by omega, fun H2 l xs k2 P2 nl hl pm => ⟨_, _, rfl, SqL.of hl, fun t ob nt od oc => ?_⟩⟩
      have hrow := (rgI_row hm).perm pm
      exact k _ t xs ((k1.trans k2).new nt) (P2.new nt) ((k1.trans k2).free (P2.nep nt) (P2.neq nt) nt) (.new od oc) hrow (by rw [pm.length_eq, rgI_len])
    · -- row
      refine ⟨fun σ' H' => ∃ (l : Addr) (L : List Int), σ' = [some (.ref p), some (.int (m : Int)), some (.int r), some (.ref l), none, none, none] ∧ Keep p q H H' ∧ Pool H' p q ∧ H l = none ∧ H' l = some (.lst (L.map V.int)) ∧ IsRow L ∧ L.length = m, ?_, ?_⟩
      · refine ⟨_, rfl, rfl, _, rfl, ?_⟩
        refine ite2 (fun e1 => ?_) (fun e1 => ?_)
        · refine ⟨_, rfl, _, rfl, RgOk.of_le (by decide) (by omega) (by decide) (by omega), fun a na => ?_⟩
          exact ⟨a, rgI m, rfl, k1.new na, P1.new na, k1.free (P1.nep na) (P1.neq na) na, by rw [upd_same, rgV_I], rgI_row hm, rgI_len m⟩
        · refine ⟨_, rfl, _, rfl, RgOk.of_le (by decide) (by omega) (by decide) (by omega), fun a na => ⟨a, _, rfl, SqL.of upd_same, fun b nb => ?_⟩⟩
          have P2 := P1.new (o := .lst (rgV 0 (m : Int))) na
          refine ⟨b, (rgI m).reverse, rfl, (k1.new na).new nb, P2.new nb, (k1.new na).free (P2.nep nb) (P2.neq nb) nb, ?_, rev_row (rgI_row hm), by rw [List.length_reverse, rgI_len]⟩
          rw [upd_same, rgV_I, List.map_reverse]
      · rintro σ' H2 ⟨l, L, rfl, kp, P2, nl, hl, hL, hLm⟩
        have fin : ∀ (Hx : Hp) (Lx : List Int), Keep p q H Hx → Pool Hx p q → Hx l = some (.lst (Lx.map V.int)) → IsRow Lx → Lx.length = m → ∀ (t : Addr) (ob : Obj), Hx t = none → ob.dict = none → ob.cls = .type "tuple" → Q (.ref t) (upd Hx t (.frz ob (.tup (Lx.map V.int)))) := fun Hx Lx kx Px hx rx lx t ob nt od oc =>
          k _ t Lx (kx.new nt) (Px.new nt) (kx.free (Px.nep nt) (Px.neq nt) nt) (.new od oc) rx lx
        refine ⟨_, rfl, _, _, rfl, rfl, _, rfl, ?_⟩
        refine ite2 (fun e1 => ?_) (fun e1 => ?_)
        · have hm0 : 0 < m := by
            have z := of_decide_eq_true e1
            omega
          refine ⟨_, rfl, p, q, 4, rfl, P2, by decide, by decide, fun H3 c k3 P3 c0 c1 => ⟨_, rfl, by omega, by omega, ?_⟩⟩
          refine for_range (lo := 0) (n := c.toNat) (fun i σ' H' => ∃ (v4 v5 v6 : Option V) (L : List Int), σ' = [some (.ref p), some (.int (m : Int)), some (.int r), some (.ref l), v4, v5, v6] ∧ Keep p q H H' ∧ Pool H' p q ∧ H' l = some (.lst (L.map V.int)) ∧ IsRow L ∧ L.length = m) ?_ ?_ ?_
          · exact ⟨none, none, none, L, rfl, kp.trans k3, P3, k3 _ _ hl (hP.nep nl) (hP.neq nl), hL, hLm⟩
          · rintro i σ' H4 hi ⟨v4, v5, v6, L, rfl, kp, P4, hl, hL, hLm⟩
            refine ⟨_, rfl, _, rfl, p, q, m, rfl, P4, by omega, by omega, fun H5 a k5 P5 a0 a1 => ⟨_, rfl, _, rfl, p, q, m, rfl, P5, by omega, by omega, fun H6 b k6 P6 b0 b1 => ⟨_, _, rfl, ?_⟩⟩⟩
            obtain ⟨a, rfl⟩ : ∃ a' : Nat, a = (a' : Int) := ⟨a.toNat, by omega⟩
            obtain ⟨b, rfl⟩ : ∃ b' : Nat, b = (b' : Int) := ⟨b.toNat, by omega⟩
            have hl6 : H6 l = some (.lst (L.map V.int)) := k6 _ _ (k5 _ _ hl (hP.nep nl) (hP.neq nl)) (hP.nep nl) (hP.neq nl)
            have ha : a < L.length := by omega
            have hb : b < L.length := by omega
            refine ⟨_, rfl, _, rfl, _, _, b, .int L[b], rfl, rfl, SqL.of hl6, atI_nat (by simp [hb]), _, rfl, _, rfl, _, _, a, .int L[a], rfl, rfl, SqL.of hl6, atI_nat (by simp [ha]), by show 2 ≤ sizeLine; decide, fun T nT => ?_⟩
            have nlT : l ≠ T := ne_of_none hl6 nT
            refine ⟨T, _, rfl, .inl (.inl upd_same), rfl, _, _, rfl, _, rfl, _, rfl, l, _, _, a, rfl, rfl, by rw [upd_ne nlT]; exact hl6, ixN_nat (by rw [List.length_map]; exact ha), _, _, rfl, _, rfl, _, rfl, l, _, _, b, rfl, rfl, upd_same, ixN_nat (by rw [List.length_set, List.length_map]; exact hb), rfl, ?_⟩
            refine ⟨_, _, _, (L.set a L[b]).set b L[a], rfl, (((kp.trans (k5.trans k6)).new nT).mut nl).mut nl, ((P6.new nT).mut (hP.nep nl) (hP.neq nl)).mut (hP.nep nl) (hP.neq nl), ?_, swap_row hL ha hb, by rw [List.length_set, List.length_set]; exact hLm⟩
            rw [upd_same, List.map_set, List.map_set]
          · rintro σ' H4 ⟨v4, v5, v6, L, rfl, kp, P4, hl, hL, hLm⟩
            exact ⟨_, rfl, _, _, rfl, SqL.of hl, fun t ob nt od oc => fin H4 L kp P4 hl hL hLm t ob nt od oc⟩
        · refine ⟨_, rfl, by decide, by decide, for_range (lo := 0) (n := (0 : Int).toNat) (fun i σ' H' => σ' = [some (.ref p), some (.int (m : Int)), some (.int r), some (.ref l), none, none, none] ∧ H2 = H') ?_ ?_ ?_⟩
          · exact ⟨rfl, rfl⟩
          · intro i σ' H4 hi _
            exact absurd hi (Nat.not_lt_zero _)
          · rintro σ' H4 ⟨rfl, rfl⟩
            exact ⟨_, rfl, _, _, rfl, SqL.of hl, fun t ob nt od oc => fin _ L kp P2 hl hL hLm t ob nt od oc⟩
def sp__law_wrong_rows (K : PySem.W.Frag) (mg : Str → Option Value) : Sp := fun vs H Q _ => ∃ (a : Addr) (ns : List Int), vs = [.ref a] ∧ SqT K H a (ns.map V.int) ∧ IsRow ns ∧ ns.length ≤ 397 ∧
  ∀ (H' : Hp) (l : Addr) (xs : List V), Same H H' → H' l = some (.lst xs) → (∀ x ∈ xs, WrG K H' x) → Q (.ref l) H'
--OK
abbrev s__law_wrong_rows : Stmt := top 19
theorem sc__law_wrong_rows : FnScope ["row", "many", "found"] ["row"] (defScope s__law_wrong_rows) := ⟨rfl, rfl, rfl, by decide +kernel, rfl, by decide +kernel, by decide +kernel⟩
theorem ok__law_wrong_rows {f : Addr} {fd : FuncData} (F : Fun K "_law_wrong_rows" "_law_wrong_rows" s__law_wrong_rows f fd) (T : Nms mg)  : FnOk P w K mg base CX0 1 f fd ["row"] (sp__law_wrong_rows K mg) := by
  refine F.ok sc__law_wrong_rows (fun vs H Q E h => ?_) (fun cdv A outer s H vs Q E hr h => ?_)
  · obtain ⟨a, ns, rfl, _⟩ := h
    rfl
  · obtain ⟨a, ns, rfl, hA, hrow, hn, k⟩ := h
    refine ⟨_, (pss_cons (ps_set (i := 1) sc__law_wrong_rows.nd rfl (Or.inl rfl) (pe_callB call_len_seq (by rfl) T.len PySem.boot_len (pa_cons (pv 0) pa_nil)))
  (pss_cut (ps_set (i := 2) sc__law_wrong_rows.nd rfl (Or.inl rfl) (pe_lst (pa_cons (pe_tup (pa_cons pe_non (pa_cons (pe_un un_neg pe_int) pa_nil))) (pa_cons (pe_tup (pa_cons pe_int (pa_cons (pe_un un_neg pe_int) pa_nil))) (pa_cons (pe_tup (pa_cons pe_str (pa_cons (pe_un un_neg pe_int) pa_nil))) (pa_cons (pe_tup (pa_cons (pe_tupRg rfl (by rfl) T.tupleN (prg_1 (by rfl) T.rangeN pe_int)) (pa_cons (pe_un un_neg pe_int) pa_nil))) (pa_cons (pe_tup (pa_cons (pe_op op_catU (pv 0) (pe_tup (pa_cons (pe_op op_add (pv 1) pe_int) pa_nil))) (pa_cons (pv 1) pa_nil))) (pa_cons (pe_tup (pa_cons (pe_op op_catU (pv 0) (pe_tup (pa_cons (pe_un un_neg pe_int) pa_nil))) (pa_cons (pv 1) pa_nil))) pa_nil))))))))
  (pss_cut (ps_set (i := 2) sc__law_wrong_rows.nd rfl (Or.inl rfl) (pe_op op_cat (pv 2) (pe_lst (pa_cons (pe_tup (pa_cons (pe_op op_catU (pv 0) (pe_tup (pa_cons pe_non pa_nil))) (pa_cons (pv 1) pa_nil))) (pa_cons (pe_tup (pa_cons (pe_op op_catU (pv 0) (pe_op op_repT (pe_tup (pa_cons pe_bl pa_nil)) pe_int)) (pa_cons (pv 1) pa_nil))) (pa_cons (pe_tup (pa_cons (pe_op op_catU (pv 0) (pe_tup (pa_cons (pe_tup (pa_cons pe_int pa_nil)) pa_nil))) (pa_cons (pv 1) pa_nil))) (pa_cons (pe_tup (pa_cons (pe_op op_catU (pe_tup (pa_cons (pe_op op_add (pv 1) pe_int) pa_nil)) (pv 0)) (pa_cons pe_int pa_nil))) pa_nil)))))))
  (pss_one (ps_ret (pe_op op_cat (pv 2) (pe_ifExp (pt_cmpR op_gt (pv 1) pe_int (nomark _)) (pe_lst (pa_cons (pe_tup (pa_cons (pe_op op_catU (pv 0) (pe_slice sl_tupU (pv 0) po_none (po_some pe_int))) (pa_cons (pv 1) pa_nil))) (pa_cons (pe_tup (pa_cons (pe_op op_catU (pe_slice sl_tupU (pv 0) po_none (po_some pe_int)) (pv 0)) (pa_cons pe_int pa_nil))) pa_nil))) (pe_lst pa_nil)))))))), ?_⟩
    refine ⟨_, rfl, _, _, rfl, .inr hA, ?_⟩
    rw [List.length_map]
    have nd := hrow.1
    have hb1 : ∀ (m : Nat), ns.length ≤ m → ∀ x ∈ ns, 0 ≤ x ∧ x < ((m : Nat) : Int) := fun m hm x hx => by
      have := hrow.2.1 x hx
      omega
    refine ⟨fun σ' H' => ∃ (l : Addr) (xs : List V), σ' = [some (.ref a), some (.int (ns.length : Int)), some (.ref l)] ∧ Same H H' ∧ H' l = some (.lst xs) ∧ xs.length ≤ 6 ∧ ∀ x ∈ xs, WrG K H' x, ?_, ?_⟩
    · refine ⟨_, rfl, by show 2 ≤ sizeLine; decide, fun t1 n1 => ?_⟩
      generalize h1 : upd H t1 _ = H1
      have s1 : Same H H1 := by
        rw [← h1]
        exact same_upd n1
      have w1 : WrG K H1 (.ref t1) := by
        rw [← h1]
        exact ⟨t1, _, .none, -1, rfl, newT, .non, bad_none (fun _ z => nomatch z)⟩
      refine ⟨_, rfl, by show 2 ≤ sizeLine; decide, fun t2 n2 => ?_⟩
      generalize h2 : upd H1 t2 _ = H2
      have s2 : Same H1 H2 := by
        rw [← h2]
        exact same_upd n2
      have w2 : WrG K H2 (.ref t2) := by
        rw [← h2]
        exact ⟨t2, _, .int 5, -1, rfl, newT, .int 5, bad_none (fun _ z => nomatch z)⟩
      refine ⟨_, rfl, by show 2 ≤ sizeLine; decide, fun t3 n3 => ?_⟩
      generalize h3 : upd H2 t3 _ = H3
      have s3 : Same H2 H3 := by
        rw [← h3]
        exact same_upd n3
      have w3 : WrG K H3 (.ref t3) := by
        rw [← h3]
        exact ⟨t3, _, .str "01", -1, rfl, newT, .str "01", bad_none (fun _ z => nomatch z)⟩
      refine ⟨_, rfl, RgOk.of_le (by decide) (by decide) (by decide) (by decide), fun t4r n4r => ?_⟩
      generalize h4r : upd H3 t4r _ = H4r
      have s4r : Same H3 H4r := by
        rw [← h4r]
        exact same_upd n4r
      have e4r : SqT K H4r t4r ((rgI 401).map V.int) := by
        rw [← h4r, ← rgV_I]
        exact newT
      refine ⟨_, rfl, by show 2 ≤ sizeLine; decide, fun t4 n4 => ?_⟩
      generalize h4 : upd H4r t4 _ = H4
      have s4 : Same H4r H4 := by
        rw [← h4]
        exact same_upd n4
      have w4 : WrG K H4 (.ref t4) := by
        rw [← h4]
        exact ⟨t4, _, .tuple (pi (rgI 401)), -1, rfl, newT, dp_mono (same_upd n4) _ _ (dp_tupI e4r), bad_long (by rw [pi_len, rgI_len]; decide)⟩
      have S4 : Same H H4 := ((s1.trans s2).trans s3).trans (s4r.trans s4)
      refine ⟨_, rfl, _, rfl, _, _, rfl, rfl, by show 1 ≤ sizeLine; decide, fun t5u n5u => ?_⟩
      generalize h5u : upd H4 t5u _ = H5u
      have s5u : Same H4 H5u := by
        rw [← h5u]
        exact same_upd n5u
      refine ⟨a, t5u, _, _, rfl, rfl, (S4.trans s5u).seqT hA, by rw [← h5u]; exact newT, ?_, fun t5c H5c s5c e5c => ?_⟩
      · rw [List.length_map, sizeLine_eq]; simp only [List.length_singleton]; omega
      refine ⟨_, rfl, by show 2 ≤ sizeLine; decide, fun t5 n5 => ?_⟩
      generalize h5 : upd H5c t5 _ = H5
      have s5 : Same H5c H5 := by
        rw [← h5]
        exact same_upd n5
      have w5 : WrG K H5 (.ref t5) := by
        rw [← h5]
        exact ⟨t5, _, .tuple (pi ns ++ [.int ((ns.length : Int) + 1)]), _, rfl, newT, dp_mono (same_upd n5) _ _ (.tup e5c (dpAll_app (dpAll_ints ns) (.cons (.int _) .nil))), bad1 [] hrow (by show ns.length + 1 + 0 ≤ 400; omega) fun y ey => by
          injection ey with ey
          right; left
          show ((ns.length + 1 + 0 : Nat) : Int) ≤ y
          omega⟩
      have S5 : Same H H5 := (((S4.trans s5u).trans s5c).trans s5)
      refine ⟨_, rfl, _, rfl, by show 1 ≤ sizeLine; decide, fun t6u n6u => ?_⟩
      generalize h6u : upd H5 t6u _ = H6u
      have s6u : Same H5 H6u := by
        rw [← h6u]
        exact same_upd n6u
      refine ⟨a, t6u, _, _, rfl, rfl, (S5.trans s6u).seqT hA, by rw [← h6u]; exact newT, ?_, fun t6c H6c s6c e6c => ?_⟩
      · rw [List.length_map, sizeLine_eq]; simp only [List.length_cons, List.length_nil]; omega
      refine ⟨_, rfl, by show 2 ≤ sizeLine; decide, fun t6 n6 => ?_⟩
      generalize h6 : upd H6c t6 _ = H6
      have s6 : Same H6c H6 := by
        rw [← h6]
        exact same_upd n6
      have w6 : WrG K H6 (.ref t6) := by
        rw [← h6]
        exact ⟨t6, _, .tuple (pi ns ++ [.int (-1)]), _, rfl, newT, dp_mono (same_upd n6) _ _ (.tup e6c (dpAll_app (dpAll_ints ns) (.cons (.int _) .nil))), bad1 [] hrow (by show ns.length + 1 + 0 ≤ 400; omega) fun y ey => by
          injection ey with ey
          left
          omega⟩
      have S6 : Same H H6 := ((S5.trans s6u).trans s6c).trans s6
      refine ⟨by show 6 ≤ sizeLine; decide, fun l nl => ?_⟩
      refine ⟨l, _, rfl, S6.trans (same_upd nl), upd_same, by show 6 ≤ 6; decide, fun x hx => ?_⟩
      have sl := same_upd (o := HO.lst [V.ref t1, .ref t2, .ref t3, .ref t4, .ref t5, .ref t6]) nl
      have c6 := (((s6u.trans s6c).trans s6)).trans sl
      have c5 := ((s5u.trans s5c).trans s5).trans c6
      have c4 := (s4r.trans s4).trans c5
      simp only [List.mem_cons, List.not_mem_nil, or_false] at hx
      rcases hx with rfl | rfl | rfl | rfl | rfl | rfl
      · exact w1.same (s2.trans (s3.trans c4))
      · exact w2.same (s3.trans c4)
      · exact w3.same c4
      · exact w4.same c5
      · exact w5.same c6
      · exact w6.same sl
    · rintro σ' H0 ⟨l0, xs0, rfl, S0, hl0, hz0, hw0⟩
      have hA0 := S0.seqT hA
      refine ⟨fun σ' H' => ∃ (l : Addr) (xs : List V), σ' = [some (.ref a), some (.int (ns.length : Int)), some (.ref l)] ∧ Same H H' ∧ H' l = some (.lst xs) ∧ xs.length ≤ 10 ∧ ∀ x ∈ xs, WrG K H' x, ?_, ?_⟩
      · refine ⟨_, rfl, ?_⟩
        refine ⟨_, rfl, by show 1 ≤ sizeLine; decide, fun t7u n7u => ?_⟩
        generalize h7u : upd H0 t7u _ = H7u
        have s7u : Same H0 H7u := by
          rw [← h7u]
          exact same_upd n7u
        refine ⟨a, t7u, _, _, rfl, rfl, (S0.trans s7u).seqT hA, by rw [← h7u]; exact newT, ?_, fun t7c H7c s7c e7c => ?_⟩
        · rw [List.length_map, sizeLine_eq]; simp only [List.length_cons, List.length_nil]; omega
        refine ⟨_, rfl, by show 2 ≤ sizeLine; decide, fun t7 n7 => ?_⟩
        generalize h7 : upd H7c t7 _ = H7
        have s7 : Same H7c H7 := by
          rw [← h7]
          exact same_upd n7
        have w7 : WrG K H7 (.ref t7) := by
          rw [← h7]
          exact ⟨t7, _, .tuple (pi ns ++ [.none]), _, rfl, newT, dp_mono (same_upd n7) _ _ (.tup e7c (dpAll_app (dpAll_ints ns) (.cons .non .nil))), bad1 [] hrow (by show ns.length + 1 + 0 ≤ 400; omega) fun y ey => by cases ey⟩
        have S7 : Same H H7 := ((S0.trans s7u).trans s7c).trans s7
        refine ⟨_, rfl, by show 1 ≤ sizeLine; decide, fun t8u n8u => ?_⟩
        generalize h8u : upd H7 t8u _ = H8u
        have s8u : Same H7 H8u := by
          rw [← h8u]
          exact same_upd n8u
        refine ⟨t8u, 2, [.bl true], rfl, rfl, by rw [← h8u]; exact newT, by simp, by decide, by decide, by decide, fun t8v n8v => ?_⟩
        generalize h8v : upd H8u t8v _ = H8v
        have s8v : Same H8u H8v := by
          rw [← h8v]
          exact same_upd n8v
        refine ⟨a, t8v, _, _, rfl, rfl, ((S7.trans s8u).trans s8v).seqT hA, by rw [← h8v]; exact newT, ?_, fun t8c H8c s8c e8c => ?_⟩
        · rw [List.length_map, sizeLine_eq]; show ns.length + 2 ≤ _; omega
        refine ⟨_, rfl, by show 2 ≤ sizeLine; decide, fun t8 n8 => ?_⟩
        generalize h8 : upd H8c t8 _ = H8
        have s8 : Same H8c H8 := by
          rw [← h8]
          exact same_upd n8
        have w8 : WrG K H8 (.ref t8) := by
          rw [← h8]
          exact ⟨t8, _, .tuple (pi ns ++ [.bool true, .bool true]), _, rfl, newT, dp_mono (same_upd n8) _ _ (.tup e8c (dpAll_app (dpAll_ints ns) (.cons (.bl true) (.cons (.bl true) .nil)))), bad1 [.bool true] hrow (by show ns.length + 1 + 1 ≤ 400; omega) fun y ey => by cases ey⟩
        have S8 : Same H H8 := (((S7.trans s8u).trans s8v).trans s8c).trans s8
        refine ⟨_, rfl, by show 1 ≤ sizeLine; decide, fun t9u n9u => ?_⟩
        generalize h9u : upd H8 t9u _ = H9u
        have s9u : Same H8 H9u := by
          rw [← h9u]
          exact same_upd n9u
        refine ⟨by show 1 ≤ sizeLine; decide, fun t9v n9v => ?_⟩
        generalize h9v : upd H9u t9v _ = H9v
        have s9v : Same H9u H9v := by
          rw [← h9v]
          exact same_upd n9v
        refine ⟨a, t9v, _, _, rfl, rfl, ((S8.trans s9u).trans s9v).seqT hA, by rw [← h9v]; exact newT, ?_, fun t9c H9c s9c e9c => ?_⟩
        · rw [List.length_map, sizeLine_eq]; simp only [List.length_cons, List.length_nil]; omega
        refine ⟨_, rfl, by show 2 ≤ sizeLine; decide, fun t9 n9 => ?_⟩
        generalize h9 : upd H9c t9 _ = H9
        have s9 : Same H9c H9 := by
          rw [← h9]
          exact same_upd n9
        have w9 : WrG K H9 (.ref t9) := by
          rw [← h9]
          exact ⟨t9, _, .tuple (pi ns ++ [.tuple [.int 0]]), _, rfl, newT, dp_mono (same_upd n9) _ _ (.tup e9c (dpAll_app (dpAll_ints ns) (.cons (.tup (s9c.seqT (s9v.seqT (by rw [← h9u]; exact newT))) (.cons (.int 0) .nil)) .nil))), bad1 [] hrow (by show ns.length + 1 + 0 ≤ 400; omega) fun y ey => by cases ey⟩
        have S9 : Same H H9 := (((S8.trans s9u).trans s9v).trans s9c).trans s9
        refine ⟨_, rfl, _, _, rfl, rfl, by show 1 ≤ sizeLine; decide, fun t10u n10u => ?_⟩
        generalize h10u : upd H9 t10u _ = H10u
        have s10u : Same H9 H10u := by
          rw [← h10u]
          exact same_upd n10u
        refine ⟨_, rfl, t10u, a, _, _, rfl, rfl, by rw [← h10u]; exact newT, (S9.trans s10u).seqT hA, ?_, fun t10c H10c s10c e10c => ?_⟩
        · rw [List.length_map, sizeLine_eq]; simp only [List.length_cons, List.length_nil]; omega
        refine ⟨by show 2 ≤ sizeLine; decide, fun t10 n10 => ?_⟩
        generalize h10 : upd H10c t10 _ = H10
        have s10 : Same H10c H10 := by
          rw [← h10]
          exact same_upd n10
        have w10 : WrG K H10 (.ref t10) := by
          rw [← h10]
          exact ⟨t10, _, .tuple (pi [] ++ .int ((ns.length : Int) + 1) :: pi ns), _, rfl, newT, dp_mono (same_upd n10) _ _ (.tup e10c (.cons (.int _) (dpAll_ints ns))), bad_at (ns := []) .nil (by rw [pi_len]; show 0 + 1 + ns.length ≤ 400; omega) (fun x hx => by cases hx) fun y ey y0 y1 => by
            injection ey with ey
            rw [pi_len] at y1
            have : y < ((0 + 1 + ns.length : Nat) : Int) := y1
            omega⟩
        have S10 : Same H H10 := ((S9.trans s10u).trans s10c).trans s10
        have d9 : Same H9 H10 := (s10u.trans s10c).trans s10
        have d8 : Same H8 H10 := (((s9u.trans s9v).trans s9c).trans s9).trans d9
        have d7 : Same H7 H10 := (((s8u.trans s8v).trans s8c).trans s8).trans d8
        have d0 : Same H0 H10 := ((s7u.trans s7c).trans s7).trans d7
        refine ⟨by show 4 ≤ sizeLine; decide, fun l1 nl1 => ?_⟩
        have sl1 := same_upd (o := HO.lst [V.ref t7, .ref t8, .ref t9, .ref t10]) nl1
        refine ⟨l0, l1, xs0, _, rfl, rfl, sl1 _ _ (d0 _ _ hl0), upd_same, by show xs0.length + 4 ≤ sizeLine; rw [sizeLine_eq]; omega, fun l2 nl2 => ?_⟩
        have sl2 := sl1.trans (same_upd (o := HO.lst (xs0 ++ [V.ref t7, .ref t8, .ref t9, .ref t10])) nl2)
        refine ⟨l2, _, rfl, S10.trans sl2, upd_same, by show (xs0 ++ [V.ref t7, .ref t8, .ref t9, .ref t10]).length ≤ 10; rw [List.length_append]; show xs0.length + 4 ≤ 10; omega, fun x hx => ?_⟩
        rcases List.mem_append.mp hx with hx | hx
        · exact (hw0 x hx).same (d0.trans sl2)
        · simp only [List.mem_cons, List.not_mem_nil, or_false] at hx
          rcases hx with rfl | rfl | rfl | rfl
          · exact w7.same (d7.trans sl2)
          · exact w8.same (d8.trans sl2)
          · exact w9.same (d9.trans sl2)
          · exact w10.same sl2
      · rintro σ' H2 ⟨l2, xs2, rfl, S2, hl2, hz2, hw2⟩
        have hA2 := S2.seqT hA
        refine ⟨_, rfl, _, rfl, _, _, rfl, rfl, _, rfl, ?_⟩
        refine ite2 (fun e => ?_) (fun e => ?_)
        · have h0 : 0 < ns.length := by
            have z := of_decide_eq_true e
            omega
          obtain ⟨y, r, rfl⟩ : ∃ y r, ns = y :: r := by
            cases ns with
            | nil => exact absurd h0 (Nat.lt_irrefl 0)
            | cons y r => exact ⟨y, r, rfl⟩
          have nm : (y :: r).length = r.length + 1 := rfl
          refine ⟨_, rfl, _, rfl, _, rfl, a, _, rfl, hA2, fun h Hh sh eh => ?_⟩
          rw [cut_head] at eh
          have eh' : SqT K Hh h [.int y] := eh
          refine ⟨a, h, _, _, rfl, rfl, sh.seqT hA2, eh', ?_, fun t11c H11c s11c e11c => ?_⟩
          · rw [List.length_map, sizeLine_eq]; simp only [List.length_cons, List.length_nil]; omega
          refine ⟨_, rfl, by show 2 ≤ sizeLine; decide, fun t11 n11 => ?_⟩
          generalize h11 : upd H11c t11 _ = H11
          have s11 : Same H11c H11 := by
            rw [← h11]
            exact same_upd n11
          have w11 : WrG K H11 (.ref t11) := by
            rw [← h11]
            exact ⟨t11, _, .tuple (pi (y :: r) ++ [.int y]), _, rfl, newT, dp_mono (same_upd n11) _ _ (.tup e11c (dpAll_app (dpAll_ints (y :: r)) (.cons (.int _) .nil))), bad1 [] hrow (by show (y :: r).length + 1 + 0 ≤ 400; omega) fun z ez => by
              injection ez with ez
              right; right
              rw [← ez]
              exact List.mem_cons_self⟩
          have S11 : Same H2 H11 := (sh.trans s11c).trans s11
          refine ⟨_, rfl, _, rfl, a, _, rfl, S11.seqT hA2, fun g Hg sg eg => ?_⟩
          rw [cut_head] at eg
          have eg' : SqT K Hg g [.int y] := eg
          refine ⟨_, rfl, g, a, _, _, rfl, rfl, eg', (S11.trans sg).seqT hA2, ?_, fun t12c H12c s12c e12c => ?_⟩
          · rw [List.length_map, sizeLine_eq]; simp only [List.length_cons, List.length_nil]; omega
          refine ⟨by show 2 ≤ sizeLine; decide, fun t12 n12 => ?_⟩
          generalize h12 : upd H12c t12 _ = H12
          have s12 : Same H12c H12 := by
            rw [← h12]
            exact same_upd n12
          have w12 : WrG K H12 (.ref t12) := by
            rw [← h12]
            exact ⟨t12, _, .tuple (pi [y] ++ .int y :: pi r), _, rfl, newT, dp_mono (same_upd n12) _ _ (.tup e12c (.cons (.int _) (dpAll_ints (y :: r)))), bad_at (ns := [y]) (List.nodup_cons.mpr ⟨fun z => (nomatch z), .nil⟩) (by rw [pi_len]; show 1 + 1 + r.length ≤ 400; omega) (fun x hx => by
              rw [List.mem_singleton.mp hx, pi_len]
              have z := hrow.2.1 y List.mem_cons_self
              rw [nm] at z
              show 0 ≤ y ∧ y < ((1 + 1 + r.length : Nat) : Int)
              omega) fun z ez _ _ => by
              injection ez with ez
              rw [← ez]
              exact List.mem_cons_self⟩
          have d11 : Same H11 H12 := (sg.trans s12c).trans s12
          have d2 : Same H2 H12 := S11.trans d11
          refine ⟨by show 2 ≤ sizeLine; decide, fun l3 nl3 => ?_⟩
          have sl3 := same_upd (o := HO.lst [V.ref t11, .ref t12]) nl3
          refine ⟨l2, l3, xs2, _, rfl, rfl, sl3 _ _ (d2 _ _ hl2), upd_same, by show xs2.length + 2 ≤ sizeLine; rw [sizeLine_eq]; omega, fun l4 nl4 => ?_⟩
          have sl4 := sl3.trans (same_upd (o := HO.lst (xs2 ++ [V.ref t11, .ref t12])) nl4)
          refine k _ l4 _ (S2.trans (d2.trans sl4)) upd_same fun x hx => ?_
          rcases List.mem_append.mp hx with hx | hx
          · exact (hw2 x hx).same (d2.trans sl4)
          · simp only [List.mem_cons, List.not_mem_nil, or_false] at hx
            rcases hx with rfl | rfl
            · exact w11.same (d11.trans sl4)
            · exact w12.same sl4
        · refine ⟨Nat.zero_le _, fun l3 nl3 => ?_⟩
          have sl3 := same_upd (o := HO.lst []) nl3
          refine ⟨l2, l3, xs2, _, rfl, rfl, sl3 _ _ hl2, upd_same, by show xs2.length + 0 ≤ sizeLine; rw [sizeLine_eq]; omega, fun l4 nl4 => ?_⟩
          have sl4 := sl3.trans (same_upd (o := HO.lst (xs2 ++ [])) nl4)
          refine k _ l4 _ (S2.trans sl4) upd_same fun x hx => ?_
          rw [List.append_nil] at hx
          exact (hw2 x hx).same sl4
def sp_law (K : PySem.W.Frag) (mg : Str → Option Value) (PT : Addr) : Sp := fun vs H Q _ => ∃ (a : Addr) (ns : List Int), vs = [.ref a] ∧ SqL K H a (ns.map V.int) ∧ ns.length ≤ 63 ∧ LamX.Tabs [(PT, "law.<locals>.<lambda>")] H ∧ ∀ H' : Hp, Q (.bl true) H'
--OK
abbrev s_law : Stmt := top 20
theorem sc_law : FnScope ["script", "pool", "many", "row", "told", "judged", "due", "place", "wagon", "where", "what", "thing"] ["script"] (defScope s_law) := ⟨rfl, rfl, rfl, by decide +kernel, rfl, by decide +kernel, by decide +kernel⟩
theorem ok_law {f c PT : Addr} {oc : Value} {od an : Option Addr} {osl : Array (Option Value)} {kV doc pm ct : Value} (lk : K.lookup f = some ⟨oc, od, .func (PySem.W.fnOf "law" "law" (defArgs s_law) (defBody s_law) (defScope s_law) .none kV doc pm an (.ref c) ct), osl⟩) (hcd : PySem.W.codeIn K (.ref c) "law" = true) (TB : LamX.TabB base mg c PT) (T : Nms mg) (C_made_row : CalX P w K mg base 3 "made_row" ["thing"] (sp_made_row K mg)) (C_is_row : Cal P w K mg base 4 "is_row" ["thing"] (sp_is_row K mg)) (C_places : CalX P w K mg base 4 "places" ["row"] (sp_places K mg)) (C__law_pool : Cal P w K mg base 1 "_law_pool" ["script"] (sp__law_pool K mg)) (C__law_draw : Cal P w K mg base 1 "_law_draw" ["pool", "many"] (sp__law_draw K mg)) (C__law_pick : Cal P w K mg base 2 "_law_pick" ["pool", "things"] (sp__law_pick K mg)) (C__law_is_whole : Cal P w K mg base 1 "_law_is_whole" ["thing"] (sp__law_is_whole K mg)) (C__law_row : Cal P w K mg base 3 "_law_row" ["pool", "many"] (sp__law_row K mg)) (C__law_wrong_rows : Cal P w K mg base 1 "_law_wrong_rows" ["row"] (sp__law_wrong_rows K mg)) (G__law_refused : Giv K mg "_law_refused" "call" ["call", "error"] (TRef mg "BadRow")) : FnOk P w K mg base CX0 7 f (PySem.W.fnOf "law" "law" (defArgs s_law) (defBody s_law) (defScope s_law) .none kV doc pm an (.ref c) ct) ["script"] (sp_law K mg PT) := by
  refine ok_code lk hcd sc_law (fun vs H Q E h => ?_) (fun A outer s H vs Q E hr h => ?_)
  · obtain ⟨a, ns, rfl, _⟩ := h
    rfl
  · obtain ⟨a, us, rfl, hS, hn, hTb, k⟩ := h
    refine ⟨_, (pss_cut (ps_set (i := 1) sc_law.nd rfl (Or.inl rfl) (pe_cal C__law_pool hr (pa_cons (pv 0) pa_nil)))
  (pss_cut (ps_set (i := 2) sc_law.nd rfl (Or.inl rfl) (pe_ifExp (PW.pt (pw_and (pt_cmpR op_gt (pe_ix ix_list (pv 1) pe_int (fun _ _ => rfl)) pe_int (nomark _)) (pw_and1 (pt_cmpR op_eq (pe_cal C__law_draw hr (pa_cons (pv 1) (pa_cons pe_int pa_nil))) pe_int (nomark _))))) (pe_cal C__law_pick hr (pa_cons (pv 1) (pa_cons (pe_lst (pa_cons pe_int (pa_cons pe_int (pa_cons pe_int pa_nil)))) pa_nil))) (pe_cal C__law_draw hr (pa_cons (pv 1) (pa_cons pe_int pa_nil)))))
  (pss_cut (ps_set (i := 3) sc_law.nd rfl (Or.inl rfl) (pe_cal C__law_row hr (pa_cons (pv 1) (pa_cons (pv 2) pa_nil))))
  (pss_cut (ps_par (i := 4) (j := 5) (by rfl) sc_law.nd rfl rfl (by decide) rfl rfl (pa_cons (pe_calN C_made_row hr (pa_cons (pv 3) pa_nil)) (pa_cons (pe_cal C_is_row hr (pa_cons (pv 3) pa_nil)) pa_nil)) (by rfl))
  (pss_cut (ps_if (PW.pt (pw_or (pt_not (pt_val (pe_callB call_isi (by rfl) T.isinstanceN (by decide +kernel) (pa_cons (pv 4) (pa_cons (pe_bltn (v := .ty "tuple") (by rfl) T.tupleN (by decide +kernel) rfl) pa_nil))))) (pw_or (pt_cmpR (op_neD hr.units) (pv 4) (pv 3) (nomark _)) (pw_or (pt_not (pt_val (pe_callB call_isi (by rfl) T.isinstanceN (by decide +kernel) (pa_cons (pv 5) (pa_cons (pe_bltn (v := .ty "bool") (by rfl) T.boolN (by decide +kernel) rfl) pa_nil))))) (pw_or1 (pt_not (pt_val (pv 5)))))))) (pss_one (ps_ret pe_bl)) pss_nil)
  (pss_cut (ps_set (i := 6) sc_law.nd rfl (Or.inl rfl) (pe_op op_rep (pe_lst (pa_cons pe_int pa_nil)) (pv 2)))
  (pss_cut (ps_for PassesOwn.never rfl (pi_enumT (by rfl) T.enumerateN (pa_cons (pv 3) pa_nil)) (pg_tup (by rfl) (pgs_cons (pg_name (i := 7) sc_law.nd rfl (Or.inl rfl)) (pgs_cons (pg_name (i := 8) sc_law.nd rfl (Or.inl rfl)) pgs_nil))) (pss_one (ps_asg (pv 7) (pg_sub (pv 6) (pv 8) set_list))))
  (pss_cut (ps_set (i := 9) sc_law.nd rfl (Or.inl rfl) (pe_calN C_places hr (pa_cons (pv 3) pa_nil)))
  (pss_cut (ps_if (PW.pt (pw_or (pt_not (pt_val (pe_callB call_isi (by rfl) T.isinstanceN (by decide +kernel) (pa_cons (pv 9) (pa_cons (pe_bltn (v := .ty "tuple") (by rfl) T.tupleN (by decide +kernel) rfl) pa_nil))))) (pw_or (pt_cmpR (op_neD hr.units) (pv 9) (pe_callTy call_tupF (by rfl) T.tupleN (by decide +kernel) (pa_cons (pv 6) pa_nil)) (nomark _)) (pw_or1 (pt_cmpR (op_neD hr.units) (pe_calN C_places hr (pa_cons (pv 9) pa_nil)) (pv 3) (nomark _)))))) (pss_one (ps_ret pe_bl)) pss_nil)
  (pss_cut (ps_if (PW.pt (pw_or (pt_cmpR (op_neD hr.units) (pe_lc (own := [("place", 7)]) (g := (gName 7)) rfl sc_law.nd (pi_tup (pv 9)) (blkOk_by (N := ["script", "pool", "many", "row", "told", "judged", "due", "place", "wagon", "where", "what", "thing"]) (sc := defScope s_law) (by decide +kernel)) (fun _ _ _ _ _ => (pg_name (i := 7) sc_law.nd rfl (Or.inl rfl))) (fun _ _ _ _ _ => (pts_one (pt_not (pt_val (pe_cal C__law_is_whole hr (pa_cons (pv 7) pa_nil)))))) (fun _ _ _ _ _ => (pv 7))) (pe_lst pa_nil) (nomark _)) (pw_or (pt_cmpR (op_neD hr.units) (pe_calN C_made_row hr (pa_cons (pe_tup pa_nil) pa_nil)) (pe_tup pa_nil) (nomark _)) (pw_or1 (pt_cmpR (op_neD hr.units) (pe_calN C_places hr (pa_cons (pe_tup pa_nil) pa_nil)) (pe_tup pa_nil) (nomark _)))))) (pss_one (ps_ret pe_bl)) pss_nil)
  (pss_cut (ps_if (pt_not (pt_val (pe_cal C_is_row hr (pa_cons (pe_tupRg rfl (by rfl) T.tupleN (prg_1 (by rfl) T.rangeN pe_int)) pa_nil)))) (pss_one (ps_ret pe_bl)) pss_nil)
  (pss_cut (ps_for PassesOwn.never rfl (pi_list (pe_cal C__law_wrong_rows hr (pa_cons (pe_ifExp (pt_cmpR op_lt (pv 2) pe_int (nomark _)) (pv 3) (pe_slice sl_tupU (pv 3) po_none (po_some pe_int))) pa_nil))) (pg_tup (by rfl) (pgs_cons (pg_name (i := 11) sc_law.nd rfl (Or.inr rfl)) (pgs_cons (pg_name (i := 10) sc_law.nd rfl (Or.inl rfl)) pgs_nil))) (pss_cons (ps_set (i := 5) sc_law.nd rfl (Or.inl rfl) (pe_cal C_is_row hr (pa_cons (pv 11) pa_nil)))
  (pss_cons (ps_if (PW.pt (pw_or (pt_not (pt_val (pe_callB call_isi (by rfl) T.isinstanceN (by decide +kernel) (pa_cons (pv 5) (pa_cons (pe_bltn (v := .ty "bool") (by rfl) T.boolN (by decide +kernel) rfl) pa_nil))))) (pw_or (pt_val (pv 5)) (pw_or1 (pt_cmpR op_ne (pe_giv (T := [(PT, "law.<locals>.<lambda>")]) (c := c) (P := PT) G__law_refused TB rfl (List.mem_singleton.mpr rfl) (fun p hp _ => by rw [List.mem_singleton.mp hp]; rfl) hr (k := 3) (fun A outer s H E f c' hr' => pe_calW (W := fun cls d _ H' => E cls d H') C_made_row hr' (takes_of rfl rfl rfl rfl) (pa_cons (pv 11) pa_nil)) (LamX.lamS_by (by kernel_rfl))) (pv 10) (nomark _)))))) (pss_one (ps_ret pe_bl)) pss_nil)
  (pss_one (ps_if (pt_cmpR op_ne (pe_giv (T := [(PT, "law.<locals>.<lambda>")]) (c := c) (P := PT) G__law_refused TB rfl (List.mem_singleton.mpr rfl) (fun p hp _ => by rw [List.mem_singleton.mp hp]; rfl) hr (k := 4) (fun A outer s H E f c' hr' => pe_calW (W := fun cls d _ H' => E cls d H') C_places hr' (takes_of rfl rfl rfl rfl) (pa_cons (pv 11) pa_nil)) (LamX.lamS_by (by kernel_rfl))) (pv 10) (nomark _)) (pss_one (ps_ret pe_bl)) pss_nil)))))
  (pss_one (ps_ret pe_bl)))))))))))))), ?_⟩
    refine ⟨fun σ' H' => ∃ p q : Addr, σ' = [some (.ref a), some (.ref p), none, none, none, none, none, none, none, none, none, none] ∧ Pool H' p q ∧ LamX.Tabs [(PT, "law.<locals>.<lambda>")] H', ?_, ?_⟩
    · exact ⟨_, rfl, a, us, rfl, hS, hn, fun H' p q s' _ _ hP => ⟨p, q, rfl, hP, hTb.ext s'⟩⟩
    · rintro σ' H1 ⟨p, q, rfl, hP, T1⟩
      refine ⟨fun σ' H' => ∃ m : Nat, σ' = [some (.ref a), some (.ref p), some (.int (m : Int)), none, none, none, none, none, none, none, none, none] ∧ Pool H' p q ∧ LamX.Tabs [(PT, "law.<locals>.<lambda>")] H' ∧ m ≤ 400, ?_, ?_⟩
      · obtain ⟨u, v, cs, hp, hq, npq, hu, _⟩ := id hP
        have small : ∀ H2, Pool H2 p q → LamX.Tabs [(PT, "law.<locals>.<lambda>")] H2 → sp__law_draw K mg [.ref p, .int 13] H2 (fun x H' => ∃ m : Nat, [some (.ref a), some (.ref p), some x, none, none, none, none, none, none, none, none, none] = [some (V.ref a), some (V.ref p), some (.int (m : Int)), none, none, none, none, none, none, none, none, none] ∧ Pool H' p q ∧ LamX.Tabs [(PT, "law.<locals>.<lambda>")] H' ∧ m ≤ 400) (fun _ _ _ => False) := fun H2 P2 T2 => ⟨p, q, 13, rfl, P2, by decide, by decide, fun H3 r k3 P3 r0 r1 => ⟨r.toNat, by rw [show ((r.toNat : Nat) : Int) = r by omega], P3, tabs_keep P2 k3 T2, by omega⟩⟩
        refine ⟨_, rfl, _, _, _, _, rfl, rfl, SqL.of hp, rfl, _, _, rfl, rfl, _, rfl, ?_⟩
        refine ite2 (fun e => ?_) (fun e => ?_)
        · refine ⟨_, rfl, p, q, 4, rfl, hP, by decide, by decide, fun H2 r k2 P2 r0 r1 => ⟨rfl, _, rfl, ?_⟩⟩
          have T2 := tabs_keep hP k2 T1
          refine ite2 (fun e2 => ?_) (fun e2 => ?_)
          · refine ⟨_, rfl, by show 3 ≤ sizeLine; decide, fun l nl => ?_⟩
            have k3 : Keep p q H2 (upd H2 l (.lst [.int 60, .int 400, .int 7])) := Keep.refl.new nl
            refine ⟨p, q, l, [60, 400, 7], rfl, P2.new nl, upd_same, P2.nep nl, P2.neq nl, by decide, by decide, fun H4 x k4 P4 hx => ?_⟩
            simp only [List.mem_cons, List.not_mem_nil, or_false] at hx
            have T4 := tabs_keep P2 (k3.trans k4) T2
            rcases hx with rfl | rfl | rfl
            · exact ⟨60, rfl, P4, T4, by decide⟩
            · exact ⟨400, rfl, P4, T4, by decide⟩
            · exact ⟨7, rfl, P4, T4, by decide⟩
          · exact ⟨_, rfl, small H2 P2 T2⟩
        · exact ⟨_, rfl, small H1 hP T1⟩
      · rintro σ' H2 ⟨m, rfl, P2, T2, hm⟩
        refine ⟨fun σ' H' => ∃ (r : Addr) (ns : List Int), σ' = [some (.ref a), some (.ref p), some (.int (m : Int)), some (.ref r), none, none, none, none, none, none, none, none] ∧ LamX.Tabs [(PT, "law.<locals>.<lambda>")] H' ∧ TupD H' r (ns.map V.int) ∧ IsRow ns ∧ ns.length = m, ?_, ?_⟩
        · exact ⟨_, rfl, _, rfl, p, q, m, rfl, P2, hm, fun H3 r ns k3 P3 _ hr3 hrow hlm => ⟨r, ns, rfl, tabs_keep P2 k3 T2, hr3, hrow, hlm⟩⟩
        · rintro σ' H3 ⟨r, ns, rfl, T3, hr3, hrow, hlm⟩
          subst hlm
          refine ⟨fun σ' H' => ∃ td : Addr, σ' = [some (.ref a), some (.ref p), some (.int (ns.length : Int)), some (.ref r), some (.ref td), some (.bl true), none, none, none, none, none, none] ∧ Same H3 H' ∧ TupD H' td (ns.map V.int), ?_, ?_⟩
          · refine ⟨_, rfl, _, _, rfl, dp_tupI hr3.seqT, fun n1 H4 td e1 _ s4 _ htd => ?_, fun i H' e hb _ _ _ => row_notBad hrow hb⟩
            have en1 := pi_inj (PyData.tuple.inj e1)
            subst en1
            exact ⟨_, rfl, _, _, rfl, dp_tupI (s4.seqT hr3.seqT), fun n2 H5 e2 _ s5 => ⟨_, _, rfl, td, rfl, s4.trans s5, htd.same fun o e => s5 _ _ e⟩, fun i H' hb _ => (row_notBad hrow hb).elim⟩
          · rintro σ' H4 ⟨td, rfl, s4, htd⟩
            have hr4 : TupD H4 r (ns.map V.int) := hr3.same fun o e => s4 _ _ e
            refine ⟨fun σ' H' => σ' = [some (.ref a), some (.ref p), some (.int (ns.length : Int)), some (.ref r), some (.ref td), some (.bl true), none, none, none, none, none, none] ∧ H4 = H', ?_, ?_⟩
            · refine ⟨_, rfl, _, _, _, _, _, rfl, .ty _, dp_ty (dp_tupI (K := K) htd.seqT), kit_tuple _, _, rfl, iteF ?_⟩
              refine ⟨_, rfl, _, rfl, .tuple (pi ns), .tuple (pi ns), dp_tupI htd.seqT, dp_tupI hr4.seqT, shaped_tupI _, shaped_tupI _, _, rfl, ?_⟩
              rw [eqv_tupI, decide_eq_true rfl]
              refine iteF ⟨_, rfl, _, _, _, _, _, rfl, .ty _, dp_ty (.bl true), kit_bool (.bool true), _, rfl, iteF ?_⟩
              exact ⟨_, rfl, _, rfl, iteF ⟨rfl, rfl⟩⟩
            · rintro σ' _ ⟨rfl, rfl⟩
              refine ⟨fun σ' H' => ∃ du : Addr, σ' = [some (.ref a), some (.ref p), some (.int (ns.length : Int)), some (.ref r), some (.ref td), some (.bl true), some (.ref du), none, none, none, none, none] ∧ Same H4 H' ∧ H4 du = none ∧ H' du = some (.lst ((List.replicate ns.length (0 : Int)).map V.int)), ?_, ?_⟩
              · refine ⟨by show 1 ≤ sizeLine; decide, fun l0 nl0 => ⟨_, rfl, _, _, _, rfl, rfl, upd_same, by omega, by omega, ?_, fun du ndu => ?_⟩⟩
                · rw [sizeLine_eq]; simp only [List.length_singleton, Int.toNat_natCast]; omega
                · have s0 : Same H4 (upd H4 l0 (.lst [.int 0])) := same_upd nl0
                  have fl : ∀ n : Nat, (List.replicate n [V.int 0]).flatten = (List.replicate n (0 : Int)).map V.int := fun n => by
                    induction n with
                    | zero => rfl
                    | succ n ih => rw [List.replicate_succ, List.flatten_cons, ih]; rfl
                  exact ⟨du, rfl, s0.trans (same_upd ndu), s0.free ndu, by rw [upd_same, Int.toNat_natCast, fl]⟩
              · rintro σ' H5 ⟨du, rfl, s5, ndu, hdu⟩
                refine ⟨fun σ' H' => ∃ v7 v8 : Option V, σ' = [some (.ref a), some (.ref p), some (.int (ns.length : Int)), some (.ref r), some (.ref td), some (.bl true), some (.ref du), v7, v8, none, none, none] ∧ Same H4 H' ∧ H' du = some (.lst ((placesOf ns).map V.int)), ?_, ?_⟩
                · refine ⟨_, rfl, _, _, rfl, s5.seqT hr4.seqT, for_it (walk_enumT (K := K) (xs := ns.map V.int)) (fun i σ' H' => ∃ v7 v8 L, σ' = [some (.ref a), some (.ref p), some (.int (ns.length : Int)), some (.ref r), some (.ref td), some (.bl true), some (.ref du), v7, v8, none, none, none] ∧ Same H4 H' ∧ H' du = some (.lst (L.map V.int)) ∧ PutOk ns L i) ?_ ?_ ?_ ?_⟩
                  · exact ⟨none, none, _, rfl, s5, hdu, ⟨by simp, fun p hp hz => absurd hz (Nat.not_lt_zero _)⟩⟩
                  · rintro i σ' H' hi ⟨_, _, _, _, sm, _⟩
                    exact sm.seqT hr4.seqT
                  · rintro i x σ' H2 H' hi ⟨v7, v8, L, rfl, sm, hs, hput⟩ ⟨T, x', rfl, nT, rfl, hx⟩
                    refine ⟨T, _, rfl, .inl (.inl upd_same), rfl, _, _, rfl, _, _, rfl, rfl, ?_⟩
                    rw [List.length_map] at hi
                    obtain ⟨y, rfl, hy⟩ := getI hx
                    have ey : ns[i] = y := by
                      rw [List.getElem?_eq_getElem hi] at hy
                      exact Option.some.inj hy
                    obtain ⟨j, ej, hj⟩ := hrow.ints hi
                    have eyj : y = (j : Int) := by rw [← ey]; exact ej
                    subst eyj
                    have nlT : du ≠ T := ne_of_none hs nT
                    have hsT : upd H2 T (.tup [.int (i : Nat), .int (j : Int)]) du = some (.lst (L.map V.int)) := by rw [upd_ne nlT]; exact hs
                    refine ⟨_, rfl, _, rfl, _, rfl, _, _, _, j, rfl, rfl, hsT, ixN_nat (by rw [List.length_map, hput.1]; exact hj), ?_⟩
                    refine ⟨_, _, L.set j (i : Int), rfl, fun b o hbo => ?_, ?_, putOk_step hrow hi ej hput⟩
                    · rw [upd_ne (ne_of_none hbo ndu), upd_ne (ne_of_none (sm b o hbo) nT)]
                      exact sm b o hbo
                    · rw [upd_same, List.map_set]
                  · rintro σ' H' ⟨v7, v8, L, rfl, sm, hs, hput⟩
                    rw [List.length_map] at hput
                    rw [putOk_done hrow hput] at hs
                    exact ⟨v7, v8, rfl, sm, hs⟩
                · rintro σ' H6 ⟨v7, v8, rfl, s6, hdu6⟩
                  have hrp := placesOf_row hrow
                  refine ⟨fun σ' H' => ∃ wh : Addr, σ' = [some (.ref a), some (.ref p), some (.int (ns.length : Int)), some (.ref r), some (.ref td), some (.bl true), some (.ref du), v7, v8, some (.ref wh), none, none] ∧ Same H4 H' ∧ H' du = some (.lst ((placesOf ns).map V.int)) ∧ TupD H' wh ((placesOf ns).map V.int), ?_, ?_⟩
                  · refine ⟨_, rfl, _, _, rfl, dp_tupI (s6.seqT hr4.seqT), fun n1 H7 wh e1 _ s7 _ hwh => ?_, fun i H' e hb _ _ _ => row_notBad hrow hb⟩
                    have en1 := pi_inj (PyData.tuple.inj e1)
                    subst en1
                    exact ⟨wh, rfl, s6.trans s7, s7 _ _ hdu6, hwh⟩
                  · rintro σ' H7 ⟨wh, rfl, s7, hdu7, hwh⟩
                    have hr7 : TupD H7 r (ns.map V.int) := hr4.same fun o e => s7 _ _ e
                    refine ⟨fun σ' H' => σ' = [some (.ref a), some (.ref p), some (.int (ns.length : Int)), some (.ref r), some (.ref td), some (.bl true), some (.ref du), v7, v8, some (.ref wh), none, none] ∧ Same H7 H', ?_, ?_⟩
                    · refine ⟨_, rfl, _, _, _, _, _, rfl, .ty _, dp_ty (dp_tupI (K := K) hwh.seqT), kit_tuple _, _, rfl, iteF ?_⟩
                      refine ⟨_, rfl, _, rfl, _, _, rfl, SqL.of hdu7, fun t ob nt od oc => ?_⟩
                      have st : Same H7 (upd H7 t (.frz ob (.tup ((placesOf ns).map V.int)))) := same_upd nt
                      refine ⟨.tuple (pi (placesOf ns)), .tuple (pi (placesOf ns)), dp_tupI (st.seqT hwh.seqT), dp_tupI (TupD.new od oc).seqT, shaped_tupI _, shaped_tupI _, _, rfl, ?_⟩
                      rw [eqv_tupI, decide_eq_true rfl]
                      refine iteF ⟨_, rfl, _, _, rfl, dp_tupI (st.seqT hwh.seqT), fun n1 H8 pl e1 _ s8 _ hpl => ?_, fun i H' e hb _ _ _ => row_notBad hrp hb⟩
                      have en1 := pi_inj (PyData.tuple.inj e1)
                      subst en1
                      rw [placesOf_twice hrow] at hpl
                      refine ⟨_, rfl, .tuple (pi ns), .tuple (pi ns), dp_tupI hpl.seqT, dp_tupI ((st.trans s8).seqT hr7.seqT), shaped_tupI _, shaped_tupI _, _, rfl, ?_⟩
                      rw [eqv_tupI, decide_eq_true rfl]
                      exact iteF ⟨rfl, st.trans s8⟩
                    · rintro σ' H8 ⟨rfl, s8⟩
                      refine ⟨fun σ' H' => σ' = [some (.ref a), some (.ref p), some (.int (ns.length : Int)), some (.ref r), some (.ref td), some (.bl true), some (.ref du), v7, v8, some (.ref wh), none, none] ∧ Same H8 H', ?_, ?_⟩
                      · have hwh8 := s8.seqT (K := K) hwh.seqT
                        refine ⟨_, rfl, wh, rfl, ⟨_, hwh8⟩, fun D nD => lc_tup (K := K) (a := wh) (xs := (placesOf ns).map V.int) (fun j H' => Same H8 H' ∧ H' D = some (.lst [])) ?_ ?_ ?_ ?_⟩
                        · exact ⟨same_upd nD, upd_same⟩
                        · rintro j H' hj ⟨s9, _⟩
                          exact s9.seqT hwh8
                        · rintro j x H' hx ⟨s9, hD⟩
                          obtain ⟨y, rfl, hy⟩ := getI hx
                          exact ⟨rfl, _, rfl, _, .int y, rfl, .int y, _, rfl, iteF ⟨s9, hD⟩⟩
                        · rintro H9 ⟨s9, hD⟩
                          refine ⟨Nat.zero_le _, fun l nl => ?_⟩
                          have sl : Same H9 (upd H9 l (.lst [])) := same_upd nl
                          refine ⟨.list (pi []), .list (pi []), dp_lstI (ns := []) (SqL.of (sl _ _ hD)), dp_lstI (ns := []) (SqL.of upd_same), shaped_lstI _, shaped_lstI _, _, rfl, ?_⟩
                          rw [eqv_lstI, decide_eq_true rfl]
                          refine iteF ⟨Nat.zero_le _, fun u nu => ⟨_, .tuple (pi []), rfl, dp_tupI (ns := []) newT, fun n1 H10 p1 e1 _ s10 _ hp1 => ?_, fun i H' e hb _ _ _ => row_notBad nilRow hb⟩⟩
                          have en1 : ([] : List Int) = n1 := pi_inj (PyData.tuple.inj e1)
                          subst en1
                          refine ⟨Nat.zero_le _, fun u2 nu2 => ⟨.tuple (pi []), .tuple (pi []), dp_tupI (ns := []) ((same_upd nu2).seqT hp1.seqT), dp_tupI (ns := []) newT, shaped_tupI _, shaped_tupI _, _, rfl, ?_⟩⟩
                          rw [eqv_tupI, decide_eq_true rfl]
                          refine iteF ⟨Nat.zero_le _, fun u3 nu3 => ⟨_, .tuple (pi []), rfl, dp_tupI (ns := []) newT, fun n2 H11 p2 e2 _ s11 _ hp2 => ?_, fun i H' e hb _ _ _ => row_notBad nilRow hb⟩⟩
                          have en2 : ([] : List Int) = n2 := pi_inj (PyData.tuple.inj e2)
                          subst en2
                          refine ⟨Nat.zero_le _, fun u4 nu4 => ⟨.tuple (pi []), .tuple (pi []), dp_tupI (ns := []) ((same_upd nu4).seqT hp2.seqT), dp_tupI (ns := []) newT, shaped_tupI _, shaped_tupI _, _, rfl, ?_⟩⟩
                          rw [eqv_tupI, decide_eq_true rfl]
                          exact iteF ⟨rfl, (s9.trans (sl.trans ((same_upd nu).trans s10))).trans ((same_upd nu2).trans ((same_upd nu3).trans (s11.trans (same_upd nu4))))⟩
                      · rintro σ' H9 ⟨rfl, s9⟩
                        refine ⟨fun σ' H' => σ' = [some (.ref a), some (.ref p), some (.int (ns.length : Int)), some (.ref r), some (.ref td), some (.bl true), some (.ref du), v7, v8, some (.ref wh), none, none] ∧ Same H9 H', ?_, ?_⟩
                        · refine ⟨_, rfl, RgOk.of_le (by decide) (by decide) (by decide) (by decide), fun t nt => ⟨_, .tuple (pi (rgI 400)), rfl, dp_tupI (by rw [← rgV_I]; exact newT), fun n1 H10 _ _ s10 => ⟨_, rfl, iteF ⟨rfl, (same_upd nt).trans s10⟩⟩, fun i H' hb _ => (row_notBad (rgI_row (by decide)) hb).elim⟩⟩
                        · rintro σ' H10 ⟨rfl, s10⟩
                          have s410 : Same H4 H10 := ((s7.trans s8).trans s9).trans s10
                          have hr10 := s410.seqT (K := K) hr4.seqT
                          have T10 : LamX.Tabs [(PT, "law.<locals>.<lambda>")] H10 := T3.ext (s4.trans s410)
                          refine ⟨fun _ _ => True, ?_, fun _ H' _ => k H'⟩
                          refine ⟨_, rfl, _, _, rfl, rfl, _, rfl, ?_⟩
                          refine ite2 (fun e => ⟨_, rfl, r, ns, rfl, hr10, hrow, by have z := of_decide_eq_true e; omega, fun H11 l xs s11 hl11 hw11 => ?_⟩) (fun e => ⟨_, rfl, _, rfl, r, _, rfl, hr10, fun z Hz sz ez => ⟨z, [], rfl, by rw [cut_zero] at ez; exact ez, nilRow, Nat.zero_le _, fun H11 l xs s11' hl11 hw11 => (fun (s11 : Same H10 H11) => ?_) (sz.trans s11')⟩⟩)
                          all_goals
                            refine ⟨l, rfl, ⟨_, SqL.of hl11⟩, for_list (K := K) (a := l) (xs := xs) (fun _ σ' H' => ∃ v5 v10 v11 : Option V, σ' = [some (.ref a), some (.ref p), some (.int (ns.length : Int)), some (.ref r), some (.ref td), v5, some (.ref du), v7, v8, some (.ref wh), v10, v11] ∧ LamX.ExtN H11 H' ∧ LamX.Tabs [(PT, "law.<locals>.<lambda>")] H') ?_ ?_ ?_ ?_⟩
                            · exact ⟨_, none, none, rfl, LamX.ExtN.refl _, T10.ext s11⟩
                            · rintro i σ' H' _ ⟨_, _, _, _, x', _⟩
                              exact seqL_ext x' (SqL.of hl11)
                            · rintro i x σ' H12 hx ⟨v5, v10, v11, rfl, x12, T12⟩
                              obtain ⟨t, v, d, w', rfl, ht, hd, hbad⟩ := (hw11 x (List.mem_of_getElem? hx)).ext x12
                              refine ⟨t, _, rfl, ht, rfl, _, _, rfl, _, _, rfl, rfl, ?_⟩
                              refine ⟨_, rfl, v, d, rfl, hd, fun n1 H13 e1 hr1 _ => ?_, fun j H13 _ s13 => ?_⟩
                              · rw [e1] at hbad
                                exact (row_notBad hr1 hbad).elim
                              · have hd13 := dp_mono s13 _ _ hd
                                have T13 := T12.ext s13
                                refine ⟨_, rfl, _, _, _, _, _, rfl, .ty _, dp_ty (.bl false), kit_bool (.bool false), _, rfl, iteF ?_⟩
                                refine ⟨_, rfl, _, rfl, iteF ?_⟩
                                refine ⟨T13, fun H14 x14 T14 => ?_⟩
                                refine ⟨_, rfl, v, d, rfl, dp_ext x14 _ _ hd13, fun n1 H15 _ e1 hr1 _ _ _ => ?_, fun j2 H15 eo hb2 s15 _ he => ?_⟩
                                · rw [e1] at hbad
                                  exact (row_notBad hr1 hbad).elim
                                refine ⟨rfl, eo, .int j2, rfl, he, ?_⟩
                                have ej := rowBad_one hb2 hbad
                                subst ej
                                refine ⟨_, rfl, rfl, _, rfl, ?_⟩
                                rw [decide_eq_true rfl]
                                refine iteF ?_
                                refine ⟨T14.ext s15, fun H16 x16 T16 => ?_⟩
                                refine ⟨_, rfl, v, d, rfl, dp_ext x16 _ _ (dp_mono s15 _ _ (dp_ext x14 _ _ hd13)), fun n1 H17 _ e1 hr1 _ _ _ => ?_, fun j3 H17 eo2 hb3 s17 _ he2 => ?_⟩
                                · rw [e1] at hbad
                                  exact (row_notBad hr1 hbad).elim
                                refine ⟨rfl, eo2, .int j3, rfl, he2, ?_⟩
                                have ej := rowBad_one hb3 hbad
                                subst ej
                                refine ⟨_, rfl, rfl, _, rfl, ?_⟩
                                rw [decide_eq_true rfl]
                                exact iteF ⟨_, _, _, rfl, ((((x12.trans (.of s13)).trans x14).trans (.of s15)).trans x16).trans (.of s17), T16.ext s17⟩
                            · rintro σ' H' _
                              trivial
end
theorem all_mk {l : PySem.W.OpenLaw} {w : World} {K : PySem.W.Frag} {h : Heap} {mg : Str → Option Value} {fa : Addr} (X : K.In h) (G : h.Ns mainGlobals mg) (hfa : mg "law" = some (.ref fa))
    {fI Rf : Addr} {odI anI : Option Addr} {slI : Array (Option Value)} {ocI kVI dcI pmI cdI ctI : Value}
    (tI : PySem.W.typeIn K (.ref fI) = some (.type "function")) (lI : K.lookup fI = some ⟨ocI, odI, .func (PySem.W.fnOf "__init__" "Refused.__init__" (defArgs s_init) (defBody s_init) (defScope s_init) .none kVI dcI pmI anI cdI ctI), slI⟩) (cI : PySem.W.codeIn K cdI "Refused.__init__" = true) (kI : PySem.W.keepIn K (.ref fI) = true)
    {CBadRow NBadRow : Addr} {nmBadRow qBadRow : Str} {bsBadRow : List Value} {snBadRow : List Str} {subBadRow : List Value} {abBadRow : Bool} {colBadRow : Option Bool} {ddBadRow : Option Addr} {m0BadRow m1BadRow m2BadRow m3BadRow m5BadRow : Option Value} {tkBadRow : Tok}
    (aBadRow : PySem.W.nsIn K mainGlobals "BadRow" = some (some (.ref CBadRow))) (xBadRow : K.lookup CBadRow = some (excClassObj nmBadRow qBadRow CBadRow NBadRow bsBadRow [.ref Rf, .type "ValueError", .type "Exception", .type "BaseException", .type "object"] true snBadRow subBadRow abBadRow colBadRow ddBadRow m0BadRow m1BadRow m2BadRow m3BadRow m5BadRow "ValueError.__new__"))
    (sBadRow : PySem.W.findIn K (.ref CBadRow) "__setattr__" = some (some (.builtin "object.__setattr__"))) (iBadRow : PySem.W.findIn K (.ref CBadRow) "__init__" = some (some (.ref fI))) (wBadRow : PySem.W.findIn K (.ref CBadRow) "what" = some none) (eBadRow : PySem.W.subIn K (.ref CBadRow) (.type "BaseException") = some true) (yBadRow : PySem.W.typeIn K (.ref CBadRow) = some (.type "type")) (kBadRow : PySem.W.keepIn K (.ref CBadRow) = true) (jBadRow : PySem.W.hasDictIn K CBadRow = true) (uBadRow : PySem.W.subIn K (.ref CBadRow) (.ref CBadRow) = some true)
    (wkBadRow : PySem.W.findIn K (.ref CBadRow) "kind" = some none) (vrdBadRow : PySem.W.readsIn K CBadRow (.type "type") = true) (vfcBadRow : PySem.W.findCls K (.ref CBadRow) (.type "type") "__name__" = some (.get (.builtin "getset_descriptor.__get__") (.builtin "type.__name__") (.ref CBadRow) (.type "type"))) (vnmBadRow : nameIn K CBadRow = some (.str "BadRow" tkBadRow))
    (vclBadRow : (PySem.W.clsIn K CBadRow).isSome = true) (vgaBadRow : PySem.W.findIn K (.ref CBadRow) "__getattribute__" = some (some (.builtin "BaseException.__getattribute__"))) (vggBadRow : PySem.W.findIn K (.ref CBadRow) "__getattr__" = some none) (vacBadRow : PySem.W.findIn K (.ref CBadRow) "__class__" = some (some (.builtin "object.__class__"))) (vspBadRow : PySem.W.specialIn K (.builtin "object.__class__") "__get__" = some (some (.builtin "getset_descriptor.__get__"))) (vtkBadRow : PySem.W.takesIn K (.builtin "object.__class__") = some true) (vmrBadRow : PySem.W.mroIn K CBadRow (.type "object") = some true) (vkrBadRow : PySem.W.kitOne K (.ref CBadRow) (.ref Rf) = some true) (vkvBadRow : PySem.W.kitOne K (.ref CBadRow) (.type "ValueError") = some true)
    (aRefused : PySem.W.nsIn K mainGlobals "Refused" = some (some (.ref Rf)))
    {cL PT : Addr} (hPT : h.get? PT = some { cls := .none, data := .fields #[] }) (nPT : K.lookup PT = none) (hcL : PySem.W.codeHdIn K cL PT = true)
    {f0 : Addr} {od0 an0 : Option Addr} {sl0 : Array (Option Value)} {oc0 kV0 dc0 pm0 cd0 ct0 : Value}
    (a0 : PySem.W.nsIn K mainGlobals "is_number" = some (some (.ref f0))) (l0 : K.lookup f0 = some ⟨oc0, od0, .func (PySem.W.fnOf "is_number" "is_number" (defArgs s_is_number) (defBody s_is_number) (defScope s_is_number) .none kV0 dc0 pm0 an0 cd0 ct0), sl0⟩) (c0 : PySem.W.codeIn K cd0 "is_number" = true) (k0 : PySem.W.keepIn K (.ref f0) = true)
    {f1 : Addr} {od1 an1 : Option Addr} {sl1 : Array (Option Value)} {oc1 kV1 dc1 pm1 cd1 ct1 : Value}
    (a1 : PySem.W.nsIn K mainGlobals "within" = some (some (.ref f1))) (l1 : K.lookup f1 = some ⟨oc1, od1, .func (PySem.W.fnOf "within" "within" (defArgs s_within) (defBody s_within) (defScope s_within) .none kV1 dc1 pm1 an1 cd1 ct1), sl1⟩) (c1 : PySem.W.codeIn K cd1 "within" = true) (k1 : PySem.W.keepIn K (.ref f1) = true)
    {f2 : Addr} {od2 an2 : Option Addr} {sl2 : Array (Option Value)} {oc2 kV2 dc2 pm2 cd2 ct2 : Value}
    (a2 : PySem.W.nsIn K mainGlobals "made_row" = some (some (.ref f2))) (l2 : K.lookup f2 = some ⟨oc2, od2, .func (PySem.W.fnOf "made_row" "made_row" (defArgs s_made_row) (defBody s_made_row) (defScope s_made_row) .none kV2 dc2 pm2 an2 cd2 ct2), sl2⟩) (c2 : PySem.W.codeIn K cd2 "made_row" = true) (k2 : PySem.W.keepIn K (.ref f2) = true)
    {f3 : Addr} {od3 an3 : Option Addr} {sl3 : Array (Option Value)} {oc3 kV3 dc3 pm3 cd3 ct3 : Value}
    (a3 : PySem.W.nsIn K mainGlobals "is_row" = some (some (.ref f3))) (l3 : K.lookup f3 = some ⟨oc3, od3, .func (PySem.W.fnOf "is_row" "is_row" (defArgs s_is_row) (defBody s_is_row) (defScope s_is_row) .none kV3 dc3 pm3 an3 cd3 ct3), sl3⟩) (c3 : PySem.W.codeIn K cd3 "is_row" = true) (k3 : PySem.W.keepIn K (.ref f3) = true)
    {f4 : Addr} {od4 an4 : Option Addr} {sl4 : Array (Option Value)} {oc4 kV4 dc4 pm4 cd4 ct4 : Value}
    (a4 : PySem.W.nsIn K mainGlobals "places" = some (some (.ref f4))) (l4 : K.lookup f4 = some ⟨oc4, od4, .func (PySem.W.fnOf "places" "places" (defArgs s_places) (defBody s_places) (defScope s_places) .none kV4 dc4 pm4 an4 cd4 ct4), sl4⟩) (c4 : PySem.W.codeIn K cd4 "places" = true) (k4 : PySem.W.keepIn K (.ref f4) = true)
    {f5 : Addr} {od5 an5 : Option Addr} {sl5 : Array (Option Value)} {oc5 kV5 dc5 pm5 cd5 ct5 : Value}
    (a5 : PySem.W.nsIn K mainGlobals "_law_pool" = some (some (.ref f5))) (l5 : K.lookup f5 = some ⟨oc5, od5, .func (PySem.W.fnOf "_law_pool" "_law_pool" (defArgs s__law_pool) (defBody s__law_pool) (defScope s__law_pool) .none kV5 dc5 pm5 an5 cd5 ct5), sl5⟩) (c5 : PySem.W.codeIn K cd5 "_law_pool" = true) (k5 : PySem.W.keepIn K (.ref f5) = true)
    {f6 : Addr} {od6 an6 : Option Addr} {sl6 : Array (Option Value)} {oc6 kV6 dc6 pm6 cd6 ct6 : Value}
    (a6 : PySem.W.nsIn K mainGlobals "_law_draw" = some (some (.ref f6))) (l6 : K.lookup f6 = some ⟨oc6, od6, .func (PySem.W.fnOf "_law_draw" "_law_draw" (defArgs s__law_draw) (defBody s__law_draw) (defScope s__law_draw) .none kV6 dc6 pm6 an6 cd6 ct6), sl6⟩) (c6 : PySem.W.codeIn K cd6 "_law_draw" = true) (k6 : PySem.W.keepIn K (.ref f6) = true)
    {f7 : Addr} {od7 an7 : Option Addr} {sl7 : Array (Option Value)} {oc7 kV7 dc7 pm7 cd7 ct7 : Value}
    (a7 : PySem.W.nsIn K mainGlobals "_law_pick" = some (some (.ref f7))) (l7 : K.lookup f7 = some ⟨oc7, od7, .func (PySem.W.fnOf "_law_pick" "_law_pick" (defArgs s__law_pick) (defBody s__law_pick) (defScope s__law_pick) .none kV7 dc7 pm7 an7 cd7 ct7), sl7⟩) (c7 : PySem.W.codeIn K cd7 "_law_pick" = true) (k7 : PySem.W.keepIn K (.ref f7) = true)
    {f8 : Addr} {od8 an8 : Option Addr} {sl8 : Array (Option Value)} {oc8 kV8 dc8 pm8 cd8 ct8 : Value}
    (a8 : PySem.W.nsIn K mainGlobals "_law_is_whole" = some (some (.ref f8))) (l8 : K.lookup f8 = some ⟨oc8, od8, .func (PySem.W.fnOf "_law_is_whole" "_law_is_whole" (defArgs s__law_is_whole) (defBody s__law_is_whole) (defScope s__law_is_whole) .none kV8 dc8 pm8 an8 cd8 ct8), sl8⟩) (c8 : PySem.W.codeIn K cd8 "_law_is_whole" = true) (k8 : PySem.W.keepIn K (.ref f8) = true)
    {f9 : Addr} {od9 an9 : Option Addr} {sl9 : Array (Option Value)} {oc9 kV9 dc9 pm9 cd9 ct9 : Value}
    (a9 : PySem.W.nsIn K mainGlobals "_law_turned" = some (some (.ref f9))) (l9 : K.lookup f9 = some ⟨oc9, od9, .func (PySem.W.fnOf "_law_turned" "_law_turned" (defArgs s__law_turned) (defBody s__law_turned) (defScope s__law_turned) .none kV9 dc9 pm9 an9 cd9 ct9), sl9⟩) (c9 : PySem.W.codeIn K cd9 "_law_turned" = true) (k9 : PySem.W.keepIn K (.ref f9) = true)
    {f10 : Addr} {od10 an10 : Option Addr} {sl10 : Array (Option Value)} {oc10 kV10 dc10 pm10 cd10 ct10 : Value}
    (a10 : PySem.W.nsIn K mainGlobals "_law_refused" = some (some (.ref f10))) (l10 : K.lookup f10 = some ⟨oc10, od10, .func (PySem.W.fnOf "_law_refused" "_law_refused" (defArgs s__law_refused) (defBody s__law_refused) (defScope s__law_refused) .none kV10 dc10 pm10 an10 cd10 ct10), sl10⟩) (c10 : PySem.W.codeIn K cd10 "_law_refused" = true) (k10 : PySem.W.keepIn K (.ref f10) = true)
    {f11 : Addr} {od11 an11 : Option Addr} {sl11 : Array (Option Value)} {oc11 kV11 dc11 pm11 cd11 ct11 : Value}
    (a11 : PySem.W.nsIn K mainGlobals "_law_row" = some (some (.ref f11))) (l11 : K.lookup f11 = some ⟨oc11, od11, .func (PySem.W.fnOf "_law_row" "_law_row" (defArgs s__law_row) (defBody s__law_row) (defScope s__law_row) .none kV11 dc11 pm11 an11 cd11 ct11), sl11⟩) (c11 : PySem.W.codeIn K cd11 "_law_row" = true) (k11 : PySem.W.keepIn K (.ref f11) = true)
    {f12 : Addr} {od12 an12 : Option Addr} {sl12 : Array (Option Value)} {oc12 kV12 dc12 pm12 cd12 ct12 : Value}
    (a12 : PySem.W.nsIn K mainGlobals "_law_wrong_rows" = some (some (.ref f12))) (l12 : K.lookup f12 = some ⟨oc12, od12, .func (PySem.W.fnOf "_law_wrong_rows" "_law_wrong_rows" (defArgs s__law_wrong_rows) (defBody s__law_wrong_rows) (defScope s__law_wrong_rows) .none kV12 dc12 pm12 an12 cd12 ct12), sl12⟩) (c12 : PySem.W.codeIn K cd12 "_law_wrong_rows" = true) (k12 : PySem.W.keepIn K (.ref f12) = true)
    {f13 : Addr} {od13 an13 : Option Addr} {sl13 : Array (Option Value)} {oc13 kV13 dc13 pm13 ct13 : Value}
    (a13 : PySem.W.nsIn K mainGlobals "law" = some (some (.ref f13))) (l13 : K.lookup f13 = some ⟨oc13, od13, .func (PySem.W.fnOf "law" "law" (defArgs s_law) (defBody s_law) (defScope s_law) .none kV13 dc13 pm13 an13 (.ref cL) ct13), sl13⟩) (c13 : PySem.W.codeIn K (.ref cL) "law" = true) (k13 : PySem.W.keepIn K (.ref f13) = true)
    {tMOST_WAGONS : Tok} (gMOST_WAGONS : PySem.W.nsIn K mainGlobals "MOST_WAGONS" = some (some (.int 400 tMOST_WAGONS)))
    (zlen : PySem.W.nsIn K mainGlobals "len" = some none)
    (zint : PySem.W.nsIn K mainGlobals "int" = some none)
    (zbool : PySem.W.nsIn K mainGlobals "bool" = some none)
    (zlist : PySem.W.nsIn K mainGlobals "list" = some none)
    (ztuple : PySem.W.nsIn K mainGlobals "tuple" = some none)
    (zrange : PySem.W.nsIn K mainGlobals "range" = some none)
    (zisinstance : PySem.W.nsIn K mainGlobals "isinstance" = some none)
    (zenumerate : PySem.W.nsIn K mainGlobals "enumerate" = some none)
    (zzip : PySem.W.nsIn K mainGlobals "zip" = some none)
    (zsum : PySem.W.nsIn K mainGlobals "sum" = some none)
    (zmax : PySem.W.nsIn K mainGlobals "max" = some none)
    (zmin : PySem.W.nsIn K mainGlobals "min" = some none)
    (zsorted : PySem.W.nsIn K mainGlobals "sorted" = some none)
    (zValueError : PySem.W.nsIn K mainGlobals "ValueError" = some none)
    : LamX.LawAtS l w K CX0 7 63 "script" mg fa h := by
  have e := hfa.symm.trans (PySem.W.mg_of X G a13)
  cases e
  have T : Nms mg := ⟨PySem.W.mg_none_of X G zlen, PySem.W.mg_none_of X G zint, PySem.W.mg_none_of X G zbool, PySem.W.mg_none_of X G zlist, PySem.W.mg_none_of X G ztuple, PySem.W.mg_none_of X G zrange, PySem.W.mg_none_of X G zisinstance, PySem.W.mg_none_of X G zenumerate, PySem.W.mg_none_of X G zzip, PySem.W.mg_none_of X G zsum, PySem.W.mg_none_of X G zmax, PySem.W.mg_none_of X G zmin, PySem.W.mg_none_of X G zsorted⟩
  have FI := fun_mk (st := s_init) lI cI kI
  have bI := FI.binds (ps := ["self", "what"]) fun _ _ _ _ _ _ us hl => match us, hl with | [_, _], _ => rfl
  have F0 := fun_mk (st := s_is_number) l0 c0 k0
  have b0 := F0.binds (ps := ["thing"]) fun _ _ _ _ _ _ us hl => match us, hl with | [_], _ => rfl
  have F1 := fun_mk (st := s_within) l1 c1 k1
  have b1 := F1.binds (ps := ["thing", "low", "high"]) fun _ _ _ _ _ _ us hl => match us, hl with | [_, _, _], _ => rfl
  have F2 := fun_mk (st := s_made_row) l2 c2 k2
  have b2 := F2.binds (ps := ["thing"]) fun _ _ _ _ _ _ us hl => match us, hl with | [_], _ => rfl
  have F3 := fun_mk (st := s_is_row) l3 c3 k3
  have b3 := F3.binds (ps := ["thing"]) fun _ _ _ _ _ _ us hl => match us, hl with | [_], _ => rfl
  have F4 := fun_mk (st := s_places) l4 c4 k4
  have b4 := F4.binds (ps := ["row"]) fun _ _ _ _ _ _ us hl => match us, hl with | [_], _ => rfl
  have F5 := fun_mk (st := s__law_pool) l5 c5 k5
  have b5 := F5.binds (ps := ["script"]) fun _ _ _ _ _ _ us hl => match us, hl with | [_], _ => rfl
  have F6 := fun_mk (st := s__law_draw) l6 c6 k6
  have b6 := F6.binds (ps := ["pool", "many"]) fun _ _ _ _ _ _ us hl => match us, hl with | [_, _], _ => rfl
  have F7 := fun_mk (st := s__law_pick) l7 c7 k7
  have b7 := F7.binds (ps := ["pool", "things"]) fun _ _ _ _ _ _ us hl => match us, hl with | [_, _], _ => rfl
  have F8 := fun_mk (st := s__law_is_whole) l8 c8 k8
  have b8 := F8.binds (ps := ["thing"]) fun _ _ _ _ _ _ us hl => match us, hl with | [_], _ => rfl
  have F9 := fun_mk (st := s__law_turned) l9 c9 k9
  have b9 := F9.binds (ps := ["pool", "many"]) fun _ _ _ _ _ _ us hl => match us, hl with | [_, _], _ => rfl
  have F10 := fun_mk (st := s__law_refused) l10 c10 k10
  have b10 := F10.binds (ps := ["call"]) fun _ _ _ _ _ _ us hl => match us, hl with | [_], _ => rfl
  have F11 := fun_mk (st := s__law_row) l11 c11 k11
  have b11 := F11.binds (ps := ["pool", "many"]) fun _ _ _ _ _ _ us hl => match us, hl with | [_, _], _ => rfl
  have F12 := fun_mk (st := s__law_wrong_rows) l12 c12 k12
  have b12 := F12.binds (ps := ["row"]) fun _ _ _ _ _ _ us hl => match us, hl with | [_], _ => rfl
  have F13 := fun_mk (st := s_law) l13 c13 k13
  refine ⟨PySem.W.fnOf "law" "law" (defArgs s_law) (defBody s_law) (defScope s_law) .none kV13 dc13 pm13 an13 (.ref cL) ct13, [(cL, PT)], sp_law K mg PT, fun p hp => by rw [List.mem_singleton.mp hp]; exact hPT, fun p hp => by rw [List.mem_singleton.mp hp]; exact nPT, fun p hp => by rw [List.mem_singleton.mp hp]; exact PySem.W.codeHd_of_K X hcL, fun s v => .of_eq rfl, fun H a ns hl _ hT hS => ⟨a, ns, rfl, hS, hl, fun p hp => by rw [List.mem_singleton.mp hp]; exact LamX.TabS.nil (hT (cL, PT) (List.mem_singleton.mpr rfl)), fun _ => rfl⟩, fun base _ _ hTB => ?_⟩
  have R_BadRow : Err l.prog w K mg base "BadRow" (ecOf mg "BadRow") := by
    have hm := PySem.W.mg_of X G aBadRow
    rw [ecOf_eq hm]
    exact ⟨hm, ⟨⟨_, _, _, _, _, _, _, _, _, _, _, _, _, _, _, xBadRow, rfl⟩, sBadRow, eBadRow, yBadRow, kBadRow⟩, wBadRow, wkBadRow, ⟨⟨vgaBadRow, vggBadRow, eBadRow, jBadRow, vacBadRow, vspBadRow, vtkBadRow, vmrBadRow⟩, vrdBadRow, vfcBadRow, ⟨_, vnmBadRow⟩⟩, ⟨fI, _, iBadRow, tI, ok_init FI, bI⟩, PySem.W.exm_ref eBadRow jBadRow yBadRow uBadRow⟩
  have C_is_number : Cal l.prog w K mg base 1 "is_number" ["thing"] (sp_is_number K mg) := ⟨f0, _, ok_is_number F0 T , PySem.W.mg_of X G a0, k0, b0⟩
  have C_within : Cal l.prog w K mg base 2 "within" ["thing", "low", "high"] (sp_within K mg) := ⟨f1, _, ok_within F1 T C_is_number, PySem.W.mg_of X G a1, k1, b1⟩
  have C_made_row : CalX l.prog w K mg base 3 "made_row" ["thing"] (sp_made_row K mg) := ⟨f2, _, ok_made_row F2 T C_within R_BadRow ⟨_, PySem.W.mg_of X G gMOST_WAGONS⟩, PySem.W.mg_of X G a2, k2, b2⟩
  have C_is_row : Cal l.prog w K mg base 4 "is_row" ["thing"] (sp_is_row K mg) := ⟨f3, _, ok_is_row F3 T C_made_row R_BadRow, PySem.W.mg_of X G a3, k3, b3⟩
  have C_places : CalX l.prog w K mg base 4 "places" ["row"] (sp_places K mg) := ⟨f4, _, ok_places F4 T C_made_row, PySem.W.mg_of X G a4, k4, b4⟩
  have C__law_pool : Cal l.prog w K mg base 1 "_law_pool" ["script"] (sp__law_pool K mg) := ⟨f5, _, ok__law_pool F5 T , PySem.W.mg_of X G a5, k5, b5⟩
  have C__law_draw : Cal l.prog w K mg base 1 "_law_draw" ["pool", "many"] (sp__law_draw K mg) := ⟨f6, _, ok__law_draw F6 T , PySem.W.mg_of X G a6, k6, b6⟩
  have C__law_pick : Cal l.prog w K mg base 2 "_law_pick" ["pool", "things"] (sp__law_pick K mg) := ⟨f7, _, ok__law_pick F7 T C__law_draw, PySem.W.mg_of X G a7, k7, b7⟩
  have C__law_is_whole : Cal l.prog w K mg base 1 "_law_is_whole" ["thing"] (sp__law_is_whole K mg) := ⟨f8, _, ok__law_is_whole F8 T , PySem.W.mg_of X G a8, k8, b8⟩
  have C__law_turned : Cal l.prog w K mg base 2 "_law_turned" ["pool", "many"] (sp__law_turned K mg) := ⟨f9, _, ok__law_turned F9 T C__law_draw, PySem.W.mg_of X G a9, k9, b9⟩
  have G__law_refused : Giv K mg "_law_refused" "call" ["call", "error"] (TRef mg "BadRow") := ⟨f10, _, _, _, _, _, _, _, _, _, _, _, _, _, PySem.W.mg_of X G a10, k10, l10, c10, b10, sc__law_refused, rfl, .inl rfl, fun Y e1 e2 q => by
    subst e1; subst e2
    exact giv__law_refused (PySem.W.mg_none_of X G zisinstance) (PySem.W.mg_none_of X G zValueError) (PySem.W.mg_of X G aBadRow) (PySem.W.exm_ref eBadRow jBadRow yBadRow uBadRow) ⟨vclBadRow, vgaBadRow, vggBadRow, eBadRow, jBadRow, vacBadRow, vspBadRow, vtkBadRow, vmrBadRow⟩ wBadRow (PySem.W.mg_of X G aRefused) vkrBadRow vkvBadRow⟩
  have C__law_row : Cal l.prog w K mg base 3 "_law_row" ["pool", "many"] (sp__law_row K mg) := ⟨f11, _, ok__law_row F11 T C__law_draw C__law_turned, PySem.W.mg_of X G a11, k11, b11⟩
  have C__law_wrong_rows : Cal l.prog w K mg base 1 "_law_wrong_rows" ["row"] (sp__law_wrong_rows K mg) := ⟨f12, _, ok__law_wrong_rows F12 T , PySem.W.mg_of X G a12, k12, b12⟩
  exact ok_law l13 c13 (hTB (cL, PT) (List.mem_singleton.mpr rfl)) T C_made_row C_is_row C_places C__law_pool C__law_draw C__law_pick C__law_is_whole C__law_row C__law_wrong_rows G__law_refused
end Tw

open PySem PySem.W PyProof.Rows in
set_option maxRecDepth 100000 in
set_option maxHeartbeats 0 in
theorem PySem.Challenge.cw_trackworth_k06_rows_and_places_holds : PySem.Challenge.rw_trackworth_k06_rows_and_places.Holds := by
  w_on; o_law; k_head; (case hw => w_witness2)
  k_fill
  refine LamX.walk_ofTs (l := PySem.Challenge.rw_trackworth_k06_rows_and_places) (n := 63) (k := 7) (x := "script") (CX := fun _ => L2.CX0) rfl (by decide) rfl ⟨rfl, by decide, by decide⟩ (fun w h Y => PySem.W.km_in_of Y) ?F (fun _ _ _ _ _ z => z)
  case F =>
    intro w mg fa h Y KX G hmg
    refine' Tw.all_mk KX G hmg ?tI ?lI ?cI ?kI ?aBadRow ?xBadRow ?sBadRow ?iBadRow ?wBadRow ?eBadRow ?yBadRow ?kBadRow ?jBadRow ?uBadRow ?wkBadRow ?vrdBadRow ?vfcBadRow ?vnmBadRow ?vclBadRow ?vgaBadRow ?vggBadRow ?vacBadRow ?vspBadRow ?vtkBadRow ?vmrBadRow ?vkrBadRow ?vkvBadRow ?aRefused ?hPT ?nPT ?hcL ?a0 ?l0 ?c0 ?k0 ?a1 ?l1 ?c1 ?k1 ?a2 ?l2 ?c2 ?k2 ?a3 ?l3 ?c3 ?k3 ?a4 ?l4 ?c4 ?k4 ?a5 ?l5 ?c5 ?k5 ?a6 ?l6 ?c6 ?k6 ?a7 ?l7 ?c7 ?k7 ?a8 ?l8 ?c8 ?k8 ?a9 ?l9 ?c9 ?k9 ?a10 ?l10 ?c10 ?k10 ?a11 ?l11 ?c11 ?k11 ?a12 ?l12 ?c12 ?k12 ?a13 ?l13 ?c13 ?k13 ?gMOST_WAGONS ?zlen ?zint ?zbool ?zlist ?ztuple ?zrange ?zisinstance ?zenumerate ?zzip ?zsum ?zmax ?zmin ?zsorted ?zValueError
    (case hPT => exact PySem.W.km_tabs_of Y _ (List.mem_singleton.mpr rfl))
    (case aBadRow => k_is)
    (case xBadRow => k_is)
    (case sBadRow => k_is)
    (case iBadRow => k_is)
    (case wBadRow => k_is)
    (case eBadRow => k_is)
    (case yBadRow => k_is)
    (case kBadRow => k_is)
    (case jBadRow => k_is)
    (case uBadRow => first | rfl | k_is)
    (case aRefused => k_is)
    (case tI => k_is)
    (case lI => k_is)
    (case cI => k_is)
    (case kI => k_is)
    (case wkBadRow => k_is)
    (case vrdBadRow => first | k_is | kernel_rfl | rfl)
    (case vfcBadRow => first | k_is | kernel_rfl | rfl)
    (case vnmBadRow => first | rfl | k_is)
    (case vclBadRow => first | k_is | kernel_rfl | rfl)
    (case vgaBadRow => first | k_is | kernel_rfl | rfl)
    (case vggBadRow => first | k_is | kernel_rfl | rfl)
    (case vacBadRow => first | k_is | kernel_rfl | rfl)
    (case vspBadRow => first | k_is | kernel_rfl | rfl)
    (case vtkBadRow => first | k_is | kernel_rfl | rfl)
    (case vmrBadRow => first | k_is | kernel_rfl | rfl)
    (case vkrBadRow => first | k_is | kernel_rfl | rfl)
    (case vkvBadRow => first | k_is | kernel_rfl | rfl)
    (case a0 => k_is)
    (case l0 => k_is)
    (case c0 => k_is)
    (case k0 => k_is)
    (case a1 => k_is)
    (case l1 => k_is)
    (case c1 => k_is)
    (case k1 => k_is)
    (case a2 => k_is)
    (case l2 => k_is)
    (case c2 => k_is)
    (case k2 => k_is)
    (case a3 => k_is)
    (case l3 => k_is)
    (case c3 => k_is)
    (case k3 => k_is)
    (case a4 => k_is)
    (case l4 => k_is)
    (case c4 => k_is)
    (case k4 => k_is)
    (case a5 => k_is)
    (case l5 => k_is)
    (case c5 => k_is)
    (case k5 => k_is)
    (case a6 => k_is)
    (case l6 => k_is)
    (case c6 => k_is)
    (case k6 => k_is)
    (case a7 => k_is)
    (case l7 => k_is)
    (case c7 => k_is)
    (case k7 => k_is)
    (case a8 => k_is)
    (case l8 => k_is)
    (case c8 => k_is)
    (case k8 => k_is)
    (case a9 => k_is)
    (case l9 => k_is)
    (case c9 => k_is)
    (case k9 => k_is)
    (case a10 => k_is)
    (case l10 => k_is)
    (case c10 => k_is)
    (case k10 => k_is)
    (case a11 => k_is)
    (case l11 => k_is)
    (case c11 => k_is)
    (case k11 => k_is)
    (case a12 => k_is)
    (case l12 => k_is)
    (case c12 => k_is)
    (case k12 => k_is)
    (case a13 => k_is)
    (case l13 => k_is)
    (case c13 => k_is)
    (case k13 => k_is)
    (case gMOST_WAGONS => k_is)
    (case zlen => k_is)
    (case zint => k_is)
    (case zbool => k_is)
    (case zlist => k_is)
    (case ztuple => k_is)
    (case zrange => k_is)
    (case zisinstance => k_is)
    (case zenumerate => k_is)
    (case zzip => k_is)
    (case zsum => k_is)
    (case zmax => k_is)
    (case zmin => k_is)
    (case zsorted => k_is)
    (case zValueError => k_is)
    (case nPT => first | k_is | kernel_rfl | rfl)
    (case hcL => first | k_is | kernel_rfl | rfl)

