import PyProof.Rows.All
import Wide.All
import OpenK.AllK
import Wide.FinOn
import HandS.ForMost
import HandS.IsInst
import HandS.Walk
import PySem.Challenge.RW_orplaces_k02_names
set_option Elab.async false
set_option linter.all false
set_option maxRecDepth 100000
set_option maxHeartbeats 2000000
/-! A proof by hand, def by def: each def's promise, its body as a term of the hand layer's rules, its reading; the end. -/
namespace Toy
open PySem L2
def top (i : Nat) : Stmt := PySem.Challenge.pw_orplaces_k02_names.main.body.getD i (.Pass ⟨0, 0, 0, 0⟩)
abbrev s_is_name : Stmt := top 5
abbrev N_is_name : List Str := ["value", "sign"]
theorem sc_is_name : FnScope N_is_name ["value"] (defScope s_is_name) := ⟨rfl, rfl, rfl, by decide +kernel, rfl, by decide +kernel, by decide +kernel⟩
abbrev s__law_pen : Stmt := top 7
abbrev N__law_pen : List Str := ["_law_script"]
theorem sc__law_pen : FnScope N__law_pen ["_law_script"] (defScope s__law_pen) := ⟨rfl, rfl, rfl, by decide +kernel, rfl, by decide +kernel, by decide +kernel⟩
abbrev s__law_draw : Stmt := top 8
abbrev N__law_draw : List Str := ["_law_pen_here", "_law_many", "_law_digit", "_law_at", "_law_cell", "_law_great", "_law_mixed"]
theorem sc__law_draw : FnScope N__law_draw ["_law_pen_here", "_law_many"] (defScope s__law_draw) := ⟨rfl, rfl, rfl, by decide +kernel, rfl, by decide +kernel, by decide +kernel⟩
abbrev s__law_pick : Stmt := top 9
abbrev N__law_pick : List Str := ["_law_pen_here", "_law_some"]
theorem sc__law_pick : FnScope N__law_pick ["_law_pen_here", "_law_some"] (defScope s__law_pick) := ⟨rfl, rfl, rfl, by decide +kernel, rfl, by decide +kernel, by decide +kernel⟩
abbrev s__law_due : Stmt := top 10
abbrev N__law_due : List Str := ["_law_value", "_law_letters", "_law_sign"]
theorem sc__law_due : FnScope N__law_due ["_law_value"] (defScope s__law_due) := ⟨rfl, rfl, rfl, by decide +kernel, rfl, by decide +kernel, by decide +kernel⟩
abbrev s__law_text : Stmt := top 11
abbrev N__law_text : List Str := ["_law_pen_here", "_law_letters", "_law_signs", "_law_text_here", "_law_k", "_law_odd_here", "_law_at"]
theorem sc__law_text : FnScope N__law_text ["_law_pen_here"] (defScope s__law_text) := ⟨rfl, rfl, rfl, by decide +kernel, rfl, by decide +kernel, by decide +kernel⟩
abbrev s__law_near : Stmt := top 12
abbrev N__law_near : List Str := ["_law_pen_here", "_law_word", "_law_at", "_law_menu"]
theorem sc__law_near : FnScope N__law_near ["_law_pen_here"] (defScope s__law_near) := ⟨rfl, rfl, rfl, by decide +kernel, rfl, by decide +kernel, by decide +kernel⟩
abbrev s__law_odd : Stmt := top 13
abbrev N__law_odd : List Str := ["_law_pen_here", "_law_menu"]
theorem sc__law_odd : FnScope N__law_odd ["_law_pen_here"] (defScope s__law_odd) := ⟨rfl, rfl, rfl, by decide +kernel, rfl, by decide +kernel, by decide +kernel⟩
abbrev s_law : Stmt := top 14
abbrev N_law : List Str := ["_law_script", "_law_pen_here", "_law_turn", "_law_value", "_law_found"]
theorem sc_law : FnScope N_law ["_law_script"] (defScope s_law) := ⟨rfl, rfl, rfl, by decide +kernel, rfl, by decide +kernel, by decide +kernel⟩
/-! ### the pen, a draw, a pick -/
/-- the pen at p: its cells at c, its place i, its rest g -/
def Pen (H : Hp) (p : Addr) (n : Nat) : Prop := ∃ (c : Addr) (ns : List Int) (i : Nat) (g : Int), H p = some (.lst [.ref c, .int (i : Int), .int g]) ∧ H c = some (.lst (ns.map V.int)) ∧ ns.length ≤ 60 ∧ i ≤ n
/-- all but the pen is as it was -/
def Keep (p : Addr) (H H' : Hp) : Prop := ∀ b o, H b = some o → b ≠ p → H' b = some o
theorem Keep.refl (p : Addr) (H : Hp) : Keep p H H := fun _ _ h _ => h
theorem Keep.trans {p : Addr} {H H1 H2 : Hp} (a : Keep p H H1) (b : Keep p H1 H2) : Keep p H H2 := fun c o h n => b c o (a c o h n) n
theorem same_keep {p : Addr} {H H' : Hp} (s : Same H H') : Keep p H H' := fun b o h _ => s b o h
theorem same_upd {H : Hp} {p : Addr} {o : HO} (h : H p = none) : Same H (upd H p o) := fun b x e => by
  rw [upd_ne (ne_of_none e h)]
  exact e
theorem keep_upd {H : Hp} {p : Addr} {o : HO} : Keep p H (upd H p o) := fun b x e n => by
  rw [upd_ne n]
  exact e
theorem cells_ne {H : Hp} {p c : Addr} {ns : List Int} {r : List V} (hc : H c = some (.lst (ns.map V.int))) (hp : H p = some (.lst (.ref c :: r))) : c ≠ p := by
  intro e
  subst e
  rw [hc] at hp
  cases ns with
  | nil => cases hp
  | cons x l => cases hp
theorem Pen.same {H H' : Hp} {p : Addr} {n : Nat} (P : Pen H p n) (s : Same H H') : Pen H' p n := by
  obtain ⟨c, ns, i, g, hp, hc, hl, hi⟩ := P
  exact ⟨c, ns, i, g, s _ _ hp, s _ _ hc, hl, hi⟩
theorem Pen.mono {H : Hp} {p : Addr} {n m : Nat} (P : Pen H p n) (h : n ≤ m) : Pen H p m := by
  obtain ⟨c, ns, i, g, hp, hc, hl, hi⟩ := P
  exact ⟨c, ns, i, g, hp, hc, hl, Nat.le_trans hi h⟩
theorem Pen.put {H : Hp} {p c : Addr} {ns : List Int} {i : Nat} {g : Int} {n : Nat} {r : List V} (hp : H p = some (.lst (.ref c :: r))) (hc : H c = some (.lst (ns.map V.int))) (hl : ns.length ≤ 60) (hi : i ≤ n) : Pen (upd H p (.lst [.ref c, .int (i : Int), .int g])) p n :=
  ⟨c, ns, i, g, upd_same, by rw [upd_ne (cells_ne hc hp)]; exact hc, hl, hi⟩
theorem Pen.ob {H : Hp} {p : Addr} {n : Nat} (P : Pen H p n) : ∃ xs, H p = some (.lst xs) := by
  obtain ⟨c, ns, i, g, hp, _⟩ := P
  exact ⟨_, hp⟩
def spPen (K : PySem.W.Frag) : Sp := fun vs H Q _ => ∃ (a : Addr) (ns : List Int), vs = [.ref a] ∧ SqL K H a (ns.map V.int) ∧ ns.length ≤ 63 ∧ ∀ (p : Addr) (H' : Hp), H p = none → Same H H' → Pen H' p 0 → Q (.ref p) H'
def spDraw : Sp := fun vs H Q _ => ∃ (p : Addr) (m : Int) (n : Nat), vs = [.ref p, .int m] ∧ Pen H p n ∧ n ≤ 100000 ∧ 1 ≤ m ∧ m < 1073741824 ∧ ∀ (r : Int) (H' : Hp), 0 ≤ r → r < m → Pen H' p (n + 1) → Keep p H H' → Q (.int r) H'
def spPick (K : PySem.W.Frag) : Sp := fun vs H Q _ => ∃ (p a : Addr) (xs : List V) (n : Nat), vs = [.ref p, .ref a] ∧ a ≠ p ∧ Pen H p n ∧ n ≤ 100000 ∧ SqL K H a xs ∧ 1 ≤ xs.length ∧ xs.length ≤ 1000 ∧ ∀ (v : V) (H' : Hp), v ∈ xs → Pen H' p (n + 1) → Keep p H H' → Q v H'
theorem SqL.keep {K : PySem.W.Frag} {H H' : Hp} {a p : Addr} {xs : List V} (s : Keep p H H') (ne : a ≠ p) (h : SqL K H a xs) : SqL K H' a xs := by
  rcases h with (h | ⟨o, h⟩) | h
  · exact .inl (.inl (s _ _ h ne))
  · exact .inl (.inr ⟨o, s _ _ h ne⟩)
  · exact .inr h
theorem modN {i m : Int} (h : 1 ≤ m) : 0 ≤ i.fmod m ∧ i.fmod m < m := by
  rw [Int.fmod_eq_emod_of_nonneg _ (by omega)]
  exact ⟨Int.emod_nonneg _ (by omega), Int.emod_lt_of_pos _ (by omega)⟩
theorem map_int_at {ns : List Int} {j : Nat} (h : j < ns.length) : ∃ z, (ns.map V.int)[j]? = some (.int z) := by
  refine ⟨ns[j], ?_⟩
  rw [List.getElem?_map, List.getElem?_eq_getElem h]
  rfl
theorem dp_ints {K : PySem.W.Frag} {H : Hp} : ∀ ns : List Int, DpAll K H (ns.map V.int) (ns.map PyData.int)
  | [] => .nil
  | n :: r => .cons (.int n) (dp_ints r)
theorem canLay_ints : ∀ ns : List Int, PyData.canLayAll0 (ns.map PyData.int) = true
  | [] => by simp [PyData.canLayAll0]
  | n :: r => by
    have := canLay_ints r
    simp [PyData.canLayAll0, PyData.canLay0, this]
theorem depth_ints : ∀ ns : List Int, PyData.depthAll (ns.map PyData.int) ≤ 1
  | [] => by simp [PyData.depthAll]
  | n :: r => by
    have := depth_ints r
    simp only [List.map_cons, PyData.depthAll, PyData.depth]
    omega
theorem shaped_ints (ns : List Int) : SeqAt.shaped (.list (ns.map PyData.int)) = true := by
  have h1 := canLay_ints ns
  have h2 := depth_ints ns
  unfold SeqAt.shaped
  have h3 : PyData.depth (.list (ns.map PyData.int)) ≤ 64 := by
    simp only [PyData.depth]
    omega
  simp only [PyData.canLay0, h1, h3, decide_true, Bool.and_self]
theorem eqv_ints_nil (ns : List Int) : PyData.eqv (.list (ns.map PyData.int)) (.list []) = ns.isEmpty := by
  cases ns with
  | nil => simp [PyData.eqv, PyData.eqvAll]
  | cons x r => simp [PyData.eqv, PyData.eqvAll]
theorem cut60 (ns : List Int) : ∃ ms : List Int, cutV (ns.map V.int) none (some 60) = ms.map V.int ∧ ms.length ≤ 60 := by
  refine ⟨ns.take 60, ?_, by rw [List.length_take]; omega⟩
  unfold cutV
  rw [HT.sIx_none, show HT.sIx (ns.map V.int).length (ns.map V.int).length (some 60) = min 60 (ns.map V.int).length from HT.sIx_nat _ _ 60, List.drop_zero, Nat.sub_zero, List.map_take]
  by_cases h : 60 ≤ (ns.map V.int).length
  · rw [Nat.min_eq_left h]
  · rw [Nat.min_eq_right (by omega), List.take_of_length_le (Nat.le_refl _), List.take_of_length_le (by omega)]
theorem abs_nat (x : Int) : 0 ≤ (if x < 0 then -x else x) := by
  split <;> omega
theorem bnd1 {a i b c : Int} (h0 : 0 ≤ a) (h1 : a < 2147483648) (h2 : 0 ≤ i) (h3 : i ≤ 100000) (hb0 : 0 ≤ b) (hb : b ≤ 1000000) (hc0 : 0 ≤ c) (hc : c ≤ 1000000) : (a + b * i + c).natAbs < 2 ^ 64 := by
  have e1 : 0 ≤ b * i := Int.mul_nonneg hb0 h2
  have e2 : b * i ≤ 1000000 * 100000 := Int.mul_le_mul hb h3 h2 (by omega)
  omega
theorem bnd2 {a i b c d : Int} (h0 : 0 ≤ a) (h1 : a < 2147483648) (h2 : 0 ≤ i) (h3 : i ≤ 100000) (hb0 : 0 ≤ b) (hb : b ≤ 1000000) (hc0 : 0 ≤ c) (hc : c ≤ 1000000) (hd0 : 0 ≤ d) (hd : d ≤ 1000000) :
    (a * (2 * i + d) + b * i * i + c).natAbs < 2 ^ 64 := by
  have e1 : 0 ≤ b * i := Int.mul_nonneg hb0 h2
  have e2 : b * i ≤ 1000000 * 100000 := Int.mul_le_mul hb h3 h2 (by omega)
  have e3 : 0 ≤ b * i * i := Int.mul_nonneg e1 h2
  have e4 : b * i * i ≤ 1000000 * 100000 * 100000 := Int.mul_le_mul e2 h3 h2 (by omega)
  have e5 : 0 ≤ a * (2 * i + d) := Int.mul_nonneg h0 (by omega)
  have e6 : a * (2 * i + d) ≤ 2147483648 * 1200000 := Int.mul_le_mul (by omega) (by omega) (by omega) (by omega)
  omega
/-! ### the mathematics: what a name is -/
def LET : Str := "abcdefghijklmnopqrstuvwxyz"
def SIG : Str := "abcdefghijklmnopqrstuvwxyz0123456789"
def RES : List V := [.str "to", .str "if", .str "tag", .str "all", .str "none"]
def inS (z : Str) (c : Nat) : Bool := decide (c ∈ z.cps.toList)
def isName (z : Str) : Bool := decide (1 ≤ z.length) && decide (z.length ≤ 8) && (z.cps.toList.head?.any (inS LET)) && !(inV (.str z) RES) && (z.cps.toList.all (inS SIG))
/-- a text of at most n signs -/
structure Tx (n : Nat) (z : Str) : Prop where
  len : z.length ≤ n
  ok : ∀ c ∈ z.cps.toList, c < 1114112
theorem app_list (x y : Str) : (x ++ y).cps.toList = x.cps.toList ++ y.cps.toList := by
  show (x.cps ++ y.cps).toList = _
  simp
theorem str_len (z : Str) : z.cps.toList.length = z.length := by
  rw [Array.length_toList]
  rfl
theorem app_len (x y : Str) : (x ++ y).length = x.length + y.length := by
  rw [← str_len, ← str_len, ← str_len, app_list, List.length_append]
theorem Tx.app {n m : Nat} {x y : Str} (a : Tx n x) (b : Tx m y) : Tx (n + m) (x ++ y) := by
  refine ⟨?_, fun c h => ?_⟩
  · have := app_len x y
    have := a.len
    have := b.len
    omega
  · rw [app_list] at h
    rcases List.mem_append.mp h with h | h
    · exact a.ok c h
    · exact b.ok c h
theorem Tx.mono {n m : Nat} {x : Str} (a : Tx n x) (h : n ≤ m) : Tx m x := ⟨Nat.le_trans a.len h, a.ok⟩
theorem Tx.cut {n : Nat} {x : Str} (a : Tx n x) (lo hi : Option Int) : Tx n (cutS x lo hi) := by
  have e : (cutS x lo hi).cps.toList = (x.cps.toList.drop (HT.sIx x.length 0 lo)).take (HT.sIx x.length x.length hi - HT.sIx x.length 0 lo) := by
    unfold cutS
    simp
  refine ⟨?_, fun c h => ?_⟩
  · rw [← str_len, e, List.length_take, List.length_drop, str_len]
    have := a.len
    omega
  · rw [e] at h
    exact a.ok c (List.mem_of_mem_drop (List.mem_of_mem_take h))
theorem Tx.sign {n : Nat} {z : Str} {c : Nat} (a : Tx n z) (h : c ∈ z.cps.toList) : Tx 1 ⟨#[c]⟩ := by
  refine ⟨Nat.le_refl 1, fun d hd => ?_⟩
  have e : d = c := by simpa using hd
  rw [e]
  exact a.ok c h
theorem Tx.at {n : Nat} {z : Str} (a : Tx n z) {j : Nat} (h : j < z.length) : ∃ c, atI z.cps.toList (j : Int) = some c ∧ Tx 1 ⟨#[c]⟩ := by
  have h' : j < z.cps.toList.length := by rw [str_len]; exact h
  exact ⟨z.cps.toList[j], atI_nat (List.getElem?_eq_getElem h'), a.sign (List.getElem_mem h')⟩
theorem Tx.line {n : Nat} {z : Str} (a : Tx n z) (h : n ≤ 1000000) : z.length ≤ sizeLine := Nat.le_trans a.len (Nat.le_trans h (by decide))
/-- a text or not -/
def isS : V → Bool
  | .str _ => true
  | _ => false
def nameV : V → Bool
  | .str z => isName z
  | _ => false
/-- what may be asked: a text that is not too long, or a thing of another kind (that is not the pen) -/
inductive Tv (p : Addr) (H : Hp) : V → Prop
  | non : Tv p H .non
  | bl (b : Bool) : Tv p H (.bl b)
  | int (i : Int) : Tv p H (.int i)
  | str (z : Str) (h : Tx 20000 z) : Tv p H (.str z)
  | lst {a : Addr} {xs : List V} (e : H a = some (.lst xs)) (n : a ≠ p) : Tv p H (.ref a)
  | tup {a : Addr} {xs : List V} (e : H a = some (.tup xs)) (n : a ≠ p) : Tv p H (.ref a)
  | dK {a : Addr} {xs : List (Key × V)} (e : H a = some (.dK xs)) (n : a ≠ p) : Tv p H (.ref a)
theorem Tv.keep {p : Addr} {H H' : Hp} {v : V} (t : Tv p H v) (k : Keep p H H') : Tv p H' v := by
  cases t with
  | non => exact .non
  | bl b => exact .bl b
  | int i => exact .int i
  | str z h => exact .str z h
  | lst e n => exact .lst (k _ _ e n) n
  | tup e n => exact .tup (k _ _ e n) n
  | dK e n => exact .dK (k _ _ e n) n
theorem Tv.ty {K : PySem.W.Frag} {p : Addr} {H : Hp} {v : V} (t : Tv p H v) : ∃ u, TyX K H v u ∧ PySem.W.kitOne K u (.type "str") = some (isS v) := by
  cases t with
  | non => exact ⟨_, .base .non, kit_ty (r := false) (by decide +kernel)⟩
  | bl b => exact ⟨_, .base (.bl b), kit_ty (r := false) (by decide +kernel)⟩
  | int i => exact ⟨_, .base (.int i), kit_ty (r := false) (by decide +kernel)⟩
  | str z h => exact ⟨_, .base (.str z), kit_ty (r := true) (by decide +kernel)⟩
  | lst e n => exact ⟨_, .base (.lst e), kit_ty (r := false) (by decide +kernel)⟩
  | tup e n => exact ⟨_, .base (.tup e), kit_ty (r := false) (by decide +kernel)⟩
  | dK e n => exact ⟨_, .base (.dK e), kit_ty (r := false) (by decide +kernel)⟩
theorem Tv.cases {p : Addr} {H : Hp} {v : V} (t : Tv p H v) : (∃ z, v = .str z ∧ Tx 20000 z) ∨ (isS v = false ∧ nameV v = false) := by
  cases t with
  | str z h => exact .inl ⟨z, rfl, h⟩
  | non => exact .inr ⟨rfl, rfl⟩
  | bl b => exact .inr ⟨rfl, rfl⟩
  | int i => exact .inr ⟨rfl, rfl⟩
  | lst e n => exact .inr ⟨rfl, rfl⟩
  | tup e n => exact .inr ⟨rfl, rfl⟩
  | dK e n => exact .inr ⟨rfl, rfl⟩
theorem len_line {z : Str} (h : z.length ≤ 20000) : z.length ≤ sizeLine := Nat.le_trans h (by decide)
theorem head_at {z : Str} (h : 1 ≤ z.length) : ∃ c, atI z.cps.toList 0 = some c ∧ z.cps.toList.head? = some c := by
  cases e : z.cps.toList with
  | nil =>
    have := str_len z
    rw [e] at this
    simp at this
    omega
  | cons c r => exact ⟨c, atI_nat (j := 0) rfl, rfl⟩
theorem take_bl {z : Str} {i c : Nat} {f : Nat → V} (h : z.cps[i]? = some c) : (z.cps.toList.take (i + 1)).map f = (z.cps.toList.take i).map f ++ [f c] := by
  rw [List.take_add_one]
  have e : z.cps.toList[i]? = some c := by rw [Array.getElem?_toList]; exact h
  rw [e, List.map_append]
  rfl
def spName : Sp := fun vs H Q _ => ∃ (v : V) (p : Addr), vs = [v] ∧ Tv p H v ∧ ∀ H', Same H H' → Q (.bl (nameV v)) H'
theorem if_pos_of {c : Bool} {A B : Prop} (hc : c = true) (h : A) : if c = true then A else B := by
  rw [if_pos hc]
  exact h
theorem if_neg_of {c : Bool} {A B : Prop} (hc : c = false) (h : B) : if c = true then A else B := by
  rw [hc]
  exact iteF h

theorem foldl_app (x : Array Nat) : ∀ (n : Nat) (a : Array Nat), ((List.replicate n x).foldl (· ++ ·) a).toList = a.toList ++ (List.replicate n x.toList).flatten
  | 0, a => by simp
  | n + 1, a => by
    rw [List.replicate_succ, List.foldl_cons, foldl_app x n, List.replicate_succ, List.flatten_cons, Array.toList_append, List.append_assoc]
/-- one sign, so many times -/
theorem op_mul_strB {X : Cx} : OpR X (binaryOp .Mult) (fun x y H Q => ∃ (i : Str) (k : Int), x = .str i ∧ y = .int k ∧ 0 ≤ k ∧ k ≤ 10000 ∧ i.length = 1 ∧ Tx 1 i ∧ ∀ z : Str, Tx 10000 z → Q (.str z) H) := by
  intro pins s σ H x y v u Q I rx ry h
  obtain ⟨i, k, rfl, rfl, h0, h1, hl, ti, q⟩ := h
  obtain ⟨t, rfl⟩ := rx
  obtain ⟨t', rfl⟩ := ry
  have hs : sizeLine = 16777216 := by decide +kernel
  have flen : ((List.replicate k.toNat i.cps.toList).flatten).length = k.toNat := by
    rw [List.length_flatten, List.map_replicate, List.sum_replicate_nat, str_len, hl, Nat.mul_one]
  refine PySem.P.mul_str (by rw [decide_eq_false (by omega), decide_eq_false (by omega)]; rfl) (fun c1 c2 => ?_) (fun c1 c2 => ?_) ?_
  · rw [hl]
    have e : (1 : Int) ≤ (2 ^ 63 - 1) / k := by
      rw [Int.le_ediv_iff_mul_le (by omega)]
      omega
    have e1 : ((1 : Nat) : Int) = 1 := rfl
    omega
  · unfold Builtin.Str.tooLong
    exact decide_eq_false (by rw [hl, hs]; omega)
  · by_cases c1 : k < 1
    · rw [if_pos c1]
      exact ⟨by decide, ⟨.str Str.empty, H, I.tok _, ⟨_, rfl⟩, q _ ⟨by decide, fun c hc => by simp [Str.empty] at hc⟩⟩⟩
    · rw [if_neg c1]
      by_cases c2 : (k == 1 || i.length == 0) = true
      · rw [if_pos c2]
        exact ⟨.str i, H, I.tok _, ⟨_, rfl⟩, q _ (ti.mono (by decide))⟩
      · rw [if_neg c2]
        have e : ((List.replicate k.toNat i.cps).foldl (· ++ ·) #[]).toList = (List.replicate k.toNat i.cps.toList).flatten := by
          rw [foldl_app]
          rfl
        have l : (⟨(List.replicate k.toNat i.cps).foldl (· ++ ·) #[]⟩ : Str).length = k.toNat := by
          rw [← str_len]
          show (((List.replicate k.toNat i.cps).foldl (· ++ ·) #[]).toList).length = k.toNat
          rw [e, flen]
        refine ⟨by show _ ≤ sizeLine; rw [l, hs]; omega, ⟨.str _, H, I.tok _, ⟨_, rfl⟩, q _ ⟨by rw [l]; omega, fun c hc => ?_⟩⟩⟩
        have hc' : c ∈ (List.replicate k.toNat i.cps.toList).flatten := by
          rw [← e]
          exact hc
        obtain ⟨l', hl', hcl⟩ := List.mem_flatten.mp hc'
        rw [List.eq_of_mem_replicate hl'] at hcl
        exact ti.ok c hcl
/-! ### == of a list of signs and the empty one -/
theorem dp_signs {K : PySem.W.Frag} {H : Hp} : ∀ cs : List Nat, DpAll K H (cs.map fun c => V.str ⟨#[c]⟩) (cs.map fun c => PyData.str ⟨#[c]⟩)
  | [] => .nil
  | c :: r => .cons (.str _) (dp_signs r)
theorem canLay_signs : ∀ cs : List Nat, (∀ c ∈ cs, c < 1114112) → PyData.canLayAll0 (cs.map fun c => PyData.str ⟨#[c]⟩) = true
  | [], _ => by simp [PyData.canLayAll0]
  | c :: r, h => by
    have ih := canLay_signs r fun d hd => h d (List.mem_cons_of_mem _ hd)
    have hc := h c List.mem_cons_self
    simp [PyData.canLayAll0, PyData.canLay0, PyData.strOk, ih, hc]
theorem depth_signs : ∀ cs : List Nat, PyData.depthAll (cs.map fun c => PyData.str ⟨#[c]⟩) ≤ 1
  | [] => by simp [PyData.depthAll]
  | n :: r => by
    have := depth_signs r
    simp only [List.map_cons, PyData.depthAll, PyData.depth]
    omega
theorem shaped_signs (cs : List Nat) (h : ∀ c ∈ cs, c < 1114112) : SeqAt.shaped (.list (cs.map fun c => PyData.str ⟨#[c]⟩)) = true := by
  have h1 := canLay_signs cs h
  have h2 := depth_signs cs
  unfold SeqAt.shaped
  have h3 : PyData.depth (.list (cs.map fun c => PyData.str ⟨#[c]⟩)) ≤ 64 := by
    simp only [PyData.depth]
    omega
  simp only [PyData.canLay0, h1, h3, decide_true, Bool.and_self]
theorem eqv_signs_nil (cs : List Nat) : PyData.eqv (.list (cs.map fun c => PyData.str ⟨#[c]⟩)) (.list []) = cs.isEmpty := by
  cases cs with
  | nil => simp [PyData.eqv, PyData.eqvAll]
  | cons x r => simp [PyData.eqv, PyData.eqvAll]
theorem take_flt {z : Str} {i c : Nat} {p : Nat → Bool} (h : z.cps[i]? = some c) : (z.cps.toList.take (i + 1)).filter p = if p c = true then (z.cps.toList.take i).filter p ++ [c] else (z.cps.toList.take i).filter p := by
  rw [List.take_add_one]
  have e : z.cps.toList[i]? = some c := by rw [Array.getElem?_toList]; exact h
  rw [e, List.filter_append]
  cases q : p c with
  | true => simp [q]
  | false => simp [q]
theorem res_due (z : Str) : inV (.str z) ([.str "", .str "to", .str "if", .str "tag", .str "all", .str "none"] : List V) = ((z == "") || inV (.str z) RES) := by
  show (eqV (.str "") (.str z) || inV (.str z) RES) = _
  congr 1
  show (("" : Str) == z) = (z == ("" : Str))
  exact Bool.eq_iff_iff.mpr ⟨fun h => by rw [eq_of_beq h]; exact beq_self_eq_true _, fun h => by rw [eq_of_beq h]; exact beq_self_eq_true _⟩
theorem empty_len {z : Str} : (z == ("" : Str)) = decide (z.length = 0) := by
  by_cases h : z.length = 0
  · have e : z = ("" : Str) := by
      cases z with
      | mk a =>
        have : a.size = 0 := h
        have : a = #[] := Array.size_eq_zero_iff.mp this
        subst this
        decide +kernel
    rw [e]
    decide +kernel
  · rw [decide_eq_false h]
    refine beq_eq_false_iff_ne.mpr fun e => h ?_
    rw [e]
    decide +kernel
theorem filter_all (f : Nat → Bool) : ∀ l : List Nat, (l.filter fun c => !f c).isEmpty = l.all f
  | [] => rfl
  | c :: r => by
    have ih := filter_all f r
    cases q : f c with
    | true => simp [q, ih]
    | false => simp [q]
def spText : Sp := fun vs H Q _ => ∃ (p : Addr) (n : Nat), vs = [.ref p] ∧ Pen H p n ∧ n ≤ 90000 ∧ ∀ (z : Str) (H' : Hp), Tx 100 z → Pen H' p (n + 20) → Keep p H H' → Q (.str z) H'
def spOdd : Sp := fun vs H Q _ => ∃ (p : Addr) (n : Nat), vs = [.ref p] ∧ Pen H p n ∧ n ≤ 90000 ∧ ∀ (v : V) (H' : Hp), Tv p H' v → Pen H' p (n + 20) → Keep p H H' → Q v H'
def TxV (v : V) : Prop := ∃ z, v = .str z ∧ Tx 100 z
theorem allT_nil : ∀ v ∈ ([] : List V), TxV v := fun v h => by cases h
theorem allT_cons {x : V} {l : List V} (h : TxV x) (t : ∀ v ∈ l, TxV v) : ∀ v ∈ x :: l, TxV v := fun v hv => by
  rcases List.mem_cons.mp hv with e | hv
  · rw [e]; exact h
  · exact t v hv
theorem allV_nil {p : Addr} {H : Hp} : ∀ v ∈ ([] : List V), Tv p H v := fun v h => by cases h
theorem allV_cons {p : Addr} {H : Hp} {x : V} {l : List V} (h : Tv p H x) (t : ∀ v ∈ l, Tv p H v) : ∀ v ∈ x :: l, Tv p H v := fun v hv => by
  rcases List.mem_cons.mp hv with e | hv
  · rw [e]; exact h
  · exact t v hv
theorem allV_app {P : V → Prop} {l m : List V} (h : ∀ v ∈ l, P v) (t : ∀ v ∈ m, P v) : ∀ v ∈ l ++ m, P v := fun v hv => by
  rcases List.mem_append.mp hv with hv | hv
  · exact h v hv
  · exact t v hv
theorem near_word {v : V} (h : v ∈ RES) : ∃ z, v = .str z ∧ Tx 4 z ∧ 2 ≤ z.length := by
  have h' : v = .str "to" ∨ v = .str "if" ∨ v = .str "tag" ∨ v = .str "all" ∨ v = .str "none" := by simpa [RES] using h
  rcases h' with rfl | rfl | rfl | rfl | rfl
  all_goals exact ⟨_, rfl, ⟨by decide +kernel, by decide +kernel⟩, by decide +kernel⟩
theorem Pen.ne {H : Hp} {p a : Addr} {n : Nat} (P : Pen H p n) (h : H a = none) : a ≠ p := by
  obtain ⟨xs, e⟩ := P.ob
  exact (ne_of_none e h).symm
theorem line_of {n : Nat} (h : n ≤ 1000000) : n ≤ sizeLine := Nat.le_trans h (by decide)
def spLaw (K : PySem.W.Frag) : Sp := fun vs H Q _ => ∃ (a : Addr) (ns : List Int), vs = [.ref a] ∧ SqL K H a (ns.map V.int) ∧ ns.length ≤ 63 ∧ ∀ H', Q (.bl true) H'
/-- what the top has written -/
structure Txt (K : PySem.W.Frag) (mg : Str → Option Value) where
  f_is_name : Addr
  fd_is_name : FuncData
  F_is_name : Fun K "is_name" "is_name" s_is_name f_is_name fd_is_name
  b_is_name : Binds K fd_is_name ["value"] []
  m_is_name : mg "is_name" = some (.ref f_is_name)
  f__law_pen : Addr
  fd__law_pen : FuncData
  F__law_pen : Fun K "_law_pen" "_law_pen" s__law_pen f__law_pen fd__law_pen
  b__law_pen : Binds K fd__law_pen ["_law_script"] []
  m__law_pen : mg "_law_pen" = some (.ref f__law_pen)
  f__law_draw : Addr
  fd__law_draw : FuncData
  F__law_draw : Fun K "_law_draw" "_law_draw" s__law_draw f__law_draw fd__law_draw
  b__law_draw : Binds K fd__law_draw ["_law_pen_here", "_law_many"] []
  m__law_draw : mg "_law_draw" = some (.ref f__law_draw)
  f__law_pick : Addr
  fd__law_pick : FuncData
  F__law_pick : Fun K "_law_pick" "_law_pick" s__law_pick f__law_pick fd__law_pick
  b__law_pick : Binds K fd__law_pick ["_law_pen_here", "_law_some"] []
  m__law_pick : mg "_law_pick" = some (.ref f__law_pick)
  f__law_due : Addr
  fd__law_due : FuncData
  F__law_due : Fun K "_law_due" "_law_due" s__law_due f__law_due fd__law_due
  b__law_due : Binds K fd__law_due ["_law_value"] []
  m__law_due : mg "_law_due" = some (.ref f__law_due)
  f__law_text : Addr
  fd__law_text : FuncData
  F__law_text : Fun K "_law_text" "_law_text" s__law_text f__law_text fd__law_text
  b__law_text : Binds K fd__law_text ["_law_pen_here"] []
  m__law_text : mg "_law_text" = some (.ref f__law_text)
  f__law_near : Addr
  fd__law_near : FuncData
  F__law_near : Fun K "_law_near" "_law_near" s__law_near f__law_near fd__law_near
  b__law_near : Binds K fd__law_near ["_law_pen_here"] []
  m__law_near : mg "_law_near" = some (.ref f__law_near)
  f__law_odd : Addr
  fd__law_odd : FuncData
  F__law_odd : Fun K "_law_odd" "_law_odd" s__law_odd f__law_odd fd__law_odd
  b__law_odd : Binds K fd__law_odd ["_law_pen_here"] []
  m__law_odd : mg "_law_odd" = some (.ref f__law_odd)
  f_law : Addr
  fd_law : FuncData
  F_law : Fun K "law" "law" s_law f_law fd_law
  b_law : Binds K fd_law ["_law_script"] []
  m_law : mg "law" = some (.ref f_law)
  n_abs : mg "abs" = none
  n_all : mg "all" = none
  n_bool : mg "bool" = none
  n_int : mg "int" = none
  n_isinstance : mg "isinstance" = none
  n_len : mg "len" = none
  n_list : mg "list" = none
  n_range : mg "range" = none
  n_str : mg "str" = none
  v_LETTERS : Value
  g_LETTERS : mg "LETTERS" = some v_LETTERS
  r_LETTERS : RelV (.str "abcdefghijklmnopqrstuvwxyz") v_LETTERS
  v_MOST_SIGNS : Value
  g_MOST_SIGNS : mg "MOST_SIGNS" = some v_MOST_SIGNS
  r_MOST_SIGNS : RelV (.int 8) v_MOST_SIGNS
  a_RESERVED : Addr
  g_RESERVED : mg "RESERVED" = some (.ref a_RESERVED)
  r_RESERVED : RelV (.ref a_RESERVED) (.ref a_RESERVED)
  t_RESERVED : ∀ H, SqT K H a_RESERVED [.str "to", .str "if", .str "tag", .str "all", .str "none"]
  v_SIGNS : Value
  g_SIGNS : mg "SIGNS" = some v_SIGNS
  r_SIGNS : RelV (.str "abcdefghijklmnopqrstuvwxyz0123456789") v_SIGNS
section
variable {P : Program} {w : World} {K : PySem.W.Frag} {mg : Str → Option Value} {base : Heap}
theorem ok__law_pen (T : Txt K mg) : FnOk P w K mg base CX0 1 T.f__law_pen T.fd__law_pen ["_law_script"] (spPen K) := by
  have nd := sc__law_pen.nd
  refine T.F__law_pen.ok sc__law_pen (fun vs H Q E h => ?_) (fun cdv A outer s H vs Q E hr h => ?_)
  · obtain ⟨a, ns, rfl, _⟩ := h; rfl
  · obtain ⟨a, ns, rfl, hS, hl, q⟩ := h
    have hu := hu_of hr
    refine ⟨_, (pss_one (ps_ret (pe_lst (pa_cons (pe_callTy call_list_of (by rfl) T.n_list (by decide +kernel) (pa_cons (pe_slice sl_list (pv 0) po_none (po_some pe_int)) pa_nil)) (pa_cons pe_int (pa_cons pe_int pa_nil)))))), ?_⟩
    refine ⟨_, rfl, 60, rfl, a, _, rfl, hS, fun c nc => ?_⟩
    obtain ⟨ms, em, hm⟩ := cut60 ns
    rw [em]
    refine ⟨c, _, rfl, .inl (SqL.of upd_same), fun l nl => ?_⟩
    refine ⟨(by show 3 ≤ sizeLine; decide), fun p np => ?_⟩
    have s1 : Same H (upd H c (.lst (ms.map V.int))) := same_upd nc
    have s2 := s1.trans (same_upd (o := .lst (ms.map V.int)) nl)
    have npl : l ≠ p := ne_of_none upd_same np
    refine q p _ (s2.free np) (s2.trans (same_upd np)) ⟨l, ms, 0, 0, upd_same, by rw [upd_ne npl, upd_same], hm, Nat.zero_le _⟩
theorem ok__law_draw (T : Txt K mg) : FnOk P w K mg base CX0 1 T.f__law_draw T.fd__law_draw ["_law_pen_here", "_law_many"] (spDraw) := by
  have nd := sc__law_draw.nd
  refine T.F__law_draw.ok sc__law_draw (fun vs H Q E h => ?_) (fun cdv A outer s H vs Q E hr h => ?_)
  · obtain ⟨p, m, n, rfl, _⟩ := h; rfl
  · obtain ⟨p, m, n, rfl, ⟨c, ns, i, g, hp, hc, hl, hi⟩, hn, h1, h2, q⟩ := h
    have hu := hu_of hr
    refine ⟨_, (pss_cons (ps_if (pt_cmpR op_gt (pe_ix ix_list (pv 0) pe_int (fun _ _ => rfl)) pe_int (nomark _)) (pss_cons (ps_set (i := 2) nd rfl (Or.inl rfl) (pe_op op_modN (pe_callTy call_int1 (by rfl) T.n_int (by decide +kernel) (pa_cons (pe_ix ix_list (pv 0) pe_int (fun _ _ => rfl)) pa_nil)) (pv 1)))
        (pss_cons (ps_asg (pe_op op_fdivN (pe_ix ix_list (pv 0) pe_int (fun _ _ => rfl)) (pv 1)) (pg_sub (pv 0) pe_int set_list))
        (pss_one (ps_ret (pv 2))))) pss_nil)
        (pss_cons (ps_set (i := 3) nd rfl (Or.inl rfl) (pe_ix ix_list (pv 0) pe_int (fun _ _ => rfl)))
        (pss_cons (ps_asg (pe_op op_add (pv 3) pe_int) (pg_sub (pv 0) pe_int set_list))
        (pss_cons (ps_set (i := 4) nd rfl (Or.inl rfl) (pe_op op_add (pe_op op_mul pe_int (pv 3)) pe_int))
        (pss_cons (ps_if (pt_cmpR (op_neD hr.units) (pe_ix ix_list (pv 0) pe_int (fun _ _ => rfl)) (pe_lst pa_nil) (nomark _)) (pss_one (ps_set (i := 4) nd rfl (Or.inl rfl) (pe_ix ix_list (pe_ix ix_list (pv 0) pe_int (fun _ _ => rfl)) (pe_op op_modN (pe_callTy call_int1 (by rfl) T.n_int (by decide +kernel) (pa_cons (pv 3) pa_nil)) (pe_callB call_len_seq (by rfl) T.n_len (by decide +kernel) (pa_cons (pe_ix ix_list (pv 0) pe_int (fun _ _ => rfl)) pa_nil))) (fun _ _ => rfl)))) pss_nil)
        (pss_cons (ps_if (PW.pt (pw_and (pt_cmpR op_lt (pv 3) (pe_callB call_len_seq (by rfl) T.n_len (by decide +kernel) (pa_cons (pe_ix ix_list (pv 0) pe_int (fun _ _ => rfl)) pa_nil)) (nomark _)) (pw_and1 (pt_cmpR op_ge (pe_callB call_abs (by rfl) T.n_abs (by decide +kernel) (pa_cons (pv 4) pa_nil)) (pe_op op_pow pe_int pe_int) (nomark _))))) (pss_cons (ps_set (i := 5) nd rfl (Or.inl rfl) (pe_op op_add (pe_op op_mul pe_int (pe_op op_sub (pe_callB call_abs (by rfl) T.n_abs (by decide +kernel) (pa_cons (pv 4) pa_nil)) (pe_op op_pow pe_int pe_int))) (pe_callTy call_int1 (by rfl) T.n_int (by decide +kernel) (pa_cons (pe_cmpR op_lt (pv 4) pe_int (nomark _)) pa_nil))))
        (pss_cons (ps_asg (pe_op op_fdivN (pv 5) (pv 1)) (pg_sub (pv 0) pe_int set_list))
        (pss_one (ps_ret (pe_op op_modN (pe_callTy call_int1 (by rfl) T.n_int (by decide +kernel) (pa_cons (pv 5) pa_nil)) (pv 1)))))) pss_nil)
        (pss_cons (ps_set (i := 6) nd rfl (Or.inl rfl) (pe_op op_modN (pe_callTy call_int1 (by rfl) T.n_int (by decide +kernel) (pa_cons (pe_op op_pow (pe_op op_add (pe_op op_add (pe_op op_modN (pe_callTy call_int1 (by rfl) T.n_int (by decide +kernel) (pa_cons (pv 4) pa_nil)) pe_int) (pe_op op_mul pe_int (pv 3))) pe_int) pe_int) pa_nil)) pe_int))
        (pss_cons (ps_set (i := 6) nd rfl (Or.inl rfl) (pe_op op_modN (pe_callTy call_int1 (by rfl) T.n_int (by decide +kernel) (pa_cons (pe_op op_pow (pe_op op_add (pe_op op_add (pe_op op_mul (pv 6) (pe_op op_add (pe_op op_mul pe_int (pv 3)) pe_int)) (pe_op op_mul (pe_op op_mul pe_int (pv 3)) (pv 3))) pe_int) pe_int) pa_nil)) pe_int))
        (pss_one (ps_ret (pe_op op_modN (pe_callTy call_int1 (by rfl) T.n_int (by decide +kernel) (pa_cons (pe_op op_fdivN (pv 6) pe_int) pa_nil)) (pv 1)))))))))))), ?_⟩
    refine ⟨_, rfl, p, _, _, _, rfl, rfl, SqL.of hp, atI_nat (j := 2) rfl, _, _, rfl, rfl, _, rfl, ?_⟩
    refine ite2 (fun hg => ?_) (fun hg => ?_)
    · refine ⟨_, rfl, p, _, _, _, rfl, rfl, SqL.of hp, atI_nat (j := 2) rfl, .inl ⟨_, rfl, _, rfl, _, _, rfl, rfl, (by omega), ?_⟩⟩
      refine ⟨_, rfl, p, _, _, _, rfl, rfl, SqL.of hp, atI_nat (j := 2) rfl, _, rfl, _, _, rfl, rfl, ⟨by omega, by omega⟩, ?_⟩
      refine ⟨_, rfl, p, _, _, _, rfl, rfl, hp, rfl, ?_⟩
      refine ⟨_, rfl, ?_⟩
      exact q _ _ (modN h1).1 (modN h1).2 (Pen.put (i := i) (g := g.fdiv m) hp hc hl (by omega)) keep_upd
    · refine ⟨_, rfl, p, _, _, _, rfl, rfl, SqL.of hp, atI_nat (j := 1) rfl, ?_⟩
      have n1 := cells_ne hc hp
      have hc1 : (upd H p (.lst [.ref c, .int ((i : Int) + 1), .int g])) c = some (.lst (ns.map V.int)) := by
        rw [upd_ne n1]
        exact hc
      refine ⟨_, rfl, _, _, rfl, rfl, _, rfl, p, _, _, _, rfl, rfl, hp, rfl, ?_⟩
      have k1 : Keep p H (upd H p (.lst [.ref c, .int ((i : Int) + 1), .int g])) := keep_upd
      show tSeq _ _ _ _ (upd H p (.lst [.ref c, .int ((i : Int) + 1), .int g]))
      generalize hH1 : upd H p (.lst [.ref c, .int ((i : Int) + 1), .int g]) = H1 at *
      have hp1 : H1 p = some (.lst [.ref c, .int ((i : Int) + 1), .int g]) := by rw [← hH1]; exact upd_same
      refine ⟨_, rfl, _, _, rfl, rfl, .inl ⟨by decide, by decide⟩, _, _, rfl, rfl, ?_⟩
      -- if the cells are not empty
      refine ⟨_, rfl, p, _, _, _, rfl, rfl, SqL.of hp1, atI_nat (j := 0) rfl, ?_⟩
      refine ⟨Nat.zero_le _, fun e he => ?_⟩
      have s2 : Same H1 (upd H1 e (.lst [])) := same_upd he
      refine ⟨.list (ns.map PyData.int), .list [], .lst (SqL.of (s2 _ _ hc1)) (dp_ints ns), .lst (SqL.of upd_same) .nil, shaped_ints ns, rfl, _, rfl, ?_⟩
      rw [eqv_ints_nil]
      have hp2 := s2 _ _ hp1
      have hc2 := s2 _ _ hc1
      have k2 := k1.trans (same_keep s2)
      generalize upd H1 e (.lst []) = H2 at *
      by_cases hns : ns = []
      · have ez : ns.isEmpty = true := by
          rw [hns]
          rfl
        rw [ez]
        refine iteF ?_
        refine ⟨_, rfl, _, rfl, p, _, _, _, rfl, rfl, SqL.of hp2, atI_nat (j := 0) rfl, c, _, rfl, .inl (SqL.of hc2), _, _, rfl, rfl, _, rfl, ?_⟩
        refine ite2 (fun ha => ?_) (fun ha => ?_)
        · refine ⟨_, rfl, _, rfl, _, _, rfl, rfl, ⟨by decide, by decide, by decide⟩, _, _, rfl, rfl, _, rfl, ?_⟩
          refine ite2 (fun hb => ?_) (fun hb => ?_)
          · refine ⟨_, rfl, _, rfl, _, _, rfl, rfl, ⟨by decide, by decide, by decide⟩, _, _, rfl, rfl, _, _, rfl, rfl, .inl ⟨by decide, by decide⟩, _, rfl, _, _, rfl, rfl, .inr ⟨_, rfl, _, _, rfl, rfl, ?_⟩⟩
            refine ⟨_, rfl, _, rfl, _, _, rfl, rfl, ⟨by omega, by omega⟩, _, rfl, p, _, _, _, rfl, rfl, hp2, rfl, ?_⟩
            refine ⟨_, rfl, .inl ⟨_, rfl, _, rfl, _, _, rfl, rfl, by omega, ?_⟩⟩
            exact q _ _ (modN h1).1 (modN h1).2 (Pen.put (i := i + 1) hp2 hc2 hl (by omega)) (k2.trans keep_upd)
          · have hi0 : (0 : Int) ≤ (i : Int) ∧ (i : Int) ≤ 100000 := ⟨by omega, by omega⟩
            refine ⟨_, rfl, .inl ⟨_, rfl, _, _, rfl, rfl, (by show (_ : Int) ≠ 0; decide), _, rfl, _, _, rfl, rfl, .inl ⟨by decide, by decide⟩, _, _, rfl, rfl, _, _, rfl, rfl, _, _, rfl, rfl, ⟨by decide, by decide, ?_⟩, .inl ⟨_, rfl, _, _, rfl, rfl, (by show (_ : Int) ≠ 0; decide), ?_⟩⟩⟩
            · exact bnd1 (modN (by decide)).1 (Int.lt_trans (modN (by decide)).2 (by decide)) hi0.1 hi0.2 (by decide) (by decide) (by decide) (by decide)
            · dsimp only
              generalize hmix : (Int.fmod _ 2147483647) = mix
              have hm0 : 0 ≤ mix ∧ mix < 2147483648 := by
                rw [← hmix]
                exact ⟨(modN (by decide)).1, Int.lt_trans (modN (by decide)).2 (by decide)⟩
              refine ⟨_, rfl, _, rfl, _, _, rfl, rfl, .inl ⟨by decide, by decide⟩, _, _, rfl, rfl, _, _, rfl, rfl, .inl ⟨by omega, by omega⟩, _, rfl, _, _, rfl, rfl, .inl ⟨by decide, by decide⟩, _, rfl, _, _, rfl, rfl, .inr ⟨by omega, by omega⟩, _, _, rfl, rfl, _, _, rfl, rfl, _, _, rfl, rfl, ⟨by decide, by decide, ?_⟩, .inl ⟨_, rfl, _, _, rfl, rfl, (by show (_ : Int) ≠ 0; decide), ?_⟩⟩
              · exact bnd2 hm0.1 hm0.2 hi0.1 hi0.2 (by decide) (by decide) (by decide) (by decide) (by decide) (by decide)
              · refine ⟨_, rfl, _, _, rfl, rfl, ⟨by decide, by decide⟩, .inl ⟨_, rfl, _, rfl, _, _, rfl, rfl, by omega, ?_⟩⟩
                exact q _ _ (modN h1).1 (modN h1).2 ⟨c, ns, i + 1, g, hp2, hc2, hl, by omega⟩ k2
        · have hi0 : (0 : Int) ≤ (i : Int) ∧ (i : Int) ≤ 100000 := ⟨by omega, by omega⟩
          refine ⟨_, rfl, .inl ⟨_, rfl, _, _, rfl, rfl, (by show (_ : Int) ≠ 0; decide), _, rfl, _, _, rfl, rfl, .inl ⟨by decide, by decide⟩, _, _, rfl, rfl, _, _, rfl, rfl, _, _, rfl, rfl, ⟨by decide, by decide, ?_⟩, .inl ⟨_, rfl, _, _, rfl, rfl, (by show (_ : Int) ≠ 0; decide), ?_⟩⟩⟩
          · exact bnd1 (modN (by decide)).1 (Int.lt_trans (modN (by decide)).2 (by decide)) hi0.1 hi0.2 (by decide) (by decide) (by decide) (by decide)
          · dsimp only
            generalize hmix : (Int.fmod _ 2147483647) = mix
            have hm0 : 0 ≤ mix ∧ mix < 2147483648 := by
              rw [← hmix]
              exact ⟨(modN (by decide)).1, Int.lt_trans (modN (by decide)).2 (by decide)⟩
            refine ⟨_, rfl, _, rfl, _, _, rfl, rfl, .inl ⟨by decide, by decide⟩, _, _, rfl, rfl, _, _, rfl, rfl, .inl ⟨by omega, by omega⟩, _, rfl, _, _, rfl, rfl, .inl ⟨by decide, by decide⟩, _, rfl, _, _, rfl, rfl, .inr ⟨by omega, by omega⟩, _, _, rfl, rfl, _, _, rfl, rfl, _, _, rfl, rfl, ⟨by decide, by decide, ?_⟩, .inl ⟨_, rfl, _, _, rfl, rfl, (by show (_ : Int) ≠ 0; decide), ?_⟩⟩
            · exact bnd2 hm0.1 hm0.2 hi0.1 hi0.2 (by decide) (by decide) (by decide) (by decide) (by decide) (by decide)
            · refine ⟨_, rfl, _, _, rfl, rfl, ⟨by decide, by decide⟩, .inl ⟨_, rfl, _, rfl, _, _, rfl, rfl, by omega, ?_⟩⟩
              exact q _ _ (modN h1).1 (modN h1).2 ⟨c, ns, i + 1, g, hp2, hc2, hl, by omega⟩ k2
      · have ez : ns.isEmpty = false := by
          cases ns with
          | nil => exact absurd rfl hns
          | cons x r => rfl
        rw [ez]
        refine iteT ?_
        have hz : 0 < ns.length := List.length_pos_iff.mpr hns
        have hj : ((i : Int).fmod (ns.map V.int).length) = (((i % ns.length : Nat) : Nat) : Int) := by
          rw [Int.fmod_eq_emod_of_nonneg _ (by omega), List.length_map]
          rfl
        obtain ⟨z, ezz⟩ := map_int_at (ns := ns) (j := i % ns.length) (Nat.mod_lt _ hz)
        refine ⟨_, rfl, p, _, _, _, rfl, rfl, SqL.of hp2, atI_nat (j := 0) rfl, ?_⟩
        refine ⟨_, rfl, .inl ⟨_, rfl, _, rfl, p, _, _, _, rfl, rfl, SqL.of hp2, atI_nat (j := 0) rfl, c, _, rfl, .inl (SqL.of hc2), _, _, rfl, rfl, ?_, ?_⟩⟩
        · rw [List.length_map]; omega
        · refine ⟨c, _, _, .int z, rfl, rfl, SqL.of hc2, ?_, ?_⟩
          · rw [hj]
            exact atI_nat ezz
          · refine ⟨_, rfl, _, rfl, p, _, _, _, rfl, rfl, SqL.of hp2, atI_nat (j := 0) rfl, c, _, rfl, .inl (SqL.of hc2), _, _, rfl, rfl, _, rfl, ?_⟩
            refine ite2 (fun ha => ?_) (fun ha => ?_)
            · refine ⟨_, rfl, _, rfl, _, _, rfl, rfl, ⟨by decide, by decide, by decide⟩, _, _, rfl, rfl, _, rfl, ?_⟩
              refine ite2 (fun hb => ?_) (fun hb => ?_)
              · refine ⟨_, rfl, _, rfl, _, _, rfl, rfl, ⟨by decide, by decide, by decide⟩, _, _, rfl, rfl, _, _, rfl, rfl, .inl ⟨by decide, by decide⟩, _, rfl, _, _, rfl, rfl, .inr ⟨_, rfl, _, _, rfl, rfl, ?_⟩⟩
                refine ⟨_, rfl, _, rfl, _, _, rfl, rfl, ⟨by omega, by omega⟩, _, rfl, p, _, _, _, rfl, rfl, hp2, rfl, ?_⟩
                refine ⟨_, rfl, .inl ⟨_, rfl, _, rfl, _, _, rfl, rfl, by omega, ?_⟩⟩
                exact q _ _ (modN h1).1 (modN h1).2 (Pen.put (i := i + 1) hp2 hc2 hl (by omega)) (k2.trans keep_upd)
              · have hi0 : (0 : Int) ≤ (i : Int) ∧ (i : Int) ≤ 100000 := ⟨by omega, by omega⟩
                refine ⟨_, rfl, .inl ⟨_, rfl, _, _, rfl, rfl, (by show (_ : Int) ≠ 0; decide), _, rfl, _, _, rfl, rfl, .inl ⟨by decide, by decide⟩, _, _, rfl, rfl, _, _, rfl, rfl, _, _, rfl, rfl, ⟨by decide, by decide, ?_⟩, .inl ⟨_, rfl, _, _, rfl, rfl, (by show (_ : Int) ≠ 0; decide), ?_⟩⟩⟩
                · exact bnd1 (modN (by decide)).1 (Int.lt_trans (modN (by decide)).2 (by decide)) hi0.1 hi0.2 (by decide) (by decide) (by decide) (by decide)
                · dsimp only
                  generalize hmix : (Int.fmod _ 2147483647) = mix
                  have hm0 : 0 ≤ mix ∧ mix < 2147483648 := by
                    rw [← hmix]
                    exact ⟨(modN (by decide)).1, Int.lt_trans (modN (by decide)).2 (by decide)⟩
                  refine ⟨_, rfl, _, rfl, _, _, rfl, rfl, .inl ⟨by decide, by decide⟩, _, _, rfl, rfl, _, _, rfl, rfl, .inl ⟨by omega, by omega⟩, _, rfl, _, _, rfl, rfl, .inl ⟨by decide, by decide⟩, _, rfl, _, _, rfl, rfl, .inr ⟨by omega, by omega⟩, _, _, rfl, rfl, _, _, rfl, rfl, _, _, rfl, rfl, ⟨by decide, by decide, ?_⟩, .inl ⟨_, rfl, _, _, rfl, rfl, (by show (_ : Int) ≠ 0; decide), ?_⟩⟩
                  · exact bnd2 hm0.1 hm0.2 hi0.1 hi0.2 (by decide) (by decide) (by decide) (by decide) (by decide) (by decide)
                  · refine ⟨_, rfl, _, _, rfl, rfl, ⟨by decide, by decide⟩, .inl ⟨_, rfl, _, rfl, _, _, rfl, rfl, by omega, ?_⟩⟩
                    exact q _ _ (modN h1).1 (modN h1).2 ⟨c, ns, i + 1, g, hp2, hc2, hl, by omega⟩ k2
            · have hi0 : (0 : Int) ≤ (i : Int) ∧ (i : Int) ≤ 100000 := ⟨by omega, by omega⟩
              refine ⟨_, rfl, .inl ⟨_, rfl, _, _, rfl, rfl, (by show (_ : Int) ≠ 0; decide), _, rfl, _, _, rfl, rfl, .inl ⟨by decide, by decide⟩, _, _, rfl, rfl, _, _, rfl, rfl, _, _, rfl, rfl, ⟨by decide, by decide, ?_⟩, .inl ⟨_, rfl, _, _, rfl, rfl, (by show (_ : Int) ≠ 0; decide), ?_⟩⟩⟩
              · exact bnd1 (modN (by decide)).1 (Int.lt_trans (modN (by decide)).2 (by decide)) hi0.1 hi0.2 (by decide) (by decide) (by decide) (by decide)
              · dsimp only
                generalize hmix : (Int.fmod _ 2147483647) = mix
                have hm0 : 0 ≤ mix ∧ mix < 2147483648 := by
                  rw [← hmix]
                  exact ⟨(modN (by decide)).1, Int.lt_trans (modN (by decide)).2 (by decide)⟩
                refine ⟨_, rfl, _, rfl, _, _, rfl, rfl, .inl ⟨by decide, by decide⟩, _, _, rfl, rfl, _, _, rfl, rfl, .inl ⟨by omega, by omega⟩, _, rfl, _, _, rfl, rfl, .inl ⟨by decide, by decide⟩, _, rfl, _, _, rfl, rfl, .inr ⟨by omega, by omega⟩, _, _, rfl, rfl, _, _, rfl, rfl, _, _, rfl, rfl, ⟨by decide, by decide, ?_⟩, .inl ⟨_, rfl, _, _, rfl, rfl, (by show (_ : Int) ≠ 0; decide), ?_⟩⟩
                · exact bnd2 hm0.1 hm0.2 hi0.1 hi0.2 (by decide) (by decide) (by decide) (by decide) (by decide) (by decide)
                · refine ⟨_, rfl, _, _, rfl, rfl, ⟨by decide, by decide⟩, .inl ⟨_, rfl, _, rfl, _, _, rfl, rfl, by omega, ?_⟩⟩
                  exact q _ _ (modN h1).1 (modN h1).2 ⟨c, ns, i + 1, g, hp2, hc2, hl, by omega⟩ k2
theorem ok__law_pick (T : Txt K mg) : FnOk P w K mg base CX0 2 T.f__law_pick T.fd__law_pick ["_law_pen_here", "_law_some"] (spPick K) := by
  have G__law_draw := ok__law_draw (P := P) (w := w) (base := base) T
  have nd := sc__law_pick.nd
  refine T.F__law_pick.ok sc__law_pick (fun vs H Q E h => ?_) (fun cdv A outer s H vs Q E hr h => ?_)
  · obtain ⟨p, a, xs, n, rfl, _⟩ := h; rfl
  · obtain ⟨p, a, xs, n, rfl, ne, P0, hn, hS, h1, h2, q⟩ := h
    have hu := hu_of hr
    refine ⟨_, (pss_one (ps_ret (pe_ix ix_list (pv 1) (pe_call (G__law_draw) (hr.mono (by decide)) (by rfl) T.m__law_draw T.F__law_draw.kp T.b__law_draw .nil pass0 (pa_cons (pv 0) (pa_cons (pe_callB call_len_seq (by rfl) T.n_len (by decide +kernel) (pa_cons (pv 1) pa_nil)) pa_nil))) (fun _ _ => rfl)))), ?_⟩
    refine ⟨_, rfl, _, rfl, _, rfl, a, _, rfl, .inl hS, p, _, n, rfl, P0, hn, by omega, by omega, fun r H' r0 r1 P1 k1 => ?_⟩
    obtain ⟨j, rfl⟩ : ∃ j : Nat, r = (j : Int) := ⟨r.toNat, by omega⟩
    have hj : j < xs.length := by omega
    refine ⟨a, xs, _, xs[j], rfl, rfl, SqL.keep k1 ne hS, atI_nat (List.getElem?_eq_getElem hj), ?_⟩
    exact q _ _ (List.getElem_mem hj) P1 k1
theorem ok_is_name (T : Txt K mg) : FnOk P w K mg base CX0 1 T.f_is_name T.fd_is_name ["value"] (spName) := by
  have nd := sc_is_name.nd
  refine T.F_is_name.ok sc_is_name (fun vs H Q E h => ?_) (fun cdv A outer s H vs Q E hr h => ?_)
  · obtain ⟨v, p, rfl, _⟩ := h; rfl
  · obtain ⟨v, p, rfl, tv, q⟩ := h
    have hu := hu_of hr
    refine ⟨_, (pss_cons (ps_if (PW.pt (pw_or (pt_not (pt_val (pe_callB call_isi (by rfl) T.n_isinstance (by decide +kernel) (pa_cons (pv 0) (pa_cons (pe_bltn (v := .ty "str") (u := .type "str") (by rfl) T.n_str (by decide +kernel) rfl) pa_nil))))) (pw_or1 (pt_not (pt_chain op_le op_le pe_int (pe_callB call_len_str (by rfl) T.n_len (by decide +kernel) (pa_cons (pv 0) pa_nil)) (pe_glob (by rfl) T.g_MOST_SIGNS T.r_MOST_SIGNS)))))) (pss_one (ps_ret pe_bl)) pss_nil)
        (pss_cons (ps_if (PW.pt (pw_or (pt_cmpR op_notIn_sign (pe_ix ix_str (pv 0) pe_int (fun _ _ => rfl)) (pe_glob (by rfl) T.g_LETTERS T.r_LETTERS) (by rfl)) (pw_or1 (pt_cmpR op_in_seq (pv 0) (pe_glob (by rfl) T.g_RESERVED T.r_RESERVED) (by rfl))))) (pss_one (ps_ret pe_bl)) pss_nil)
        (pss_one (ps_ret (pe_callB (cr_all rfl) (by rfl) T.n_all (by decide +kernel) (pa_cons (pe_lc (own := [("sign", 1)]) (g := gName 1) rfl nd (pi_str (pv 0)) (blkOk_by (own := [("sign", 1)]) (N := N_is_name) (sc := defScope s_is_name) (by decide +kernel)) (fun _ _ _ _ _ => pg_name (i := 1) nd rfl (Or.inl rfl)) (fun _ _ _ _ _ => pts_nil) (fun _ _ _ _ _ => (pe_cmpR op_in_sign (pv 1) (pe_glob (by rfl) T.g_SIGNS T.r_SIGNS) (by rfl)))) pa_nil)))))), ?_⟩
    obtain ⟨u, hu1, hu2⟩ := tv.ty (K := K)
    refine ⟨_, rfl, _, _, _, _, _, rfl, .ty _, hu1, hu2, _, rfl, ?_⟩
    rcases tv.cases with ⟨z, rfl, hz⟩ | ⟨e1, e2⟩
    · refine iteF ?_
      refine ⟨_, rfl, _, rfl, hz.line (by decide), _, _, rfl, rfl, _, rfl, ?_⟩
      have bad : isName z = false → Q (.bl false) H := fun e => by
        have := q H (Same.refl H)
        rw [show nameV (.str z) = isName z from rfl, e] at this
        exact this
      refine ite2 (fun c1 => ?_) (fun c1 => ?_)
      · refine ⟨_, _, rfl, rfl, _, rfl, ?_⟩
        have l1 : (1 : Int) ≤ (z.length : Int) := of_decide_eq_true c1
        by_cases l2 : z.length ≤ 8
        · refine iteNS (by show (z.length : Int) ≤ 8; omega) ?_
          obtain ⟨c, hc1, hc2⟩ := head_at (z := z) (by omega)
          refine ⟨_, rfl, _, _, c, rfl, rfl, hz.line (by decide), hc1, c, _, rfl, rfl, _, rfl, ?_⟩
          cases hL : inS LET c with
          | false =>
            have hL' : (!decide (c ∈ (("abcdefghijklmnopqrstuvwxyz" : Str)).cps.toList)) = true := by
              rw [show decide (c ∈ (("abcdefghijklmnopqrstuvwxyz" : Str)).cps.toList) = false from hL]
              rfl
            refine if_pos_of hL' ?_
            exact bad (by simp [isName, hc2, hL])
          | true =>
            have hL' : (!decide (c ∈ (("abcdefghijklmnopqrstuvwxyz" : Str)).cps.toList)) = false := by
              rw [show decide (c ∈ (("abcdefghijklmnopqrstuvwxyz" : Str)).cps.toList) = true from hL]
              rfl
            refine if_neg_of hL' ?_
            refine ⟨_, rfl, T.a_RESERVED, RES, rfl, .inr (T.t_RESERVED H), rfl, by decide +kernel, _, rfl, ?_⟩
            cases hR : inV (.str z) RES with
            | true =>
              refine iteT ?_
              exact bad (by simp [isName, hR])
            | false =>
              refine iteF ?_
              refine ⟨_, rfl, _, rfl, fun D nD => lc_it walk_str (fun i H2 => Same H H2 ∧ H2 D = some (.lst ((z.cps.toList.take i).map fun c => V.bl (inS SIG c)))) ⟨same_upd nD, upd_same⟩ (fun _ _ _ _ => trivial) ?_ ?_⟩
              · rintro i x H2 H3 hi ⟨s1, h2⟩ ⟨rfl, c', hc', rfl⟩
                refine ⟨rfl, ?_⟩
                refine iteT (B := True) ?_
                refine ⟨_, rfl, c', _, rfl, rfl, _, h2, ?_, fun b o e => ?_, ?_⟩
                · rw [List.length_map, List.length_take]
                  have : sizeLine = 16777216 := by decide +kernel
                  rw [str_len]
                  omega
                · rw [upd_ne (ne_of_none e nD)]
                  exact s1 b o e
                · rw [upd_same, take_bl hc']
                  rfl
              · rintro H2 ⟨s1, h2⟩
                refine ⟨D, (z.cps.toList).map (inS SIG), rfl, ?_, ?_⟩
                · refine SqL.of (h2.trans ?_)
                  rw [List.take_of_length_le (by simp), List.map_map]
                  rfl
                · have e : ((z.cps.toList).map (inS SIG)).all id = isName z := by
                    simp [isName, hc2, hL, hR, l2, show 1 ≤ z.length by omega, List.all_map]
                  rw [e]
                  exact q _ s1
        · refine if_pos_of (by rw [show decide ((z.length : Int) ≤ 8) = false from decide_eq_false (by omega)]; rfl) ?_
          exact bad (by simp [isName, l2])
      · refine ⟨_, rfl, ?_⟩
        refine iteT ?_
        exact bad (by
          have : ¬ 1 ≤ z.length := fun h => c1 (decide_eq_true (by omega))
          simp [isName, this])
    · rw [e1]
      refine iteT ?_
      have := q H (Same.refl H)
      rw [e2] at this
      exact this
theorem ok__law_due (T : Txt K mg) : FnOk P w K mg base CX0 1 T.f__law_due T.fd__law_due ["_law_value"] (spName) := by
  have nd := sc__law_due.nd
  refine T.F__law_due.ok sc__law_due (fun vs H Q E h => ?_) (fun cdv A outer s H vs Q E hr h => ?_)
  · obtain ⟨v, p, rfl, _⟩ := h; rfl
  · obtain ⟨v, p, rfl, tv, q⟩ := h
    have hu := hu_of hr
    refine ⟨_, (pss_cons (ps_if (PW.pt (pw_or (pt_not (pt_val (pe_callB call_isi (by rfl) T.n_isinstance (by decide +kernel) (pa_cons (pv 0) (pa_cons (pe_bltn (v := .ty "str") (u := .type "str") (by rfl) T.n_str (by decide +kernel) rfl) pa_nil))))) (pw_or (pt_cmpR op_in_seq (pv 0) (pe_lst (pa_cons pe_str (pa_cons pe_str (pa_cons pe_str (pa_cons pe_str (pa_cons pe_str (pa_cons pe_str pa_nil))))))) (by rfl)) (pw_or1 (pt_cmpR op_gt (pe_callB call_len_str (by rfl) T.n_len (by decide +kernel) (pa_cons (pv 0) pa_nil)) pe_int (nomark _)))))) (pss_one (ps_ret pe_bl)) pss_nil)
        (pss_cons (ps_set (i := 1) nd rfl (Or.inr rfl) pe_str)
        (pss_one (ps_ret (pe_and (pe_cmpR op_in_sign (pe_ix ix_str (pv 0) pe_int (fun _ _ => rfl)) (pv 1) (by rfl)) (pe_one (pe_cmpR (op_eqD hr.units) (pe_lc (own := [("_law_sign", 2)]) (g := gName 2) rfl nd (pi_str (pv 0)) (blkOk_by (own := [("_law_sign", 2)]) (N := N__law_due) (sc := defScope s__law_due) (by decide +kernel)) (fun _ _ _ _ _ => pg_name (i := 2) nd rfl (Or.inl rfl)) (fun _ _ _ _ _ => pts_one (pt_cmpR op_notIn_sign (pv 2) (pe_op op_add_str (pv 1) pe_str) (by rfl))) (fun _ _ _ _ _ => (pv 2))) (pe_lst pa_nil) (nomark _)))))))), ?_⟩
    obtain ⟨u, hu1, hu2⟩ := tv.ty (K := K)
    refine ⟨_, rfl, _, _, _, _, _, rfl, .ty _, hu1, hu2, _, rfl, ?_⟩
    rcases tv.cases with ⟨z, rfl, hz⟩ | ⟨e1, e2⟩
    · refine iteF ?_
      have bad : ∀ H', Same H H' → isName z = false → Q (.bl false) H' := fun H' s' e => by
        have := q H' s'
        rw [show nameV (.str z) = isName z from rfl, e] at this
        exact this
      refine ⟨_, rfl, (by show 6 ≤ sizeLine; decide), fun l nl => ?_⟩
      refine ⟨l, _, rfl, .inl (SqL.of upd_same), rfl, by decide +kernel, _, rfl, ?_⟩
      have s1 : Same H (upd H l (.lst [.str "", .str "to", .str "if", .str "tag", .str "all", .str "none"])) := same_upd nl
      show if inV (.str z) ([.str "", .str "to", .str "if", .str "tag", .str "all", .str "none"] : List V) = true then _ else _
      rw [res_due, empty_len]
      generalize upd H l (.lst [.str "", .str "to", .str "if", .str "tag", .str "all", .str "none"]) = H1 at *
      cases hR : inV (.str z) RES with
      | true =>
        rw [Bool.or_true]
        refine iteT ?_
        exact bad _ s1 (by simp [isName, hR])
      | false =>
      rw [Bool.or_false]
      by_cases l0 : z.length = 0
      · rw [decide_eq_true l0]
        refine iteT ?_
        exact bad _ s1 (by simp [isName, l0])
      rw [decide_eq_false l0]
      refine iteF ?_
      refine ⟨_, rfl, _, rfl, hz.line (by decide), _, _, rfl, rfl, _, rfl, ?_⟩
      refine ite2 (fun c1 => ?_) (fun c1 => ?_)
      · have : (8 : Int) < (z.length : Int) := of_decide_eq_true c1
        exact bad _ s1 (by simp [isName, show ¬ z.length ≤ 8 by omega])
      · have l2 : z.length ≤ 8 := by
          have : ¬ (8 : Int) < (z.length : Int) := fun h => c1 (decide_eq_true h)
          omega
        obtain ⟨c, hc1, hc2⟩ := head_at (z := z) (by omega)
        refine ⟨_, rfl, _, _, c, rfl, rfl, hz.line (by decide), hc1, _, rfl, c, _, rfl, rfl, _, rfl, ?_⟩
        cases hL : inS LET c with
        | false =>
          refine if_neg_of (show decide (c ∈ (("abcdefghijklmnopqrstuvwxyz" : Str)).cps.toList) = false from hL) ?_
          exact bad _ s1 (by simp [isName, hc2, hL])
        | true =>
          refine if_pos_of (show decide (c ∈ (("abcdefghijklmnopqrstuvwxyz" : Str)).cps.toList) = true from hL) ?_
          refine ⟨_, rfl, _, rfl, fun D nD => lc_it walk_str (fun i H2 => Same H1 H2 ∧ H2 D = some (.lst (((z.cps.toList.take i).filter fun c => !inS SIG c).map fun c => V.str ⟨#[c]⟩))) ⟨same_upd nD, upd_same⟩ (fun _ _ _ _ => trivial) ?_ ?_⟩
          · rintro i x H2 H3 hi ⟨s3, h2⟩ ⟨rfl, c', hc', rfl⟩
            refine ⟨rfl, _, rfl, _, rfl, _, _, rfl, rfl, by decide +kernel, c', _, rfl, rfl, _, rfl, ?_⟩
            have eS : (!decide (c' ∈ ((("abcdefghijklmnopqrstuvwxyz" : Str)) ++ (("0123456789" : Str))).cps.toList)) = !inS SIG c' := by
              rw [show (("abcdefghijklmnopqrstuvwxyz" : Str)) ++ (("0123456789" : Str)) = SIG by decide +kernel]
              rfl
            rw [eS]
            cases hS : inS SIG c' with
            | true =>
              refine iteF ⟨s3, ?_⟩
              rw [h2, take_flt hc', if_neg (by simp [hS])]
            | false =>
              refine iteT (B := (fun _ => True) H3) ?_
              refine ⟨_, rfl, _, h2, ?_, fun b o e => ?_, ?_⟩
              · have e1 := List.length_filter_le (fun c => !inS SIG c) (z.cps.toList.take i)
                have : sizeLine = 16777216 := by decide +kernel
                rw [List.length_map]
                rw [List.length_take, str_len] at e1
                omega
              · rw [upd_ne (ne_of_none e nD)]
                exact s3 b o e
              · rw [upd_same, take_flt hc', if_pos (by simp [hS]), List.map_append]
                rfl
          · rintro H2 ⟨s3, h2⟩
            refine ⟨Nat.zero_le _, fun e he => ?_⟩
            have s4 : Same H2 (upd H2 e (.lst [])) := same_upd he
            rw [List.take_of_length_le (by simp)] at h2
            refine ⟨.list ((z.cps.toList.filter fun c => !inS SIG c).map fun c => PyData.str ⟨#[c]⟩), .list [], .lst (SqL.of (s4 _ _ h2)) (dp_signs _), .lst (SqL.of upd_same) .nil, shaped_signs _ (fun c hc => hz.ok c (List.mem_filter.mp hc |>.1)), rfl, ?_⟩
            rw [eqv_signs_nil]
            have e : ((z.cps.toList).filter fun c => !inS SIG c).isEmpty = isName z := by
              rw [filter_all]
              simp [isName, hc2, hL, hR, l2, show 1 ≤ z.length by omega]
            rw [e]
            exact q _ (s1.trans (s3.trans s4))
    · rw [e1]
      refine iteT ?_
      have := q H (Same.refl H)
      rw [e2] at this
      exact this
theorem ok__law_text (T : Txt K mg) : FnOk P w K mg base CX0 2 T.f__law_text T.fd__law_text ["_law_pen_here"] (spText) := by
  have G__law_draw := ok__law_draw (P := P) (w := w) (base := base) T
  have nd := sc__law_text.nd
  refine T.F__law_text.ok sc__law_text (fun vs H Q E h => ?_) (fun cdv A outer s H vs Q E hr h => ?_)
  · obtain ⟨p, n, rfl, _⟩ := h; rfl
  · obtain ⟨p, n, rfl, P0, hn, q⟩ := h
    have hu := hu_of hr
    refine ⟨_, (pss_cons (ps_asg (pe_tup (pa_cons pe_str (pa_cons pe_str pa_nil))) (pg_tup rfl (pgs_cons (pg_name (i := 1) nd rfl (Or.inl rfl)) (pgs_cons (pg_name (i := 2) nd rfl (Or.inl rfl)) pgs_nil))))
        (pss_cons (ps_set (i := 3) nd rfl (Or.inl rfl) (pe_ifExp (pt_cmpR op_eq (pe_call (G__law_draw) (hr.mono (by decide)) (by rfl) T.m__law_draw T.F__law_draw.kp T.b__law_draw .nil pass0 (pa_cons (pv 0) (pa_cons pe_int pa_nil))) pe_int (nomark _)) pe_str (pe_ix ix_str (pv 1) (pe_call (G__law_draw) (hr.mono (by decide)) (by rfl) T.m__law_draw T.F__law_draw.kp T.b__law_draw .nil pass0 (pa_cons (pv 0) (pa_cons pe_int pa_nil))) (fun _ _ => rfl))))
        (pss_cons (ps_for PassesOwn.never rfl (pi_range1 rfl T.n_range (pa_cons (pe_call (G__law_draw) (hr.mono (by decide)) (by rfl) T.m__law_draw T.F__law_draw.kp T.b__law_draw .nil pass0 (pa_cons (pv 0) (pa_cons pe_int pa_nil))) pa_nil)) (pg_name (i := 4) nd rfl (Or.inl rfl)) (pss_one (ps_set (i := 3) nd rfl (Or.inl rfl) (pe_op op_add_str (pv 3) (pe_ix ix_str (pv 2) (pe_call (G__law_draw) (hr.mono (by decide)) (by rfl) T.m__law_draw T.F__law_draw.kp T.b__law_draw .nil pass0 (pa_cons (pv 0) (pa_cons pe_int pa_nil))) (fun _ _ => rfl))))))
        (pss_cons (ps_if (pt_cmpR op_eq (pe_call (G__law_draw) (hr.mono (by decide)) (by rfl) T.m__law_draw T.F__law_draw.kp T.b__law_draw .nil pass0 (pa_cons (pv 0) (pa_cons pe_int pa_nil))) pe_int (nomark _)) (pss_cons (ps_set (i := 5) nd rfl (Or.inl rfl) pe_str)
        (pss_cons (ps_set (i := 6) nd rfl (Or.inl rfl) (pe_call (G__law_draw) (hr.mono (by decide)) (by rfl) T.m__law_draw T.F__law_draw.kp T.b__law_draw .nil pass0 (pa_cons (pv 0) (pa_cons (pe_op op_add (pe_callB call_len_str (by rfl) T.n_len (by decide +kernel) (pa_cons (pv 3) pa_nil)) pe_int) pa_nil))))
        (pss_one (ps_set (i := 3) nd rfl (Or.inl rfl) (pe_op op_add_str (pe_op op_add_str (pe_slice sl_str (pv 3) po_none (po_some (pv 6))) (pe_ix ix_str (pv 5) (pe_call (G__law_draw) (hr.mono (by decide)) (by rfl) T.m__law_draw T.F__law_draw.kp T.b__law_draw .nil pass0 (pa_cons (pv 0) (pa_cons (pe_callB call_len_str (by rfl) T.n_len (by decide +kernel) (pa_cons (pv 5) pa_nil)) pa_nil))) (fun _ _ => rfl))) (pe_slice sl_str (pv 3) (po_some (pe_op op_add (pv 6) (pe_call (G__law_draw) (hr.mono (by decide)) (by rfl) T.m__law_draw T.F__law_draw.kp T.b__law_draw .nil pass0 (pa_cons (pv 0) (pa_cons pe_int pa_nil))))) po_none)))))) pss_nil)
        (pss_one (ps_ret (pv 3))))))), ?_⟩
    have tS : Tx 7 "az09mt5" := ⟨by decide +kernel, by decide +kernel⟩
    have tO : Tx 40 " !+-.:=?@AZ[_{|}~/'#0a\"\n" := ⟨by decide +kernel, by decide +kernel⟩
    have tL : Tx 26 "abcdefghijklmnopqrstuvwxyz" := ⟨by decide +kernel, by decide +kernel⟩
    refine ⟨line_of (by decide), fun tt nt => ?_⟩
    refine ⟨tt, _, rfl, SqT.of upd_same, rfl, _, _, rfl, _, _, rfl, rfl, ?_⟩
    have P0 := P0.same (same_upd (o := .tup [.str "abcdefghijklmnopqrstuvwxyz", .str "az09mt5"]) nt)
    have kt : Keep p H (upd H tt (.tup [.str "abcdefghijklmnopqrstuvwxyz", .str "az09mt5"])) := same_keep (same_upd nt)
    refine ⟨_, rfl, p, 12, n, rfl, P0, by omega, by decide, by decide, fun r H1 r0 r1 P1 k1 => ?_⟩
    have k1 := kt.trans k1
    refine ⟨rfl, _, rfl, ?_⟩
    refine ite2 (fun e0 => ?_) (fun e0 => ?_)
    · have tz : Tx 1 "" := ⟨by decide +kernel, by decide +kernel⟩
      refine ⟨_, rfl, p, 10, _, rfl, P1, by omega, by decide, by decide, fun r2 H2 r20 r21 P2 k2 => ?_⟩
      refine ⟨_, rfl, by omega, by omega, for_range (n := r2.toNat) (fun i σ H3 => ∃ (z : Str) (v : Option V), σ = [some (.ref p), some (.str "abcdefghijklmnopqrstuvwxyz"), some (.str "az09mt5"), some (.str z), v, none, none] ∧ Tx (1 + i) z ∧ Pen H3 p (n + 3 + i) ∧ Keep p H H3) ⟨_, none, rfl, tz, P2.mono (by omega), k1.trans k2⟩ ?_ ?_⟩
      · rintro i σ H3 hi ⟨z, v, rfl, tz3, P3, k3⟩
        refine ⟨_, rfl, _, rfl, _, rfl, p, 7, _, rfl, P3, by omega, by decide, by decide, fun r4 H4 r40 r41 P4 k4 => ?_⟩
        obtain ⟨j, rfl⟩ : ∃ j : Nat, r4 = (j : Int) := ⟨r4.toNat, by omega⟩
        obtain ⟨c, hc, tc⟩ := tS.at (j := j) (by show j < 7; omega)
        refine ⟨_, _, c, rfl, rfl, tS.line (by decide), hc, _, _, rfl, rfl, ?_, ?_⟩
        · have := (tz3.app tc).line (by omega)
          rw [app_len] at this
          exact this
        · exact ⟨_, some (.int (0 + (i : Nat))), rfl, (tz3.app tc).mono (by omega), P4.mono (by omega), k3.trans k4⟩
      · rintro σ H3 ⟨z, v, rfl, tz3, P3, k3⟩
        have tz4 : Tx 10 z := tz3.mono (by omega)
        refine ⟨_, rfl, p, 4, _, rfl, P3, by omega, by decide, by decide, fun r4 H4 r40 r41 P4 k4 => ?_⟩
        refine ⟨rfl, _, rfl, ?_⟩
        refine ite2 (fun e1 => ?_) (fun e1 => ?_)
        · have hlz := tz4.len
          refine ⟨_, rfl, _, rfl, _, rfl, tz4.line (by decide), _, _, rfl, rfl, p, _, _, rfl, P4, by omega, by omega, by omega, fun r5 H5 r50 r51 P5 k5 => ?_⟩
          refine ⟨_, rfl, _, rfl, _, rfl, _, rfl, tz4.line (by decide), _, rfl, _, rfl, _, rfl, _, rfl, tO.line (by decide), p, _, _, rfl, P5, by omega, by decide +kernel, by decide +kernel, fun r6 H6 r60 r61 P6 k6 => ?_⟩
          obtain ⟨j, rfl⟩ : ∃ j : Nat, r6 = (j : Int) := ⟨r6.toNat, by omega⟩
          obtain ⟨c, hc, tc⟩ := tO.at (j := j) (by omega)
          have t1 := (tz4.cut none (some r5)).app tc
          refine ⟨_, _, c, rfl, rfl, tO.line (by decide), hc, _, _, rfl, rfl, ?_, ?_⟩
          · have := t1.line (by decide)
            rw [app_len] at this
            exact this
          · refine ⟨_, rfl, _, rfl, _, rfl, p, 2, _, rfl, P6, by omega, by decide, by decide, fun r7 H7 r70 r71 P7 k7 => ?_⟩
            have t2 := t1.app (tz4.cut (some (r5 + r7)) none)
            refine ⟨_, _, rfl, rfl, _, rfl, _, rfl, tz4.line (by decide), _, _, rfl, rfl, ?_, ?_⟩
            · have := t2.line (by decide)
              rw [app_len] at this
              exact this
            · refine ⟨_, rfl, ?_⟩
              exact q _ _ (t2.mono (by decide)) (P7.mono (by omega)) (k3.trans (k4.trans (k5.trans (k6.trans k7))))
        · refine ⟨_, rfl, ?_⟩
          exact q _ _ (tz4.mono (by decide)) (P4.mono (by omega)) (k3.trans k4)
    · refine ⟨_, rfl, _, rfl, p, 26, _, rfl, P1, by omega, by decide, by decide, fun r9 H9 r90 r91 P9 k9 => ?_⟩
      obtain ⟨j, rfl⟩ : ∃ j : Nat, r9 = (j : Int) := ⟨r9.toNat, by omega⟩
      obtain ⟨c, hc, tz⟩ := tL.at (j := j) (by show j < 26; omega)
      refine ⟨_, _, c, rfl, rfl, tL.line (by decide), hc, ?_⟩
      have k1 := k1.trans k9
      have P1 := P9
      refine ⟨_, rfl, p, 10, _, rfl, P1, by omega, by decide, by decide, fun r2 H2 r20 r21 P2 k2 => ?_⟩
      refine ⟨_, rfl, by omega, by omega, for_range (n := r2.toNat) (fun i σ H3 => ∃ (z : Str) (v : Option V), σ = [some (.ref p), some (.str "abcdefghijklmnopqrstuvwxyz"), some (.str "az09mt5"), some (.str z), v, none, none] ∧ Tx (1 + i) z ∧ Pen H3 p (n + 3 + i) ∧ Keep p H H3) ⟨_, none, rfl, tz, P2.mono (by omega), k1.trans k2⟩ ?_ ?_⟩
      · rintro i σ H3 hi ⟨z, v, rfl, tz3, P3, k3⟩
        refine ⟨_, rfl, _, rfl, _, rfl, p, 7, _, rfl, P3, by omega, by decide, by decide, fun r4 H4 r40 r41 P4 k4 => ?_⟩
        obtain ⟨j, rfl⟩ : ∃ j : Nat, r4 = (j : Int) := ⟨r4.toNat, by omega⟩
        obtain ⟨c, hc, tc⟩ := tS.at (j := j) (by show j < 7; omega)
        refine ⟨_, _, c, rfl, rfl, tS.line (by decide), hc, _, _, rfl, rfl, ?_, ?_⟩
        · have := (tz3.app tc).line (by omega)
          rw [app_len] at this
          exact this
        · exact ⟨_, some (.int (0 + (i : Nat))), rfl, (tz3.app tc).mono (by omega), P4.mono (by omega), k3.trans k4⟩
      · rintro σ H3 ⟨z, v, rfl, tz3, P3, k3⟩
        have tz4 : Tx 10 z := tz3.mono (by omega)
        refine ⟨_, rfl, p, 4, _, rfl, P3, by omega, by decide, by decide, fun r4 H4 r40 r41 P4 k4 => ?_⟩
        refine ⟨rfl, _, rfl, ?_⟩
        refine ite2 (fun e1 => ?_) (fun e1 => ?_)
        · have hlz := tz4.len
          refine ⟨_, rfl, _, rfl, _, rfl, tz4.line (by decide), _, _, rfl, rfl, p, _, _, rfl, P4, by omega, by omega, by omega, fun r5 H5 r50 r51 P5 k5 => ?_⟩
          refine ⟨_, rfl, _, rfl, _, rfl, _, rfl, tz4.line (by decide), _, rfl, _, rfl, _, rfl, _, rfl, tO.line (by decide), p, _, _, rfl, P5, by omega, by decide +kernel, by decide +kernel, fun r6 H6 r60 r61 P6 k6 => ?_⟩
          obtain ⟨j, rfl⟩ : ∃ j : Nat, r6 = (j : Int) := ⟨r6.toNat, by omega⟩
          obtain ⟨c, hc, tc⟩ := tO.at (j := j) (by omega)
          have t1 := (tz4.cut none (some r5)).app tc
          refine ⟨_, _, c, rfl, rfl, tO.line (by decide), hc, _, _, rfl, rfl, ?_, ?_⟩
          · have := t1.line (by decide)
            rw [app_len] at this
            exact this
          · refine ⟨_, rfl, _, rfl, _, rfl, p, 2, _, rfl, P6, by omega, by decide, by decide, fun r7 H7 r70 r71 P7 k7 => ?_⟩
            have t2 := t1.app (tz4.cut (some (r5 + r7)) none)
            refine ⟨_, _, rfl, rfl, _, rfl, _, rfl, tz4.line (by decide), _, _, rfl, rfl, ?_, ?_⟩
            · have := t2.line (by decide)
              rw [app_len] at this
              exact this
            · refine ⟨_, rfl, ?_⟩
              exact q _ _ (t2.mono (by decide)) (P7.mono (by omega)) (k3.trans (k4.trans (k5.trans (k6.trans k7))))
        · refine ⟨_, rfl, ?_⟩
          exact q _ _ (tz4.mono (by decide)) (P4.mono (by omega)) (k3.trans k4)
theorem ok__law_near (T : Txt K mg) : FnOk P w K mg base CX0 3 T.f__law_near T.fd__law_near ["_law_pen_here"] (spText) := by
  have G__law_draw := ok__law_draw (P := P) (w := w) (base := base) T
  have G__law_pick := ok__law_pick (P := P) (w := w) (base := base) T
  have nd := sc__law_near.nd
  refine T.F__law_near.ok sc__law_near (fun vs H Q E h => ?_) (fun cdv A outer s H vs Q E hr h => ?_)
  · obtain ⟨p, n, rfl, _⟩ := h; rfl
  · obtain ⟨p, n, rfl, P0, hn, q⟩ := h
    have hu := hu_of hr
    refine ⟨_, (pss_cons (ps_set (i := 1) nd rfl (Or.inl rfl) (pe_call (G__law_pick) (hr.mono (by decide)) (by rfl) T.m__law_pick T.F__law_pick.kp T.b__law_pick .nil pass0 (pa_cons (pv 0) (pa_cons (pe_lst (pa_cons pe_str (pa_cons pe_str (pa_cons pe_str (pa_cons pe_str (pa_cons pe_str pa_nil)))))) pa_nil))))
        (pss_cons (ps_set (i := 2) nd rfl (Or.inl rfl) (pe_call (G__law_draw) (hr.mono (by decide)) (by rfl) T.m__law_draw T.F__law_draw.kp T.b__law_draw .nil pass0 (pa_cons (pv 0) (pa_cons (pe_callB call_len_str (by rfl) T.n_len (by decide +kernel) (pa_cons (pv 1) pa_nil)) pa_nil))))
        (pss_cons (ps_set (i := 3) nd rfl (Or.inl rfl) (pe_lst (pa_cons (pv 1) (pa_cons (pe_op op_add_str (pv 1) pe_str) (pa_cons (pe_op op_add_str pe_str (pv 1)) (pa_cons (pe_op op_add_str (pe_slice sl_str (pv 1) po_none (po_some (pv 2))) (pe_slice sl_str (pv 1) (po_some (pe_op op_add (pv 2) pe_int)) po_none)) (pa_cons (pe_op op_add_str (pe_op op_add_str (pe_slice sl_str (pv 1) po_none (po_some (pv 2))) pe_str) (pe_slice sl_str (pv 1) (po_some (pe_op op_add (pv 2) pe_int)) po_none)) (pa_cons (pe_op op_add_str (pv 1) pe_str) pa_nil))))))))
        (pss_one (ps_ret (pe_call (G__law_pick) (hr.mono (by decide)) (by rfl) T.m__law_pick T.F__law_pick.kp T.b__law_pick .nil pass0 (pa_cons (pv 0) (pa_cons (pe_op op_cat (pv 3) (pe_lst (pa_cons (pe_op op_add_str pe_str (pv 1)) (pa_cons (pe_op op_add_str (pv 1) (pv 1)) (pa_cons (pe_op op_add_str (pv 1) pe_str) (pa_cons (pe_op op_add_str pe_str (pv 1)) pa_nil)))))) pa_nil)))))))), ?_⟩
    have tx1 : ∀ c : Nat, c < 1114112 → Tx 1 ⟨#[c]⟩ := fun c h => ⟨Nat.le_refl 1, fun d hd => by rw [show d = c by simpa using hd]; exact h⟩
    have t_s : Tx 1 "s" := ⟨by decide +kernel, by decide +kernel⟩
    have t_a : Tx 1 "a" := ⟨by decide +kernel, by decide +kernel⟩
    have t_x : Tx 1 "x" := ⟨by decide +kernel, by decide +kernel⟩
    have t_1 : Tx 1 "1" := ⟨by decide +kernel, by decide +kernel⟩
    have t_b : Tx 1 " " := ⟨by decide +kernel, by decide +kernel⟩
    refine ⟨_, rfl, line_of (by decide), fun l nl => ?_⟩
    refine ⟨p, l, RES, n, rfl, P0.ne nl, P0.same (same_upd nl), by omega, SqL.of upd_same, by decide, by decide, fun v H1 mem P1 k1 => ?_⟩
    have k1 := (same_keep (p := p) (same_upd nl)).trans k1
    obtain ⟨z, rfl, tz, hz2⟩ := near_word mem
    have hz4 := tz.len
    refine ⟨_, rfl, _, rfl, _, rfl, tz.line (by decide), p, _, _, rfl, P1, by omega, by omega, by omega, fun r H2 r0 r1 P2 k2 => ?_⟩
    have u1 := tz.app t_s
    have u2 := t_a.app tz
    have u3 := (tz.cut none (some r)).app (tz.cut (some (r + 1)) none)
    have u4 := (tz.cut none (some r)).app t_x
    have u5 := u4.app (tz.cut (some (r + 1)) none)
    have u6 := tz.app t_1
    have u7 := t_1.app tz
    have u8 := tz.app tz
    have u9 := tz.app t_b
    have u0 := t_b.app tz
    have li : ∀ {x y : Str} {m : Nat}, Tx m (x ++ y) → m ≤ 100 → x.length + y.length ≤ sizeLine := fun t h => by
      rw [← app_len]
      exact t.line (by omega)
    refine ⟨_, rfl, _, rfl, _, _, rfl, rfl, li u1 (by decide), _, rfl, _, _, rfl, rfl, li u2 (by decide), ?_⟩
    refine ⟨_, rfl, _, rfl, _, rfl, _, rfl, tz.line (by decide), _, rfl, _, rfl, _, _, rfl, rfl, _, rfl, _, rfl, tz.line (by decide), _, _, rfl, rfl, li u3 (by decide), ?_⟩
    refine ⟨_, rfl, _, rfl, _, rfl, _, rfl, tz.line (by decide), _, _, rfl, rfl, li u4 (by decide), _, rfl, _, rfl, _, _, rfl, rfl, _, rfl, _, rfl, tz.line (by decide), _, _, rfl, rfl, li u5 (by decide), ?_⟩
    refine ⟨_, rfl, _, _, rfl, rfl, li u6 (by decide), line_of (by simp), fun m nm => ?_⟩
    have P3 := P2.same (same_upd (o := .lst [.str z, .str (z ++ "s"), .str ("a" ++ z), .str (cutS z none (some r) ++ cutS z (some (r + 1)) none), .str (cutS z none (some r) ++ "x" ++ cutS z (some (r + 1)) none), .str (z ++ "1")]) nm)
    have s3 : Same H2 (upd H2 m (.lst [.str z, .str (z ++ "s"), .str ("a" ++ z), .str (cutS z none (some r) ++ cutS z (some (r + 1)) none), .str (cutS z none (some r) ++ "x" ++ cutS z (some (r + 1)) none), .str (z ++ "1")])) := same_upd nm
    have e3 : (upd H2 m (.lst [.str z, .str (z ++ "s"), .str ("a" ++ z), .str (cutS z none (some r) ++ cutS z (some (r + 1)) none), .str (cutS z none (some r) ++ "x" ++ cutS z (some (r + 1)) none), .str (z ++ "1")])) m = some (.lst [.str z, .str (z ++ "s"), .str ("a" ++ z), .str (cutS z none (some r) ++ cutS z (some (r + 1)) none), .str (cutS z none (some r) ++ "x" ++ cutS z (some (r + 1)) none), .str (z ++ "1")]) := upd_same
    refine ⟨_, rfl, _, rfl, _, rfl, _, _, rfl, rfl, li u7 (by decide), _, rfl, _, rfl, _, _, rfl, rfl, li u8 (by decide), _, rfl, _, _, rfl, rfl, li u9 (by decide), _, rfl, _, _, rfl, rfl, li u0 (by decide), line_of (by simp), fun b nb => ?_⟩
    refine ⟨m, b, _, _, rfl, rfl, (same_upd nb) _ _ e3, upd_same, line_of (by simp), fun d nd2 => ?_⟩
    refine ⟨p, d, _, _, rfl, (P3.same (same_upd nb)).ne nd2, (P3.same (same_upd nb)).same (same_upd nd2), by omega, SqL.of upd_same, by simp, by simp, fun v H' mem P' k' => ?_⟩
    have all := allV_app (P := TxV) (allT_cons ⟨_, rfl, tz.mono (by decide)⟩ (allT_cons ⟨_, rfl, u1.mono (by decide)⟩ (allT_cons ⟨_, rfl, u2.mono (by decide)⟩ (allT_cons ⟨_, rfl, u3.mono (by decide)⟩ (allT_cons ⟨_, rfl, u5.mono (by decide)⟩ (allT_cons ⟨_, rfl, u6.mono (by decide)⟩ allT_nil))))))
      (allT_cons ⟨_, rfl, u7.mono (by decide)⟩ (allT_cons ⟨_, rfl, u8.mono (by decide)⟩ (allT_cons ⟨_, rfl, u9.mono (by decide)⟩ (allT_cons ⟨_, rfl, u0.mono (by decide)⟩ allT_nil))))
    obtain ⟨y, rfl, ty⟩ := all v mem
    refine q y H' ty (P'.mono (by omega)) (k1.trans (k2.trans ((same_keep s3).trans ((same_keep (same_upd nb)).trans ((same_keep (same_upd nd2)).trans k')))))
theorem ok__law_odd (T : Txt K mg) : FnOk P w K mg base CX0 3 T.f__law_odd T.fd__law_odd ["_law_pen_here"] (spOdd) := by
  have G__law_draw := ok__law_draw (P := P) (w := w) (base := base) T
  have G__law_pick := ok__law_pick (P := P) (w := w) (base := base) T
  have nd := sc__law_odd.nd
  refine T.F__law_odd.ok sc__law_odd (fun vs H Q E h => ?_) (fun cdv A outer s H vs Q E hr h => ?_)
  · obtain ⟨p, n, rfl, _⟩ := h; rfl
  · obtain ⟨p, n, rfl, P0, hn, q⟩ := h
    have hu := hu_of hr
    refine ⟨_, (pss_cons (ps_set (i := 1) nd rfl (Or.inl rfl) (pe_lst (pa_cons pe_non (pa_cons pe_bl (pa_cons pe_bl (pa_cons pe_int (pa_cons pe_int (pa_cons (pe_op op_pow pe_int pe_int) (pa_cons (pe_tup pa_nil) (pa_cons (pe_tup (pa_cons pe_str pa_nil)) (pa_cons (pe_lst (pa_cons pe_str pa_nil)) (pa_cons pe_dnewK (pa_cons (pe_disp (pps_cons pe_str pe_int pps_nil) (by rfl) (by rfl) (fun z => by cases z) (by decide)) (pa_cons (pe_op op_mul_strB pe_str pe_int) (pa_cons (pe_op op_mul_strB pe_str pe_int) (pa_cons (pe_op op_mul_strB pe_str pe_int) (pa_cons pe_str pa_nil)))))))))))))))))
        (pss_one (ps_ret (pe_call (G__law_pick) (hr.mono (by decide)) (by rfl) T.m__law_pick T.F__law_pick.kp T.b__law_pick .nil pass0 (pa_cons (pv 0) (pa_cons (pe_op op_cat (pv 1) (pe_lst (pa_cons (pe_op op_mul_strB pe_str (pe_call (G__law_draw) (hr.mono (by decide)) (by rfl) T.m__law_draw T.F__law_draw.kp T.b__law_draw .nil pass0 (pa_cons (pv 0) (pa_cons pe_int pa_nil)))) (pa_cons pe_str (pa_cons pe_str (pa_cons (pe_lst (pa_cons (pe_lst pa_nil) pa_nil)) (pa_cons (pe_tup (pa_cons (pe_tup pa_nil) (pa_cons (pe_tup pa_nil) pa_nil))) pa_nil))))))) pa_nil)))))), ?_⟩
    have kk : Keep p H H := Keep.refl _ _
    have t_a : Tx 1 "a" := ⟨by decide +kernel, by decide +kernel⟩
    refine ⟨_, _, rfl, rfl, ⟨by decide, by decide, by decide⟩, line_of (by decide), fun a1 n1 => ?_⟩
    have S_a1 : Same H (upd H a1 (.tup [])) := same_upd n1
    have E_a1 : (upd H a1 (.tup [])) a1 = some (.tup []) := upd_same
    have N_a1 : a1 ≠ p := P0.ne n1
    have P_a1 := P0.same S_a1
    generalize upd H a1 (.tup []) = H_a1 at *
    have V_a1 : Tv p H_a1 (.ref a1) := .tup E_a1 N_a1
    have kk := kk.trans (same_keep S_a1)
    refine ⟨line_of (by decide), fun a2 n2 => ?_⟩
    have S_a2 : Same H_a1 (upd H_a1 a2 (.tup [.str "a"])) := same_upd n2
    have E_a2 : (upd H_a1 a2 (.tup [.str "a"])) a2 = some (.tup [.str "a"]) := upd_same
    have N_a2 : a2 ≠ p := P_a1.ne n2
    have P_a2 := P_a1.same S_a2
    generalize upd H_a1 a2 (.tup [.str "a"]) = H_a2 at *
    have V_a1 := V_a1.keep (same_keep S_a2)
    have V_a2 : Tv p H_a2 (.ref a2) := .tup E_a2 N_a2
    have kk := kk.trans (same_keep S_a2)
    refine ⟨line_of (by decide), fun a3 n3 => ?_⟩
    have S_a3 : Same H_a2 (upd H_a2 a3 (.lst [.str "a"])) := same_upd n3
    have E_a3 : (upd H_a2 a3 (.lst [.str "a"])) a3 = some (.lst [.str "a"]) := upd_same
    have N_a3 : a3 ≠ p := P_a2.ne n3
    have P_a3 := P_a2.same S_a3
    generalize upd H_a2 a3 (.lst [.str "a"]) = H_a3 at *
    have V_a1 := V_a1.keep (same_keep S_a3)
    have V_a2 := V_a2.keep (same_keep S_a3)
    have V_a3 : Tv p H_a3 (.ref a3) := .lst E_a3 N_a3
    have kk := kk.trans (same_keep S_a3)
    refine fun a4 n4 => ?_
    have S_a4 : Same H_a3 (upd H_a3 a4 (.dK [])) := same_upd n4
    have E_a4 : (upd H_a3 a4 (.dK [])) a4 = some (.dK []) := upd_same
    have N_a4 : a4 ≠ p := P_a3.ne n4
    have P_a4 := P_a3.same S_a4
    generalize upd H_a3 a4 (.dK []) = H_a4 at *
    have V_a1 := V_a1.keep (same_keep S_a4)
    have V_a2 := V_a2.keep (same_keep S_a4)
    have V_a3 := V_a3.keep (same_keep S_a4)
    have V_a4 : Tv p H_a4 (.ref a4) := .dK E_a4 N_a4
    have kk := kk.trans (same_keep S_a4)
    refine fun a5 n5 => ?_
    refine ⟨upd_same, [(Sum.inr "a", .int 1)], rfl, by decide, ?_⟩
    rw [upd_upd]
    have S_a5 : Same H_a4 (upd H_a4 a5 (.dK (mergeK [] [(Sum.inr "a", V.int 1)]))) := same_upd n5
    have E_a5 : (upd H_a4 a5 (.dK (mergeK [] [(Sum.inr "a", V.int 1)]))) a5 = some (.dK (mergeK [] [(Sum.inr "a", V.int 1)])) := upd_same
    have N_a5 : a5 ≠ p := P_a4.ne n5
    have P_a5 := P_a4.same S_a5
    generalize upd H_a4 a5 (.dK (mergeK [] [(Sum.inr "a", V.int 1)])) = H_a5 at *
    have V_a1 := V_a1.keep (same_keep S_a5)
    have V_a2 := V_a2.keep (same_keep S_a5)
    have V_a3 := V_a3.keep (same_keep S_a5)
    have V_a4 := V_a4.keep (same_keep S_a5)
    have V_a5 : Tv p H_a5 (.ref a5) := .dK E_a5 N_a5
    have kk := kk.trans (same_keep S_a5)
    refine ⟨_, _, rfl, rfl, by decide, by decide, by decide +kernel, t_a, fun z1 t1 => ?_⟩
    refine ⟨_, _, rfl, rfl, by decide, by decide, by decide +kernel, t_a, fun z2 t2 => ?_⟩
    refine ⟨_, _, rfl, rfl, by decide, by decide, by decide +kernel, t_a, fun z3 t3 => ?_⟩
    refine ⟨line_of (by simp), fun m nm => ?_⟩
    have S_m : Same H_a5 (upd H_a5 m (.lst [.non, .bl true, .bl false, .int 0, .int 7, .int ((10 : Int) ^ Int.toNat 59), .ref a1, .ref a2, .ref a3, .ref a4, .ref a5, .str z1, .str z2, .str z3, .str "7a"])) := same_upd nm
    have E_m : (upd H_a5 m (.lst [.non, .bl true, .bl false, .int 0, .int 7, .int ((10 : Int) ^ Int.toNat 59), .ref a1, .ref a2, .ref a3, .ref a4, .ref a5, .str z1, .str z2, .str z3, .str "7a"])) m = some (.lst [.non, .bl true, .bl false, .int 0, .int 7, .int ((10 : Int) ^ Int.toNat 59), .ref a1, .ref a2, .ref a3, .ref a4, .ref a5, .str z1, .str z2, .str z3, .str "7a"]) := upd_same
    have N_m : m ≠ p := P_a5.ne nm
    have P_m := P_a5.same S_m
    generalize upd H_a5 m (.lst [.non, .bl true, .bl false, .int 0, .int 7, .int ((10 : Int) ^ Int.toNat 59), .ref a1, .ref a2, .ref a3, .ref a4, .ref a5, .str z1, .str z2, .str z3, .str "7a"]) = H_m at *
    have V_a1 := V_a1.keep (same_keep S_m)
    have V_a2 := V_a2.keep (same_keep S_m)
    have V_a3 := V_a3.keep (same_keep S_m)
    have V_a4 := V_a4.keep (same_keep S_m)
    have V_a5 := V_a5.keep (same_keep S_m)
    have kk := kk.trans (same_keep S_m)
    refine ⟨_, rfl, _, rfl, _, rfl, p, 12, _, rfl, P_m, by omega, by decide, by decide, fun r HR r0 r1 PR kR => ?_⟩
    have E_m := kR _ _ E_m N_m
    have V_a1 := V_a1.keep kR
    have V_a2 := V_a2.keep kR
    have V_a3 := V_a3.keep kR
    have V_a4 := V_a4.keep kR
    have V_a5 := V_a5.keep kR
    have kk := kk.trans kR
    refine ⟨_, _, rfl, rfl, r0, by omega, by decide +kernel, t_a, fun z4 t4 => ?_⟩
    refine ⟨line_of (by decide), fun b1 m1 => ?_⟩
    have S_b1 : Same HR (upd HR b1 (.lst [])) := same_upd m1
    have E_b1 : (upd HR b1 (.lst [])) b1 = some (.lst []) := upd_same
    have N_b1 : b1 ≠ p := PR.ne m1
    have P_b1 := PR.same S_b1
    generalize upd HR b1 (.lst []) = H_b1 at *
    have V_a1 := V_a1.keep (same_keep S_b1)
    have V_a2 := V_a2.keep (same_keep S_b1)
    have V_a3 := V_a3.keep (same_keep S_b1)
    have V_a4 := V_a4.keep (same_keep S_b1)
    have V_a5 := V_a5.keep (same_keep S_b1)
    have V_b1 : Tv p H_b1 (.ref b1) := .lst E_b1 N_b1
    have kk := kk.trans (same_keep S_b1)
    have E_m := S_b1 _ _ E_m
    refine ⟨line_of (by simp), fun b2 m2 => ?_⟩
    have S_b2 : Same H_b1 (upd H_b1 b2 (.lst [.ref b1])) := same_upd m2
    have E_b2 : (upd H_b1 b2 (.lst [.ref b1])) b2 = some (.lst [.ref b1]) := upd_same
    have N_b2 : b2 ≠ p := P_b1.ne m2
    have P_b2 := P_b1.same S_b2
    generalize upd H_b1 b2 (.lst [.ref b1]) = H_b2 at *
    have V_a1 := V_a1.keep (same_keep S_b2)
    have V_a2 := V_a2.keep (same_keep S_b2)
    have V_a3 := V_a3.keep (same_keep S_b2)
    have V_a4 := V_a4.keep (same_keep S_b2)
    have V_a5 := V_a5.keep (same_keep S_b2)
    have V_b1 := V_b1.keep (same_keep S_b2)
    have V_b2 : Tv p H_b2 (.ref b2) := .lst E_b2 N_b2
    have kk := kk.trans (same_keep S_b2)
    have E_m := S_b2 _ _ E_m
    refine ⟨line_of (by decide), fun b3 m3 => ?_⟩
    have S_b3 : Same H_b2 (upd H_b2 b3 (.tup [])) := same_upd m3
    have E_b3 : (upd H_b2 b3 (.tup [])) b3 = some (.tup []) := upd_same
    have N_b3 : b3 ≠ p := P_b2.ne m3
    have P_b3 := P_b2.same S_b3
    generalize upd H_b2 b3 (.tup []) = H_b3 at *
    have V_a1 := V_a1.keep (same_keep S_b3)
    have V_a2 := V_a2.keep (same_keep S_b3)
    have V_a3 := V_a3.keep (same_keep S_b3)
    have V_a4 := V_a4.keep (same_keep S_b3)
    have V_a5 := V_a5.keep (same_keep S_b3)
    have V_b1 := V_b1.keep (same_keep S_b3)
    have V_b2 := V_b2.keep (same_keep S_b3)
    have V_b3 : Tv p H_b3 (.ref b3) := .tup E_b3 N_b3
    have kk := kk.trans (same_keep S_b3)
    have E_m := S_b3 _ _ E_m
    refine ⟨line_of (by decide), fun b4 m4 => ?_⟩
    have S_b4 : Same H_b3 (upd H_b3 b4 (.tup [])) := same_upd m4
    have E_b4 : (upd H_b3 b4 (.tup [])) b4 = some (.tup []) := upd_same
    have N_b4 : b4 ≠ p := P_b3.ne m4
    have P_b4 := P_b3.same S_b4
    generalize upd H_b3 b4 (.tup []) = H_b4 at *
    have V_a1 := V_a1.keep (same_keep S_b4)
    have V_a2 := V_a2.keep (same_keep S_b4)
    have V_a3 := V_a3.keep (same_keep S_b4)
    have V_a4 := V_a4.keep (same_keep S_b4)
    have V_a5 := V_a5.keep (same_keep S_b4)
    have V_b1 := V_b1.keep (same_keep S_b4)
    have V_b2 := V_b2.keep (same_keep S_b4)
    have V_b3 := V_b3.keep (same_keep S_b4)
    have V_b4 : Tv p H_b4 (.ref b4) := .tup E_b4 N_b4
    have kk := kk.trans (same_keep S_b4)
    have E_m := S_b4 _ _ E_m
    refine ⟨line_of (by simp), fun b5 m5 => ?_⟩
    have S_b5 : Same H_b4 (upd H_b4 b5 (.tup [.ref b3, .ref b4])) := same_upd m5
    have E_b5 : (upd H_b4 b5 (.tup [.ref b3, .ref b4])) b5 = some (.tup [.ref b3, .ref b4]) := upd_same
    have N_b5 : b5 ≠ p := P_b4.ne m5
    have P_b5 := P_b4.same S_b5
    generalize upd H_b4 b5 (.tup [.ref b3, .ref b4]) = H_b5 at *
    have V_a1 := V_a1.keep (same_keep S_b5)
    have V_a2 := V_a2.keep (same_keep S_b5)
    have V_a3 := V_a3.keep (same_keep S_b5)
    have V_a4 := V_a4.keep (same_keep S_b5)
    have V_a5 := V_a5.keep (same_keep S_b5)
    have V_b1 := V_b1.keep (same_keep S_b5)
    have V_b2 := V_b2.keep (same_keep S_b5)
    have V_b3 := V_b3.keep (same_keep S_b5)
    have V_b4 := V_b4.keep (same_keep S_b5)
    have V_b5 : Tv p H_b5 (.ref b5) := .tup E_b5 N_b5
    have kk := kk.trans (same_keep S_b5)
    have E_m := S_b5 _ _ E_m
    refine ⟨line_of (by simp), fun b6 m6 => ?_⟩
    have S_b6 : Same H_b5 (upd H_b5 b6 (.lst [.str z4, .str "a9z0a9z0", .str "a9z0a9z0a", .ref b2, .ref b5])) := same_upd m6
    have E_b6 : (upd H_b5 b6 (.lst [.str z4, .str "a9z0a9z0", .str "a9z0a9z0a", .ref b2, .ref b5])) b6 = some (.lst [.str z4, .str "a9z0a9z0", .str "a9z0a9z0a", .ref b2, .ref b5]) := upd_same
    have N_b6 : b6 ≠ p := P_b5.ne m6
    have P_b6 := P_b5.same S_b6
    generalize upd H_b5 b6 (.lst [.str z4, .str "a9z0a9z0", .str "a9z0a9z0a", .ref b2, .ref b5]) = H_b6 at *
    have V_a1 := V_a1.keep (same_keep S_b6)
    have V_a2 := V_a2.keep (same_keep S_b6)
    have V_a3 := V_a3.keep (same_keep S_b6)
    have V_a4 := V_a4.keep (same_keep S_b6)
    have V_a5 := V_a5.keep (same_keep S_b6)
    have V_b1 := V_b1.keep (same_keep S_b6)
    have V_b2 := V_b2.keep (same_keep S_b6)
    have V_b3 := V_b3.keep (same_keep S_b6)
    have V_b4 := V_b4.keep (same_keep S_b6)
    have V_b5 := V_b5.keep (same_keep S_b6)
    have kk := kk.trans (same_keep S_b6)
    have E_m := S_b6 _ _ E_m
    refine ⟨m, b6, _, _, rfl, rfl, E_m, E_b6, line_of (by simp), fun b7 m7 => ?_⟩
    refine ⟨p, b7, _, _, rfl, P_b6.ne m7, P_b6.same (same_upd m7), by omega, SqL.of upd_same, by simp, by simp, fun v H' mem P' k' => ?_⟩
    have all := allV_app (P := Tv p H_b6) (allV_cons (.non) (allV_cons (.bl true) (allV_cons (.bl false) (allV_cons (.int 0) (allV_cons (.int 7) (allV_cons (.int ((10 : Int) ^ Int.toNat 59)) (allV_cons (V_a1) (allV_cons (V_a2) (allV_cons (V_a3) (allV_cons (V_a4) (allV_cons (V_a5) (allV_cons (.str _ (t1.mono (by decide))) (allV_cons (.str _ (t2.mono (by decide))) (allV_cons (.str _ (t3.mono (by decide))) (allV_cons (.str _ (⟨by decide +kernel, by decide +kernel⟩ : Tx 20000 "7a")) allV_nil))))))))))))))) (allV_cons (.str _ (t4.mono (by decide))) (allV_cons (.str _ (⟨by decide +kernel, by decide +kernel⟩ : Tx 20000 "a9z0a9z0")) (allV_cons (.str _ (⟨by decide +kernel, by decide +kernel⟩ : Tx 20000 "a9z0a9z0a")) (allV_cons (V_b2) (allV_cons (V_b5) allV_nil)))))
    refine q v H' ((all v mem).keep ((same_keep (same_upd m7)).trans k')) (P'.mono (by omega)) (kk.trans ((same_keep (same_upd m7)).trans k'))
theorem ok_law (T : Txt K mg) : FnOk P w K mg base CX0 4 T.f_law T.fd_law ["_law_script"] (spLaw K) := by
  have G__law_pen := ok__law_pen (P := P) (w := w) (base := base) T
  have G__law_text := ok__law_text (P := P) (w := w) (base := base) T
  have G__law_near := ok__law_near (P := P) (w := w) (base := base) T
  have G__law_odd := ok__law_odd (P := P) (w := w) (base := base) T
  have G_is_name := ok_is_name (P := P) (w := w) (base := base) T
  have G__law_due := ok__law_due (P := P) (w := w) (base := base) T
  have nd := sc_law.nd
  refine T.F_law.ok sc_law (fun vs H Q E h => ?_) (fun cdv A outer s H vs Q E hr h => ?_)
  · obtain ⟨a, ns, rfl, _⟩ := h; rfl
  · obtain ⟨a, ns, rfl, hS, hl, q⟩ := h
    have hu := hu_of hr
    refine ⟨_, (pss_cons (ps_set (i := 1) nd rfl (Or.inl rfl) (pe_call (G__law_pen) (hr.mono (by decide)) (by rfl) T.m__law_pen T.F__law_pen.kp T.b__law_pen .nil pass0 (pa_cons (pv 0) pa_nil)))
        (pss_cons (ps_for PassesOwn.never rfl (pi_range1 rfl T.n_range (pa_cons pe_int pa_nil)) (pg_name (i := 2) nd rfl (Or.inl rfl)) (pss_one (ps_for PassesOwn.never rfl (pi_list (pe_lst (pa_cons (pe_call (G__law_text) (hr.mono (by decide)) (by rfl) T.m__law_text T.F__law_text.kp T.b__law_text .nil pass0 (pa_cons (pv 1) pa_nil)) (pa_cons (pe_call (G__law_near) (hr.mono (by decide)) (by rfl) T.m__law_near T.F__law_near.kp T.b__law_near .nil pass0 (pa_cons (pv 1) pa_nil)) (pa_cons (pe_call (G__law_odd) (hr.mono (by decide)) (by rfl) T.m__law_odd T.F__law_odd.kp T.b__law_odd .nil pass0 (pa_cons (pv 1) pa_nil)) pa_nil))))) (pg_name (i := 3) nd rfl (Or.inl rfl)) (pss_cons (ps_set (i := 4) nd rfl (Or.inl rfl) (pe_call (G_is_name) (hr.mono (by decide)) (by rfl) T.m_is_name T.F_is_name.kp T.b_is_name .nil pass0 (pa_cons (pv 3) pa_nil)))
        (pss_one (ps_if (PW.pt (pw_or (pt_not (pt_val (pe_callB call_isi (by rfl) T.n_isinstance (by decide +kernel) (pa_cons (pv 4) (pa_cons (pe_bltn (v := .ty "bool") (u := .type "bool") (by rfl) T.n_bool (by decide +kernel) rfl) pa_nil))))) (pw_or1 (pt_cmpR op_ne (pv 4) (pe_call (G__law_due) (hr.mono (by decide)) (by rfl) T.m__law_due T.F__law_due.kp T.b__law_due .nil pass0 (pa_cons (pv 3) pa_nil)) (nomark _))))) (pss_one (ps_ret pe_bl)) pss_nil))))))
        (pss_one (ps_ret pe_bl)))), ?_⟩
    refine ⟨_, rfl, a, ns, rfl, hS, hl, fun p H1 np s1 P1 => ?_⟩
    refine ⟨_, rfl, by decide, by decide, for_range (n := 16) (fun i σ H2 => ∃ (v w x : Option V), σ = [some (.ref a), some (.ref p), v, w, x] ∧ Pen H2 p (70 * i)) ⟨_, _, _, rfl, P1⟩ ?_ ?_⟩
    · rintro i σ H2 hi ⟨v, w, x, rfl, P2⟩
      refine ⟨_, rfl, p, _, rfl, P2, by omega, fun z1 H3 t1 P3 k3 => ?_⟩
      refine ⟨_, rfl, p, _, rfl, P3, by omega, fun z2 H4 t2 P4 k4 => ?_⟩
      refine ⟨_, rfl, p, _, rfl, P4, by omega, fun v3 H5 t3 P5 k5 => ?_⟩
      refine ⟨line_of (by simp), fun l nl => ?_⟩
      have nlp := P5.ne nl
      have e1 : (upd H5 l (.lst [.str z1, .str z2, v3])) l = some (.lst [.str z1, .str z2, v3]) := upd_same
      have t3' := t3.keep (same_keep (same_upd (o := .lst [.str z1, .str z2, v3]) nl))
      have P6 := P5.same (same_upd (o := .lst [.str z1, .str z2, v3]) nl)
      generalize upd H5 l (.lst [.str z1, .str z2, v3]) = H6 at *
      have all : ∀ v ∈ [V.str z1, V.str z2, v3], Tv p H6 v := allV_cons (.str _ (t1.mono (by decide))) (allV_cons (.str _ (t2.mono (by decide))) (allV_cons t3' allV_nil))
      refine ⟨l, rfl, ⟨_, SqL.of e1⟩, for_list (K := K) (a := l) (xs := [.str z1, .str z2, v3]) (fun j σ H7 => ∃ (v w x : Option V), σ = [some (.ref a), some (.ref p), v, w, x] ∧ Same H6 H7) ⟨_, _, _, rfl, Same.refl _⟩ (fun _ _ _ _ ⟨_, _, _, _, s7⟩ => s7.seq (SqL.of e1)) ?_ ?_⟩
      · rintro j y σ H7 hy ⟨v, w, x, rfl, s7⟩
        have ty := (all y (List.mem_of_getElem? hy)).keep (same_keep s7)
        refine ⟨_, rfl, y, p, rfl, ty, fun H8 s8 => ?_⟩
        refine ⟨_, rfl, _, _, _, _, _, rfl, .ty _, .base (.bl _), kit_ty (r := true) (by decide +kernel), _, rfl, ?_⟩
        refine iteF ?_
        refine ⟨_, rfl, _, rfl, y, p, rfl, ty.keep (same_keep s8), fun H9 s9 => ?_⟩
        refine ⟨rfl, _, rfl, ?_⟩
        refine iteNS rfl ?_
        exact ⟨_, _, _, rfl, s7.trans (s8.trans s9)⟩
      · rintro σ H7 ⟨v, w, x, rfl, s7⟩
        exact ⟨_, _, _, rfl, (P6.same s7).mono (by omega)⟩
    · rintro σ H2 ⟨v, w, x, rfl, P2⟩
      exact q _
end
theorem all_mk {l : PySem.W.OpenLaw} {w : World} {K : PySem.W.Frag} {h : Heap} {mg : Str → Option Value} {fa : Addr} (X : K.In h) (G : h.Ns mainGlobals mg) (hfa : mg "law" = some (.ref fa))
    {f1 : Addr} {od1 an1 : Option Addr} {sl1 : Array (Option Value)} {oc1 kV1 dc1 pm1 cd1 ct1 : Value}
    {f2 : Addr} {od2 an2 : Option Addr} {sl2 : Array (Option Value)} {oc2 kV2 dc2 pm2 cd2 ct2 : Value}
    {f3 : Addr} {od3 an3 : Option Addr} {sl3 : Array (Option Value)} {oc3 kV3 dc3 pm3 cd3 ct3 : Value}
    {f4 : Addr} {od4 an4 : Option Addr} {sl4 : Array (Option Value)} {oc4 kV4 dc4 pm4 cd4 ct4 : Value}
    {f5 : Addr} {od5 an5 : Option Addr} {sl5 : Array (Option Value)} {oc5 kV5 dc5 pm5 cd5 ct5 : Value}
    {f6 : Addr} {od6 an6 : Option Addr} {sl6 : Array (Option Value)} {oc6 kV6 dc6 pm6 cd6 ct6 : Value}
    {f7 : Addr} {od7 an7 : Option Addr} {sl7 : Array (Option Value)} {oc7 kV7 dc7 pm7 cd7 ct7 : Value}
    {f8 : Addr} {od8 an8 : Option Addr} {sl8 : Array (Option Value)} {oc8 kV8 dc8 pm8 cd8 ct8 : Value}
    {f9 : Addr} {od9 an9 : Option Addr} {sl9 : Array (Option Value)} {oc9 kV9 dc9 pm9 cd9 ct9 : Value}
    {u_LETTERS : Tok}
    {u_MOST_SIGNS : Tok}
    {q_RESERVED : Addr} {o_RESERVED : Obj} {n_RESERVED : Nat} {i_RESERVED : Array Value} 
    {u_SIGNS : Tok}
    (a1 : PySem.W.nsIn K mainGlobals "is_name" = some (some (.ref f1))) (l1 : K.lookup f1 = some ⟨oc1, od1, .func (PySem.W.fnOf "is_name" "is_name" (defArgs s_is_name) (defBody s_is_name) (defScope s_is_name) .none kV1 dc1 pm1 an1 cd1 ct1), sl1⟩) (c1 : PySem.W.codeIn K cd1 "is_name" = true) (k1 : PySem.W.keepIn K (.ref f1) = true)
    (a2 : PySem.W.nsIn K mainGlobals "_law_pen" = some (some (.ref f2))) (l2 : K.lookup f2 = some ⟨oc2, od2, .func (PySem.W.fnOf "_law_pen" "_law_pen" (defArgs s__law_pen) (defBody s__law_pen) (defScope s__law_pen) .none kV2 dc2 pm2 an2 cd2 ct2), sl2⟩) (c2 : PySem.W.codeIn K cd2 "_law_pen" = true) (k2 : PySem.W.keepIn K (.ref f2) = true)
    (a3 : PySem.W.nsIn K mainGlobals "_law_draw" = some (some (.ref f3))) (l3 : K.lookup f3 = some ⟨oc3, od3, .func (PySem.W.fnOf "_law_draw" "_law_draw" (defArgs s__law_draw) (defBody s__law_draw) (defScope s__law_draw) .none kV3 dc3 pm3 an3 cd3 ct3), sl3⟩) (c3 : PySem.W.codeIn K cd3 "_law_draw" = true) (k3 : PySem.W.keepIn K (.ref f3) = true)
    (a4 : PySem.W.nsIn K mainGlobals "_law_pick" = some (some (.ref f4))) (l4 : K.lookup f4 = some ⟨oc4, od4, .func (PySem.W.fnOf "_law_pick" "_law_pick" (defArgs s__law_pick) (defBody s__law_pick) (defScope s__law_pick) .none kV4 dc4 pm4 an4 cd4 ct4), sl4⟩) (c4 : PySem.W.codeIn K cd4 "_law_pick" = true) (k4 : PySem.W.keepIn K (.ref f4) = true)
    (a5 : PySem.W.nsIn K mainGlobals "_law_due" = some (some (.ref f5))) (l5 : K.lookup f5 = some ⟨oc5, od5, .func (PySem.W.fnOf "_law_due" "_law_due" (defArgs s__law_due) (defBody s__law_due) (defScope s__law_due) .none kV5 dc5 pm5 an5 cd5 ct5), sl5⟩) (c5 : PySem.W.codeIn K cd5 "_law_due" = true) (k5 : PySem.W.keepIn K (.ref f5) = true)
    (a6 : PySem.W.nsIn K mainGlobals "_law_text" = some (some (.ref f6))) (l6 : K.lookup f6 = some ⟨oc6, od6, .func (PySem.W.fnOf "_law_text" "_law_text" (defArgs s__law_text) (defBody s__law_text) (defScope s__law_text) .none kV6 dc6 pm6 an6 cd6 ct6), sl6⟩) (c6 : PySem.W.codeIn K cd6 "_law_text" = true) (k6 : PySem.W.keepIn K (.ref f6) = true)
    (a7 : PySem.W.nsIn K mainGlobals "_law_near" = some (some (.ref f7))) (l7 : K.lookup f7 = some ⟨oc7, od7, .func (PySem.W.fnOf "_law_near" "_law_near" (defArgs s__law_near) (defBody s__law_near) (defScope s__law_near) .none kV7 dc7 pm7 an7 cd7 ct7), sl7⟩) (c7 : PySem.W.codeIn K cd7 "_law_near" = true) (k7 : PySem.W.keepIn K (.ref f7) = true)
    (a8 : PySem.W.nsIn K mainGlobals "_law_odd" = some (some (.ref f8))) (l8 : K.lookup f8 = some ⟨oc8, od8, .func (PySem.W.fnOf "_law_odd" "_law_odd" (defArgs s__law_odd) (defBody s__law_odd) (defScope s__law_odd) .none kV8 dc8 pm8 an8 cd8 ct8), sl8⟩) (c8 : PySem.W.codeIn K cd8 "_law_odd" = true) (k8 : PySem.W.keepIn K (.ref f8) = true)
    (a9 : PySem.W.nsIn K mainGlobals "law" = some (some (.ref f9))) (l9 : K.lookup f9 = some ⟨oc9, od9, .func (PySem.W.fnOf "law" "law" (defArgs s_law) (defBody s_law) (defScope s_law) .none kV9 dc9 pm9 an9 cd9 ct9), sl9⟩) (c9 : PySem.W.codeIn K cd9 "law" = true) (k9 : PySem.W.keepIn K (.ref f9) = true)
    (z_abs : PySem.W.nsIn K mainGlobals "abs" = some none)
    (z_all : PySem.W.nsIn K mainGlobals "all" = some none)
    (z_bool : PySem.W.nsIn K mainGlobals "bool" = some none)
    (z_int : PySem.W.nsIn K mainGlobals "int" = some none)
    (z_isinstance : PySem.W.nsIn K mainGlobals "isinstance" = some none)
    (z_len : PySem.W.nsIn K mainGlobals "len" = some none)
    (z_list : PySem.W.nsIn K mainGlobals "list" = some none)
    (z_range : PySem.W.nsIn K mainGlobals "range" = some none)
    (z_str : PySem.W.nsIn K mainGlobals "str" = some none)
    (y_LETTERS : PySem.W.nsIn K mainGlobals "LETTERS" = some (some (Value.str "abcdefghijklmnopqrstuvwxyz" u_LETTERS)))
    (y_MOST_SIGNS : PySem.W.nsIn K mainGlobals "MOST_SIGNS" = some (some (Value.int 8 u_MOST_SIGNS)))
    (y_RESERVED : PySem.W.nsIn K mainGlobals "RESERVED" = some (some (.ref q_RESERVED))) (w_RESERVED : K.lookup q_RESERVED = some o_RESERVED) (w2_RESERVED : o_RESERVED.cls = .type "tuple" ∧ o_RESERVED.data = .seq i_RESERVED n_RESERVED ∧ i_RESERVED.size ≤ sizeLine ∧ Vals [.str "to", .str "if", .str "tag", .str "all", .str "none"] i_RESERVED.toList)
    (y_SIGNS : PySem.W.nsIn K mainGlobals "SIGNS" = some (some (Value.str "abcdefghijklmnopqrstuvwxyz0123456789" u_SIGNS))) :
    ∃ fd : FuncData, (∀ (s : Shared) (v : Value), BindsTo s fd ⟨[v], []⟩ [("_law_script", v)]) ∧ ∀ base : Heap, K.In base → base.Ns mainGlobals mg → FnOk l.prog w K mg base CX0 4 fa fd ["_law_script"] (spLaw K) := by
  have e := hfa.symm.trans (PySem.W.mg_of X G a9)
  cases e
  have F1 := fun_mk (st := s_is_name) l1 c1 k1
  have b1 := F1.binds (ps := ["value"]) fun _ _ _ _ _ _ us hl => match us, hl with | [_], _ => rfl
  have F2 := fun_mk (st := s__law_pen) l2 c2 k2
  have b2 := F2.binds (ps := ["_law_script"]) fun _ _ _ _ _ _ us hl => match us, hl with | [_], _ => rfl
  have F3 := fun_mk (st := s__law_draw) l3 c3 k3
  have b3 := F3.binds (ps := ["_law_pen_here", "_law_many"]) fun _ _ _ _ _ _ us hl => match us, hl with | [_, _], _ => rfl
  have F4 := fun_mk (st := s__law_pick) l4 c4 k4
  have b4 := F4.binds (ps := ["_law_pen_here", "_law_some"]) fun _ _ _ _ _ _ us hl => match us, hl with | [_, _], _ => rfl
  have F5 := fun_mk (st := s__law_due) l5 c5 k5
  have b5 := F5.binds (ps := ["_law_value"]) fun _ _ _ _ _ _ us hl => match us, hl with | [_], _ => rfl
  have F6 := fun_mk (st := s__law_text) l6 c6 k6
  have b6 := F6.binds (ps := ["_law_pen_here"]) fun _ _ _ _ _ _ us hl => match us, hl with | [_], _ => rfl
  have F7 := fun_mk (st := s__law_near) l7 c7 k7
  have b7 := F7.binds (ps := ["_law_pen_here"]) fun _ _ _ _ _ _ us hl => match us, hl with | [_], _ => rfl
  have F8 := fun_mk (st := s__law_odd) l8 c8 k8
  have b8 := F8.binds (ps := ["_law_pen_here"]) fun _ _ _ _ _ _ us hl => match us, hl with | [_], _ => rfl
  have F9 := fun_mk (st := s_law) l9 c9 k9
  have b9 := F9.binds (ps := ["_law_script"]) fun _ _ _ _ _ _ us hl => match us, hl with | [_], _ => rfl
  let T : Txt K mg := {
    f_is_name := f1,
    fd_is_name := _,
    F_is_name := F1,
    b_is_name := b1,
    m_is_name := PySem.W.mg_of X G a1,
    f__law_pen := f2,
    fd__law_pen := _,
    F__law_pen := F2,
    b__law_pen := b2,
    m__law_pen := PySem.W.mg_of X G a2,
    f__law_draw := f3,
    fd__law_draw := _,
    F__law_draw := F3,
    b__law_draw := b3,
    m__law_draw := PySem.W.mg_of X G a3,
    f__law_pick := f4,
    fd__law_pick := _,
    F__law_pick := F4,
    b__law_pick := b4,
    m__law_pick := PySem.W.mg_of X G a4,
    f__law_due := f5,
    fd__law_due := _,
    F__law_due := F5,
    b__law_due := b5,
    m__law_due := PySem.W.mg_of X G a5,
    f__law_text := f6,
    fd__law_text := _,
    F__law_text := F6,
    b__law_text := b6,
    m__law_text := PySem.W.mg_of X G a6,
    f__law_near := f7,
    fd__law_near := _,
    F__law_near := F7,
    b__law_near := b7,
    m__law_near := PySem.W.mg_of X G a7,
    f__law_odd := f8,
    fd__law_odd := _,
    F__law_odd := F8,
    b__law_odd := b8,
    m__law_odd := PySem.W.mg_of X G a8,
    f_law := fa,
    fd_law := _,
    F_law := F9,
    b_law := b9,
    m_law := PySem.W.mg_of X G a9,
    n_abs := PySem.W.mg_none_of X G z_abs,
    n_all := PySem.W.mg_none_of X G z_all,
    n_bool := PySem.W.mg_none_of X G z_bool,
    n_int := PySem.W.mg_none_of X G z_int,
    n_isinstance := PySem.W.mg_none_of X G z_isinstance,
    n_len := PySem.W.mg_none_of X G z_len,
    n_list := PySem.W.mg_none_of X G z_list,
    n_range := PySem.W.mg_none_of X G z_range,
    n_str := PySem.W.mg_none_of X G z_str,
    v_LETTERS := _,
    g_LETTERS := PySem.W.mg_of X G y_LETTERS,
    r_LETTERS := ⟨_, rfl⟩,
    v_MOST_SIGNS := _,
    g_MOST_SIGNS := PySem.W.mg_of X G y_MOST_SIGNS,
    r_MOST_SIGNS := ⟨_, rfl⟩,
    a_RESERVED := q_RESERVED,
    g_RESERVED := PySem.W.mg_of X G y_RESERVED,
    r_RESERVED := rfl,
    t_RESERVED := fun H => .inr ⟨o_RESERVED, i_RESERVED, n_RESERVED, w_RESERVED, w2_RESERVED.1, w2_RESERVED.2.1, w2_RESERVED.2.2.1, w2_RESERVED.2.2.2⟩,
    v_SIGNS := _,
    g_SIGNS := PySem.W.mg_of X G y_SIGNS,
    r_SIGNS := ⟨_, rfl⟩ }
  exact ⟨PySem.W.fnOf "law" "law" (defArgs s_law) (defBody s_law) (defScope s_law) .none kV9 dc9 pm9 an9 cd9 ct9, fun s v => .of_eq rfl, fun base _ _ => ok_law T⟩
end Toy
open PySem PySem.W PyProof.Rows
set_option maxRecDepth 100000 in
set_option maxHeartbeats 0 in
theorem PySem.Challenge.cw_orplaces_k02_names_holds : PySem.Challenge.rw_orplaces_k02_names.Holds := by
  w_on; o_law; k_head; (case hw => w_witness2)
  k_fill
  refine L2.walk_of (l := PySem.Challenge.rw_orplaces_k02_names) (n := 63) (k := 4) (x := "_law_script") (CX := fun _ => L2.CX0) (sp := fun w => Toy.spLaw _) rfl (by decide) rfl ⟨rfl, by decide, by decide⟩ (fun w h Y => PySem.W.kIn_of Y) ?F (fun _ _ a ns hl _ hS => ⟨a, ns, rfl, hS, hl, fun _ => rfl⟩) (fun _ _ _ _ _ h => h)
  case F =>
    intro w mg fa h KX G hmg
    refine' Toy.all_mk KX G hmg ?a1 ?l1 ?c1 ?k1 ?a2 ?l2 ?c2 ?k2 ?a3 ?l3 ?c3 ?k3 ?a4 ?l4 ?c4 ?k4 ?a5 ?l5 ?c5 ?k5 ?a6 ?l6 ?c6 ?k6 ?a7 ?l7 ?c7 ?k7 ?a8 ?l8 ?c8 ?k8 ?a9 ?l9 ?c9 ?k9 ?z_abs ?z_all ?z_bool ?z_int ?z_isinstance ?z_len ?z_list ?z_range ?z_str ?y_LETTERS ?y_MOST_SIGNS ?y_RESERVED ?w_RESERVED ?w2_RESERVED ?y_SIGNS
    (case a1 => k_is)
    (case l1 => k_is)
    (case c1 => k_is)
    (case k1 => k_is)
    (case a2 => k_is)
    (case l2 => k_is)
    (case c2 => k_is)
    (case k2 => k_is)
    (case a3 => k_is)
    (case l3 => k_is)
    (case c3 => k_is)
    (case k3 => k_is)
    (case a4 => k_is)
    (case l4 => k_is)
    (case c4 => k_is)
    (case k4 => k_is)
    (case a5 => k_is)
    (case l5 => k_is)
    (case c5 => k_is)
    (case k5 => k_is)
    (case a6 => k_is)
    (case l6 => k_is)
    (case c6 => k_is)
    (case k6 => k_is)
    (case a7 => k_is)
    (case l7 => k_is)
    (case c7 => k_is)
    (case k7 => k_is)
    (case a8 => k_is)
    (case l8 => k_is)
    (case c8 => k_is)
    (case k8 => k_is)
    (case a9 => k_is)
    (case l9 => k_is)
    (case c9 => k_is)
    (case k9 => k_is)
    (case z_abs => k_is)
    (case z_all => k_is)
    (case z_bool => k_is)
    (case z_int => k_is)
    (case z_isinstance => k_is)
    (case z_len => k_is)
    (case z_list => k_is)
    (case z_range => k_is)
    (case z_str => k_is)
    (case y_LETTERS => k_is)
    (case y_MOST_SIGNS => k_is)
    (case y_RESERVED => k_is)
    (case w_RESERVED => k_is)
    (case w2_RESERVED => exact ⟨rfl, rfl, by decide +kernel, by first | exact L2.Paired.nil | (repeat (first | exact .nil | refine .cons ⟨_, rfl⟩ ?_))⟩)
    (case y_SIGNS => k_is)
