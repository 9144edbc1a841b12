import PyProof.Rows.All
import Wide.All
import OpenK.AllK
import Wide.FinOn
import HandS.ForMost
import HandS.Wide
import HandS.WideBits
import HandS.IsInst
import HandS.Flow
import HandS.Defaults
import HandS.OwnEq
import HandS.MakeKw
import HandS.DictEq
import HandS.Deep
import PySem.Challenge.RW_branchdues_k03_equal_trees
import KE.KDictPairs
import HandS.DeepEq
import HandS.SlotsOwn
import PyProof.InstNe
import PyProof.Rows.EqNone
import HandS.Walk
import HandS.Style
set_option Elab.async false
set_option linter.unusedVariables false
set_option maxRecDepth 100000
set_option maxHeartbeats 1000000
section
namespace Bd
open PySem L2
def top (i : Nat) : Stmt := PySem.Challenge.pw_branchdues_k03_equal_trees.main.body.getD i (.Pass ⟨0, 0, 0, 0⟩)
/-- a def as its callers see it -/
structure Cal (P : Program) (w : World) (K : PySem.W.Frag) (mg : Str → Option Value) (base : Heap) (x : Str) (ps : List Str) (k : Nat) (sp : Sp) (f : Addr) (fd : FuncData) : Prop where
  ok : FnOk P w K mg base CX0 k f fd ps sp
  mg : mg x = some (.ref f)
  kp : PySem.W.keepIn K (.ref f) = true
  bd : Binds K fd ps []
/-- all but p stays as it was -/
def Kept (p : Addr) (H H' : Hp) : Prop := ∀ b o, b ≠ p → H b = some o → H' b = some o
theorem Kept.refl (p : Addr) (H : Hp) : Kept p H H := fun _ _ _ h => h
theorem Kept.trans {p : Addr} {H H1 H2 : Hp} (a : Kept p H H1) (b : Kept p H1 H2) : Kept p H H2 := fun c o h e => b c o h (a c o h e)
theorem Kept.of {p : Addr} {H H1 : Hp} (a : Same H H1) : Kept p H H1 := fun c o _ e => a c o e
theorem Kept.upd {p : Addr} {H H1 : Hp} (a : Kept p H H1) (o : HO) : Kept p H (L2.upd H1 p o) := fun c u h e => by rw [upd_ne h]; exact a c u h e
theorem Kept.new {p q : Addr} {H H1 : Hp} (a : Kept p H H1) (h : H1 q = none) (o : HO) : Kept p H (L2.upd H1 q o) := fun c u hc e => by
  have := a c u hc e
  rw [upd_ne (ne_of_none this h)]; exact this
theorem Kept.free {p l : Addr} {H H' : Hp} (e : Kept p H H') (hl : l ≠ p) (h : H' l = none) : H l = none := by
  cases q : H l with
  | none => rfl
  | some o => rw [e l o hl q] at h; cases h
theorem Same.new {H H1 : Hp} {q : Addr} (a : Same H H1) (h : H1 q = none) (o : HO) : Same H (upd H1 q o) := fun c u e => by
  have := a c u e
  rw [upd_ne (ne_of_none this h)]; exact this
theorem Kept.seq {K : PySem.W.Frag} {p : Addr} {H H' : Hp} {a : Addr} {xs : List V} (e : Kept p H H') (hp : a ≠ p) (h : SqL K H a xs) : SqL K H' a xs := by
  rcases h with (h | ⟨o, h⟩) | h
  · exact .inl (.inl (e _ _ hp h))
  · exact .inl (.inr ⟨o, e _ _ hp h⟩)
  · exact .inr h
theorem fm0 {x m : Int} (h : 0 < m) : 0 ≤ x.fmod m := Int.fmod_nonneg_of_pos x h
theorem fm1 {x m : Int} (h : 0 < m) : x.fmod m < m := Int.fmod_lt_of_pos x h
theorem fm_in {x m : Int} (h : 0 < m) (h2 : m ≤ 2 ^ 63) : -(2 ^ 64) < x.fmod m ∧ x.fmod m < 2 ^ 64 := by
  have := fm0 (x := x) h
  have := fm1 (x := x) h
  omega
theorem fm_nat {x : Int} {m : Nat} (h : 0 < m) : ∃ v : Nat, x.fmod (m : Int) = (v : Int) ∧ v < m := by
  have h1 := fm0 (x := x) (m := (m : Int)) (by omega)
  have h2 := fm1 (x := x) (m := (m : Int)) (by omega)
  exact ⟨(x.fmod (m : Int)).toNat, by omega, by omega⟩
theorem small {n : Nat} (h : n ≤ 1000) : n ≤ sizeLine := Nat.le_of_lt (small1000 h)
/-- an amount as the law draws it: in lowest terms, not too long -/
def AmtOk (n d : Nat) : Prop := 0 < d ∧ Nat.gcd n d = 1 ∧ n ≤ 10 ^ 13 ∧ d ≤ 10 ^ 13

/-- what the text needs of the top, one built-in name each -/
structure TA (mg : Str → Option Value) : Prop where
  z_len : mg "len" = none
  z_int : mg "int" = none
  z_range : mg "range" = none
  z_abs : mg "abs" = none
  z_tuple : mg "tuple" = none
  z_list : mg "list" = none
  z_enumerate : mg "enumerate" = none
abbrev sCellAt : Stmt := (top 33)
theorem scCellAt : FnScope ["_law_script", "_law_k"] ["_law_script", "_law_k"] (defScope sCellAt) := ⟨rfl, rfl, rfl, by decide +kernel, rfl, by decide +kernel, by decide +kernel⟩
abbrev sMixed : Stmt := (top 34)
theorem scMixed : FnScope ["_law_cell", "_law_k", "_law_low"] ["_law_cell", "_law_k"] (defScope sMixed) := ⟨rfl, rfl, rfl, by decide +kernel, rfl, by decide +kernel, by decide +kernel⟩
abbrev sSource : Stmt := (top 35)
theorem scSource : FnScope ["_law_script", "_law_k", "_law_cell"] ["_law_script", "_law_k"] (defScope sSource) := ⟨rfl, rfl, rfl, by decide +kernel, rfl, by decide +kernel, by decide +kernel⟩
abbrev sNext : Stmt := (top 36)
theorem scNext : FnScope ["_law_source_here", "_law_many", "_law_found"] ["_law_source_here", "_law_many"] (defScope sNext) := ⟨rfl, rfl, rfl, by decide +kernel, rfl, by decide +kernel, by decide +kernel⟩
abbrev sOne : Stmt := (top 37)
theorem scOne : FnScope ["_law_source_here", "_law_things"] ["_law_source_here", "_law_things"] (defScope sOne) := ⟨rfl, rfl, rfl, by decide +kernel, rfl, by decide +kernel, by decide +kernel⟩

/-- a source of draws -/
def Src (H : Hp) (p : Addr) : Prop := ∃ x y z : Int, H p = some (.lst [.int x, .int y, .int z])
def spCellAt (K : PySem.W.Frag) : Sp := fun vs H Q _ => ∃ (a : Addr) (ns : List Int) (k : Nat), vs = [.ref a, .int (k : Int)] ∧ SqL K H a (ns.map V.int) ∧ ∀ v : Int, Q (.int v) H
def spMixed : Sp := fun vs H Q _ => ∃ (c k : Int), vs = [.int c, .int k] ∧ ∀ v : Int, 0 ≤ v → Q (.int v) H
def spSource (K : PySem.W.Frag) : Sp := fun vs H Q _ => ∃ (a : Addr) (ns : List Int) (k : Nat), vs = [.ref a, .int (k : Int)] ∧ SqL K H a (ns.map V.int) ∧ ∀ p H', H p = none → Same H H' → Src H' p → Q (.ref p) H'
def spNext : Sp := fun vs H Q _ => ∃ (p : Addr) (m : Nat), vs = [.ref p, .int (m : Int)] ∧ Src H p ∧ 0 < m ∧ m ≤ 1000000 ∧ ∀ (v : Nat) H', v < m → Src H' p → Kept p H H' → Q (.int (v : Int)) H'
/-- one of some things: a list or a tuple that is not the source -/
def spOne (K : PySem.W.Frag) : Sp := fun vs H Q _ => ∃ (p a : Addr) (xs : List V), vs = [.ref p, .ref a] ∧ Src H p ∧ SqL K H a xs ∧ a ≠ p ∧ xs ≠ [] ∧ xs.length ≤ 1000 ∧ ∀ (v : V) H', v ∈ xs → Src H' p → Kept p H H' → Q v H'
section
variable {P : Program} {w : World} {K : PySem.W.Frag} {mg : Str → Option Value} {base : Heap}
theorem cell_at {ns : List Int} {k : Nat} (h : k < ns.length) : ∃ v : Int, atI (ns.map V.int) (k : Int) = some (.int v) :=
  ⟨ns[k], atI_nat (by rw [List.getElem?_map, List.getElem?_eq_getElem h]; rfl)⟩
theorem ok_cellAt {f : Addr} {fd : FuncData} (F : Fun K "_law_cell_at" "_law_cell_at" sCellAt f fd) (T : TA mg) : FnOk P w K mg base CX0 1 f fd ["_law_script", "_law_k"] (spCellAt K) := by
  refine F.ok scCellAt (fun vs H Q E h => ?_) (fun cdv A outer s H vs Q E hr h => ?_)
  · obtain ⟨a, ns, k, rfl, _⟩ := h
    rfl
  obtain ⟨a, ns, k, rfl, hS, q⟩ := h
  refine ⟨_, (pss_cons (ps_if (pt_cmpR op_lt (pv 1) (pe_callB call_len_seq (by rfl) T.z_len PySem.boot_len (pa_cons (pv 0) pa_nil)) (nomark _)) (pss_one (ps_ret (pe_ix ix_list (pv 0) (pv 1) (fun _ _ => rfl)))) pss_nil) (pss_one (ps_ret pe_int))), ?_⟩
  refine ⟨_, rfl, _, rfl, a, _, rfl, .inl hS, _, _, rfl, rfl, _, rfl, ?_⟩
  refine ite2 (fun c => ?_) (fun c => ?_)
  · have c' := of_decide_eq_true c
    rw [List.length_map] at c'
    obtain ⟨v, hv⟩ := cell_at (ns := ns) (k := k) (by omega)
    refine ⟨_, rfl, _, rfl, a, _, _, _, rfl, rfl, hS, hv, ?_⟩
    exact q v
  · exact q 0

theorem ok_mixed {f : Addr} {fd : FuncData} (F : Fun K "_law_mixed" "_law_mixed" sMixed f fd) (T : TA mg) : FnOk P w K mg base CX0 1 f fd ["_law_cell", "_law_k"] spMixed := by
  refine F.ok scMixed (fun vs H Q E h => ?_) (fun cdv A outer s H vs Q E hr h => ?_)
  · obtain ⟨c, k, rfl, _⟩ := h
    rfl
  obtain ⟨c, k, rfl, q⟩ := h
  refine ⟨_, (pss_cons (ps_set (i := 2) scMixed.nd rfl (Or.inl rfl) (pe_op op_add (pe_op op_modN (pe_callTy call_int1 (by rfl) T.z_int (by decide +kernel) (pa_cons (pv 0) pa_nil)) pe_int) (pe_op op_mul (pe_op op_fdivW (pv 0) pe_int) pe_int))) (pss_cons (ps_set (i := 2) scMixed.nd rfl (Or.inl rfl) (pe_op op_modN (pe_callTy call_int1 (by rfl) T.z_int (by decide +kernel) (pa_cons (pe_op op_mul (pe_op op_add (pe_op op_add (pv 2) (pe_op op_mul pe_int (pv 1))) pe_int) pe_int) pa_nil)) pe_int)) (pss_cons (ps_set (i := 2) scMixed.nd rfl (Or.inl rfl) (pe_op op_modN (pe_callTy call_int1 (by rfl) T.z_int (by decide +kernel) (pa_cons (pe_op op_mul (pv 2) (pe_op op_add (pe_op op_add (pe_op op_fdivN (pv 2) pe_int) pe_int) (pv 1))) pa_nil)) pe_int)) (pss_one (ps_ret (pe_op op_modN (pe_callTy call_int1 (by rfl) T.z_int (by decide +kernel) (pa_cons (pe_op op_mul (pv 2) (pe_op op_add (pe_op op_fdivN (pv 2) pe_int) pe_int)) pa_nil)) pe_int)))))), ?_⟩
  refine ⟨_, rfl, .inl ⟨_, rfl, _, _, rfl, rfl, by show (2147483629 : Int) ≠ 0; decide, _, rfl, _, _, rfl, rfl, ⟨by decide, by decide +kernel⟩, _, _, rfl, rfl, .inr ⟨by decide, by decide⟩, _, _, rfl, rfl, ?_⟩⟩
  refine ⟨_, rfl, _, rfl, _, _, rfl, rfl, .inl ⟨by decide, by decide⟩, _, _, rfl, rfl, _, _, rfl, rfl, _, _, rfl, rfl, .inr ⟨by decide, by decide⟩, .inl ⟨_, rfl, _, _, rfl, rfl, by show (2147483629 : Int) ≠ 0; decide, ?_⟩⟩
  refine ⟨_, rfl, _, rfl, _, _, rfl, rfl, ⟨by decide, by decide⟩, _, _, rfl, rfl, _, rfl, _, _, rfl, rfl, _, _, rfl, rfl, .inl (fm_in (by decide) (by decide)), .inl ⟨_, rfl, _, _, rfl, rfl, by show (2147483587 : Int) ≠ 0; decide, ?_⟩⟩
  refine ⟨_, rfl, _, rfl, _, _, rfl, rfl, ⟨by decide, by decide⟩, _, _, rfl, rfl, _, _, rfl, rfl, .inl (fm_in (by decide) (by decide)), .inl ⟨_, rfl, _, _, rfl, rfl, by show (2147483563 : Int) ≠ 0; decide, ?_⟩⟩
  exact q _ (fm0 (by decide))

theorem ok_next {f g : Addr} {fd gd : FuncData} (F : Fun K "_law_next" "_law_next" sNext f fd) (T : TA mg) (cM : Cal P w K mg base "_law_mixed" ["_law_cell", "_law_k"] 1 spMixed g gd) : FnOk P w K mg base CX0 2 f fd ["_law_source_here", "_law_many"] spNext := by
  refine F.ok scNext (fun vs H Q E h => ?_) (fun cdv A outer s H vs Q E hr h => ?_)
  · obtain ⟨p, m, rfl, _⟩ := h
    rfl
  obtain ⟨p, m, rfl, ⟨x, y, z, hp⟩, h0, h1, q⟩ := h
  refine ⟨_, (pss_cons (ps_if (pt_cmpR op_ge (pe_ix ix_list (pv 0) pe_int (fun _ _ => rfl)) (pe_op op_pow pe_int pe_int) (nomark _)) (pss_cons (ps_set (i := 2) scNext.nd rfl (Or.inl rfl) (pe_op op_modN (pe_callTy call_int1 (by rfl) T.z_int (by decide +kernel) (pa_cons (pe_ix ix_list (pv 0) pe_int (fun _ _ => rfl)) pa_nil)) (pv 1))) (pss_cons (ps_asg (pe_op op_fdivN (pe_ix ix_list (pv 0) pe_int (fun _ _ => rfl)) (pv 1)) (pg_sub (pv 0) pe_int set_list)) (pss_one (ps_ret (pv 2))))) pss_nil) (pss_cons (ps_asg (pe_op op_add (pe_ix ix_list (pv 0) pe_int (fun _ _ => rfl)) pe_int) (pg_sub (pv 0) pe_int set_list)) (pss_one (ps_ret (pe_op op_modN (pe_callTy call_int1 (by rfl) T.z_int (by decide +kernel) (pa_cons (pe_call cM.ok (hr.mono (by decide)) rfl cM.mg cM.kp cM.bd .nil pass0 (pa_cons (pe_ix ix_list (pv 0) pe_int (fun _ _ => rfl)) (pa_cons (pe_ix ix_list (pv 0) pe_int (fun _ _ => rfl)) pa_nil))) pa_nil)) (pv 1)))))), ?_⟩
  refine ⟨_, rfl, p, _, _, _, rfl, rfl, SqL.of hp, rfl, _, _, rfl, rfl, ⟨by decide, by decide, by decide⟩, _, _, rfl, rfl, _, rfl, ?_⟩
  refine ite2 (fun c => ?_) (fun c => ?_)
  · obtain ⟨v, ev, hv⟩ := fm_nat (x := x) (m := m) h0
    refine ⟨_, rfl, p, _, _, _, rfl, rfl, SqL.of hp, rfl, .inl ⟨_, rfl, _, rfl, _, _, rfl, rfl, by show (m : Int) ≠ 0; omega, ?_⟩⟩
    refine ⟨_, rfl, p, _, _, _, rfl, rfl, SqL.of hp, rfl, _, rfl, _, _, rfl, rfl, ⟨by show (m : Int) ≠ 0; omega, by omega⟩, _, rfl, p, _, _, _, rfl, rfl, hp, rfl, ?_⟩
    refine ⟨_, rfl, ?_⟩
    show Q (.int (x.fmod (m : Int))) _
    rw [ev]
    exact q v _ hv ⟨_, _, _, upd_same⟩ ((Kept.refl p H).upd _)
  · refine ⟨_, rfl, p, _, _, _, rfl, rfl, SqL.of hp, rfl, _, _, rfl, rfl, _, rfl, p, _, _, _, rfl, rfl, hp, rfl, ?_⟩
    refine ⟨_, rfl, p, _, _, _, rfl, rfl, SqL.of upd_same, rfl, _, rfl, p, _, _, _, rfl, rfl, SqL.of upd_same, rfl, _, _, rfl, fun u hu => .inl ⟨_, rfl, _, rfl, _, _, rfl, rfl, by show (m : Int) ≠ 0; omega, ?_⟩⟩
    obtain ⟨v, ev, hv⟩ := fm_nat (x := u) (m := m) h0
    show Q (.int (u.fmod (m : Int))) _
    rw [ev]
    exact q v _ hv ⟨_, _, _, upd_same⟩ ((Kept.refl p H).upd _)

theorem ok_source {f g e : Addr} {fd gd ed : FuncData} (F : Fun K "_law_source" "_law_source" sSource f fd) (T : TA mg) (cM : Cal P w K mg base "_law_mixed" ["_law_cell", "_law_k"] 1 spMixed g gd) (cC : Cal P w K mg base "_law_cell_at" ["_law_script", "_law_k"] 1 (spCellAt K) e ed) : FnOk P w K mg base CX0 2 f fd ["_law_script", "_law_k"] (spSource K) := by
  refine F.ok scSource (fun vs H Q E h => ?_) (fun cdv A outer s H vs Q E hr h => ?_)
  · obtain ⟨a, ns, k, rfl, _⟩ := h
    rfl
  obtain ⟨a, ns, k, rfl, hS, q⟩ := h
  refine ⟨_, (pss_cons (ps_if (pt_cmpR op_lt (pv 1) (pe_callB call_len_seq (by rfl) T.z_len PySem.boot_len (pa_cons (pv 0) pa_nil)) (nomark _)) (pss_one (ps_ret (pe_lst (pa_cons (pe_ix ix_list (pv 0) (pv 1) (fun _ _ => rfl)) (pa_cons (pe_ix ix_list (pv 0) (pv 1) (fun _ _ => rfl)) (pa_cons pe_int pa_nil)))))) pss_nil) (pss_cons (ps_set (i := 2) scSource.nd rfl (Or.inl rfl) (pe_call cM.ok (hr.mono (by decide)) rfl cM.mg cM.kp cM.bd .nil pass0 (pa_cons (pe_call cC.ok (hr.mono (by decide)) rfl cC.mg cC.kp cC.bd .nil pass0 (pa_cons (pv 0) (pa_cons pe_int pa_nil))) (pa_cons (pe_op op_add pe_int (pv 1)) pa_nil)))) (pss_one (ps_ret (pe_lst (pa_cons (pv 2) (pa_cons (pv 2) (pa_cons pe_int pa_nil)))))))), ?_⟩
  refine ⟨_, rfl, _, rfl, a, _, rfl, .inl hS, _, _, rfl, rfl, _, rfl, ?_⟩
  refine ite2 (fun c => ?_) (fun c => ?_)
  · have c' := of_decide_eq_true c
    rw [List.length_map] at c'
    obtain ⟨v, hv⟩ := cell_at (ns := ns) (k := k) (by omega)
    refine ⟨_, rfl, _, rfl, a, _, _, _, rfl, rfl, hS, hv, _, rfl, _, rfl, a, _, _, _, rfl, rfl, hS, hv, by show 3 ≤ sizeLine; decide, fun p hp => ?_⟩
    exact q p _ hp (Same.new (Same.refl H) hp _) ⟨_, _, _, upd_same⟩
  · refine ⟨_, rfl, a, ns, 0, rfl, hS, fun v => ?_⟩
    refine ⟨_, rfl, _, _, rfl, rfl, _, _, rfl, fun u hu => ?_⟩
    refine ⟨_, rfl, _, rfl, by show 3 ≤ sizeLine; decide, fun p hp => ?_⟩
    exact q p _ hp (Same.new (Same.refl H) hp _) ⟨_, _, _, upd_same⟩

theorem ok_one {f g : Addr} {fd gd : FuncData} (F : Fun K "_law_one" "_law_one" sOne f fd) (T : TA mg) (cN : Cal P w K mg base "_law_next" ["_law_source_here", "_law_many"] 2 spNext g gd) : FnOk P w K mg base CX0 3 f fd ["_law_source_here", "_law_things"] (spOne K) := by
  refine F.ok scOne (fun vs H Q E h => ?_) (fun cdv A outer s H vs Q E hr h => ?_)
  · obtain ⟨p, a, xs, rfl, _⟩ := h
    rfl
  obtain ⟨p, a, xs, rfl, hp, hS, hne, h0, h1, q⟩ := h
  refine ⟨_, (pss_one (ps_ret (pe_ix ix_list (pv 1) (pe_call cN.ok (hr.mono (by decide)) rfl cN.mg cN.kp cN.bd .nil pass0 (pa_cons (pv 0) (pa_cons (pe_callB call_len_seq (by rfl) T.z_len PySem.boot_len (pa_cons (pv 1) pa_nil)) pa_nil))) (fun _ _ => rfl)))), ?_⟩
  refine ⟨_, rfl, _, rfl, _, rfl, a, _, rfl, .inl hS, p, xs.length, rfl, hp, List.length_pos_iff.mpr h0, by omega, fun v H1 hv hp1 k1 => ?_⟩
  refine ⟨a, _, _, _, rfl, rfl, k1.seq hne hS, atI_nat (List.getElem?_eq_getElem hv), ?_⟩
  exact q _ H1 (List.getElem_mem hv) hp1 k1

end
end Bd
end

section
namespace Bd
open PySem L2
abbrev sCommon : Stmt := (top 38)
theorem scCommon : FnScope ["_law_one_here", "_law_other"] ["_law_one_here", "_law_other"] (defScope sCommon) := ⟨rfl, rfl, rfl, by decide +kernel, rfl, by decide +kernel, by decide +kernel⟩
abbrev sFraction : Stmt := (top 39)
theorem scFraction : FnScope ["_law_top", "_law_bottom", "_law_measure"] ["_law_top", "_law_bottom"] (defScope sFraction) := ⟨rfl, rfl, rfl, by decide +kernel, rfl, by decide +kernel, by decide +kernel⟩
abbrev sAmount : Stmt := (top 40)
theorem scAmount : FnScope ["_law_source_here", "_law_way"] ["_law_source_here"] (defScope sAmount) := ⟨rfl, rfl, rfl, by decide +kernel, rfl, by decide +kernel, by decide +kernel⟩

def spCommon : Sp := fun vs H Q _ => ∃ (a b : Nat), vs = [.int (a : Int), .int (b : Int)] ∧ Q (.int (Nat.gcd a b : Nat)) H
/-- a pair in lowest terms at p -/
def AmtAt (H : Hp) (v : V) (n d : Nat) : Prop := ∃ p, v = .ref p ∧ H p = some (.tup [.int (n : Int), .int (d : Int)])
def spFraction : Sp := fun vs H Q _ => ∃ (a b : Nat), vs = [.int (a : Int), .int (b : Int)] ∧ a ≤ 10 ^ 13 ∧ 0 < b ∧ b ≤ 1000 ∧
  ∀ p n d, H p = none → AmtOk n d → Q (.ref p) (upd H p (.tup [.int (n : Nat), .int (d : Nat)]))
def spAmount : Sp := fun vs H Q _ => ∃ (s : Addr), vs = [.ref s] ∧ Src H s ∧
  ∀ v n d H', AmtOk n d → AmtAt H' v n d → Src H' s → Kept s H H' → Q v H'
section
variable {P : Program} {w : World} {K : PySem.W.Frag} {mg : Str → Option Value} {base : Heap}
def mu1 : St → Hp → Nat := fun σ _ => match σ[1]? with
  | some (some (V.int b)) => b.toNat
  | _ => 0
theorem ok_common {f : Addr} {fd : FuncData} (F : Fun K "_law_common" "_law_common" sCommon f fd) (T : TA mg) : FnOk P w K mg base CX0 1 f fd ["_law_one_here", "_law_other"] spCommon := by
  refine F.ok scCommon (fun vs H Q E h => ?_) (fun cdv A outer s H vs Q E hr h => ?_)
  · obtain ⟨a, b, rfl, _⟩ := h
    rfl
  obtain ⟨a, b, rfl, q⟩ := h
  refine ⟨_, (pss_cons (ps_while PassesOwn.never (pt_cmpR op_gt (pv 1) pe_int (nomark _)) (pss_one (ps_par (i := 0) (j := 1) (by rfl) scCommon.nd rfl rfl (by decide) rfl rfl (pa_cons (pv 1) (pa_cons (pe_op op_modN (pe_callTy call_int1 (by rfl) T.z_int (by decide +kernel) (pa_cons (pv 0) pa_nil)) (pv 1)) pa_nil)) (by rfl)))) (pss_one (ps_ret (pe_callB call_abs (by rfl) T.z_abs (by decide +kernel) (pa_cons (pv 0) pa_nil))))), ?_⟩
  refine while_by (fun σ H' => H' = H ∧ ∃ x y : Nat, σ = [some (.int (x : Int)), some (.int (y : Int))] ∧ Nat.gcd x y = Nat.gcd a b) mu1 ⟨rfl, a, b, rfl, rfl⟩ ?_ ?_
  · rintro σ H' ⟨rfl, x, y, rfl, e⟩
    refine ⟨_, rfl, _, _, rfl, rfl, _, rfl, ?_⟩
    refine ite2 (fun c => ?_) (fun c => ?_)
    · have c' : (0 : Int) < (y : Int) := of_decide_eq_true c
      refine ⟨_, rfl, _, rfl, .inl ⟨_, rfl, _, rfl, _, _, rfl, rfl, by show (y : Int) ≠ 0; omega, _, _, rfl, ?_⟩⟩
      have em : (x : Int).fmod (y : Int) = ((x % y : Nat) : Int) := by
        rw [Int.fmod_eq_emod_of_nonneg _ (by omega)]
        exact (Int.natCast_emod x y).symm
      refine ⟨⟨rfl, y, x % y, ?_, ?_⟩, ?_⟩
      · show [some (V.int (y : Int)), some (V.int ((x : Int).fmod (y : Int)))] = _
        rw [em]
      · rw [← e, Nat.gcd_comm x y, Nat.gcd_rec y x, Nat.gcd_comm]
      · show ((x : Int).fmod (y : Int)).toNat < (y : Int).toNat
        rw [em]
        have := Nat.mod_lt x (show 0 < y by omega)
        omega
    · have c' : ¬ (0 : Int) < (y : Int) := of_decide_eq_false (Bool.eq_false_iff.mpr c)
      have y0 : y = 0 := by omega
      subst y0
      refine ⟨_, rfl, _, rfl, ?_⟩
      rw [Nat.gcd_zero_right] at e
      rw [if_neg (show ¬ (x : Int) < 0 by omega), e]
      exact q
  · rintro σ H' Q Q' f ⟨v, h1, i, j, h2, h3, k, h4, q⟩
    exact ⟨v, h1, i, j, h2, h3, k, h4, f _ _ q⟩

theorem gcd_low {a b : Nat} (hb : 0 < b) : Nat.gcd (a / Nat.gcd a b) (b / Nat.gcd a b) = 1 := by
  rw [Nat.gcd_div (Nat.gcd_dvd_left a b) (Nat.gcd_dvd_right a b)]
  exact Nat.div_self (Nat.gcd_pos_of_pos_right a hb)
theorem ok_fraction {f g : Addr} {fd gd : FuncData} (F : Fun K "_law_fraction" "_law_fraction" sFraction f fd) (T : TA mg) (cC : Cal P w K mg base "_law_common" ["_law_one_here", "_law_other"] 1 spCommon g gd) : FnOk P w K mg base CX0 2 f fd ["_law_top", "_law_bottom"] spFraction := by
  refine F.ok scFraction (fun vs H Q E h => ?_) (fun cdv A outer s H vs Q E hr h => ?_)
  · obtain ⟨a, b, rfl, _⟩ := h
    rfl
  obtain ⟨a, b, rfl, ha, h0, h1, q⟩ := h
  have hg : 0 < Nat.gcd a b := Nat.gcd_pos_of_pos_right a h0
  have hl : Nat.gcd a b ≤ b := Nat.gcd_le_right a h0
  have e1 : ∀ x : Nat, (x : Int).fdiv (Nat.gcd a b : Nat) = ((x / Nat.gcd a b : Nat) : Int) := fun x => by
    rw [Int.fdiv_eq_ediv_of_nonneg _ (by omega)]
    exact (Int.natCast_ediv x _).symm
  refine ⟨_, (pss_cons (ps_set (i := 2) scFraction.nd rfl (Or.inl rfl) (pe_call cC.ok (hr.mono (by decide)) rfl cC.mg cC.kp cC.bd .nil pass0 (pa_cons (pv 0) (pa_cons (pv 1) pa_nil)))) (pss_one (ps_ret (pe_tup (pa_cons (pe_op op_fdivN (pv 0) (pv 2)) (pa_cons (pe_op op_fdivN (pv 1) (pv 2)) pa_nil)))))), ?_⟩
  refine ⟨_, rfl, _, rfl, a, b, rfl, ?_⟩
  refine ⟨_, rfl, _, rfl, _, _, rfl, rfl, ⟨by show ((Nat.gcd a b : Nat) : Int) ≠ 0; omega, by omega⟩, _, rfl, _, rfl, _, _, rfl, rfl, ⟨by show ((Nat.gcd a b : Nat) : Int) ≠ 0; omega, by omega⟩, by show 2 ≤ sizeLine; decide, fun p hp => ?_⟩
  have := q p (a / Nat.gcd a b) (b / Nat.gcd a b) hp ⟨Nat.div_pos hl hg, gcd_low h0, Nat.le_trans (Nat.div_le_self _ _) ha, Nat.le_trans (Nat.div_le_self _ _) (Nat.le_trans h1 (by decide))⟩
  show Q (.ref p) (upd H p (.tup [.int ((a : Int).fdiv (Nat.gcd a b : Nat)), .int ((b : Int).fdiv (Nat.gcd a b : Nat))]))
  rw [e1, e1]
  exact this

theorem ok_amount {f g e : Addr} {fd gd ed : FuncData} (F : Fun K "_law_amount" "_law_amount" sAmount f fd) (T : TA mg) (cN : Cal P w K mg base "_law_next" ["_law_source_here", "_law_many"] 2 spNext g gd) (cF : Cal P w K mg base "_law_fraction" ["_law_top", "_law_bottom"] 2 spFraction e ed) : FnOk P w K mg base CX0 3 f fd ["_law_source_here"] spAmount := by
  refine F.ok scAmount (fun vs H Q E h => ?_) (fun cdv A outer s H vs Q E hr h => ?_)
  · obtain ⟨p, rfl, _⟩ := h
    rfl
  obtain ⟨p, rfl, hp, q⟩ := h
  have np : ∀ {H1 : Hp} {r : Addr}, Src H1 p → H1 r = none → p ≠ r := fun h hr => by
    obtain ⟨_, _, _, h⟩ := h
    exact ne_of_none h hr
  have sr : ∀ {H1 : Hp} {r : Addr} {o : HO}, Src H1 p → H1 r = none → Src (upd H1 r o) p := fun h hr => by
    have n := np h hr
    obtain ⟨x, y, z, h⟩ := h
    exact ⟨x, y, z, by rw [upd_ne n]; exact h⟩
  refine ⟨_, (pss_cons (ps_set (i := 1) scAmount.nd rfl (Or.inl rfl) (pe_call cN.ok (hr.mono (by decide)) rfl cN.mg cN.kp cN.bd .nil pass0 (pa_cons (pv 0) (pa_cons pe_int pa_nil)))) (pss_cons (ps_if (pt_cmpR op_eq (pv 1) pe_int (nomark _)) (pss_one (ps_ret (pe_tup (pa_cons pe_int (pa_cons pe_int pa_nil))))) pss_nil) (pss_cons (ps_if (pt_cmpR op_eq (pv 1) pe_int (nomark _)) (pss_one (ps_ret (pe_call cF.ok (hr.mono (by decide)) rfl cF.mg cF.kp cF.bd .nil pass0 (pa_cons (pe_op op_add pe_int (pe_call cN.ok (hr.mono (by decide)) rfl cN.mg cN.kp cN.bd .nil pass0 (pa_cons (pv 0) (pa_cons pe_int pa_nil)))) (pa_cons (pe_op op_add pe_int (pe_call cN.ok (hr.mono (by decide)) rfl cN.mg cN.kp cN.bd .nil pass0 (pa_cons (pv 0) (pa_cons pe_int pa_nil)))) pa_nil))))) pss_nil) (pss_cons (ps_if (pt_cmpR op_eq (pv 1) pe_int (nomark _)) (pss_one (ps_ret (pe_tup (pa_cons (pe_op op_mul (pe_op op_pow pe_int pe_int) (pe_op op_add pe_int (pe_call cN.ok (hr.mono (by decide)) rfl cN.mg cN.kp cN.bd .nil pass0 (pa_cons (pv 0) (pa_cons pe_int pa_nil))))) (pa_cons pe_int pa_nil))))) pss_nil) (pss_one (ps_ret (pe_tup (pa_cons (pe_op op_add pe_int (pe_call cN.ok (hr.mono (by decide)) rfl cN.mg cN.kp cN.bd .nil pass0 (pa_cons (pv 0) (pa_cons pe_int pa_nil)))) (pa_cons pe_int pa_nil))))))))), ?_⟩
  refine ⟨_, rfl, p, 12, rfl, hp, by decide, by decide, fun v H1 hv hp1 k1 => ?_⟩
  refine ⟨_, rfl, rfl, _, rfl, ?_⟩
  refine ite2 (fun c => ?_) (fun c => ?_)
  · refine ⟨by show 2 ≤ sizeLine; decide, fun r hr' => ?_⟩
    exact q _ 0 1 _ ⟨by decide, by decide, by decide, by decide⟩ ⟨r, rfl, upd_same⟩ (sr hp1 hr') (k1.new hr' _)
  refine ⟨_, rfl, rfl, _, rfl, ?_⟩
  refine ite2 (fun c => ?_) (fun c => ?_)
  · refine ⟨_, rfl, p, 40, rfl, hp1, by decide, by decide, fun a H2 ha hp2 k2 => ?_⟩
    refine ⟨_, _, rfl, rfl, _, rfl, p, 9, rfl, hp2, by decide, by decide, fun b H3 hb hp3 k3 => ?_⟩
    refine ⟨_, _, rfl, rfl, 1 + a, 1 + b, rfl, by omega, by omega, by omega, fun r n d hr' hk => ?_⟩
    exact q _ n d _ hk ⟨r, rfl, upd_same⟩ (sr hp3 hr') (((k1.trans k2).trans k3).new hr' _)
  refine ⟨_, rfl, rfl, _, rfl, ?_⟩
  refine ite2 (fun c => ?_) (fun c => ?_)
  · refine ⟨_, _, rfl, rfl, ⟨by decide, by decide, by decide⟩, _, rfl, p, 9, rfl, hp1, by decide, by decide, fun b H3 hb hp3 k3 => ?_⟩
    refine ⟨_, _, rfl, rfl, _, _, rfl, rfl, .inl ⟨by decide, by decide⟩, by show 2 ≤ sizeLine; decide, fun r hr' => ?_⟩
    refine q _ (10 ^ 12 * (1 + b)) 1 _ ⟨by decide, Nat.gcd_one_right _, by omega, by decide⟩ ⟨r, rfl, ?_⟩ (sr hp3 hr') ((k1.trans k3).new hr' _)
    rw [upd_same]
    have : (10 : Int) ^ Int.toNat 12 * (1 + (b : Int)) = ((10 ^ 12 * (1 + b) : Nat) : Int) := by
      show (1000000000000 : Int) * (1 + (b : Int)) = ((1000000000000 * (1 + b) : Nat) : Int)
      omega
    exact congrArg (fun z => some (HO.tup [V.int z, V.int 1])) this
  · refine ⟨_, rfl, p, 20, rfl, hp1, by decide, by decide, fun b H3 hb hp3 k3 => ?_⟩
    refine ⟨_, _, rfl, rfl, by show 2 ≤ sizeLine; decide, fun r hr' => ?_⟩
    refine q _ (1 + b) 1 _ ⟨by decide, Nat.gcd_one_right _, by omega, by decide⟩ ⟨r, rfl, ?_⟩ (sr hp3 hr') ((k1.trans k3).new hr' _)
    rw [upd_same]
    have : (1 + (b : Int)) = ((1 + b : Nat) : Int) := by omega
    exact congrArg (fun z => some (HO.tup [V.int z, V.int 1])) this

end
end Bd
end

section
namespace Bd
open PySem L2 PySem.Spec PyProof.Rows
section
variable {prog : Program} {w : World} {K : Type} [DecidableEq K] {knd : KeyKind prog w K} {A : Around} {E : Value → Shared → Prop} {s : Shared}
theorem put_pairs {d : Addr} {kvs : List (K × Value)} {k : K} {key v : Value} {Q : Unit → Shared → Prop} (hkey : knd.is k key = true) (hm : s.heap.DictOf knd d kvs) (hsz : kvs.length ≤ sizeLine)
    (hQ : ∀ h', h'.DictOf knd d (stored kvs k v) → Heap.SameBut d s.heap h' → Q () { s with heap := h' }) :
    wpAny (model prog w) A (dictPut d (knd.hash k) key v) Q E s := by
  obtain ⟨o, es, ep, ho, hc, hd, hk, hp, hn⟩ := hm
  have hes : es.size ≤ sizeLine := by
    have e1 := hp.length
    have e2 : es.toList.length = es.size := by simp
    omega
  unfold dictPut
  refine wpAny_bind (wpAny_dictFind_of hkey ho hd hk ?_)
  have hidx : (es.findIdx? fun e => knd.is k e.key) = kvs.findIdx? fun kv => decide (kv.1 = k) := by
    rw [← hp.findIdx k]; obtain ⟨l⟩ := es
    simp
  cases hi : es.findIdx? fun e => knd.is k e.key with
  | some i =>
    have ha := any_of_findIdx_some (hidx ▸ hi)
    refine wpAny_updateDict ho hd ?_
    refine hQ _ ⟨_, _, ep, Heap.get?_update_self _ ho (Obj.isFreed_of_dict (Obj.data_mapDict hd _)), hc.mapDict _, Obj.data_mapDict hd _, hk.modify _ _, ?_, ?_⟩ (Heap.SameBut.update ..)
    · rw [stored, if_pos ha]
      have hl : (es.toList.findIdx? fun e => knd.is k e.key) = some i := by
        rw [← hi]; obtain ⟨l⟩ := es
        simp
      have := hp.modify hn hl v
      obtain ⟨l⟩ := es
      simpa using this
    · rw [stored, if_pos ha, keys_map_store]; exact hn
  | none =>
    have hnot : k ∉ kvs.map (·.1) := not_mem_of_findIdx_none (hidx ▸ hi)
    have hany : ¬ (kvs.any fun kv => decide (kv.1 = k)) = true := by
      rw [List.any_eq_true]
      rintro ⟨kv, hkv, he⟩
      exact hnot (List.mem_map.mpr ⟨kv, hkv, of_decide_eq_true he⟩)
    refine wpAny_updateDictKeys (hz := hes) ho hd ?_
    refine hQ _ ⟨_, _, ep + 1, Heap.get?_update_self _ ho (Obj.isFreed_of_dict (Obj.data_mapDictKeys hd _)), hc.mapDictKeys _, Obj.data_mapDictKeys hd _, hk.push hkey _, ?_, ?_⟩ (Heap.SameBut.update ..)
    · rw [stored, if_neg hany]
      have := hp.append hkey (knd.hash k) v
      obtain ⟨l⟩ := es
      simpa using this
    · rw [stored, if_neg hany, List.map_append, List.nodup_append]
      refine ⟨hn, by simp, ?_⟩
      intro a ha b hb
      simp only [List.map_cons, List.map_nil, List.mem_singleton] at hb
      subst hb
      exact fun e => hnot (e ▸ ha)
theorem merge_dict {d o : Addr} {kvs more : List (K × Value)} {Q : Unit → Shared → Prop} (hdo : d ≠ o) (hoS : (o == sysModules) = false)
    (hd : s.heap.DictOf knd d kvs) (ho : s.heap.DictOf knd o more) (hstr : ∀ e : DictEntry, (∃ k, knd.is k e.key = true) → ∀ a, e.key ≠ .ref a)
    (hsz : kvs.length + more.length ≤ sizeLine)
    (hQ : ∀ h', h'.DictOf knd d (merged kvs more) → Heap.SameBut d s.heap h' → Q () { s with heap := h' }) :
    wpAny (model prog w) A (mergeMapping d (.ref o) false) Q E s := by
  obtain ⟨od, esd, epd, hod, hcd, hdd, hkd, hpd, hnd⟩ := id hd
  obtain ⟨oo, eso, epo, hoo, hco, hdo', hko, hpo, hno⟩ := id ho
  have hlen : more.length = eso.size := by rw [← hpo.length]; simp
  unfold mergeMapping
  refine wpAny_bind (wpAny_isInstance ho.typeIs isSubtype_dict_dict ?_)
  rw [if_pos rfl]
  refine wpAny_bind (wpAny_specialOf ho.typeIs PySem.F.slot_dict_iter.lookup (wpAny_bind (wpAny_pure ?_)))
  simp only [beq_self_eq_true]
  rw [if_neg (by rw [hoS]; exact Bool.false_ne_true)]
  have loop : wpAny (model prog w) A (do
      let __do_lift ← dictEntries o
      have size : Nat := __do_lift.size
      let epoch ← dictEpoch o
      forIn (List.range size) PUnit.unit fun i __s => do
        let __do_lift ← dictEntries o
        match __do_lift[i]? with
          | some e => do
            holding [e.key, e.val]
              (have __do_jp := fun (_ : Unit) => dictPut d e.hash e.key e.val;
              if false = true then do
                let __do_lift ← dictFind d e.key e.hash
                if __do_lift.isSome = true then do
                  rule "dict.merge.duplicate-key"
                  let __do_lift ← newExc (Value.type "KeyError") [e.key]
                  let __r ← raiseNew __do_lift
                  __do_jp __r
                else __do_jp ()
              else __do_jp ())
            let __do_lift ← dictEpoch o
            if (__do_lift != epoch) = true then do
              (unsupported "dict.changed-during-merge" : Sem PUnit)
              pure (ForInStep.yield PUnit.unit)
            else pure (ForInStep.yield PUnit.unit)
          | x => do
            (unsupported "dict.changed-during-merge" : Sem PUnit)
            pure (ForInStep.yield PUnit.unit)
      pure ()) Q E s := by
    refine wpAny_bind (wpAny_dictEntries hoo hdo' ?_)
    refine wpAny_bind (wpAny_dictEpoch hoo hdo' ?_)
    refine wpAny_bind ?_
    have er : List.range eso.size = List.range' 0 eso.size := List.range_eq_range'
    rw [er]
    refine wpAny_forIn_list _
      (fun rest _ s' => ∃ g i, s' = { s with heap := g } ∧ rest = List.range' i (eso.size - i) ∧ i ≤ eso.size ∧ g.DictOf knd d (merged kvs (more.take i)) ∧ g.get? o = some oo ∧ Heap.SameBut d s.heap g)
      _ ?_ ?_ _ _ ⟨s.heap, 0, rfl, by simp, Nat.zero_le _, by simpa [merged] using hd, hoo, Heap.SameBut.refl _ _⟩
    · rintro x rest b s' ⟨g, i, rfl, hr, hi, gd, goo, gs⟩
      have hlt : i < eso.size := by
        rcases Nat.lt_or_ge i eso.size with z | z
        · exact z
        · rw [Nat.sub_eq_zero_of_le z] at hr
          simp at hr
      obtain ⟨rfl, hrest⟩ : x = i ∧ rest = List.range' (i + 1) (eso.size - (i + 1)) := by
        have z : eso.size - i = (eso.size - (i + 1)) + 1 := by omega
        rw [z, List.range'_succ] at hr
        injection hr with z1 z2
        exact ⟨z1, z2⟩
      refine wpAny_bind (wpAny_dictEntries goo hdo' ?_)
      rw [Array.getElem?_eq_getElem hlt]
      obtain ⟨kv, hkv⟩ : ∃ kv, more[x]? = some kv := ⟨more[x]'(by omega), List.getElem?_eq_getElem _⟩
      obtain ⟨k, v⟩ := kv
      obtain ⟨hkey, hval⟩ := hpo.get? (e := eso[x]) (by simp [hlt]) hkv
      obtain ⟨k1, hkey1, hhash⟩ := hko eso[x] (Array.getElem_mem hlt)
      obtain rfl : k1 = k := knd.inj _ _ _ hkey1 hkey
      show wpAny _ _ (holding [eso[x].key, eso[x].val] (dictPut d eso[x].hash eso[x].key eso[x].val) >>= _) _ _ _
      rw [hhash, hval]
      have hmx : (merged kvs (more.take x)).length ≤ sizeLine := by
        have z1 := merged_length_le kvs (more.take x)
        have z2 : (more.take x).length ≤ more.length := by
          rw [List.length_take]; omega
        omega
      refine wpAny_bind (wpAny_holding (put_pairs hkey gd hmx fun g2 gd2 gs2 => ?_))
      have goo2 : g2.get? o = some oo := (gs2.2 o (Ne.symm hdo)).trans goo
      refine wpAny_bind (wpAny_dictEpoch goo2 hdo' ?_)
      rw [if_neg (by simp)]
      exact wpAny_pure ⟨g2, x + 1, rfl, hrest, hlt, by rw [merged_take_succ kvs more x (k1, v) hkv]; exact gd2, goo2, gs.trans gs2⟩
    · rintro b s' ⟨g, i, rfl, hr, hi, gd, goo, gs⟩
      have hin : i = eso.size := by
        rcases Nat.lt_or_ge i eso.size with z | z
        · have z1 : eso.size - i = (eso.size - (i + 1)) + 1 := by omega
          rw [z1, List.range'_succ] at hr
          exact nomatch hr
        · exact Nat.le_antisymm hi z
      refine wpAny_pure (hQ g ?_ gs)
      rw [hin, ← hlen, List.take_length] at gd
      exact gd
  refine wpAny_bind (wpAny_dictEntries hod hdd ?_)
  split
  · refine wpAny_bind (wpAny_dictEntries hoo hdo' ?_)
    refine wpAny_bind ?_
    refine wpAny_forIn_array' _ (fun rest _ s' => s' = s ∧ ∀ e ∈ rest, e ∈ eso) _ ?_ ?_ _ _ ⟨rfl, fun e he => Array.mem_toList_iff.mp he⟩
    · rintro x rest b s' ⟨rfl, hm⟩
      obtain ⟨k1, hkey1, _⟩ := hko x (hm x List.mem_cons_self)
      have hx := hstr x ⟨k1, hkey1⟩
      have hrest : ∀ e ∈ rest, e ∈ eso := fun e he => hm e (List.mem_cons_of_mem _ he)
      split
      · rename_i a ea
        exact absurd ea (hx a)
      · exact wpAny_pure ⟨rfl, hrest⟩
    · rintro b s' ⟨rfl, _⟩
      exact loop
  · exact loop
def MergeAt (knd : KeyKind prog w K) (p : Addr) (Z : Shared → Prop) : Value → Shared → Prop := fun u s1 => ∃ (o : Addr) (acc more : List (K × Value)), u = .ref o ∧ p ≠ o ∧ (o == sysModules) = false ∧
  s1.heap.DictOf knd p acc ∧ s1.heap.DictOf knd o more ∧ acc.length + more.length ≤ sizeLine ∧ ∀ g, g.DictOf knd p (merged acc more) → Heap.SameBut p s1.heap g → Z { s1 with heap := g }
theorem display_two {v1 v2 : Sem Value} {Q : Value → Shared → Prop} (hstr : ∀ e : DictEntry, (∃ k, knd.is k e.key = true) → ∀ a, e.key ≠ .ref a)
    (h : wpAny (model prog w) A v1 (MergeAt knd s.heap.objs.size fun s1 => wpAny (model prog w) A v2 (MergeAt knd s.heap.objs.size fun s2 => Q (.ref s.heap.objs.size) s2) E s1) E { s with heap := s.heap.push { cls := .type "dict", data := .dict #[] } }) :
    wpAny (model prog w) A (dictDisplay [(none, v1), (none, v2)]) Q E s := by
  unfold dictDisplay
  simp only [List.forIn_cons, List.forIn_nil, List.isEmpty_nil, if_true, pure_bind, bind_assoc]
  refine wpAny_bind (wpAny_alloc ?_)
  refine wpAny_bind (wpAny_holding (wpAny_mono h (fun u s1 h1 => ?_) fun _ _ e => e))
  obtain ⟨o, acc, more, rfl, ne, lo, da, db, hz, q⟩ := h1
  refine wpAny_bind (wpAny_onRaise (wpAny_tryCatch (wpAny_onRaise (wpAny_holding (merge_dict ne lo da db hstr hz fun g dg sg => ?_)))))
  refine wpAny_bind (wpAny_holding (wpAny_mono (q g dg sg) (fun u2 s2 h2 => ?_) fun _ _ e => e))
  obtain ⟨o2, acc2, more2, rfl, ne2, lo2, da2, db2, hz2, q2⟩ := h2
  refine wpAny_bind (wpAny_onRaise (wpAny_tryCatch (wpAny_onRaise (wpAny_holding (merge_dict ne2 lo2 da2 db2 hstr hz2 fun g2 dg2 sg2 => ?_)))))
  exact wpAny_pure (q2 g2 dg2 sg2)
end
/-- {**a, **b}, both dicts with keys ints and texts, each evaluated while the new dict holds what is ahead -/
def tBoth (ta tb : TE) : TE := fun σ H Q => ∀ p, H p = none → ta σ (upd H p (.dK [])) fun x H1 => ∃ a ka, x = .ref a ∧ H1 p = some (.dK []) ∧ H1 a = some (.dK ka) ∧ p ≠ a ∧
  tb σ (upd H1 p (.dK (mergeK [] ka))) fun y H2 => ∃ b kb, y = .ref b ∧ H2 p = some (.dK (mergeK [] ka)) ∧ H2 b = some (.dK kb) ∧ p ≠ b ∧ ka.length + kb.length ≤ 1000 ∧ Q (.ref p) (upd H2 p (.dK (mergeK (mergeK [] ka) kb)))
theorem mix_noref {P : Program} {w : World} (e : DictEntry) (h : ∃ k, (mixKind P w).is k e.key = true) (a : Addr) : e.key ≠ .ref a := by
  obtain ⟨k, hk⟩ := h
  intro z
  rcases keyIs_shape (show keyIs k e.key = true from hk) with ⟨i, t, _, e1⟩ | ⟨i, t, _, e1⟩
  · rw [z] at e1; cases e1
  · rw [z] at e1; cases e1
theorem pe_both {X : Cx} {pos : Pos} {e1 e2 : Expr} {ta tb : TE} (ha : PE X e1 ta) (hb : PE X e2 tb) : PE X (.Dict [none, none] [e1, e2] pos) (tBoth ta tb) := by
  refine ⟨fun pins s σ H Q I q => ?_⟩
  have hn := I.hok.fresh (Nat.le_refl s.heap.objs.size)
  rw [arm_eval_Dict]
  refine wpAny_bind (wpAny_standAt ?_)
  show wpAny _ _ (dictDisplay [(none, do let x ← eval e1 X.env; standAt pos; pure x), (none, do let x ← eval e2 X.env; standAt pos; pure x)]) _ _ _
  refine display_two (knd := mixKind X.prog X.w) (fun e h => mix_noref e h) ?_
  have I1 := I.laid (a := s.heap.objs.size) (o := .dK []) (h' := s.heap.push { cls := .type "dict", data := .dict #[] }) (t' := s.toks) (fun _ _ q => Heap.get?_push_of_some _ q) (Nat.le_refl _) (dk_empty s.heap I.big)
  refine wpAny_bind (thn (ha.run pins _ σ _ _ I1 (q _ hn)) fun u s1 ⟨x, H1, I2, rx, a, ka, ex, hp, hka, ne, q1⟩ => ?_)
  subst ex
  obtain rfl : u = Value.ref a := rx
  refine wpAny_bind (wpAny_standAt (wpAny_pure ?_))
  obtain ⟨z1, lo1, vs1, r1, d1⟩ := dk_of I2.hok hka
  obtain ⟨z0, lo0, vs0, r0, d0⟩ := dk_of I2.hok hp
  cases r0
  have hz1 : (mergeK [] ka).length ≤ sizeLine := by
    have := length_mergeK ka []
    rw [List.length_nil] at this
    omega
  refine ⟨a, [], vs1, rfl, ne, lo1, d0, d1, by rw [List.length_nil, Nat.zero_add, ← r1.length]; exact z1, fun g dg sg => ?_⟩
  have he : ∃ q, g.get? s.heap.objs.size = some q := let ⟨q, _, _, hq, _⟩ := dg; ⟨q, hq⟩
  have I3 := d_write (t' := s1.toks) I2 (by rw [hp]; exact True.intro) sg he (dk_new (H' := upd H1 s.heap.objs.size (.dK (mergeK [] ka))) hz1 lo0 (r1.merge .nil) dg)
  refine wpAny_bind (thn (hb.run pins _ σ _ _ I3 q1) fun u2 s2 ⟨y, H2, I4, ry, b, kb, ey, hp2, hkb, ne2, hsz, q2⟩ => ?_)
  subst ey
  obtain rfl : u2 = Value.ref b := ry
  refine wpAny_bind (wpAny_standAt (wpAny_pure ?_))
  obtain ⟨z2, lo2, vs2, r2, d2⟩ := dk_of I4.hok hkb
  obtain ⟨z3, lo3, vs3, r3, d3⟩ := dk_of I4.hok hp2
  have hm : (mergeK [] ka).length ≤ ka.length := by
    have := length_mergeK ka []
    rw [List.length_nil] at this
    omega
  have hz2 : (mergeK (mergeK [] ka) kb).length ≤ sizeLine := by
    have := length_mergeK kb (mergeK [] ka)
    exact small (by omega)
  refine ⟨b, vs3, vs2, rfl, ne2, lo2, d3, d2, small (by rw [← r3.length, ← r2.length]; omega), fun g2 dg2 sg2 => ?_⟩
  have he2 : ∃ q, g2.get? s.heap.objs.size = some q := let ⟨q, _, _, hq, _⟩ := dg2; ⟨q, hq⟩
  exact ⟨.ref s.heap.objs.size, _, d_write (t' := s2.toks) I4 (by rw [hp2]; exact True.intro) sg2 he2 (dk_new (H' := upd H2 s.heap.objs.size (.dK (mergeK (mergeK [] ka) kb))) hz2 lo0 (r2.merge r3) dg2), rfl, q2⟩

/-- a tuple whose object is known to have no dict of its own -/
def FrT (H : Hp) (a : Addr) (xs : List V) : Prop := ∃ o : Obj, o.dict = none ∧ H a = some (.frz o (.tup xs))
theorem FrT.seq {K : PySem.W.Frag} {H : Hp} {a : Addr} {xs : List V} (h : FrT H a xs) : SqT K H a xs := by
  obtain ⟨o, _, e⟩ := h
  exact .inl (.inr ⟨o, e⟩)
section
variable {X : Cx}
theorem call_tupleF : CallR X (.type "tuple") (fun xs H Q => ∃ p ys, xs = [.ref p] ∧ SqL X.K H p ys ∧ ∀ l o, H l = none → o.dict = none → Q (.ref l) (upd H l (.frz o (.tup ys)))) := by
  intro pins s σ H xs us Q I r h
  obtain ⟨p, ys, rfl, hq, q⟩ := h
  obtain ⟨u, rfl, rx⟩ := vals1 r
  cases rx
  obtain ⟨its, r', pl, hz⟩ := I.list hq
  have hlen := r'.length
  refine call_tuple_list pl.isList (fun g kp => ?_) (by simp only [List.size_toArray] <;> omega)
  have I1 : Inv X pins σ H { s with heap := g } := I.kept (t' := s.toks) kp
  have I2 : Inv X pins σ (upd H g.objs.size (.frz { cls := .type "tuple", data := .seq its.toArray } (.tup ys))) { s with heap := g.push { cls := .type "tuple", data := .seq its.toArray } } :=
    I1.laid (t' := s.toks) (fun b o e => Heap.get?_push_of_some _ e) (Nat.le_refl _) (show ObjOk X.prog X.w _ _ _ (.frz _ (.tup ys)) from ⟨Heap.get?_push_size _ rfl, hz, its, r', IsTup.new _ _⟩)
  exact ⟨.ref g.objs.size, _, I2, rfl, q _ _ (I1.hok.fresh (Nat.le_refl _)) rfl⟩
theorem pairs_vv {pins : List (Addr × Obj)} {σ : L2.St} {H : Hp} {s : Shared} (I : Inv X pins σ H s) : ∀ {ps : List Addr} {kvs : List (Key × V)}, Paired (fun p kv => SqT X.K H p [kV kv.1, kv.2]) ps kvs →
    ∃ (pr : List (Value × Value)) (prs : List (Key × Value)), KV kvs prs ∧ pr.length = ps.length ∧ prs.length = ps.length ∧ ∀ (j : Nat) (k v : Value), pr[j]? = some (k, v) → ∃ (b : Addr) (key : Key), ps[j]? = some b ∧ IsTup s.heap b #[k, v] ∧ prs[j]? = some (key, v) ∧ keyIs key k = true
  | _, _, .nil => ⟨[], [], .nil, rfl, rfl, fun j k v e => by simp at e⟩
  | _, _, .cons (a := p) (b := kv) h t => by
    obtain ⟨pr, prs, r, hl, hl2, hp⟩ := pairs_vv I t
    obtain ⟨its, rv, ht, _⟩ := I.tuple h
    obtain ⟨u, y, rfl, ru, ry⟩ := vals2 rv
    refine ⟨(u, y) :: pr, (kv.1, y) :: prs, .cons ⟨rfl, ry⟩ r, by rw [List.length_cons, List.length_cons, hl], by rw [List.length_cons, List.length_cons, hl2], fun j k v e => ?_⟩
    cases j with
    | zero =>
      have z : (u, y) = (k, v) := Option.some.inj e
      cases z
      exact ⟨p, kv.1, rfl, ht, rfl, kV_is (P := X.prog) (w := X.w) ru⟩
    | succ j =>
      obtain ⟨b, key, z1, z2, z3, z4⟩ := hp j k v (by simpa using e)
      exact ⟨b, key, by simpa using z1, z2, by simpa using z3, z4⟩
theorem call_dictT (hcalm : X.calm = true) : CallR X (.type "dict") (fun xs H Q => ∃ (a : Addr) (ps : List Addr) (kvs : List (Key × V)), xs = [.ref a] ∧ FrT H a (ps.map V.ref) ∧ Paired (fun p kv => SqT X.K H p [kV kv.1, kv.2]) ps kvs ∧
    ∀ p, H p = none → Q (.ref p) (upd H p (.dK (mergeK [] kvs)))) := by
  intro pins s σ H xs us Q I r q
  obtain ⟨a, ps, kvs, rfl, ⟨o, ho, hq⟩, hp, q⟩ := q
  obtain ⟨u, rfl, rx⟩ := vals1 r
  cases rx
  obtain ⟨og, hz, its, rv, ot, hot, hc, n, hd⟩ := I.hok a _ hq
  rw [og] at hot
  cases hot
  have ei := refs_at rv
  subst ei
  obtain ⟨pr, prs, rel, hl, hl2, hpr⟩ := pairs_vv I hp
  rw [List.length_map] at hz
  have hitem : PairItems s.heap (ps.map Value.ref).toArray (fun j => ps.getD j 0) pr := by
    refine ⟨by simp [hl], fun j k v e => ?_⟩
    obtain ⟨b, key, z1, z2, z3, z4⟩ := hpr j k v e
    have zb : ps.getD j 0 = b := by
      rw [List.getD_eq_getElem?_getD, z1]
      rfl
    refine ⟨?_, .inl ?_⟩
    · show (List.map Value.ref ps).toArray[j]? = some (Value.ref (ps.getD j 0))
      rw [zb]
      simp [z1]
    · show s.heap.IsTuple (ps.getD j 0) #[k, v]
      rw [zb]
      obtain ⟨ob, y1, y2, y3, y4⟩ := z2
      exact ⟨ob, y1, y2, y3, y4⟩
  refine PySem.call_dict_pairs (knd := mixKind X.prog X.w) (kvs := prs) (PairArg.tuple a (ps.map Value.ref).toArray (fun j => ps.getD j 0) pr) (I.ok.hd hcalm) ⟨⟨o, n, og, hc, ho, hd⟩, hitem⟩ ⟨by rw [hl2, hl], fun i key v e => ?_⟩ (by rw [hl]; exact hz) fun h' tk hd' k => ?_
  · obtain ⟨b, k2, z1, z2, z3, z4⟩ := hpr i key v e
    exact ⟨k2, z3, z4⟩
  · have hm : (s.heap.objs.size == sysModules) = false := beq_eq_false_iff_ne.mpr (Nat.ne_of_gt I.big)
    have hlen : (mergeK [] kvs).length ≤ sizeLine := by
      refine Nat.le_trans (length_mergeK kvs []) ?_
      rw [List.length_nil, Nat.zero_add, rel.length, hl2]
      exact hz
    exact ⟨.ref s.heap.objs.size, upd H s.heap.objs.size (.dK (mergeK [] kvs)), I.laid (t' := tk) (fun b u z => k b u (fun y => nomatch y) z) (Nat.le_refl _) (show ObjOk X.prog X.w _ _ _ (.dK (mergeK [] kvs)) from ⟨hlen, hm, merged [] prs, KV.merge rel .nil, hd'⟩), rfl, q _ (I.hok.fresh (Nat.le_refl _))⟩
/-- a dict of the module's top, as it stands in the written part -/
structure KTab (P : Program) (w : World) (K : PySem.W.Frag) (a : Addr) (kvs : List (Key × V)) : Prop where
  lo : (a == sysModules) = false
  dd : ∃ vs, KV kvs vs ∧ ∀ h : Heap, K.In h → h.DictOf (mixKind P w) a vs
  sz : kvs.length ≤ 1000
theorem call_dictK : CallR X (.type "dict") (fun xs H Q => ∃ (a : Addr) (kvs : List (Key × V)), xs = [.ref a] ∧ KTab X.prog X.w X.K a kvs ∧ ∀ p, H p = none → Q (.ref p) (upd H p (.dK kvs))) := by
  intro pins s σ H xs us Q I r q
  obtain ⟨a, kvs, rfl, ⟨lo, ⟨vs, rel, dd⟩, z⟩, q⟩ := q
  obtain ⟨u, rfl, rx⟩ := vals1 r
  cases rx
  refine kt_call_dict lo (dd _ I.kIn) (by rw [← rel.length]; exact small z) fun h' d' hs => ?_
  have hm : (s.heap.objs.size == sysModules) = false := beq_eq_false_iff_ne.mpr (Nat.ne_of_gt I.big)
  exact ⟨.ref s.heap.objs.size, upd H s.heap.objs.size (.dK kvs), I.laid (t' := s.toks) (fun b u e => (hs.2 b (Nat.ne_of_lt (Heap.lt_size e))).trans (Heap.get?_push_of_some _ e)) (Nat.le_refl _)
    (show ObjOk X.prog X.w _ _ _ (.dK kvs) from ⟨small z, hm, vs, rel, d'⟩), rfl, q _ (I.hok.fresh (Nat.le_refl _))⟩
theorem op_inT : OpR X (compareOp .In) (fun x y H Q => ∃ (a : Addr) (kvs : List (Key × V)) (k : Key), x = kV k ∧ y = .ref a ∧ KTab X.prog X.w X.K a kvs ∧ Q (.bl (valV kvs k).isSome) H) := by
  intro pins s σ H x y v u Q I rx ry h
  obtain ⟨a, kvs, k, rfl, rfl, ⟨lo, ⟨vs, rel, dd⟩, z⟩, q⟩ := h
  cases ry
  refine wpAny_in_of (kV_is (P := X.prog) (w := X.w) rx) lo (dd _ I.kIn).mapOf ?_
  rw [← (rel.val k).isSome_eq]
  exact ⟨.bl (valV kvs k).isSome, H, I.tok _, rfl, q⟩
end
end Bd
end

section
namespace Bd
open PySem L2 PySem.Spec PyProof.Rows
/-- the answer of looking up each pair of one dict in another, by the answers at the values -/
inductive HitsV (F : V → V → Bool → Prop) (ls : List (Key × V)) : List (Key × V) → Bool → Prop
  | nil : HitsV F ls [] true
  | miss {k : Key} {v : V} {r : List (Key × V)} : valV ls k = none → HitsV F ls ((k, v) :: r) false
  | hit {k : Key} {v y : V} {r : List (Key × V)} {e b : Bool} : valV ls k = some y → F v y e → HitsV F ls r b → HitsV F ls ((k, v) :: r) (e && b)
/-- x == y is r: data, or dicts of such, n deep -/
def EqF (K : PySem.W.Frag) (H : Hp) : Nat → V → V → Bool → Prop
  | 0 => fun x y r => ∃ d e, Dp K H x d ∧ Dp K H y e ∧ SeqAt.shaped d = true ∧ SeqAt.shaped e = true ∧ r = PyData.eqv d e
  | n + 1 => fun x y r => ∃ (a b : Addr), x = .ref a ∧ y = .ref b ∧ ((a = b ∧ r = true) ∨ (a ≠ b ∧ ∃ ks ls q, H a = some (.dK ks) ∧ H b = some (.dK ls) ∧ (ks.length = ls.length → HitsV (EqF K H n) ls ks q) ∧ r = (ks.length == ls.length && q)))
theorem hits_runV {P : Program} {w : World} {A : Around} {s : Shared} {F : V → V → Bool → Prop} (ih : ∀ x y v u r, F x y r → RelV x v → RelV y u → SeqAt.EqP P w A s v u r) {ls : List (Key × V)} {vb : List (Key × Value)} (rb : KV ls vb) {ks : List (Key × V)} {b : Bool} (h : HitsV F ls ks b) :
    ∀ {va : List (Key × Value)}, KV ks va → PySem.W.KeqHitsP P w A s vb va b := by
  induction h with
  | nil =>
    intro va ra
    cases ra
    exact .nil
  | @miss k v r hn =>
    intro va ra
    cases ra with
    | cons h1 t =>
      rename_i q qs
      obtain ⟨h1, h2⟩ := h1
      obtain ⟨k2, v2⟩ := q
      have h1 : k = k2 := h1
      subst h1
      have rr := rb.val k
      rw [hn] at rr
      refine .miss ?_
      cases z : valueAt vb k with
      | none => rfl
      | some y =>
        rw [z] at rr
        exact (show False from rr).elim
  | @hit k v y r e b hy hf hr k3 =>
    intro va ra
    cases ra with
    | cons h1 t =>
      rename_i q qs
      obtain ⟨h1, h2⟩ := h1
      obtain ⟨k2, v2⟩ := q
      have h1 : k = k2 := h1
      subst h1
      have rr := rb.val k
      rw [hy] at rr
      obtain ⟨z, hz, rz⟩ := rr.some_of
      exact .hit hz (ih _ _ _ _ _ hf h2 rz) (k3 t)
section
variable {X : Cx} {pins : List (Addr × Obj)} {σ : L2.St} {H : Hp} {s : Shared}
theorem eqF_run (I : Inv X pins σ H s) : ∀ (n : Nat) (A : Around), A.units + n + 65 < cLine → ∀ (x y : V) (v u : Value) (r : Bool), EqF X.K H n x y r → RelV x v → RelV y u → SeqAt.EqP X.prog X.w A s v u r
  | 0, A, hu, x, y, v, u, r, h, rx, ry => by
    obtain ⟨d, e, hd, he, sd, se, rfl⟩ := h
    obtain ⟨as, r1⟩ := Dp.reads I d x v hd rx
    obtain ⟨bs, r2⟩ := Dp.reads I e y u he ry
    exact (SeqAt.eqAt_reads d e A s v u as bs r1 r2 (SeqAt.canLay_of_shaped sd) (SeqAt.canLay_of_shaped se) (SeqAt.room_of_shaped sd (by omega))).eqP
  | n + 1, A, hu, x, y, v, u, r, h, rx, ry => by
    obtain ⟨a, b, rfl, rfl, h⟩ := h
    cases (show v = Value.ref a from rx)
    cases (show u = Value.ref b from ry)
    rcases h with ⟨rfl, rfl⟩ | ⟨hab, ks, ls, q, ha, hb, hits, rfl⟩
    · exact (SeqAt.EqAt.same _).eqP
    · refine SeqAt.eqP_refs hab fun E Q hq => ?_
      obtain ⟨_, ya, va, ra, da⟩ := (show ObjOk X.prog X.w H s.heap a (.dK ks) from I.hok a _ ha)
      obtain ⟨_, yb, vb, rb, db⟩ := (show ObjOk X.prog X.w H s.heap b (.dK ls) from I.hok b _ hb)
      refine PySem.W.rcP_dicts (knd := mixKind X.prog X.w) (r := q) ya yb da db (by omega) (fun hl => hits_runV (eqF_run I n A.in1 (by show A.units + 1 + n + 65 < cLine; omega)) rb (hits (by rw [ra.length, rb.length]; exact hl)) ra) E Q ?_
      rw [← ra.length, ← rb.length]
      exact hq
end
section
variable {X : Cx}
theorem op_eqF (hu : X.A.units + 100 < cLine) : OpR X (compareOp .Eq) (fun x y H Q => ∃ (a b : Addr) (ks ls : List (Key × V)) (q : Bool) (n : Nat), n ≤ 10 ∧ x = .ref a ∧ y = .ref b ∧ H a = some (.dK ks) ∧ H b = some (.dK ls) ∧ (ks.length = ls.length → HitsV (EqF X.K H n) ls ks q) ∧ Q (.bl (ks.length == ls.length && q)) H) := by
  intro pins s σ H x y v u Q I rx ry h
  obtain ⟨a, b, ks, ls, q, n, hn, rfl, rfl, ha, hb, hits, hq⟩ := h
  cases (show v = Value.ref a from rx)
  cases (show u = Value.ref b from ry)
  obtain ⟨_, ya, va, ra, da⟩ := (show ObjOk X.prog X.w H s.heap a (.dK ks) from I.hok a _ ha)
  obtain ⟨_, yb, vb, rb, db⟩ := (show ObjOk X.prog X.w H s.heap b (.dK ls) from I.hok b _ hb)
  refine PySem.W.rcP_dicts (knd := mixKind X.prog X.w) (r := q) ya yb da db (by omega) (fun hl => hits_runV (eqF_run I n X.A.in1 (by show X.A.units + 1 + n + 65 < cLine; omega)) rb (hits (by rw [ra.length, rb.length]; exact hl)) ra) _ _ ?_
  rw [← ra.length, ← rb.length]
  exact ⟨.bl _, H, I, rfl, hq⟩
end
end Bd
end

section
namespace Bd
open PySem L2 PySem.Spec PyProof.Rows
section
variable {prog : Program} {w : World} {A : Around} {E : Value → Shared → Prop} {s : Shared} {K : PySem.W.Frag} {x C f : Addr} {ox : Obj} {od : Option Obj} {b tb : Value}
theorem ne_bound {M : Model} {Q : Option Value → Shared → Prop} (X : K.In s.heap) (I : PySem.W.InstAt s.heap x ox C od) (hne : PySem.W.findIn K (.ref C) "__ne__" = some (some (.builtin "object.__ne__")))
    (h : wpAny M A (call (.builtin "object.__ne__") [.ref x, b]) (fun v => Q (some v)) E s) : wpAny M A (callSpecialIfBound? (.ref x) "__ne__" [b]) Q E s := by
  simp only [callSpecialIfBound?, bindSpecialIfBound?]
  refine wpAny_holding (wpAny_bind (wpAny_bind (wpAny_bind (I.type.here ((PySem.W.looks_findIn X hne).here ?_)))))
  simp only [PySem.F.cmp_object.ne.bind]
  refine wpAny_bind (wpAny_askSetting (wpAny_ite ?_))
  have fin : wpAny M A (call (.builtin "object.__ne__") ([.ref x] ++ [b]) >>= fun v => pure (some v)) Q E s := wpAny_bind (wpAny_mono h (fun v s' h' => wpAny_pure h') fun _ _ h' => h')
  split
  · exact wpAny_bind (wpAny_pure (wpAny_pure fin))
  · exact wpAny_tryCatch (wpAny_bind (wpAny_pure (wpAny_pure fin)))
theorem ne_check {M : Model} {Q : Unit → Shared → Prop} (X : K.In s.heap) (I : PySem.W.InstAt s.heap x ox C od) (hob : PySem.W.subIn K (.ref C) (.type "object") = some true) (q : Q () s) :
    wpAny M A (checkBuiltinCall "object.__ne__" ⟨[.ref x, b], []⟩) Q E s := by
  simp only [checkBuiltinCall, PySem.F.cmpKind_ne, PySem.F.cmpSplit_ne]
  refine wpAny_bind ?_
  unfold isInstance
  refine wpAny_bind (I.type.here ((PySem.W.looks_subIn X hob).here ?_))
  have ha : argsOk "object.__ne__" ⟨[.ref x, b], []⟩ := PySem.F.cmpArgs_ne _ _
  rw [if_neg (by decide)]
  cases hsig : Manifest.signature? "object.__ne__" with
  | none => exact wpAny_pure q
  | some sig =>
    simp only [argsOk, hsig] at ha
    have h2 : Bind.checkArgs "object.__ne__" sig ⟨[.ref x, b], []⟩ = pure () := ha
    show wpAny M A (Bind.checkArgs "object.__ne__" sig ⟨[.ref x, b], []⟩) Q E _
    rw [h2]
    exact wpAny_pure q
theorem ne_run {Q : Fin → Shared → Prop} (hu : A.units < cLine) (X : K.In s.heap) (I : PySem.W.InstAt s.heap x ox C od) (hs : PySem.W.findIn K (.ref C) "__eq__" = some (some (.ref f))) (hf : PySem.W.isFn K (.ref f) = true)
    (h : wpAny (model prog w) A (call (.ref f) [.ref x, b]) (fun v s' => ∃ r, v = .bool r ∧ Q (.done (.ret (.bool (!r)))) s') E s) :
    wpAny (model prog w) A (Builtin.«object.__ne__» ⟨[.ref x, b], []⟩) Q E s := by
  obtain ⟨hp, g, d, t, os⟩ := s
  unfold Builtin.«object.__ne__»
  repeat (first
    | with_reducible refine wpAny_cRoomFor hu ?_
    | (refine wpAny_bind (m := callSpecialIfBound? (.ref x) (Str.ofString "__eq__") [b])
        (PySem.W.ifBound_K X I hs hf (wpAny_mono h (fun v s' hr => by
          obtain ⟨r, rfl, hq⟩ := hr
          repeat (first | exact hq | exact wpAny_pure hq | exact wpAny_truthy_bool hq | (refine wpAny_bind (m := truthy (.bool _)) (wpAny_truthy_bool ?_)) | wp_step)) fun _ _ e => e)))
    | wp_step)
theorem ne_K {Q : Value → Shared → Prop} (hu : A.units + 1 < cLine) (X : K.In s.heap) (I : PySem.W.InstAt s.heap x ox C od) (hb : PySem.W.Looks (model prog w) s.heap (typeOf b) tb) (hn : PySem.W.notFirst K C tb = true)
    (hne : PySem.W.findIn K (.ref C) "__ne__" = some (some (.builtin "object.__ne__"))) (hob : PySem.W.subIn K (.ref C) (.type "object") = some true)
    (hs : PySem.W.findIn K (.ref C) "__eq__" = some (some (.ref f))) (hf : PySem.W.isFn K (.ref f) = true)
    (h : wpAny (model prog w) A.in1 (call (.ref f) [.ref x, b]) (fun v s' => ∃ r, v = .bool r ∧ Q (.bool (!r)) s') E s) : wpAny (model prog w) A (richCompare .NotEq (.ref x) b) Q E s := by
  have one : wpAny (model prog w) A (tryCompare (.ref x) "__ne__" b) (fun r s' => ∃ v, r = some v ∧ Q v s') E s := by
    simp only [tryCompare]
    refine wpAny_bind (ne_bound X I hne (wpAny_call (codeAny_call_builtin PySem.F.cmp_object.ne.plain PySem.F.cmpEntry_ne (ne_check X I hob (ne_run (A := A.in1) (by show A.units + 1 < cLine; exact hu) X I hs hf (wpAny_mono h (fun v s' hv => ?_) fun _ _ e => e))))))
    obtain ⟨r, rfl, hq⟩ := hv
    first | exact ⟨r, rfl, wpAny_pure ⟨_, rfl, hq⟩⟩ | exact ⟨r, rfl, wpAny_pure (wpAny_pure ⟨_, rfl, hq⟩)⟩ | exact ⟨r, rfl, _, rfl, hq⟩
  unfold richCompare
  simp only [oneThing_ref]
  refine wpAny_holding (wpAny_bind (wpAny_cRoomFor (Nat.lt_of_succ_lt hu) ?_))
  rw [cmpInfo_NotEq]
  dsimp only
  refine wpAny_bind (I.type.here (wpAny_bind (hb.here ?_)))
  split
  · rename_i q
    have e : PySem.W.subIn K tb (.ref C) = some false := by
      rcases Bool.or_eq_true_iff.mp hn with e | e
      · rw [beq_iff_eq.mp e] at q
        simp at q
      · exact beq_iff_eq.mp e
    refine wpAny_bind ((PySem.W.looks_subIn X e).here ?_)
    simp only [Bool.false_eq_true, if_false]
    refine wpAny_bind (wpAny_mono one (fun r s' z => ?_) fun _ _ e => e)
    obtain ⟨v, rfl, hq⟩ := z
    exact wpAny_pure hq
  · refine wpAny_bind (wpAny_pure ?_)
    simp only [Bool.false_eq_true, if_false]
    refine wpAny_bind (wpAny_mono one (fun r s' z => ?_) fun _ _ e => e)
    obtain ⟨v, rfl, hq⟩ := z
    exact wpAny_pure hq
end
end Bd
end

section
namespace Bd
open PySem L2 PySem.Spec PyProof.Rows
section
variable {prog : Program} {w : World} {A : Around} {E : Value → Shared → Prop} {s : Shared} {K : PySem.W.Frag} {x C dx f : Addr} {ox : Obj} {od : Option Obj} {b tb : Value}
theorem dec_none : wpAny (model prog w) A (call (.builtin "NoneType.__eq__") [.none, .ref x]) (fun v s1 => v = .notImplemented ∧ s1 = s) E s := by
  refine wpAny_call_entry PySem.F.slot_NoneType_eq rfl PySem.F.entry_NoneType_eq ?_ (PySem.F.args_NoneType_eq_2 _ _)
  obtain ⟨hp, g, d, tk, os⟩ := s
  wp_walk
  exact ⟨_, rfl, rfl, rfl⟩
theorem dec_int {i : Int} {t : Tok} (hx : s.heap.get? x = some (PySem.W.instObj C dx)) : wpAny (model prog w) A (call (.builtin "int.__eq__") [.int i t, .ref x]) (fun v s1 => v = .notImplemented ∧ s1 = s) E s := by
  refine wpAny_call_entry PySem.F.slot_int_eq (typeIs_int s i t) PySem.F.entry_int_eq ?_ (PySem.F.args_int_eq_2 _ _)
  obtain ⟨hp, g, d, tk, os⟩ := s
  wp_walk using AutoSeq1.wpAny_loadPart' hx
  exact ⟨_, rfl, rfl, rfl⟩
theorem dec_str {i : Str} {t : Tok} (hx : s.heap.get? x = some (PySem.W.instObj C dx)) : wpAny (model prog w) A (call (.builtin "str.__eq__") [.str i t, .ref x]) (fun v s1 => v = .notImplemented ∧ s1 = s) E s := by
  refine wpAny_call_entry PySem.F.slot_str_eq (typeIs_str s i t) PySem.F.entry_str_eq ?_ (PySem.F.args_str_eq_2 _ _)
  obtain ⟨hp, g, d, tk, os⟩ := s
  wp_walk using AutoSeq1.wpAny_loadPart' hx
  exact ⟨_, rfl, rfl, rfl⟩
theorem not_inst {M : Model} {T : String} {Q : Bool → Shared → Prop} (X : K.In s.heap) (I : PySem.W.InstAt s.heap x ox C od) (hsub : PySem.W.subIn K (.ref C) (.type T) = some false) (q : Q false s) : wpAny M A (isInstance (.ref x) (.type T)) Q E s := by
  unfold isInstance
  exact wpAny_bind (I.type.here ((PySem.W.looks_subIn X hsub).here q))
theorem dec_list {l : Addr} (hl : s.TypeIs (.ref l) "list") (X : K.In s.heap) (I : PySem.W.InstAt s.heap x ox C od) (hsub : PySem.W.subIn K (.ref C) (.type "list") = some false) :
    wpAny (model prog w) A (call (.builtin "list.__eq__") [.ref l, .ref x]) (fun v s1 => v = .notImplemented ∧ s1 = s) E s := by
  refine wpAny_call_entry PySem.F.slot_list_eq hl PySem.F.entry_list_eq ?_ (PySem.F.args_list_eq_2 _ _)
  obtain ⟨hp, g, d, tk, os⟩ := s
  unfold Builtin.«list.__eq__»
  repeat (first
    | (refine wpAny_bind (m := isInstance (.ref x) (.type "list")) (not_inst X I hsub ?_))
    | wp_step)
  exact ⟨_, rfl, rfl, rfl⟩
theorem dec_tup {l : Addr} (hl : s.TypeIs (.ref l) "tuple") (X : K.In s.heap) (I : PySem.W.InstAt s.heap x ox C od) (hsub : PySem.W.subIn K (.ref C) (.type "tuple") = some false) :
    wpAny (model prog w) A (call (.builtin "tuple.__eq__") [.ref l, .ref x]) (fun v s1 => v = .notImplemented ∧ s1 = s) E s := by
  refine wpAny_call_entry PySem.F.slot_tuple_eq hl PySem.F.entry_tuple_eq ?_ (PySem.F.args_tuple_eq_2 _ _)
  obtain ⟨hp, g, d, tk, os⟩ := s
  unfold Builtin.«tuple.__eq__»
  repeat (first
    | (refine wpAny_bind (m := isInstance (.ref x) (.type "tuple")) (not_inst X I hsub ?_))
    | wp_step)
  exact ⟨_, rfl, rfl, rfl⟩
theorem eq_right {v : Value} {T id : String} {Q : Value → Shared → Prop} (hu : A.units < cLine) (X : K.In s.heap) (I : PySem.W.InstAt s.heap x ox C od) (hv : s.TypeIs v T) (h1 : Slot T (cmpInfo .Eq).2.1 id) (hone : oneThing? .Eq v (.ref x) = none)
    (hsub : PySem.W.subIn K (.ref C) (.type T) = some false) (hdec : wpAny (model prog w) A (call (.builtin id) [v, .ref x]) (fun r s1 => r = .notImplemented ∧ s1 = s) E s)
    (hs : PySem.W.findIn K (.ref C) "__eq__" = some (some (.ref f))) (hf : PySem.W.isFn K (.ref f) = true)
    (h : wpAny (model prog w) A (call (.ref f) [.ref x, v]) (PySem.W.CmpBack Q) E s) : wpAny (model prog w) A (richCompare .Eq v (.ref x)) Q E s := by
  have two : wpAny (model prog w) A (tryCompare (.ref x) "__eq__" v) (fun r s' => ∃ z, r = some z ∧ Q z s') E s := by
    unfold tryCompare
    refine wpAny_bind (PySem.W.ifBound_K X I hs hf (wpAny_mono h (fun z s' hz => ?_) fun _ _ e => e))
    cases z <;> first | exact hz.elim | exact wpAny_pure ⟨_, rfl, hz⟩
  unfold richCompare
  rw [hone]
  refine wpAny_holding (wpAny_bind (wpAny_cRoomFor hu ?_))
  have hi : cmpInfo CmpOp.Eq = (("==" : String), ("__eq__" : Str), ("__eq__" : Str)) := rfl
  rw [hi] at h1 ⊢
  dsimp only at h1 ⊢
  refine wpAny_bind (wpAny_typeOf hv (wpAny_bind (I.type.here ?_)))
  rw [show (Value.type T != Value.ref C) = true from rfl]
  rw [if_pos rfl]
  refine wpAny_bind ((PySem.W.looks_subIn X hsub).here ?_)
  simp only [Bool.false_eq_true, if_false, Bool.not_false, if_true]
  refine wpAny_bind (m := tryCompare v _ (.ref x)) (wpAny_tryCompare_declines hv h1 (wpAny_mono hdec (fun r s1 hr => ⟨hr.1, ?_⟩) fun _ _ e => e))
  obtain ⟨rfl, rfl⟩ := hr
  refine wpAny_bind (wpAny_mono two (fun r s' z => ?_) fun _ _ e => e)
  obtain ⟨z, rfl, hq⟩ := z
  exact wpAny_pure hq
end
/-- what of the class the comparisons ask -/
structure OwnCmp (K : PySem.W.Frag) (C f : Addr) : Prop where
  eq : PySem.W.findIn K (.ref C) "__eq__" = some (some (.ref f))
  fn : PySem.W.isFn K (.ref f) = true
  ne : PySem.W.findIn K (.ref C) "__ne__" = some (some (.builtin "object.__ne__"))
  ob : PySem.W.subIn K (.ref C) (.type "object") = some true
  li : PySem.W.subIn K (.ref C) (.type "list") = some false
  tu : PySem.W.subIn K (.ref C) (.type "tuple") = some false
  st : PySem.W.subIn K (.ref C) (.type "str") = some false
  it : PySem.W.subIn K (.ref C) (.type "int") = some false
  nt : PySem.W.subIn K (.ref C) (.type "NoneType") = some false
  li' : PySem.W.subIn K (.type "list") (.ref C) = some false
  tu' : PySem.W.subIn K (.type "tuple") (.ref C) = some false
  st' : PySem.W.subIn K (.type "str") (.ref C) = some false
  it' : PySem.W.subIn K (.type "int") (.ref C) = some false
  nt' : PySem.W.subIn K (.type "NoneType") (.ref C) = some false
/-- things an instance is compared with -/
inductive YTy (K : PySem.W.Frag) (H : Hp) (C : Addr) : V → Prop
  | non : YTy K H C .non
  | int (i : Int) : YTy K H C (.int i)
  | str (i : Str) : YTy K H C (.str i)
  | lst {a : Addr} {xs : List V} : SqL K H a xs → YTy K H C (.ref a)
  | tup {a : Addr} {xs : List V} : SqT K H a xs → YTy K H C (.ref a)
  | ins {a dx : Addr} {fs : List (Str × V)} : H a = some (.ins C dx fs) → YTy K H C (.ref a)
section
variable {X : Cx} {pins : List (Addr × Obj)} {σ : L2.St} {H : Hp} {s : Shared} {C f : Addr}
theorem looks_ty {M : Model} {h : Heap} {a : Addr} {T : String} {o : Obj} (ho : h.get? a = some o) (hc : o.cls = .type T) : PySem.W.Looks M h (typeOf (.ref a)) (.type T) := fun _ _ _ s k q => wpAny_typeOf (s := s) ⟨o, k _ _ ho, hc⟩ q
theorem yty_look (O : OwnCmp X.K C f) (I : Inv X pins σ H s) {y : V} {u : Value} (t : YTy X.K H C y) (r : RelV y u) : ∃ tb, PySem.W.Looks (model X.prog X.w) s.heap (typeOf u) tb ∧ PySem.W.notFirst X.K C tb = true := by
  have nf : ∀ {tb : Value}, PySem.W.subIn X.K tb (.ref C) = some false → PySem.W.notFirst X.K C tb = true := fun {tb} e => by
    unfold PySem.W.notFirst
    rw [e]
    simp
  cases t with
  | non =>
    cases r
    exact ⟨.type "NoneType", .of_pure rfl, nf O.nt'⟩
  | int i =>
    obtain ⟨t, rfl⟩ := r
    exact ⟨.type "int", .of_pure rfl, nf O.it'⟩
  | str i =>
    obtain ⟨t, rfl⟩ := r
    exact ⟨.type "str", .of_pure rfl, nf O.st'⟩
  | lst h =>
    cases r
    obtain ⟨its, _, ⟨o, n, ho, hc, _⟩, _⟩ := I.list h
    exact ⟨.type "list", looks_ty ho hc, nf O.li'⟩
  | tup h =>
    cases r
    obtain ⟨its, _, ⟨o, ho, hc, _⟩, _⟩ := I.tuple h
    exact ⟨.type "tuple", looks_ty ho hc, nf O.tu'⟩
  | ins h =>
    cases r
    obtain ⟨mA, J, _⟩ := ins_get I.hok h
    obtain ⟨od, J, _⟩ := J.look
    exact ⟨.ref C, J.type, by simp [PySem.W.notFirst]⟩
/-- tree == y -/
theorem op_eqL {CX : CXT} {n : Nat} {fd : FuncData} {ps : List Str} {sp : Sp} {E : XK} (O : OwnCmp X.K C f) (F : FnOk X.prog X.w X.K X.mg X.base CX n f fd ps sp) (hb : Binds X.K fd ps []) (hr : Room n X.A) (hx : Passes CX X E) :
    OpR X (compareOp .Eq) (fun x y H Q => ∃ a dx fs, x = .ref a ∧ H a = some (.ins C dx fs) ∧ YTy X.K H C y ∧ sp [x, y] H (fun v H' => ∃ b, v = .bl b ∧ Q (.bl b) H') E) := by
  intro pins s σ H x y v u Q I rx ry h
  obtain ⟨a, dx, fs, rfl, ha, ty, q⟩ := h
  cases (show v = Value.ref a from rx)
  obtain ⟨mA, J, _⟩ := ins_get I.hok ha
  obtain ⟨od, J, _⟩ := J.look
  obtain ⟨tb, lk, nf⟩ := yty_look O I ty ry
  obtain ⟨m, hF⟩ := I.fr
  show wpAny _ _ (richCompare .Eq _ _) _ _ _
  refine PySem.W.cmp_K (op := .Eq) (tb := tb) hr.units0 hF I.ok.mod.kin J lk nf O.eq O.fn ?_
  refine wpAny_mono (wpAny_call (run_fnR (us := [.ref a, u]) (vs := [.ref a, y]) (FnOk.raw F hb .nil) hr hx I (.cons rfl (.cons ry .nil)) q)) (fun w s' z => ?_) fun _ _ x => x
  obtain ⟨z', H', I', rz, b, rfl, qz⟩ := z
  exact SlX.cmpback rz ⟨.bl b, H', I', rz, qz⟩
/-- tree != y -/
theorem op_neL {CX : CXT} {n : Nat} {fd : FuncData} {ps : List Str} {sp : Sp} {E : XK} (O : OwnCmp X.K C f) (F : FnOk X.prog X.w X.K X.mg X.base CX n f fd ps sp) (hb : Binds X.K fd ps []) (hr : Room (n + 1) X.A) (hx : Passes CX X E) :
    OpR X (compareOp .NotEq) (fun x y H Q => ∃ a dx fs, x = .ref a ∧ H a = some (.ins C dx fs) ∧ YTy X.K H C y ∧ sp [x, y] H (fun v H' => ∃ b, v = .bl b ∧ Q (.bl (!b)) H') E) := by
  intro pins s σ H x y v u Q I rx ry h
  obtain ⟨a, dx, fs, rfl, ha, ty, q⟩ := h
  cases (show v = Value.ref a from rx)
  obtain ⟨mA, J, _⟩ := ins_get I.hok ha
  obtain ⟨od, J, _⟩ := J.look
  obtain ⟨tb, lk, nf⟩ := yty_look O I ty ry
  show wpAny _ _ (richCompare .NotEq _ _) _ _ _
  refine ne_K (by have := hr.un; omega) I.kIn J lk nf O.ne O.ob O.eq O.fn ?_
  refine wpAny_mono (wpAny_call (SlX.run_at (A := X.A.in1) (us := [.ref a, u]) (ws := [.ref a, y]) (FnOk.raw F hb .nil) hr.in1 I.env0.in1 hx I (.cons rfl (.cons ry .nil)) q)) (fun w s' z => ?_) fun _ _ x => x
  obtain ⟨z', H', I', rz, b, rfl, qz⟩ := z
  cases (show w = Value.bool b from rz)
  exact ⟨b, rfl, .bl (!b), H', I', rfl, qz⟩
/-- y == tree, y no instance -/
theorem op_eqR {CX : CXT} {n : Nat} {fd : FuncData} {ps : List Str} {sp : Sp} {E : XK} (O : OwnCmp X.K C f) (F : FnOk X.prog X.w X.K X.mg X.base CX n f fd ps sp) (hb : Binds X.K fd ps []) (hr : Room n X.A) (hx : Passes CX X E) :
    OpR X (compareOp .Eq) (fun y x H Q => ∃ a dx fs, x = .ref a ∧ H a = some (.ins C dx fs) ∧ YTy X.K H C y ∧ sp [x, y] H (fun v H' => ∃ b, v = .bl b ∧ Q (.bl b) H') E ∧ (∀ c dy gs, y = .ref c → H c = some (.ins C dy gs) → sp [y, x] H (fun v H' => ∃ b, v = .bl b ∧ Q (.bl b) H') E)) := by
  intro pins s σ H y x u v Q I ry rx h
  obtain ⟨a, dx, fs, rfl, ha, ty, q, q2⟩ := h
  cases (show v = Value.ref a from rx)
  obtain ⟨mA, J0, _⟩ := ins_get I.hok ha
  have hat : s.heap.get? a = some (PySem.W.instObj C dx) := J0.1
  obtain ⟨od, J, _⟩ := J0.look
  obtain ⟨m, hF⟩ := I.fr
  have fin : wpAny (model X.prog X.w) X.A (call (.ref f) [.ref a, u]) (PySem.W.CmpBack (EP X pins σ Q)) X.xe s := by
    refine wpAny_mono (wpAny_call (run_fnR (us := [.ref a, u]) (vs := [.ref a, y]) (FnOk.raw F hb .nil) hr hx I (.cons rfl (.cons ry .nil)) q)) (fun w s' z => ?_) fun _ _ x => x
    obtain ⟨z', H', I', rz, b, rfl, qz⟩ := z
    exact SlX.cmpback rz ⟨.bl b, H', I', rz, qz⟩
  show wpAny _ _ (richCompare .Eq _ _) _ _ _
  cases ty with
  | non =>
    cases ry
    exact eq_right hr.units0 I.kIn J rfl PySem.F.slot_NoneType_eq rfl O.nt dec_none O.eq O.fn fin
  | int i =>
    obtain ⟨t, rfl⟩ := ry
    exact eq_right hr.units0 I.kIn J (typeIs_int s i t) PySem.F.slot_int_eq rfl O.it (dec_int hat) O.eq O.fn fin
  | str i =>
    obtain ⟨t, rfl⟩ := ry
    exact eq_right hr.units0 I.kIn J (typeIs_str s i t) PySem.F.slot_str_eq rfl O.st (dec_str hat) O.eq O.fn fin
  | lst h =>
    cases ry
    obtain ⟨its, _, ⟨o, n, ho, hc, _⟩, _⟩ := I.list h
    exact eq_right hr.units0 I.kIn J ⟨o, ho, hc⟩ PySem.F.slot_list_eq (oneThing_ref ..) O.li (dec_list ⟨o, ho, hc⟩ I.kIn J O.li) O.eq O.fn fin
  | tup h =>
    cases ry
    obtain ⟨its, _, ⟨o, ho, hc, _⟩, _⟩ := I.tuple h
    exact eq_right hr.units0 I.kIn J ⟨o, ho, hc⟩ PySem.F.slot_tuple_eq (oneThing_ref ..) O.tu (dec_tup ⟨o, ho, hc⟩ I.kIn J O.tu) O.eq O.fn fin
  | @ins c dy gs hc =>
    cases ry
    have q3 := q2 c dy gs rfl hc
    obtain ⟨mB, K0, _⟩ := ins_get I.hok hc
    obtain ⟨od2, J2, _⟩ := K0.look
    refine PySem.W.cmp_K (op := .Eq) (tb := .ref C) hr.units0 hF I.ok.mod.kin J2 J.type (by simp [PySem.W.notFirst]) O.eq O.fn ?_
    · refine wpAny_mono (wpAny_call (run_fnR (us := [.ref c, .ref a]) (vs := [.ref c, .ref a]) (FnOk.raw F hb .nil) hr hx I (.cons rfl (.cons rfl .nil)) q3)) (fun w s' z => ?_) fun _ _ x => x
      obtain ⟨z', H', I', rz, b, rfl, qz⟩ := z
      exact SlX.cmpback rz ⟨.bl b, H', I', rz, qz⟩
end
end Bd
end

section
namespace Bd
open PySem L2
abbrev sIsInteger : Stmt := (top 4)
theorem scIsInteger : FnScope ["thing"] ["thing"] (defScope sIsInteger) := ⟨rfl, rfl, rfl, by decide +kernel, rfl, by decide +kernel, by decide +kernel⟩
abbrev sIsAmount : Stmt := (top 5)
theorem scIsAmount : FnScope ["thing", "top", "bottom"] ["thing"] (defScope sIsAmount) := ⟨rfl, rfl, rfl, by decide +kernel, rfl, by decide +kernel, by decide +kernel⟩
abbrev sDivisor : Stmt := (top 6)
theorem scDivisor : FnScope ["one", "other"] ["one", "other"] (defScope sDivisor) := ⟨rfl, rfl, rfl, by decide +kernel, rfl, by decide +kernel, by decide +kernel⟩
abbrev sIsEndless : Stmt := (top 23)
theorem scIsEndless : FnScope ["thing"] ["thing"] (defScope sIsEndless) := ⟨rfl, rfl, rfl, by decide +kernel, rfl, by decide +kernel, by decide +kernel⟩
abbrev sIsWord : Stmt := (top 22)
theorem scIsWord : FnScope ["thing"] ["thing"] (defScope sIsWord) := ⟨rfl, rfl, rfl, by decide +kernel, rfl, by decide +kernel, by decide +kernel⟩
abbrev sIsSet : Stmt := (top 24)
theorem scIsSet : FnScope ["thing", "ahead", "number"] ["thing"] (defScope sIsSet) := ⟨rfl, rfl, rfl, by decide +kernel, rfl, by decide +kernel, by decide +kernel⟩
abbrev sMayHave : Stmt := (top 25)
theorem scMayHave : FnScope ["word", "value"] ["word", "value"] (defScope sMayHave) := ⟨rfl, rfl, rfl, by decide +kernel, rfl, by decide +kernel, by decide +kernel⟩

def leftW : List Str := ["min", "low", "max", "quota", "burst", "tops", "sets", "alone"]
structure TP (P : Program) (w : World) (K : PySem.W.Frag) (mg : Str → Option Value) (aL : Addr) (left : List (Key × V)) : Prop where
  z_len : mg "len" = none
  z_int : mg "int" = none
  z_bool : mg "bool" = none
  z_str : mg "str" = none
  z_tuple : mg "tuple" = none
  z_list : mg "list" = none
  z_dict : mg "dict" = none
  z_all : mg "all" = none
  z_enumerate : mg "enumerate" = none
  z_isinstance : mg "isinstance" = none
  g_LONG : ∃ t, mg "LONG" = some (.int 3000 t)
  g_ENDLESS : ∃ t, mg "ENDLESS" = some (.str "endless" t)
  g_GREATEST_PROCESSOR : ∃ t, mg "GREATEST_PROCESSOR" = some (.int 63 t)
  g_LEFT_OUT : mg "LEFT_OUT" = some (.ref aL)
  tab : KTab P w K aL left
  keys : left.map (·.1) = leftW.map Sum.inr
def spIsInteger : Sp := fun vs H Q _ => ∃ i : Int, vs = [.int i] ∧ Q (.bl true) H
def spDivisor : Sp := fun vs H Q _ => ∃ a b : Nat, vs = [.int (a : Int), .int (b : Int)] ∧ a < 2 ^ 3000 ∧ b < 2 ^ 3000 ∧ Q (.int (Nat.gcd a b : Nat)) H
def spIsAmount (K : PySem.W.Frag) : Sp := fun vs H Q _ => ∃ (v : V) (n d : Nat), vs = [v] ∧ Dp K H v (.tuple [.int n, .int d]) ∧ n < 2 ^ 3000 ∧ 0 < d ∧ d < 2 ^ 3000 ∧ Nat.gcd n d = 1 ∧ Q (.bl true) H
def spIsEndless (K : PySem.W.Frag) : Sp := fun vs H Q _ => ∃ v : V, vs = [v] ∧ ((v = .str "endless" ∧ Q (.bl true) H) ∨ ∃ a xs, v = .ref a ∧ SqT K H a xs ∧ Q (.bl false) H)
def spIsWord : Sp := fun vs H Q _ => ∃ x : Str, vs = [.str x] ∧ x ∈ leftW ∧ Q (.bl true) H
/-- rising numbers above p, up to 63 -/
def RiseOk : Int → List Int → Prop
  | _, [] => True
  | p, x :: r => p < x ∧ x ≤ 63 ∧ RiseOk x r
def spIsSet (K : PySem.W.Frag) : Sp := fun vs H Q _ => ∃ (v : V) (xs : List Int), vs = [v] ∧ Dp K H v (.tuple (xs.map .int)) ∧ RiseOk (-1) xs ∧ xs.length ≤ 64 ∧ Q (.bl true) H
inductive ValOk : Str → PyData → Prop
  | amt {x : Str} {n d : Nat} : x ∈ (["min", "low", "burst", "max", "quota", "tops"] : List Str) → n < 2 ^ 3000 → 0 < d → d < 2 ^ 3000 → Nat.gcd n d = 1 → ValOk x (.tuple [.int n, .int d])
  | endl {x : Str} : x ∈ (["max", "quota", "tops"] : List Str) → ValOk x (.str "endless")
  | none : ValOk "sets" .none
  | set {xs : List Int} : RiseOk (-1) xs → xs.length ≤ 64 → ValOk "sets" (.tuple (xs.map .int))
  | alone {i : Int} : i = 0 ∨ i = 1 → ValOk "alone" (.int i)
def spMayHave (K : PySem.W.Frag) : Sp := fun vs H Q _ => ∃ (x : Str) (v : V) (d : PyData), vs = [.str x, v] ∧ Dp K H v d ∧ ValOk x d ∧ ∀ H', Same H H' → Q (.bl true) H'
section
variable {P : Program} {w : World} {K : PySem.W.Frag} {mg : Str → Option Value} {base : Heap} {aL : Addr} {left : List (Key × V)}
theorem ok_isInteger {f : Addr} {fd : FuncData} (F : Fun K "is_integer" "is_integer" sIsInteger f fd) (T : TP P w K mg aL left) : FnOk P w K mg base CX0 1 f fd ["thing"] spIsInteger := by
  refine F.ok scIsInteger (fun vs H Q E h => ?_) (fun cdv A outer s H vs Q E hr h => ?_)
  · obtain ⟨i, rfl, _⟩ := h
    rfl
  obtain ⟨i, rfl, q⟩ := h
  refine ⟨_, (pss_one (ps_ret (pe_and (pe_callB call_isi (by rfl) T.z_isinstance (by decide +kernel) (pa_cons (pv 0) (pa_cons (pe_bltn (v := .ty "int") (u := .type "int") (by rfl) T.z_int (by decide +kernel) rfl) pa_nil))) (pe_one (pe_not (pe_callB call_isi (by rfl) T.z_isinstance (by decide +kernel) (pa_cons (pv 0) (pa_cons (pe_bltn (v := .ty "bool") (u := .type "bool") (by rfl) T.z_bool (by decide +kernel) rfl) pa_nil)))))))), ?_⟩
  refine ⟨_, rfl, _, _, _, _, true, rfl, .ty _, .base (.int i), kit_ty (by decide +kernel), true, rfl, ?_⟩
  refine ⟨_, rfl, _, _, _, _, false, rfl, .ty _, .base (.int i), kit_ty (by decide +kernel), false, rfl, ?_⟩
  exact q

theorem bits_le {a : Nat} (h : a < 2 ^ 3000) : ((Builtin.Int.intBits (a : Int) : Nat) : Int) ≤ 3000 := by
  unfold Builtin.Int.intBits
  split
  · decide
  · have := PySem.Flt.log2_lt_of (by decide : 0 < 3000) h
    show (((a : Int).natAbs.log2 + 1 : Nat) : Int) ≤ 3000
    rw [Int.natAbs_natCast]
    omega
def mu2 : St → Hp → Nat := fun σ _ => match σ[1]? with
  | some (some (V.int b)) => b.toNat
  | _ => 0
theorem ok_divisor {f : Addr} {fd : FuncData} (F : Fun K "divisor" "divisor" sDivisor f fd) (T : TP P w K mg aL left) : FnOk P w K mg base CX0 1 f fd ["one", "other"] spDivisor := by
  refine F.ok scDivisor (fun vs H Q E h => ?_) (fun cdv A outer s H vs Q E hr h => ?_)
  · obtain ⟨a, b, rfl, _⟩ := h
    rfl
  obtain ⟨a, b, rfl, ha, hb, q⟩ := h
  obtain ⟨tl, hL⟩ := T.g_LONG
  have rest : ∀ x y : Nat, x < 2 ^ 3000 → y < 2 ^ 3000 → Nat.gcd x y = Nat.gcd a b → ∀ D : Ends, D.rt (.int (Nat.gcd a b : Nat)) H →
      tSeq (tWhile (tTest (tOp (rI0 fun i j => V.bl (decide (j < i))) (tBits (tVar 1)) (tC (V.int 3000)))) tNever)
        (tSeq (tWhile (fun σ H Q => tVar 1 σ H fun x H1 => ∃ k, TruV K x H1 k ∧ Q k H1) (tPar 0 1 (tCons (tVar 1) (tCons (tOp (rI (fun _ j => j ≠ 0) fun i j => V.int (i.fmod j)) (tVar 0) (tVar 1)) tNil)))) (tRet (tVar 0)))
        D [some (.int (x : Int)), some (.int (y : Int))] H := by
    intro x y hx hy e D q
    refine while_by (fun σ H' => H' = H ∧ σ = [some (.int (x : Int)), some (.int (y : Int))]) mu2 ⟨rfl, rfl⟩ ?_ ?_
    · rintro σ H' ⟨rfl, rfl⟩
      refine ⟨_, rfl, _, rfl, _, _, rfl, rfl, _, rfl, ?_⟩
      have hd : decide (3000 < ((Builtin.Int.intBits (y : Int) : Nat) : Int)) = false := decide_eq_false (by have := bits_le hy; omega)
      rw [hd]
      refine iteF ?_
      dsimp only
      unfold tSeq
      refine while_by (fun σ H2 => H2 = H' ∧ ∃ x y : Nat, σ = [some (.int (x : Int)), some (.int (y : Int))] ∧ Nat.gcd x y = Nat.gcd a b) mu2 ⟨rfl, x, y, rfl, e⟩ ?_ ?_
      · rintro σ H2 ⟨rfl, x, y, rfl, e⟩
        refine ⟨_, rfl, _, rfl, ?_⟩
        by_cases y0 : y = 0
        · subst y0
          refine iteF ?_
          refine ⟨_, rfl, ?_⟩
          rw [Nat.gcd_zero_right] at e
          rw [e]
          exact q
        · have hk : (((y : Nat) : Int) != 0) = true := by
            rw [bne_iff_ne]
            omega
          rw [hk]
          refine iteT ?_
          refine ⟨_, rfl, _, rfl, _, rfl, _, _, rfl, rfl, by show (y : Int) ≠ 0; omega, _, _, rfl, ?_⟩
          have em : (x : Int).fmod (y : Int) = ((x % y : Nat) : Int) := by
            rw [Int.fmod_eq_emod_of_nonneg _ (by omega)]
            exact (Int.natCast_emod x y).symm
          refine ⟨⟨rfl, y, x % y, ?_, ?_⟩, ?_⟩
          · show [some (V.int (y : Int)), some (V.int ((x : Int).fmod (y : Int)))] = _
            rw [em]
          · rw [← e, Nat.gcd_comm x y, Nat.gcd_rec y x, Nat.gcd_comm]
          · show ((x : Int).fmod (y : Int)).toNat < (y : Int).toNat
            rw [em]
            have := Nat.mod_lt x (show 0 < y by omega)
            omega
      · rintro σ H2 Q1 Q2 f ⟨v, h1, k, h2, q⟩
        exact ⟨v, h1, k, h2, f _ _ q⟩
    · rintro σ H' Q1 Q2 f h
      obtain ⟨v, h1, i, h2, i2, j2, h3, h4, k, h5, q⟩ := h
      exact ⟨v, h1, i, h2, i2, j2, h3, h4, k, h5, f _ _ q⟩
  refine ⟨_, (pss_cons (ps_if (pt_cmpR op_lt (pv 0) (pv 1) (nomark _)) (pss_one (ps_par (i := 0) (j := 1) (by rfl) scDivisor.nd rfl rfl (by decide) rfl rfl (pa_cons (pv 1) (pa_cons (pv 0) pa_nil)) (by rfl))) pss_nil) (pss_cons (ps_while PassesOwn.never (pt_cmpR op_gt (pe_bits (pv 1)) (pe_glob (v := .int 3000) rfl hL ⟨_, rfl⟩) (nomark _)) (pss_one ps_never)) (pss_cons (ps_while PassesOwn.never (pt_truth (pv 1) (by intro _; rfl)) (pss_one (ps_par (i := 0) (j := 1) (by rfl) scDivisor.nd rfl rfl (by decide) rfl rfl (pa_cons (pv 1) (pa_cons (pe_op op_modN (pv 0) (pv 1)) pa_nil)) (by rfl)))) (pss_one (ps_ret (pv 0)))))), ?_⟩
  refine ⟨_, rfl, _, rfl, _, _, rfl, rfl, _, rfl, ?_⟩
  refine ite2 (fun c => ?_) (fun c => ?_)
  · refine ⟨_, rfl, _, rfl, _, _, rfl, ?_⟩
    exact rest b a hb ha (Nat.gcd_comm _ _) _ q
  · exact rest a b ha hb rfl _ q

theorem bl_t {p : Prop} [Decidable p] (h : p) : V.bl (decide p) = V.bl true := congrArg V.bl (decide_eq_true h)
theorem dp_tup {H : Hp} {v : V} {ds : List PyData} (h : Dp K H v (.tuple ds)) : ∃ a xs, v = .ref a ∧ SqT K H a xs ∧ DpAll K H xs ds := by
  cases h with
  | tup h1 h2 => exact ⟨_, _, rfl, h1, h2⟩
theorem dpall_nil {H : Hp} {xs : List V} (h : DpAll K H xs []) : xs = [] := by
  cases h
  rfl
theorem dpall_cons {H : Hp} {xs : List V} {d : PyData} {ds : List PyData} (h : DpAll K H xs (d :: ds)) : ∃ v vs, xs = v :: vs ∧ Dp K H v d ∧ DpAll K H vs ds := by
  cases h with
  | cons h1 h2 => exact ⟨_, _, rfl, h1, h2⟩
theorem dp_int {H : Hp} {v : V} {i : Int} (h : Dp K H v (.int i)) : v = .int i := by
  cases h
  rfl
theorem dp_str {H : Hp} {v : V} {x : Str} (h : Dp K H v (.str x)) : v = .str x := by
  cases h
  rfl
theorem dp_none {H : Hp} {v : V} (h : Dp K H v .none) : v = .non := by
  cases h
  rfl
theorem dp_two {H : Hp} {v : V} {i j : Int} (h : Dp K H v (.tuple [.int i, .int j])) : ∃ a, v = .ref a ∧ SqT K H a [.int i, .int j] := by
  obtain ⟨a, xs, rfl, h1, h2⟩ := dp_tup h
  obtain ⟨x, xs, rfl, e1, h2⟩ := dpall_cons h2
  obtain ⟨y, xs, rfl, e2, h2⟩ := dpall_cons h2
  cases dpall_nil h2
  cases dp_int e1
  cases dp_int e2
  exact ⟨a, rfl, h1⟩
theorem sqt_ty {H : Hp} {a : Addr} {xs : List V} (h : SqT K H a xs) : TyX K H (.ref a) (.type "tuple") := by
  rcases h with (h | ⟨o, h⟩) | ⟨o, its, n, h, c, _⟩
  · exact .base (.tup h)
  · exact .fTuple h
  · exact .kTuple h c
theorem ok_isAmount {f g e : Addr} {fd gd ed : FuncData} (F : Fun K "is_amount" "is_amount" sIsAmount f fd) (T : TP P w K mg aL left) (cI : Cal P w K mg base "is_integer" ["thing"] 1 spIsInteger g gd) (cD : Cal P w K mg base "divisor" ["one", "other"] 1 spDivisor e ed) : FnOk P w K mg base CX0 2 f fd ["thing"] (spIsAmount K) := by
  refine F.ok scIsAmount (fun vs H Q E h => ?_) (fun cdv A outer s H vs Q E hr h => ?_)
  · obtain ⟨i, n, d, rfl, _⟩ := h
    rfl
  obtain ⟨v, n, d, rfl, hv, h1, h2, h3, h4, q⟩ := h
  obtain ⟨a, rfl, ha⟩ := dp_two hv
  refine ⟨_, (pss_cons (ps_if (PW.pt (pw_or (pt_not (pt_val (pe_callB call_isi (by rfl) T.z_isinstance (by decide +kernel) (pa_cons (pv 0) (pa_cons (pe_bltn (v := .ty "tuple") (u := .type "tuple") (by rfl) T.z_tuple (by decide +kernel) rfl) pa_nil))))) (pw_or1 (pt_cmpR op_ne (pe_callB call_len_seq (by rfl) T.z_len PySem.boot_len (pa_cons (pv 0) pa_nil)) pe_int (nomark _))))) (pss_one (ps_ret pe_bl)) pss_nil) (pss_cons (ps_asg (pv 0) (pg_tup (by rfl) (pgs_cons (pg_name (i := 1) scIsAmount.nd rfl (Or.inl rfl)) (pgs_cons (pg_name (i := 2) scIsAmount.nd rfl (Or.inl rfl)) pgs_nil)))) (pss_cons (ps_if (PW.pt (pw_or (pt_not (pt_val (pe_call cI.ok (hr.mono (by decide)) rfl cI.mg cI.kp cI.bd .nil pass0 (pa_cons (pv 1) pa_nil)))) (pw_or1 (pt_not (pt_val (pe_call cI.ok (hr.mono (by decide)) rfl cI.mg cI.kp cI.bd .nil pass0 (pa_cons (pv 2) pa_nil))))))) (pss_one (ps_ret pe_bl)) pss_nil) (pss_one (ps_ret (pe_and (pe_cmpR op_ge (pv 1) pe_int (nomark _)) (pe_and (pe_cmpR op_ge (pv 2) pe_int (nomark _)) (pe_one (pe_cmpR op_eq (pe_call cD.ok (hr.mono (by decide)) rfl cD.mg cD.kp cD.bd .nil pass0 (pa_cons (pv 1) (pa_cons (pv 2) pa_nil))) pe_int (nomark _)))))))))), ?_⟩
  refine ⟨_, rfl, _, _, _, _, true, rfl, .ty _, sqt_ty ha, kit_ty (by decide +kernel), true, rfl, ?_⟩
  refine iteF ?_
  refine ⟨_, rfl, a, _, rfl, .inr ha, rfl, _, rfl, ?_⟩
  refine iteNS rfl ?_
  refine ⟨_, rfl, a, _, rfl, ha, rfl, ?_⟩
  refine ⟨_, _, rfl, _, _, rfl, rfl, ?_⟩
  refine ⟨_, rfl, _, rfl, true, rfl, ?_⟩
  refine iteF ?_
  refine ⟨_, rfl, _, rfl, true, rfl, ?_⟩
  refine iteF ?_
  refine ⟨_, rfl, _, _, rfl, rfl, true, bl_t (by omega), ?_⟩
  refine ⟨_, rfl, _, _, rfl, rfl, true, bl_t (by omega), ?_⟩
  refine ⟨_, rfl, _, rfl, n, d, rfl, h1, h3, ?_⟩
  rw [h4]
  exact ⟨rfl, q⟩

theorem Same.seqT {H H' : Hp} {a : Addr} {xs : List V} (e : Same H H') (h : SqT K H a xs) : SqT K H' a xs := by
  rcases h with (h | ⟨o, h⟩) | h
  · exact .inl (.inl (e _ _ h))
  · exact .inl (.inr ⟨o, e _ _ h⟩)
  · exact .inr h
mutual
theorem dp_same {H H' : Hp} (e : Same H H') : ∀ (d : PyData) (v : V), Dp K H v d → Dp K H' v d
  | .none, _, h => by
    cases h
    exact .non
  | .bool b, _, h => by
    cases h
    exact .bl b
  | .int i, _, h => by
    cases h
    exact .int i
  | .str x, _, h => by
    cases h
    exact .str x
  | .list ds, _, h => by
    cases h with
    | lst h1 h2 => exact .lst (e.seq h1) (dp_sameAll e ds _ h2)
  | .tuple ds, _, h => by
    cases h with
    | tup h1 h2 => exact .tup (Same.seqT e h1) (dp_sameAll e ds _ h2)
  | .dict _, _, h => nomatch h
theorem dp_sameAll {H H' : Hp} (e : Same H H') : ∀ (ds : List PyData) (vs : List V), DpAll K H vs ds → DpAll K H' vs ds
  | [], _, h => by
    cases h
    exact .nil
  | d :: ds, _, h => by
    cases h with
    | cons h1 h2 => exact .cons (dp_same e d _ h1) (dp_sameAll e ds _ h2)
end
theorem ok_isEndless {f : Addr} {fd : FuncData} (F : Fun K "is_endless" "is_endless" sIsEndless f fd) (T : TP P w K mg aL left) : FnOk P w K mg base CX0 1 f fd ["thing"] (spIsEndless K) := by
  refine F.ok scIsEndless (fun vs H Q E h => ?_) (fun cdv A outer s H vs Q E hr h => ?_)
  · obtain ⟨v, rfl, _⟩ := h
    rfl
  obtain ⟨v, rfl, h⟩ := h
  obtain ⟨tl, hL⟩ := T.g_ENDLESS
  refine ⟨_, (pss_one (ps_ret (pe_and (pe_callB call_isi (by rfl) T.z_isinstance (by decide +kernel) (pa_cons (pv 0) (pa_cons (pe_bltn (v := .ty "str") (u := .type "str") (by rfl) T.z_str (by decide +kernel) rfl) pa_nil))) (pe_one (pe_cmpR op_eq (pv 0) (pe_glob (v := .str "endless") rfl hL ⟨_, rfl⟩) (nomark _)))))), ?_⟩
  rcases h with ⟨rfl, q⟩ | ⟨a, xs, rfl, ha, q⟩
  · refine ⟨_, rfl, _, _, _, _, true, rfl, .ty _, .base (.str _), kit_ty (by decide +kernel), true, rfl, ?_⟩
    refine ⟨_, rfl, rfl, ?_⟩
    show Q (.bl (decide (V.str "endless" = V.str "endless"))) H
    rw [decide_eq_true rfl]
    exact q
  · refine ⟨_, rfl, _, _, _, _, false, rfl, .ty _, sqt_ty ha, kit_ty (by decide +kernel), false, rfl, ?_⟩
    exact q

theorem val_some {kvs : List (Key × V)} {k : Key} (h : k ∈ kvs.map (·.1)) : (valV kvs k).isSome = true := by
  obtain ⟨p, hp, e⟩ := List.mem_map.mp h
  rw [← valV_any]
  exact List.any_eq_true.mpr ⟨p, hp, decide_eq_true e⟩
theorem ok_isWord {f : Addr} {fd : FuncData} (F : Fun K "is_word" "is_word" sIsWord f fd) (T : TP P w K mg aL left) : FnOk P w K mg base CX0 1 f fd ["thing"] spIsWord := by
  refine F.ok scIsWord (fun vs H Q E h => ?_) (fun cdv A outer s H vs Q E hr h => ?_)
  · obtain ⟨v, rfl, _⟩ := h
    rfl
  obtain ⟨x, rfl, hx, q⟩ := h
  refine ⟨_, (pss_one (ps_ret (pe_and (pe_callB call_isi (by rfl) T.z_isinstance (by decide +kernel) (pa_cons (pv 0) (pa_cons (pe_bltn (v := .ty "str") (u := .type "str") (by rfl) T.z_str (by decide +kernel) rfl) pa_nil))) (pe_one (pe_cmpR op_inT (pv 0) (pe_glob (v := .ref aL) rfl T.g_LEFT_OUT rfl) (by first | exact nomark _ | rfl)))))), ?_⟩
  refine ⟨_, rfl, _, _, _, _, true, rfl, .ty _, .base (.str _), kit_ty (by decide +kernel), true, rfl, ?_⟩
  refine ⟨_, rfl, aL, left, Sum.inr x, rfl, rfl, T.tab, ?_⟩
  rw [val_some (k := (Sum.inr x : Key)) (by rw [T.keys]; exact List.mem_map.mpr ⟨x, hx, rfl⟩)]
  exact q

theorem map_int_get {xs : List Int} {i : Nat} {x : V} (h : (xs.map V.int)[i]? = some x) : ∃ z, x = .int z ∧ xs[i]? = some z := by
  rw [List.getElem?_map] at h
  cases e : xs[i]? with
  | none =>
    rw [e] at h
    cases h
  | some z =>
    rw [e] at h
    exact ⟨z, (Option.some.inj h).symm, rfl⟩
theorem dp_ints {H : Hp} : ∀ {vs : List V} {xs : List Int}, DpAll K H vs (xs.map .int) → vs = xs.map V.int
  | vs, [], h => dpall_nil h
  | vs, x :: xs, h => by
    obtain ⟨v, r, rfl, h1, h2⟩ := dpall_cons h
    rw [dp_int h1, dp_ints h2]
    rfl
theorem drop_at {α : Type} {xs : List α} {i : Nat} {z : α} (h : xs[i]? = some z) : xs.drop i = z :: xs.drop (i + 1) := by
  obtain ⟨hi, e⟩ := List.getElem?_eq_some_iff.mp h
  rw [List.drop_eq_getElem_cons hi, e]
theorem ok_isSet {f g : Addr} {fd gd : FuncData} (F : Fun K "is_set" "is_set" sIsSet f fd) (T : TP P w K mg aL left) (cI : Cal P w K mg base "is_integer" ["thing"] 1 spIsInteger g gd) : FnOk P w K mg base CX0 2 f fd ["thing"] (spIsSet K) := by
  refine F.ok scIsSet (fun vs H Q E h => ?_) (fun cdv A outer s H vs Q E hr h => ?_)
  · obtain ⟨v, xs, rfl, _⟩ := h
    rfl
  obtain ⟨v, xs, rfl, hv, hrise, hlen, q⟩ := h
  obtain ⟨a, ys, rfl, ha, hys⟩ := dp_tup hv
  cases dp_ints hys
  obtain ⟨tl, hL⟩ := T.g_GREATEST_PROCESSOR
  refine ⟨_, (pss_cons (ps_if (pt_not (pt_val (pe_callB call_isi (by rfl) T.z_isinstance (by decide +kernel) (pa_cons (pv 0) (pa_cons (pe_bltn (v := .ty "tuple") (u := .type "tuple") (by rfl) T.z_tuple (by decide +kernel) rfl) pa_nil))))) (pss_one (ps_ret pe_bl)) pss_nil) (pss_cons (ps_set (i := 1) scIsSet.nd rfl (Or.inl rfl) (pe_un un_neg pe_int)) (pss_cons (ps_for PassesOwn.never rfl (pi_tup (pv 0)) (pg_name (i := 2) scIsSet.nd rfl (Or.inl rfl)) (pss_cons (ps_if (PW.pt (pw_or (pt_not (pt_val (pe_call cI.ok (hr.mono (by decide)) rfl cI.mg cI.kp cI.bd .nil pass0 (pa_cons (pv 2) pa_nil)))) (pw_or1 (pt_not (pt_chain op_lt op_le (pv 1) (pv 2) (pe_glob (v := .int 63) rfl hL ⟨_, rfl⟩)))))) (pss_one (ps_ret pe_bl)) pss_nil) (pss_one (ps_set (i := 1) scIsSet.nd rfl (Or.inl rfl) (pv 2))))) (pss_one (ps_ret pe_bl))))), ?_⟩
  refine ⟨_, rfl, _, _, _, _, true, rfl, .ty _, sqt_ty ha, kit_ty (by decide +kernel), true, rfl, ?_⟩
  refine iteF ?_
  refine ⟨_, rfl, ?_⟩
  refine ⟨_, rfl, a, rfl, ⟨_, ha⟩, for_tup (xs := xs.map V.int) (fun i σ H' => H' = H ∧ ∃ (p : Int) (o : Option V), σ = [some (.ref a), some (.int p), o] ∧ RiseOk p (xs.drop i)) ⟨rfl, -1, none, rfl, hrise⟩ ?_ ?_ ?_⟩
  · rintro i σ H' _ ⟨rfl, _⟩
    exact ha
  · rintro i x σ H' hi ⟨rfl, p, o, rfl, hp⟩
    obtain ⟨z, rfl, hz⟩ := map_int_get hi
    rw [drop_at hz] at hp
    obtain ⟨h1, h2, h3⟩ := hp
    refine ⟨_, rfl, z, rfl, true, rfl, ?_⟩
    refine iteF ?_
    refine ⟨_, rfl, _, rfl, _, _, rfl, rfl, true, bl_t h1, ?_⟩
    refine iteT ?_
    refine ⟨_, _, rfl, rfl, true, bl_t h2, ?_⟩
    refine iteF ?_
    refine ⟨_, rfl, ?_⟩
    exact ⟨rfl, z, _, rfl, h3⟩
  · rintro σ H' ⟨rfl, _⟩
    exact q

theorem ifF {b : Bool} {A B : Prop} (h : b = false) (k : B) : if b = true then A else B := by
  rw [h]
  exact iteF k
theorem ifT {b : Bool} {A B : Prop} (h : b = true) (k : A) : if b = true then A else B := by
  rw [h]
  exact iteT k
theorem in_yes {x : V} {xs : List V} (h : inV x xs = true) : (if (false : Bool) = true then !inV x xs else inV x xs) = true := by
  rw [if_neg (by decide)]
  exact h
theorem ok_mayHave {f g e c d : Addr} {fd gd ed cd dd : FuncData} (F : Fun K "may_have" "may_have" sMayHave f fd) (T : TP P w K mg aL left) (cA : Cal P w K mg base "is_amount" ["thing"] 2 (spIsAmount K) g gd) (cI : Cal P w K mg base "is_integer" ["thing"] 1 spIsInteger e ed)
    (cS : Cal P w K mg base "is_set" ["thing"] 2 (spIsSet K) c cd) (cE : Cal P w K mg base "is_endless" ["thing"] 1 (spIsEndless K) d dd) : FnOk P w K mg base CX0 3 f fd ["word", "value"] (spMayHave K) := by
  refine F.ok scMayHave (fun vs H Q E h => ?_) (fun cdv A outer s H vs Q E hr h => ?_)
  · obtain ⟨x, v, d, rfl, _⟩ := h
    rfl
  obtain ⟨x, v, d, rfl, hv, hok, q⟩ := h
  refine ⟨_, (pss_cons (ps_if (pt_cmpR op_in_seq (pv 0) (pe_tup (pa_cons pe_str (pa_cons pe_str (pa_cons pe_str pa_nil)))) (by first | exact nomark _ | rfl)) (pss_one (ps_ret (pe_call cA.ok (hr.mono (by decide)) rfl cA.mg cA.kp cA.bd .nil pass0 (pa_cons (pv 1) pa_nil)))) pss_nil) (pss_cons (ps_if (pt_cmpR op_eq (pv 0) pe_str (nomark _)) (pss_one (ps_ret (pe_or (pe_cmpR op_isN (pv 1) pe_non (nomark _)) (pe_one (pe_call cS.ok (hr.mono (by decide)) rfl cS.mg cS.kp cS.bd .nil pass0 (pa_cons (pv 1) pa_nil)))))) pss_nil) (pss_cons (ps_if (pt_cmpR op_eq (pv 0) pe_str (nomark _)) (pss_one (ps_ret (pe_and (pe_call cI.ok (hr.mono (by decide)) rfl cI.mg cI.kp cI.bd .nil pass0 (pa_cons (pv 1) pa_nil)) (pe_one (pe_cmpR op_in_seq (pv 1) (pe_tup (pa_cons pe_int (pa_cons pe_int pa_nil))) (by first | exact nomark _ | rfl)))))) pss_nil) (pss_one (ps_ret (pe_or (pe_call cE.ok (hr.mono (by decide)) rfl cE.mg cE.kp cE.bd .nil pass0 (pa_cons (pv 1) pa_nil)) (pe_one (pe_call cA.ok (hr.mono (by decide)) rfl cA.mg cA.kp cA.bd .nil pass0 (pa_cons (pv 1) pa_nil))))))))), ?_⟩
  refine ⟨_, rfl, by show 3 ≤ sizeLine; decide, fun p hp => ⟨p, _, rfl, .inr (SqT.of upd_same), rfl, rfl, ?_⟩⟩
  have s1 := Same.new (Same.refl H) hp (.tup [.str "min", .str "low", .str "burst"])
  have hv1 := dp_same s1 d v hv
  cases hok with
  | @amt _ n m hw h1 h2 h3 h4 =>
    obtain ⟨a, rfl, ha⟩ := dp_two hv1
    simp only [List.mem_cons, List.not_mem_nil, or_false] at hw
    rcases hw with rfl | rfl | rfl | rfl | rfl | rfl
    iterate 3
      · refine ⟨true, congrArg V.bl (by decide +kernel), iteT ?_⟩
        exact ⟨_, rfl, _, n, m, rfl, hv1, h1, h2, h3, h4, q _ s1⟩
    iterate 3
      · refine ⟨false, congrArg V.bl (by decide +kernel), iteF ?_⟩
        refine ⟨_, rfl, rfl, _, rfl, ifF (by decide +kernel) ?_⟩
        refine ⟨_, rfl, rfl, _, rfl, ifF (by decide +kernel) ?_⟩
        refine ⟨_, rfl, _, rfl, .inr ⟨a, _, rfl, ha, ?_⟩⟩
        refine ⟨false, rfl, ?_⟩
        refine iteF ?_
        exact ⟨_, rfl, _, n, m, rfl, hv1, h1, h2, h3, h4, q _ s1⟩
  | endl hw =>
    cases dp_str hv
    simp only [List.mem_cons, List.not_mem_nil, or_false] at hw
    rcases hw with rfl | rfl | rfl
    all_goals
      refine ⟨false, congrArg V.bl (by decide +kernel), iteF ?_⟩
      refine ⟨_, rfl, rfl, _, rfl, ifF (by decide +kernel) ?_⟩
      refine ⟨_, rfl, rfl, _, rfl, ifF (by decide +kernel) ?_⟩
      refine ⟨_, rfl, _, rfl, .inl ⟨rfl, ?_⟩⟩
      refine ⟨true, rfl, ?_⟩
      refine iteT ?_
      exact q _ s1
  | none =>
    cases dp_none hv
    refine ⟨false, congrArg V.bl (by decide +kernel), iteF ?_⟩
    refine ⟨_, rfl, rfl, _, rfl, ifT (by decide +kernel) ?_⟩
    refine ⟨_, rfl, rfl, true, rfl, iteT ?_⟩
    exact q _ s1
  | @set xs hx hl =>
    obtain ⟨a, ys, rfl, ha, hys⟩ := dp_tup hv1
    refine ⟨false, congrArg V.bl (by decide +kernel), iteF ?_⟩
    refine ⟨_, rfl, rfl, _, rfl, ifT (by decide +kernel) ?_⟩
    refine ⟨_, rfl, rfl, false, rfl, iteF ?_⟩
    exact ⟨_, rfl, _, xs, rfl, hv1, hx, hl, q _ s1⟩
  | @alone i hi =>
    cases dp_int hv
    refine ⟨false, congrArg V.bl (by decide +kernel), iteF ?_⟩
    refine ⟨_, rfl, rfl, _, rfl, ifF (by decide +kernel) ?_⟩
    refine ⟨_, rfl, rfl, _, rfl, ifT (by decide +kernel) ?_⟩
    refine ⟨_, rfl, i, rfl, true, rfl, iteT ?_⟩
    refine ⟨_, rfl, by show 2 ≤ sizeLine; decide, fun p2 hp2 => ⟨p2, _, rfl, .inr (SqT.of upd_same), rfl, rfl, ?_⟩⟩
    have e : inV (.int i) [.int 0, .int 1] = true := by
      rcases hi with rfl | rfl <;> decide +kernel
    show Q (.bl (inV (.int i) [.int 0, .int 1])) _
    rw [e]
    exact q _ (Same.new s1 hp2 _)

end
end Bd
end

section
namespace Bd
open PySem L2
abbrev sIsName : Stmt := (top 21)
theorem scIsName : FnScope ["thing", "letter"] ["thing"] (defScope sIsName) := ⟨rfl, rfl, rfl, by decide +kernel, rfl, by decide +kernel, by decide +kernel⟩
abbrev sIsDue : Stmt := (top 26)
theorem scIsDue : FnScope ["thing", "word", "value"] ["thing"] (defScope sIsDue) := ⟨rfl, rfl, rfl, by decide +kernel, rfl, by decide +kernel, by decide +kernel⟩
abbrev sIsDues : Stmt := (top 27)
theorem scIsDues : FnScope ["thing", "words", "due"] ["thing"] (defScope sIsDues) := ⟨rfl, rfl, rfl, by decide +kernel, rfl, by decide +kernel, by decide +kernel⟩
abbrev sIsGroupRow : Stmt := (top 28)
theorem scIsGroupRow : FnScope ["thing", "name", "above", "dues"] ["thing"] (defScope sIsGroupRow) := ⟨rfl, rfl, rfl, by decide +kernel, rfl, by decide +kernel, by decide +kernel⟩
abbrev sMayStand : Stmt := (top 30)
theorem scMayStand : FnScope ["tree", "row", "name", "above", "dues"] ["tree", "row"] (defScope sMayStand) := ⟨rfl, rfl, rfl, by decide +kernel, rfl, by decide +kernel, by decide +kernel⟩

def NameOk (x : Str) : Prop := 1 ≤ x.length ∧ x.length ≤ 10 ∧ ∀ c ∈ x.cps.toList, 97 ≤ c ∧ c ≤ 122
structure RowM where
  name : Str
  above : Str
  dues : List (Str × PyData)
/-- a pair of a word and a value at p -/
def DueAt (K : PySem.W.Frag) (H : Hp) (p : Addr) (du : Str × PyData) : Prop := ∃ u, SqT K H p [.str du.1, u] ∧ Dp K H u du.2
/-- dues at t -/
def DuesAt (K : PySem.W.Frag) (H : Hp) (t : Addr) (dues : List (Str × PyData)) : Prop := ∃ ps : List Addr, FrT H t (ps.map V.ref) ∧ Paired (DueAt K H) ps dues
def RowAt (K : PySem.W.Frag) (H : Hp) (v : V) (r : RowM) : Prop := ∃ a t, v = .ref a ∧ SqT K H a [.str r.name, .str r.above, .ref t] ∧ DuesAt K H t r.dues
def DuesOk (dues : List (Str × PyData)) : Prop := (dues.map (·.1)).Nodup ∧ ∀ du ∈ dues, du.1 ∈ leftW ∧ ValOk du.1 du.2
theorem paired_mono {α β : Type} {F G : α → β → Prop} (h : ∀ a b, F a b → G a b) : ∀ {xs : List α} {ys : List β}, Paired F xs ys → Paired G xs ys
  | _, _, .nil => .nil
  | _, _, .cons a b => .cons (h _ _ a) (paired_mono h b)
theorem paired_get {α β : Type} {F : α → β → Prop} : ∀ {xs : List α} {ys : List β}, Paired F xs ys → ∀ {i : Nat} {x : α}, xs[i]? = some x → ∃ y, ys[i]? = some y ∧ F x y
  | _, _, .nil, i, x, h => by simp at h
  | _, _, .cons a b, 0, x, h => by
    cases Option.some.inj h
    exact ⟨_, rfl, a⟩
  | _, _, .cons a b, i + 1, x, h => by
    obtain ⟨y, h1, h2⟩ := paired_get b (i := i) (x := x) (by simpa using h)
    exact ⟨y, by simpa using h1, h2⟩
theorem DueAt.same {K : PySem.W.Frag} {H H' : Hp} (e : Same H H') {p : Addr} {du : Str × PyData} (h : DueAt K H p du) : DueAt K H' p du := by
  obtain ⟨u, h1, h2⟩ := h
  exact ⟨u, Same.seqT e h1, dp_same e _ _ h2⟩
theorem FrT.same {H H' : Hp} (e : Same H H') {a : Addr} {xs : List V} (h : FrT H a xs) : FrT H' a xs := by
  obtain ⟨o, h1, h2⟩ := h
  exact ⟨o, h1, e _ _ h2⟩
theorem DuesAt.same {K : PySem.W.Frag} {H H' : Hp} (e : Same H H') {t : Addr} {dues : List (Str × PyData)} (h : DuesAt K H t dues) : DuesAt K H' t dues := by
  obtain ⟨ps, h1, h2⟩ := h
  exact ⟨ps, FrT.same e h1, paired_mono (fun _ _ z => DueAt.same e z) h2⟩
theorem RowAt.same {K : PySem.W.Frag} {H H' : Hp} (e : Same H H') {v : V} {r : RowM} (h : RowAt K H v r) : RowAt K H' v r := by
  obtain ⟨a, t, rfl, h1, h2⟩ := h
  exact ⟨a, t, rfl, Same.seqT e h1, DuesAt.same e h2⟩
def spIsName : Sp := fun vs H Q _ => ∃ x : Str, vs = [.str x] ∧ NameOk x ∧ ∀ H', Same H H' → Q (.bl true) H'
def spIsDue (K : PySem.W.Frag) : Sp := fun vs H Q _ => ∃ (p : Addr) (du : Str × PyData), vs = [.ref p] ∧ DueAt K H p du ∧ du.1 ∈ leftW ∧ ValOk du.1 du.2 ∧ ∀ H', Same H H' → Q (.bl true) H'
def spIsDues (K : PySem.W.Frag) : Sp := fun vs H Q _ => ∃ (t : Addr) (dues : List (Str × PyData)), vs = [.ref t] ∧ DuesAt K H t dues ∧ DuesOk dues ∧ ∀ H', Same H H' → Q (.bl true) H'
def spIsGroupRow (K : PySem.W.Frag) : Sp := fun vs H Q _ => ∃ (v : V) (r : RowM), vs = [v] ∧ RowAt K H v r ∧ NameOk r.name ∧ DuesOk r.dues ∧ ∀ H', Same H H' → Q (.bl true) H'
section
variable {P : Program} {w : World} {K : PySem.W.Frag} {mg : Str → Option Value} {base : Heap} {aL : Addr} {left : List (Key × V)}
theorem ok_isDue {f g e : Addr} {fd gd ed : FuncData} (F : Fun K "is_due" "is_due" sIsDue f fd) (T : TP P w K mg aL left) (cW : Cal P w K mg base "is_word" ["thing"] 1 spIsWord g gd) (cM : Cal P w K mg base "may_have" ["word", "value"] 3 (spMayHave K) e ed) :
    FnOk P w K mg base CX0 4 f fd ["thing"] (spIsDue K) := by
  refine F.ok scIsDue (fun vs H Q E h => ?_) (fun cdv A outer s H vs Q E hr h => ?_)
  · obtain ⟨p, du, rfl, _⟩ := h
    rfl
  obtain ⟨p, du, rfl, ⟨u, ha, hu⟩, hw, hv, q⟩ := h
  refine ⟨_, (pss_cons (ps_if (PW.pt (pw_or (pt_not (pt_val (pe_callB call_isi (by rfl) T.z_isinstance (by decide +kernel) (pa_cons (pv 0) (pa_cons (pe_bltn (v := .ty "tuple") (u := .type "tuple") (by rfl) T.z_tuple (by decide +kernel) rfl) pa_nil))))) (pw_or1 (pt_cmpR op_ne (pe_callB call_len_seq (by rfl) T.z_len PySem.boot_len (pa_cons (pv 0) pa_nil)) pe_int (nomark _))))) (pss_one (ps_ret pe_bl)) pss_nil) (pss_cons (ps_asg (pv 0) (pg_tup (by rfl) (pgs_cons (pg_name (i := 1) scIsDue.nd rfl (Or.inl rfl)) (pgs_cons (pg_name (i := 2) scIsDue.nd rfl (Or.inl rfl)) pgs_nil)))) (pss_one (ps_ret (pe_and (pe_call cW.ok (hr.mono (by decide)) rfl cW.mg cW.kp cW.bd .nil pass0 (pa_cons (pv 1) pa_nil)) (pe_one (pe_call cM.ok (hr.mono (by decide)) rfl cM.mg cM.kp cM.bd .nil pass0 (pa_cons (pv 1) (pa_cons (pv 2) pa_nil))))))))), ?_⟩
  refine ⟨_, rfl, _, _, _, _, true, rfl, .ty _, sqt_ty ha, kit_ty (by decide +kernel), true, rfl, ?_⟩
  refine iteF ?_
  refine ⟨_, rfl, p, _, rfl, .inr ha, rfl, _, rfl, ?_⟩
  refine iteNS rfl ?_
  refine ⟨_, rfl, p, _, rfl, ha, rfl, ?_⟩
  refine ⟨_, _, rfl, _, _, rfl, rfl, ?_⟩
  refine ⟨_, rfl, du.1, rfl, hw, true, rfl, iteT ?_⟩
  exact ⟨_, rfl, _, rfl, du.1, u, du.2, rfl, hu, hv, q⟩

theorem letter_ok : ∀ c < 123, 97 ≤ c → (!decide ((⟨#[c]⟩ : Str).cps.toList < ("a" : Str).cps.toList)) = true ∧ (!decide (("z" : Str).cps.toList < (⟨#[c]⟩ : Str).cps.toList)) = true := by decide +kernel
theorem ok_isName {f : Addr} {fd : FuncData} (F : Fun K "is_name" "is_name" sIsName f fd) (T : TP P w K mg aL left) : FnOk P w K mg base CX0 1 f fd ["thing"] spIsName := by
  refine F.ok scIsName (fun vs H Q E h => ?_) (fun cdv A outer s H vs Q E hr h => ?_)
  · obtain ⟨x, rfl, _⟩ := h
    rfl
  obtain ⟨x, rfl, ⟨h1, h2, h3⟩, q⟩ := h
  have hx : x.length ≤ sizeLine := small (by omega)
  refine ⟨_, (pss_cons (ps_if (PW.pt (pw_or (pt_not (pt_val (pe_callB call_isi (by rfl) T.z_isinstance (by decide +kernel) (pa_cons (pv 0) (pa_cons (pe_bltn (v := .ty "str") (u := .type "str") (by rfl) T.z_str (by decide +kernel) rfl) pa_nil))))) (pw_or1 (pt_not (pt_chain op_le op_le pe_int (pe_callB call_len_str (by rfl) T.z_len PySem.boot_len (pa_cons (pv 0) pa_nil)) pe_int))))) (pss_one (ps_ret pe_bl)) pss_nil) (pss_one (ps_ret (pe_callB (cr_all rfl) (by rfl) T.z_all (by decide +kernel) (pa_cons (pe_lc (own := [("letter", 1)]) (g := gName 1) (tt := tYes) rfl scIsName.nd (pi_str (pv 0)) (blkOk_by (own := [("letter", 1)]) (N := ["thing", "letter"]) (sc := defScope sIsName) (by decide +kernel)) (fun _ _ _ _ _ => (pg_name (i := 1) scIsName.nd rfl (Or.inl rfl))) (fun _ _ _ _ _ => pts_nil) (fun _ _ _ _ _ => (pe_chain op_le_str op_le_str pe_str (pv 1) pe_str))) pa_nil))))), ?_⟩
  refine ⟨_, rfl, _, _, _, _, true, rfl, .ty _, .base (.str _), kit_ty (by decide +kernel), true, rfl, ?_⟩
  refine iteF ?_
  refine ⟨_, rfl, x, rfl, hx, _, _, rfl, rfl, true, bl_t (by omega), ?_⟩
  refine iteT ?_
  refine ⟨_, _, rfl, rfl, true, bl_t (by omega), ?_⟩
  refine iteF ?_
  refine ⟨_, rfl, x, rfl, fun D hD => lc_it walk_str (fun i H' => H' = upd H D (.lst ((List.replicate i true).map V.bl))) rfl (fun _ _ _ _ => trivial) ?_ ?_⟩
  · rintro i v H1 H2 hi rfl ⟨rfl, c, hc, rfl⟩
    have hm : c ∈ x.cps.toList := by
      rw [← Array.getElem?_toList] at hc
      exact List.mem_of_getElem? hc
    obtain ⟨l1, l2⟩ := h3 c hm
    obtain ⟨e1, e2⟩ := letter_ok c (by omega) l1
    refine ⟨rfl, ?_⟩
    unfold tYes
    refine iteT ?_
    refine ⟨_, rfl, _, _, rfl, rfl, true, congrArg V.bl e1, ?_⟩
    refine iteT ?_
    refine ⟨_, _, rfl, rfl, ?_⟩
    rw [e2]
    refine ⟨_, upd_same, ?_, ?_⟩
    · rw [List.length_map, List.length_replicate]
      have : x.cps.size = x.length := rfl
      exact small1000 (by omega)
    · rw [upd_upd, List.replicate_succ', List.map_append]
      rfl
  · rintro H1 rfl
    refine ⟨D, List.replicate x.cps.size true, rfl, SqL.of upd_same, ?_⟩
    have e : (List.replicate x.cps.size true).all id = true := by simp
    rw [e]
    exact q _ (Same.new (Same.refl H) hD _)

theorem map_ref_get {ps : List Addr} {i : Nat} {x : V} (h : (ps.map V.ref)[i]? = some x) : ∃ p, x = .ref p ∧ ps[i]? = some p := by
  rw [List.getElem?_map] at h
  cases e : ps[i]? with
  | none =>
    rw [e] at h
    cases h
  | some z =>
    rw [e] at h
    exact ⟨z, (Option.some.inj h).symm, rfl⟩
theorem fresh_at {α β : Type} {f : α → β} : ∀ {xs : List α} {i : Nat} {x : α}, (xs.map f).Nodup → xs[i]? = some x → ∀ y ∈ xs.take i, f y ≠ f x
  | [], i, x, _, h => by simp at h
  | a :: r, 0, x, _, h => by
    intro y hy
    simp at hy
  | a :: r, i + 1, x, hn, h => by
    intro y hy
    have hn : (f a :: r.map f).Nodup := hn
    obtain ⟨h1, h2⟩ := List.nodup_cons.mp hn
    have h' : r[i]? = some x := by simpa using h
    rw [List.take_succ_cons] at hy
    rcases List.mem_cons.mp hy with rfl | hy
    · intro e
      exact h1 (by rw [e]; exact List.mem_map.mpr ⟨x, List.mem_of_getElem? h', rfl⟩)
    · exact fresh_at h2 h' y hy
theorem nodup_few {α : Type} [DecidableEq α] : ∀ {xs ys : List α}, xs.Nodup → (∀ x ∈ xs, x ∈ ys) → xs.length ≤ ys.length
  | [], ys, _, _ => Nat.zero_le _
  | x :: xs, ys, hn, h => by
    obtain ⟨h1, h2⟩ := List.nodup_cons.mp hn
    have hx := h x List.mem_cons_self
    have := nodup_few (xs := xs) (ys := ys.erase x) h2 (fun z hz => by
      have hzx : z ≠ x := fun e => h1 (e ▸ hz)
      exact (List.mem_erase_of_ne hzx).mpr (h z (List.mem_cons_of_mem _ hz)))
    rw [List.length_erase_of_mem hx] at this
    have hp : 0 < ys.length := List.length_pos_of_mem hx
    rw [List.length_cons]
    omega
theorem words_few {dues : List (Str × PyData)} (hn : (dues.map (·.1)).Nodup) (h : ∀ du ∈ dues, du.1 ∈ leftW) : dues.length ≤ 8 := by
  have := nodup_few (ys := leftW) hn (fun x hx => by
    obtain ⟨du, hdu, rfl⟩ := List.mem_map.mp hx
    exact h du hdu)
  rw [List.length_map] at this
  exact this
theorem ok_isDues {f g : Addr} {fd gd : FuncData} (F : Fun K "is_dues" "is_dues" sIsDues f fd) (T : TP P w K mg aL left) (cD : Cal P w K mg base "is_due" ["thing"] 4 (spIsDue K) g gd) :
    FnOk P w K mg base CX0 5 f fd ["thing"] (spIsDues K) := by
  refine F.ok scIsDues (fun vs H Q E h => ?_) (fun cdv A outer s H vs Q E hr h => ?_)
  · obtain ⟨p, du, rfl, _⟩ := h
    rfl
  obtain ⟨t, dues, rfl, hd, ⟨hn, hok⟩, q⟩ := h
  have hu := hu_of hr
  obtain ⟨ps, hF, hp⟩ := id hd
  refine ⟨_, (pss_cons (ps_if (pt_not (pt_val (pe_callB call_isi (by rfl) T.z_isinstance (by decide +kernel) (pa_cons (pv 0) (pa_cons (pe_bltn (v := .ty "tuple") (u := .type "tuple") (by rfl) T.z_tuple (by decide +kernel) rfl) pa_nil))))) (pss_one (ps_ret pe_bl)) pss_nil) (pss_cons (ps_set (i := 1) scIsDues.nd rfl (Or.inl rfl) pe_dnewK) (pss_cons (ps_for PassesOwn.never rfl (pi_tup (pv 0)) (pg_name (i := 2) scIsDues.nd rfl (Or.inl rfl)) (pss_cons (ps_if (PW.pt (pw_or (pt_not (pt_val (pe_call cD.ok (hr.mono (by decide)) rfl cD.mg cD.kp cD.bd .nil pass0 (pa_cons (pv 2) pa_nil)))) (pw_or1 (pt_cmp (pc_din hu (pe_ix ix_tup (pv 2) pe_int (fun _ _ => rfl)) (pv 1)))))) (pss_one (ps_ret pe_bl)) pss_nil) (pss_one (ps_dput hu (pv 1) (pe_ix ix_tup (pv 2) pe_int (fun _ _ => rfl)) pe_bl rfl)))) (pss_one (ps_ret pe_bl))))), ?_⟩
  refine ⟨_, rfl, _, _, _, _, true, rfl, .ty _, sqt_ty hF.seq, kit_ty (by decide +kernel), true, rfl, ?_⟩
  refine iteF ?_
  intro d hd0
  refine ⟨_, rfl, t, rfl, ⟨_, Same.seqT (Same.new (Same.refl H) hd0 _) hF.seq⟩, for_tup (xs := ps.map V.ref) (fun i σ H' => Same H H' ∧ ∃ (kvs : List (Key × V)) (o : Option V), σ = [some (.ref t), some (.ref d), o] ∧ H' d = some (.dK kvs) ∧ kvs.map (·.1) = (dues.take i).map (fun du => Sum.inr du.1)) ⟨Same.new (Same.refl H) hd0 _, [], none, rfl, upd_same, rfl⟩ ?_ ?_ ?_⟩
  · rintro i σ H' _ ⟨s1, _⟩
    exact Same.seqT s1 hF.seq
  · rintro i x σ H' hi ⟨s1, kvs, o, rfl, hk, he⟩
    obtain ⟨p, rfl, hpi⟩ := map_ref_get hi
    obtain ⟨du, hdu, hat⟩ := paired_get hp hpi
    have hmem := List.mem_of_getElem? hdu
    obtain ⟨hw, hv⟩ := hok du hmem
    obtain ⟨u, hpu, hu2⟩ := id hat
    refine ⟨_, rfl, p, du, rfl, DueAt.same s1 hat, hw, hv, fun H2 s2 => ?_⟩
    refine ⟨true, rfl, ?_⟩
    refine iteF ?_
    have hk2 := s2 _ _ hk
    have hpu2 := Same.seqT s2 (Same.seqT s1 hpu)
    have hnone : valV kvs (Sum.inr du.1 : Key) = none := by
      cases hv0 : valV kvs (Sum.inr du.1 : Key) with
      | none => rfl
      | some v =>
        have hin := valV_in hv0
        rw [he] at hin
        obtain ⟨du2, hd2, ed2⟩ := List.mem_map.mp hin
        exact absurd (Sum.inr.inj ed2) (fresh_at hn hdu du2 hd2)
    refine ⟨_, rfl, p, _, _, _, rfl, rfl, hpu2, rfl, _, rfl, d, _, rfl, DGet.k (k := Sum.inr du.1) hk2, ?_⟩
    rw [hnone]
    refine ⟨false, rfl, iteF ?_⟩
    refine ⟨_, rfl, _, rfl, p, _, _, _, rfl, rfl, hpu2, rfl, d, _, rfl, DPut.k (k := Sum.inr du.1) hk2 ?_, ?_⟩
    · have e : kvs.length = (dues.take i).length := by
        have := congrArg List.length he
        simpa using this
      rw [List.length_take] at e
      have : dues.length ≤ 8 := words_few hn fun du hdu => (hok du hdu).1
      exact small1000 (by omega)
    · refine ⟨fun b o hb => ?_, _, _, rfl, upd_same, ?_⟩
      · have n : b ≠ d := ne_of_none hb hd0
        rw [upd_ne n]
        exact s2 _ _ (s1 _ _ hb)
      · rw [putK_new _ hnone, List.map_append, he, List.take_add_one, hdu, Option.toList_some, List.map_append]
        rfl
  · rintro σ H' ⟨s1, _⟩
    exact q _ s1

end
end Bd
end

section
namespace Bd
open PySem L2
abbrev sInit : Stmt := (inClass (top 29) 0)
theorem scInit : FnScope ["self", "rows", "handing", "at", "row", "name", "above", "dues"] ["self", "rows", "handing"] (defScope sInit) := ⟨rfl, rfl, rfl, by decide +kernel, rfl, by decide +kernel, by decide +kernel⟩
abbrev sNames : Stmt := (inClass (top 29) 2)
theorem scNames : FnScope ["self"] ["self"] (defScope sNames) := ⟨rfl, rfl, rfl, by decide +kernel, rfl, by decide +kernel, by decide +kernel⟩

/-- tuples stay -/
def TK (H H' : Hp) : Prop := (∀ b xs, H b = some (.tup xs) → H' b = some (.tup xs)) ∧ ∀ b o u, H b = some (.frz o u) → H' b = some (.frz o u)
theorem TK.refl (H : Hp) : TK H H := ⟨fun _ _ h => h, fun _ _ _ h => h⟩
theorem TK.trans {H H1 H2 : Hp} (a : TK H H1) (b : TK H1 H2) : TK H H2 := ⟨fun c xs h => b.1 c xs (a.1 c xs h), fun c o u h => b.2 c o u (a.2 c o u h)⟩
theorem TK.of {H H1 : Hp} (a : Same H H1) : TK H H1 := ⟨fun c xs h => a _ _ h, fun c o u h => a _ _ h⟩
theorem TK.kept {H H1 : Hp} {p : Addr} {xs : List V} (h : H p = some (.lst xs)) (a : Kept p H H1) : TK H H1 :=
  ⟨fun c ys e => a c _ (ne_of e h (by intro z; cases z)) e, fun c o u e => a c _ (ne_of e h (by intro z; cases z)) e⟩
theorem TK.lst {H : Hp} {p : Addr} {xs : List V} (h : H p = some (.lst xs)) (o : HO) : TK H (upd H p o) :=
  ⟨fun c ys e => by rw [upd_ne (ne_of e h (by intro z; cases z))]; exact e, fun c v u e => by rw [upd_ne (ne_of e h (by intro z; cases z))]; exact e⟩
theorem TK.dk {H : Hp} {p : Addr} {xs : List (Key × V)} (h : H p = some (.dK xs)) (o : HO) : TK H (upd H p o) :=
  ⟨fun c ys e => by rw [upd_ne (ne_of e h (by intro z; cases z))]; exact e, fun c v u e => by rw [upd_ne (ne_of e h (by intro z; cases z))]; exact e⟩
theorem TK.ins {H : Hp} {p C dx : Addr} {xs : List (Str × V)} (h : H p = some (.ins C dx xs)) (o : HO) : TK H (upd H p o) :=
  ⟨fun c ys e => by rw [upd_ne (ne_of e h (by intro z; cases z))]; exact e, fun c v u e => by rw [upd_ne (ne_of e h (by intro z; cases z))]; exact e⟩
theorem TK.new {H : Hp} {p : Addr} (h : H p = none) (o : HO) : TK H (upd H p o) := TK.of (Same.new (Same.refl H) h o)
section
variable {K : PySem.W.Frag}
theorem TK.seqT {H H' : Hp} (e : TK H H') {a : Addr} {xs : List V} (h : SqT K H a xs) : SqT K H' a xs := by
  rcases h with (h | ⟨o, h⟩) | h
  · exact .inl (.inl (e.1 _ _ h))
  · exact .inl (.inr ⟨o, e.2 _ _ _ h⟩)
  · exact .inr h
theorem TK.frT {H H' : Hp} (e : TK H H') {a : Addr} {xs : List V} (h : FrT H a xs) : FrT H' a xs := by
  obtain ⟨o, h1, h2⟩ := h
  exact ⟨o, h1, e.2 _ _ _ h2⟩
theorem dp_ofints {H : Hp} : ∀ xs : List Int, DpAll K H (xs.map V.int) (xs.map .int)
  | [] => .nil
  | x :: xs => .cons (.int x) (dp_ofints xs)
theorem TK.val {H H' : Hp} (e : TK H H') {x : Str} {v : V} {d : PyData} (hv : ValOk x d) (h : Dp K H v d) : Dp K H' v d := by
  cases hv with
  | amt =>
    obtain ⟨a, rfl, ha⟩ := dp_two h
    exact .tup (e.seqT ha) (.cons (.int _) (.cons (.int _) .nil))
  | endl =>
    cases h
    exact .str _
  | none =>
    cases h
    exact .non
  | set =>
    obtain ⟨a, ys, rfl, ha, hys⟩ := dp_tup h
    cases dp_ints hys
    exact .tup (e.seqT ha) (dp_ofints _)
  | alone =>
    cases h
    exact .int _
theorem paired_monoM {α β : Type} {F G : α → β → Prop} : ∀ {xs : List α} {ys : List β}, (∀ a b, b ∈ ys → F a b → G a b) → Paired F xs ys → Paired G xs ys
  | _, _, _, .nil => .nil
  | _, _, h, .cons a b => .cons (h _ _ List.mem_cons_self a) (paired_monoM (fun x y hy z => h x y (List.mem_cons_of_mem _ hy) z) b)
theorem TK.dues {H H' : Hp} (e : TK H H') {t : Addr} {dues : List (Str × PyData)} (ok : DuesOk dues) (h : DuesAt K H t dues) : DuesAt K H' t dues := by
  obtain ⟨ps, h1, h2⟩ := h
  refine ⟨ps, e.frT h1, paired_monoM (fun p du hm z => ?_) h2⟩
  obtain ⟨u, h3, h4⟩ := z
  exact ⟨u, e.seqT h3, e.val (ok.2 du hm).2 h4⟩
theorem TK.row {H H' : Hp} (e : TK H H') {v : V} {r : RowM} (ok : DuesOk r.dues) (h : RowAt K H v r) : RowAt K H' v r := by
  obtain ⟨a, t, rfl, h1, h2⟩ := h
  exact ⟨a, t, rfl, e.seqT h1, e.dues ok h2⟩
end
def leftD : List (Str × PyData) := [("min", .tuple [.int 0, .int 1]), ("low", .tuple [.int 0, .int 1]), ("max", .str "endless"), ("quota", .str "endless"), ("burst", .tuple [.int 0, .int 1]), ("tops", .str "endless"), ("sets", .none), ("alone", .int 0)]
def dueOf (dues : List (Str × PyData)) (x : Str) : Option PyData := (dues.find? fun du => decide (du.1 = x)).map (·.2)
def fullD (dues : List (Str × PyData)) : List (Str × PyData) := leftD.map fun wd => (wd.1, (dueOf dues wd.1).getD wd.2)
def FullAt (K : PySem.W.Frag) (H : Hp) (d : Addr) (dues : List (Str × PyData)) : Prop := ∃ kvs : List (Key × V), H d = some (.dK kvs) ∧ Paired (fun kv (wd : Str × PyData) => kv.1 = (Sum.inr wd.1 : Key) ∧ Dp K H kv.2 wd.2) kvs (fullD dues)
theorem leftD_ok : ∀ wd ∈ leftD, wd.1 ∈ leftW ∧ ValOk wd.1 wd.2 := by
  intro wd h
  have z1 : ValOk "min" (.tuple [.int ((0 : Nat) : Int), .int ((1 : Nat) : Int)]) := .amt (by decide +kernel) (Nat.pow_pos (by decide)) (by decide) (Nat.one_lt_two_pow (by decide)) (by decide)
  have z2 : ValOk "low" (.tuple [.int ((0 : Nat) : Int), .int ((1 : Nat) : Int)]) := .amt (by decide +kernel) (Nat.pow_pos (by decide)) (by decide) (Nat.one_lt_two_pow (by decide)) (by decide)
  have z3 : ValOk "burst" (.tuple [.int ((0 : Nat) : Int), .int ((1 : Nat) : Int)]) := .amt (by decide +kernel) (Nat.pow_pos (by decide)) (by decide) (Nat.one_lt_two_pow (by decide)) (by decide)
  simp only [leftD, List.mem_cons, List.not_mem_nil, or_false] at h
  rcases h with rfl | rfl | rfl | rfl | rfl | rfl | rfl | rfl
  · exact ⟨by decide +kernel, z1⟩
  · exact ⟨by decide +kernel, z2⟩
  · exact ⟨by decide +kernel, .endl (by decide +kernel)⟩
  · exact ⟨by decide +kernel, .endl (by decide +kernel)⟩
  · exact ⟨by decide +kernel, z3⟩
  · exact ⟨by decide +kernel, .endl (by decide +kernel)⟩
  · exact ⟨by decide +kernel, .none⟩
  · exact ⟨by decide +kernel, .alone (.inl rfl)⟩
theorem dueOf_mem {dues : List (Str × PyData)} {x : Str} {d : PyData} (h : dueOf dues x = some d) : (x, d) ∈ dues := by
  unfold dueOf at h
  cases e : dues.find? fun du => decide (du.1 = x) with
  | none =>
    rw [e] at h
    cases h
  | some du =>
    rw [e] at h
    have h1 := List.mem_of_find?_eq_some e
    have h2 : du.1 = x := by
      have z := List.find?_some e
      simpa using z
    cases h
    rw [← h2]
    exact h1
theorem fullD_ok {dues : List (Str × PyData)} (ok : DuesOk dues) : ∀ wd ∈ fullD dues, ValOk wd.1 wd.2 := by
  intro wd h
  obtain ⟨ld, hl, rfl⟩ := List.mem_map.mp h
  show ValOk ld.1 ((dueOf dues ld.1).getD ld.2)
  cases e : dueOf dues ld.1 with
  | none => exact (leftD_ok ld hl).2
  | some d => exact (ok.2 _ (dueOf_mem e)).2
theorem TK.full {K : PySem.W.Frag} {H H' : Hp} (e : TK H H') {d : Addr} {dues : List (Str × PyData)} (ok : DuesOk dues) (hd : H' d = H d) (h : FullAt K H d dues) : FullAt K H' d dues := by
  obtain ⟨kvs, h1, h2⟩ := h
  exact ⟨kvs, hd.trans h1, paired_monoM (fun kv wd hm z => ⟨z.1, e.val (fullD_ok ok wd hm) z.2⟩) h2⟩
/-! ### what merging makes -/
theorem mergeK_app : ∀ (more acc : List (Key × V)), ((acc ++ more).map (·.1)).Nodup → mergeK acc more = acc ++ more
  | [], acc, _ => by simp [mergeK]
  | p :: r, acc, h => by
    have hn : valV acc p.1 = none := by
      cases e : valV acc p.1 with
      | none => rfl
      | some v =>
        have h1 := valV_in e
        rw [List.map_append, List.nodup_append] at h
        exact absurd rfl (h.2.2 p.1 h1 p.1 (by simp))
    have h2 : mergeK acc (p :: r) = mergeK (putK acc p.1 p.2) r := rfl
    rw [h2, putK_new _ hn, mergeK_app r (acc ++ [(p.1, p.2)]) (by simpa using h)]
    simp
theorem mergeK_over : ∀ (more kvs : List (Key × V)), (more.map (·.1)).Nodup → (∀ p ∈ more, p.1 ∈ kvs.map (·.1)) → mergeK kvs more = kvs.map fun kv => (kv.1, (valV more kv.1).getD kv.2)
  | [], kvs, _, _ => by simp [mergeK, valV]
  | p :: r, kvs, hn, hm => by
    have hn : (p.1 :: r.map (·.1)).Nodup := hn
    obtain ⟨h1, h2⟩ := List.nodup_cons.mp hn
    have hp : (kvs.any fun kv => decide (kv.1 = p.1)) = true := by
      obtain ⟨q, hq, e⟩ := List.mem_map.mp (hm p List.mem_cons_self)
      exact List.any_eq_true.mpr ⟨q, hq, decide_eq_true e⟩
    have hput : putK kvs p.1 p.2 = kvs.map (fun kv => if kv.1 = p.1 then (kv.1, p.2) else kv) := by
      unfold putK
      rw [if_pos hp]
    have hkeys : (putK kvs p.1 p.2).map (·.1) = kvs.map (·.1) := by
      rw [hput, List.map_map]
      refine List.map_congr_left fun kv _ => ?_
      show (if kv.1 = p.1 then (kv.1, p.2) else kv).1 = kv.1
      split <;> rfl
    have e : mergeK kvs (p :: r) = mergeK (putK kvs p.1 p.2) r := rfl
    rw [e, mergeK_over r (putK kvs p.1 p.2) h2 (fun q hq => by rw [hkeys]; exact hm q (List.mem_cons_of_mem _ hq)), hput, List.map_map]
    refine List.map_congr_left fun kv _ => ?_
    show ((if kv.1 = p.1 then (kv.1, p.2) else kv).1, (valV r (if kv.1 = p.1 then (kv.1, p.2) else kv).1).getD (if kv.1 = p.1 then (kv.1, p.2) else kv).2) = (kv.1, (valV (p :: r) kv.1).getD kv.2)
    by_cases c : kv.1 = p.1
    · rw [if_pos c]
      have hv : valV r kv.1 = none := by
        cases z : valV r kv.1 with
        | none => rfl
        | some v =>
          have z2 := valV_in z
          rw [c] at z2
          exact absurd z2 h1
      show (kv.1, (valV r kv.1).getD p.2) = (kv.1, (valV (p :: r) kv.1).getD kv.2)
      rw [hv, valV_pos c.symm]
      rfl
    · rw [if_neg c, valV_neg (fun z => c z.symm)]
def PV (K : PySem.W.Frag) (H : Hp) (kv : Key × V) (wd : Str × PyData) : Prop := kv.1 = (Sum.inr wd.1 : Key) ∧ Dp K H kv.2 wd.2
theorem val_due {K : PySem.W.Frag} {H : Hp} (x : Str) : ∀ {dk : List (Key × V)} {dues : List (Str × PyData)}, Paired (PV K H) dk dues →
    (valV dk (Sum.inr x : Key) = none ∧ dueOf dues x = none) ∨ ∃ v d, valV dk (Sum.inr x : Key) = some v ∧ dueOf dues x = some d ∧ Dp K H v d
  | _, _, .nil => .inl ⟨rfl, rfl⟩
  | _, _, .cons (a := kv) (b := du) h t => by
    by_cases e : du.1 = x
    · refine .inr ⟨kv.2, du.2, valV_pos (by rw [h.1, e]), ?_, h.2⟩
      unfold dueOf
      rw [List.find?_cons_of_pos (by simpa using e)]
      rfl
    · have e1 : ¬ kv.1 = (Sum.inr x : Key) := fun z => e (Sum.inr.inj (h.1.symm.trans z))
      have e2 : ∀ ds, dueOf (du :: ds) x = dueOf ds x := fun ds => by
        unfold dueOf
        rw [List.find?_cons_of_neg (by simpa using e)]
      rw [valV_neg e1, e2]
      exact val_due x t
theorem paired_map {α β γ δ : Type} {F : α → β → Prop} {G : γ → δ → Prop} {f : α → γ} {g : β → δ} (h : ∀ a b, F a b → G (f a) (g b)) : ∀ {xs : List α} {ys : List β}, Paired F xs ys → Paired G (xs.map f) (ys.map g)
  | _, _, .nil => .nil
  | _, _, .cons a b => .cons (h _ _ a) (paired_map h b)
theorem pv_keys {K : PySem.W.Frag} {H : Hp} : ∀ {dk : List (Key × V)} {dues : List (Str × PyData)}, Paired (PV K H) dk dues → dk.map (·.1) = dues.map fun du => (Sum.inr du.1 : Key)
  | _, _, .nil => rfl
  | _, _, .cons a b => by
    rw [List.map_cons, List.map_cons, a.1, pv_keys b]
theorem nodup_inr {xs : List Str} (h : xs.Nodup) : (xs.map fun x => (Sum.inr x : Key)).Nodup := by
  induction xs with
  | nil => exact List.nodup_nil
  | cons x r ih =>
    obtain ⟨h1, h2⟩ := List.nodup_cons.mp h
    rw [List.map_cons]
    refine List.nodup_cons.mpr ⟨fun m => ?_, ih h2⟩
    obtain ⟨y, hy, e⟩ := List.mem_map.mp m
    exact h1 (Sum.inr.inj e ▸ hy)
theorem leftD_words : leftD.map (·.1) = leftW := by decide +kernel
theorem leftW_nd : leftW.Nodup := by decide +kernel
theorem full_of {K : PySem.W.Frag} {H : Hp} {left dk : List (Key × V)} {dues : List (Str × PyData)} (hl : Paired (PV K H) left leftD) (hd : Paired (PV K H) dk dues) (ok : DuesOk dues) :
    Paired (PV K H) (mergeK (mergeK [] left) (mergeK [] dk)) (fullD dues) := by
  have kl : left.map (·.1) = leftW.map fun x => (Sum.inr x : Key) := by
    rw [pv_keys hl, ← leftD_words, List.map_map]
    rfl
  have kd : dk.map (·.1) = (dues.map (·.1)).map fun x => (Sum.inr x : Key) := by
    rw [pv_keys hd, List.map_map]
    rfl
  have nl : (left.map (·.1)).Nodup := by
    rw [kl]
    exact nodup_inr leftW_nd
  have nd : (dk.map (·.1)).Nodup := by
    rw [kd]
    exact nodup_inr ok.1
  rw [mergeK_app left [] (by simpa using nl), mergeK_app dk [] (by simpa using nd), List.nil_append, List.nil_append, mergeK_over dk left nd ?_]
  · unfold fullD
    refine paired_map (fun kv wd h => ?_) hl
    refine ⟨h.1, ?_⟩
    show Dp K H ((valV dk kv.1).getD kv.2) ((dueOf dues wd.1).getD wd.2)
    rw [h.1]
    rcases val_due wd.1 hd with ⟨e1, e2⟩ | ⟨v, d, e1, e2, e3⟩
    · rw [e1, e2]
      exact h.2
    · rw [e1, e2]
      exact e3
  · intro p hp
    have hm : p.1 ∈ dk.map (·.1) := List.mem_map.mpr ⟨p, hp, rfl⟩
    rw [kd] at hm
    obtain ⟨x, hx, e⟩ := List.mem_map.mp hm
    obtain ⟨du, hdu, rfl⟩ := List.mem_map.mp hx
    rw [kl, ← e]
    exact List.mem_map.mpr ⟨du.1, (ok.2 du hdu).1, rfl⟩
theorem dk_of_dues {K : PySem.W.Frag} {H : Hp} : ∀ {ps : List Addr} {dues : List (Str × PyData)}, Paired (DueAt K H) ps dues → ∃ dk : List (Key × V), Paired (fun p kv => SqT K H p [kV kv.1, kv.2]) ps dk ∧ Paired (PV K H) dk dues
  | _, _, .nil => ⟨[], .nil, .nil⟩
  | _, _, .cons (b := du) ⟨u, h1, h2⟩ t => by
    obtain ⟨dk, h3, h4⟩ := dk_of_dues t
    exact ⟨(Sum.inr du.1, u) :: dk, .cons h1 h3, .cons ⟨rfl, h2⟩ h4⟩
/-- the class as the top has made it -/
structure TC (K : PySem.W.Frag) (mg : Str → Option Value) (C : Addr) : Prop where
  cl : Cls K C
  n_order : NoAttr K C "order"
  n_parents : NoAttr K C "parents"
  n_kids : NoAttr K C "kids"
  n_table : NoAttr K C "table"
  n_hands : NoAttr K C "hands"
  g_Tree : mg "Tree" = some (.ref C)
def tf4 (po pp pk pt : Addr) : List (Str × V) := [("order", .ref po), ("parents", .ref pp), ("kids", .ref pk), ("table", .ref pt)]
def tf5 (po pp pk pt : Addr) (b : Bool) : List (Str × V) := [("order", .ref po), ("parents", .ref pp), ("kids", .ref pk), ("table", .ref pt), ("hands", .bl b)]
/-- a tree that is being made, behind what stood in H0 -/
structure PartAt (K : PySem.W.Frag) (H0 H : Hp) (C p dx po pp pk pt : Addr) (rows : List RowM) (tk : List (Key × V)) : Prop where
  same : Same H0 H
  n0 : H0 p = none ∧ H0 po = none ∧ H0 pp = none ∧ H0 pk = none ∧ H0 pt = none
  ob : H p = some (.ins C dx (tf4 po pp pk pt))
  or_ : H po = some (.lst (rows.map fun r => .str r.name))
  pa : H pp = some (.dK (rows.map fun r => ((Sum.inr r.name : Key), V.str r.above)))
  kd : ∃ ks, H pk = some (.dK ks) ∧ ks.map (·.1) = (Sum.inr "" : Key) :: rows.map (fun r => (Sum.inr r.name : Key)) ∧ ∀ kv ∈ ks, ∃ l xs, kv.2 = .ref l ∧ H l = some (.lst xs) ∧ l ≠ po ∧ H0 l = none ∧ xs.length ≤ rows.length
  tb : H pt = some (.dK tk)
  td : Paired (fun (kv : Key × V) (r : RowM) => kv.1 = (Sum.inr r.name : Key) ∧ ∃ d, kv.2 = .ref d ∧ H0 d = none ∧ d ≠ pp ∧ d ≠ pk ∧ d ≠ pt ∧ FullAt K H d r.dues) tk rows
  ne : pp ≠ pk ∧ pp ≠ pt ∧ pk ≠ pt
theorem FullAt.same {K : PySem.W.Frag} {H H' : Hp} (e : Same H H') {d : Addr} {dues : List (Str × PyData)} (h : FullAt K H d dues) : FullAt K H' d dues := by
  obtain ⟨kvs, h1, h2⟩ := h
  exact ⟨kvs, e _ _ h1, paired_mono (fun kv wd z => ⟨z.1, dp_same e _ _ z.2⟩) h2⟩
theorem PartAt.grow {K : PySem.W.Frag} {H0 H H' : Hp} {C p dx po pp pk pt : Addr} {rows : List RowM} {tk : List (Key × V)} (h : PartAt K H0 H C p dx po pp pk pt rows tk) (e : Same H H') : PartAt K H0 H' C p dx po pp pk pt rows tk where
  same := h.same.trans e
  n0 := h.n0
  ob := e _ _ h.ob
  or_ := e _ _ h.or_
  pa := e _ _ h.pa
  kd := by
    obtain ⟨ks, h1, h2, h3⟩ := h.kd
    exact ⟨ks, e _ _ h1, h2, fun kv hk => let ⟨l, xs, a, b, c, d⟩ := h3 kv hk; ⟨l, xs, a, e _ _ b, c, d⟩⟩
  tb := e _ _ h.tb
  td := paired_mono (fun kv r z => let ⟨a, d, b, c, d1, d2, d3, f⟩ := z; ⟨a, d, b, c, d1, d2, d3, FullAt.same e f⟩) h.td
  ne := h.ne
/-- a row that may stand behind others -/
def StandOk (rows : List RowM) (r : RowM) : Prop := (∀ q ∈ rows, q.name ≠ r.name) ∧ (r.above = "" ∨ ∃ q ∈ rows, q.name = r.above ∧ dueOf (fullD q.dues) "tops" = some (.str "endless"))
def spMayStand (K : PySem.W.Frag) (C : Addr) : Sp := fun vs H Q _ => ∃ (H0 : Hp) (p dx po pp pk pt : Addr) (rows : List RowM) (tk : List (Key × V)) (v : V) (r : RowM), vs = [.ref p, v] ∧ PartAt K H0 H C p dx po pp pk pt rows tk ∧ RowAt K H v r ∧
  StandOk rows r ∧ (rows.map (·.name)).Nodup ∧ (∀ q ∈ rows, q.name ≠ "") ∧ ∀ H', Same H H' → Q (.bl true) H'
end Bd
end

section
namespace Bd
open PySem L2
section
variable {P : Program} {w : World} {K : PySem.W.Frag} {mg : Str → Option Value} {base : Heap} {aL C : Addr} {left : List (Key × V)}
theorem ok_isGroupRow {f g e : Addr} {fd gd ed : FuncData} (F : Fun K "is_group_row" "is_group_row" sIsGroupRow f fd) (T : TP P w K mg aL left) (cN : Cal P w K mg base "is_name" ["thing"] 1 spIsName g gd) (cD : Cal P w K mg base "is_dues" ["thing"] 5 (spIsDues K) e ed) :
    FnOk P w K mg base CX0 6 f fd ["thing"] (spIsGroupRow K) := by
  refine F.ok scIsGroupRow (fun vs H Q E h => ?_) (fun cdv A outer s H vs Q E hr h => ?_)
  · obtain ⟨p, du, rfl, _⟩ := h
    rfl
  obtain ⟨v, r, rfl, hrow, hn, hd, q⟩ := h
  obtain ⟨a, t, rfl, ha, ht⟩ := id hrow
  refine ⟨_, (pss_cons (ps_if (PW.pt (pw_or (pt_not (pt_val (pe_callB call_isi (by rfl) T.z_isinstance (by decide +kernel) (pa_cons (pv 0) (pa_cons (pe_bltn (v := .ty "tuple") (u := .type "tuple") (by rfl) T.z_tuple (by decide +kernel) rfl) pa_nil))))) (pw_or1 (pt_cmpR op_ne (pe_callB call_len_seq (by rfl) T.z_len PySem.boot_len (pa_cons (pv 0) pa_nil)) pe_int (nomark _))))) (pss_one (ps_ret pe_bl)) pss_nil) (pss_cons (ps_asg (pv 0) (pg_tup (by rfl) (pgs_cons (pg_name (i := 1) scIsGroupRow.nd rfl (Or.inl rfl)) (pgs_cons (pg_name (i := 2) scIsGroupRow.nd rfl (Or.inl rfl)) (pgs_cons (pg_name (i := 3) scIsGroupRow.nd rfl (Or.inl rfl)) pgs_nil))))) (pss_one (ps_ret (pe_and (pe_call cN.ok (hr.mono (by decide)) rfl cN.mg cN.kp cN.bd .nil pass0 (pa_cons (pv 1) pa_nil)) (pe_and (pe_callB call_isi (by rfl) T.z_isinstance (by decide +kernel) (pa_cons (pv 2) (pa_cons (pe_bltn (v := .ty "str") (u := .type "str") (by rfl) T.z_str (by decide +kernel) rfl) pa_nil))) (pe_one (pe_call cD.ok (hr.mono (by decide)) rfl cD.mg cD.kp cD.bd .nil pass0 (pa_cons (pv 3) pa_nil))))))))), ?_⟩
  refine ⟨_, rfl, _, _, _, _, true, rfl, .ty _, sqt_ty ha, kit_ty (by decide +kernel), true, rfl, ?_⟩
  refine iteF ?_
  refine ⟨_, rfl, a, _, rfl, .inr ha, rfl, _, rfl, ?_⟩
  refine iteNS rfl ?_
  refine ⟨_, rfl, a, _, rfl, ha, rfl, ?_⟩
  refine ⟨_, _, rfl, _, _, rfl, _, _, rfl, rfl, ?_⟩
  refine ⟨_, rfl, r.name, rfl, hn, fun H1 s1 => ?_⟩
  refine ⟨true, rfl, iteT ?_⟩
  refine ⟨_, rfl, _, _, _, _, true, rfl, .ty _, .base (.str _), kit_ty (by decide +kernel), true, rfl, ?_⟩
  refine iteT ?_
  exact ⟨_, rfl, t, r.dues, rfl, DuesAt.same s1 ht, hd, fun H2 s2 => q _ (s1.trans s2)⟩

theorem keys_none {kvs : List (Key × V)} {k : Key} (h : ¬ k ∈ kvs.map (·.1)) : valV kvs k = none := by
  cases e : valV kvs k with
  | none => rfl
  | some v => exact absurd (valV_in e) h
theorem td_keys {F : Key × V → RowM → Prop} (hF : ∀ kv r, F kv r → kv.1 = (Sum.inr r.name : Key)) : ∀ {tk : List (Key × V)} {rows : List RowM}, Paired F tk rows → tk.map (·.1) = rows.map fun r => (Sum.inr r.name : Key)
  | _, _, .nil => rfl
  | _, _, .cons a b => by
    rw [List.map_cons, List.map_cons, hF _ _ a, td_keys hF b]
theorem paired_of {α β : Type} {F : α → β → Prop} : ∀ {xs : List α} {ys : List β}, Paired F xs ys → ∀ y ∈ ys, ∃ x ∈ xs, F x y
  | _, _, .nil, y, h => by cases h
  | _, _, .cons a b, y, h => by
    rcases List.mem_cons.mp h with rfl | h
    · exact ⟨_, List.mem_cons_self, a⟩
    · obtain ⟨x, h1, h2⟩ := paired_of b y h
      exact ⟨x, List.mem_cons_of_mem _ h1, h2⟩
theorem val_nd : ∀ {kvs : List (Key × V)}, (kvs.map (·.1)).Nodup → ∀ p ∈ kvs, valV kvs p.1 = some p.2
  | [], _, p, h => by cases h
  | a :: r, hn, p, h => by
    have hn : (a.1 :: r.map (·.1)).Nodup := hn
    obtain ⟨h1, h2⟩ := List.nodup_cons.mp hn
    rcases List.mem_cons.mp h with rfl | h
    · exact valV_pos rfl
    · have e : ¬ a.1 = p.1 := fun z => h1 (by rw [z]; exact List.mem_map.mpr ⟨p, h, rfl⟩)
      rw [valV_neg e]
      exact val_nd h2 p h
theorem tf4_order {po pp pk pt : Addr} : (tf4 po pp pk pt).lookup ("order" : Str) = some (.ref po) := by
  simp only [tf4, List.lookup]
  rfl
theorem tf4_parents {po pp pk pt : Addr} : (tf4 po pp pk pt).lookup ("parents" : Str) = some (.ref pp) := by
  simp only [tf4, List.lookup]
  rfl
theorem tf4_kids {po pp pk pt : Addr} : (tf4 po pp pk pt).lookup ("kids" : Str) = some (.ref pk) := by
  simp only [tf4, List.lookup]
  rfl
theorem tf4_table {po pp pk pt : Addr} : (tf4 po pp pk pt).lookup ("table" : Str) = some (.ref pt) := by
  simp only [tf4, List.lookup]
  rfl
theorem tf5_order {po pp pk pt : Addr} {b : Bool} : (tf5 po pp pk pt b).lookup ("order" : Str) = some (.ref po) := by
  simp only [tf5, List.lookup]
  rfl
theorem tf5_parents {po pp pk pt : Addr} {b : Bool} : (tf5 po pp pk pt b).lookup ("parents" : Str) = some (.ref pp) := by
  simp only [tf5, List.lookup]
  rfl
theorem tf5_kids {po pp pk pt : Addr} {b : Bool} : (tf5 po pp pk pt b).lookup ("kids" : Str) = some (.ref pk) := by
  simp only [tf5, List.lookup]
  rfl
theorem tf5_table {po pp pk pt : Addr} {b : Bool} : (tf5 po pp pk pt b).lookup ("table" : Str) = some (.ref pt) := by
  simp only [tf5, List.lookup]
  rfl
theorem tf5_hands {po pp pk pt : Addr} {b : Bool} : (tf5 po pp pk pt b).lookup ("hands" : Str) = some (.bl b) := by
  simp only [tf5, List.lookup]
  rfl
theorem ok_mayStand {f g : Addr} {fd gd : FuncData} (F : Fun K "may_stand" "may_stand" sMayStand f fd) (T : TP P w K mg aL left) (TCl : TC K mg C) (cE : Cal P w K mg base "is_endless" ["thing"] 1 (spIsEndless K) g gd) :
    FnOk P w K mg base CX0 2 f fd ["tree", "row"] (spMayStand K C) := by
  refine F.ok scMayStand (fun vs H Q E h => ?_) (fun cdv A outer s H vs Q E hr h => ?_)
  · obtain ⟨H0, p, dx, po, pp, pk, pt, rows, tk, v, r, rfl, _⟩ := h
    rfl
  obtain ⟨H0, p, dx, po, pp, pk, pt, rows, tk, v, r, rfl, hp, hrow, hst, hnd, hne, q⟩ := h
  have hu := hu_of hr
  obtain ⟨a, t, rfl, ha, ht⟩ := id hrow
  refine ⟨_, (pss_cons (ps_asg (pv 1) (pg_tup (by rfl) (pgs_cons (pg_name (i := 2) scMayStand.nd rfl (Or.inl rfl)) (pgs_cons (pg_name (i := 3) scMayStand.nd rfl (Or.inl rfl)) (pgs_cons (pg_name (i := 4) scMayStand.nd rfl (Or.inl rfl)) pgs_nil))))) (pss_cons (ps_if (PW.pt (pw_or (pt_cmp (pc_din hu (pv 2) (pe_fld (pv 0) rfl))) (pw_or1 (pt_cmp (pc_dnotin hu (pv 3) (pe_fld (pv 0) rfl)))))) (pss_one (ps_ret pe_bl)) pss_nil) (pss_one (ps_ret (pe_or (pe_cmpR op_eq (pv 3) pe_str (nomark _)) (pe_one (pe_call cE.ok (hr.mono (by decide)) rfl cE.mg cE.kp cE.bd .nil pass0 (pa_cons (pe_dget hu (pe_dget hu (pe_fld (pv 0) rfl) (pv 3) (fun _ _ => rfl)) pe_str (fun _ _ => rfl)) pa_nil)))))))), ?_⟩
  refine ⟨_, rfl, a, _, rfl, ha, rfl, ?_⟩
  refine ⟨_, _, rfl, _, _, rfl, _, _, rfl, rfl, ?_⟩
  have e1 : valV (rows.map fun q => ((Sum.inr q.name : Key), V.str q.above)) (Sum.inr r.name) = none := by
    refine keys_none fun m => ?_
    rw [List.map_map] at m
    obtain ⟨q, hq, e⟩ := List.mem_map.mp m
    exact hst.1 q hq (Sum.inr.inj e)
  obtain ⟨ks, k1, k2, k3⟩ := hp.kd
  have e2 : (valV ks (Sum.inr r.above : Key)).isSome = true := by
    refine val_some ?_
    rw [k2]
    rcases hst.2 with e | ⟨q, hq, e, _⟩
    · rw [e]
      exact List.mem_cons_self
    · exact List.mem_cons_of_mem _ (List.mem_map.mpr ⟨q, hq, by rw [e]⟩)
  refine ⟨_, rfl, _, rfl, p, C, dx, _, _, rfl, hp.ob, TCl.cl, TCl.n_parents, tf4_parents, pp, _, rfl, DGet.k (k := Sum.inr r.name) hp.pa, ?_⟩
  rw [e1]
  refine ⟨false, rfl, iteF ?_⟩
  refine ⟨_, rfl, _, rfl, p, C, dx, _, _, rfl, hp.ob, TCl.cl, TCl.n_kids, tf4_kids, pk, _, rfl, DGet.k (k := Sum.inr r.above) k1, ?_⟩
  rw [e2]
  refine ⟨false, rfl, iteF ?_⟩
  refine ⟨_, rfl, rfl, ?_⟩
  by_cases c : r.above = ""
  · refine ⟨true, congrArg V.bl (decide_eq_true (congrArg V.str c)), iteT ?_⟩
    exact q _ (Same.refl H)
  · refine ⟨false, congrArg V.bl (decide_eq_false fun z => c (V.str.inj z)), iteF ?_⟩
    obtain ⟨qr, hq, hqn, hq2⟩ := hst.2.resolve_left c
    obtain ⟨kv, hkv, hk1, d, hk2, hd0, _, _, _, fk, fk1, fk2⟩ := paired_of hp.td qr hq
    have nt : (tk.map (·.1)).Nodup := by
      rw [td_keys (fun _ _ z => z.1) hp.td]
      have := nodup_inr hnd
      rw [List.map_map] at this
      exact this
    have g1 : valV tk (Sum.inr r.above : Key) = some (.ref d) := by
      have := val_nd nt kv hkv
      rw [hk1, hqn, hk2] at this
      exact this
    have g2 : valV fk (Sum.inr "tops" : Key) = some (.str "endless") := by
      rcases val_due "tops" fk2 with ⟨_, z⟩ | ⟨v, d2, z1, z2, z3⟩
      · rw [z] at hq2
        cases hq2
      · rw [hq2] at z2
        cases z2
        rw [dp_str z3] at z1
        exact z1
    refine ⟨_, rfl, p, C, dx, _, _, rfl, hp.ob, TCl.cl, TCl.n_table, tf4_table, _, rfl, pt, _, rfl, ?_, d, _, rfl, ?_, _, rfl, .inl ⟨rfl, q _ (Same.refl H)⟩⟩
    · have := DGet.k (k := Sum.inr r.above) hp.tb
      rw [g1] at this
      exact this
    · have := DGet.k (k := Sum.inr ("tops" : Str)) fk1
      rw [g2] at this
      exact this

end
end Bd
end

section
namespace Bd
open PySem L2
/-- a tree: its table at tk -/
def TreeAt (K : PySem.W.Frag) (H : Hp) (C p : Addr) (rows : List RowM) (hands : Bool) (tk : List (Key × V)) : Prop := ∃ dx po pp pk pt, H p = some (.ins C dx (tf5 po pp pk pt hands)) ∧ H po = some (.lst (rows.map fun r => .str r.name)) ∧
  H pp = some (.dK (rows.map fun r => ((Sum.inr r.name : Key), V.str r.above))) ∧ H pt = some (.dK tk) ∧ Paired (fun (kv : Key × V) (r : RowM) => kv.1 = (Sum.inr r.name : Key) ∧ ∃ d, kv.2 = .ref d ∧ FullAt K H d r.dues) tk rows
/-- rows that make a tree -/
def RowsOk (rows : List RowM) : Prop := ∀ i r, rows[i]? = some r → NameOk r.name ∧ DuesOk r.dues ∧ StandOk (rows.take i) r
def spInit (K : PySem.W.Frag) (C : Addr) : Sp := fun vs H Q _ => ∃ (H0 : Hp) (p dx a : Addr) (xs : List V) (rows : List RowM) (b : Bool), vs = [.ref p, .ref a, .bl b] ∧ Same H0 H ∧ H0 p = none ∧ H p = some (.ins C dx []) ∧ H0 a = some (.lst xs) ∧ Paired (RowAt K H0) xs rows ∧ RowsOk rows ∧ rows.length ≤ 200 ∧
  ∀ H' tk, Same H0 H' → TreeAt K H' C p rows b tk → (∀ kv ∈ tk, ∃ d, kv.2 = .ref d ∧ H0 d = none) → Q .non H'
theorem dget_of {H : Hp} {a : Addr} {kvs : List (Key × V)} {k : Key} {v : V} (h : H a = some (.dK kvs)) (e : valV kvs k = some v) : DGet H a (kV k) (some v) := by
  have := DGet.k (k := k) h
  rw [e] at this
  exact this
theorem none_upd {H : Hp} {a x : Addr} {o : HO} (h : upd H a o x = none) : x ≠ a ∧ H x = none := by
  have n : x ≠ a := fun e => by
    rw [e, upd_same] at h
    cases h
  rw [upd_ne n] at h
  exact ⟨n, h⟩
theorem putF_two (a b : V) : putF "parents" b (putF "order" a []) = ([("order", a), ("parents", b)] : List (Str × V)) := by
  simp only [putF]
  rw [if_neg (by decide +kernel)]
  all_goals rfl
theorem putF_three (a b c : V) : putF "kids" c ([("order", a), ("parents", b)] : List (Str × V)) = ([("order", a), ("parents", b), ("kids", c)] : List (Str × V)) := by
  simp only [putF]
  rw [if_neg (by decide +kernel), if_neg (by decide +kernel)]
theorem putF_four (a b c d : V) : putF "table" d ([("order", a), ("parents", b), ("kids", c)] : List (Str × V)) = ([("order", a), ("parents", b), ("kids", c), ("table", d)] : List (Str × V)) := by
  simp only [putF]
  rw [if_neg (by decide +kernel), if_neg (by decide +kernel), if_neg (by decide +kernel)]
theorem putF_five (a b c d e : V) : putF "hands" e ([("order", a), ("parents", b), ("kids", c), ("table", d)] : List (Str × V)) = ([("order", a), ("parents", b), ("kids", c), ("table", d), ("hands", e)] : List (Str × V)) := by
  simp only [putF]
  rw [if_neg (by decide +kernel), if_neg (by decide +kernel), if_neg (by decide +kernel), if_neg (by decide +kernel)]
theorem paired_snoc {α β : Type} {F : α → β → Prop} {x : α} {y : β} (h : F x y) : ∀ {xs : List α} {ys : List β}, Paired F xs ys → Paired F (xs ++ [x]) (ys ++ [y])
  | _, _, .nil => .cons h .nil
  | _, _, .cons a b => .cons a (paired_snoc h b)
/-- one row more -/
theorem part_step {K : PySem.W.Frag} {H0 H Hz : Hp} {C p dx po pp pk pt l l' D : Addr} {rows : List RowM} {tk : List (Key × V)} {r : RowM} (h : PartAt K H0 H C p dx po pp pk pt rows tk) (ok : ∀ q ∈ rows, DuesOk q.dues) (tkk : TK H Hz)
    (hz : ∀ b o, H b = some o → b ≠ po → b ≠ pp → b ≠ pk → b ≠ pt → b ≠ l' → Hz b = some o) (hl0 : H0 l' = none) (hlo : l' ≠ po) {lx : List V} (hl : H l' = some (.lst lx)) (hlx : lx.length ≤ rows.length)
    (zo : Hz po = some (.lst (rows.map (fun r => .str r.name) ++ [.str r.name]))) (zp : Hz pp = some (.dK (rows.map (fun r => ((Sum.inr r.name : Key), V.str r.above)) ++ [(Sum.inr r.name, .str r.above)])))
    (zk : ∃ ks, Hz pk = some (.dK (ks ++ [(Sum.inr r.name, .ref l)])) ∧ H pk = some (.dK ks)) (zl : Hz l = some (.lst [])) (hll : l ≠ po ∧ H0 l = none) (zl' : Hz l' = some (.lst (lx ++ [.str r.name])))
    (zt : Hz pt = some (.dK (tk ++ [(Sum.inr r.name, .ref D)]))) (hD : H0 D = none ∧ D ≠ pp ∧ D ≠ pk ∧ D ≠ pt ∧ FullAt K Hz D r.dues) : PartAt K H0 Hz C p dx po pp pk pt (rows ++ [r]) (tk ++ [(Sum.inr r.name, .ref D)]) where
  same := fun b o hb => hz b o (h.same _ _ hb) (ne_of_none hb h.n0.2.1) (ne_of_none hb h.n0.2.2.1) (ne_of_none hb h.n0.2.2.2.1) (ne_of_none hb h.n0.2.2.2.2) (ne_of_none hb hl0)
  n0 := h.n0
  ob := hz _ _ h.ob (ne_of h.ob h.or_ (by intro z; cases z)) (ne_of h.ob h.pa (by intro z; cases z)) (by
    obtain ⟨ks, k1, _⟩ := h.kd
    exact ne_of h.ob k1 (by intro z; cases z)) (ne_of h.ob h.tb (by intro z; cases z)) (ne_of h.ob hl (by intro z; cases z))
  or_ := by rw [List.map_append]; exact zo
  pa := by rw [List.map_append]; exact zp
  kd := by
    obtain ⟨ks, k1, k2, k3⟩ := h.kd
    obtain ⟨ks', z1, z2⟩ := zk
    rw [k1] at z2
    cases z2
    refine ⟨_, z1, by rw [List.map_append, k2, List.map_append]; rfl, fun kv hkv => ?_⟩
    rcases List.mem_append.mp hkv with m | m
    · obtain ⟨c, xs, e1, e2, e3, e4, e5⟩ := k3 kv m
      have e6 : xs.length ≤ (rows ++ [r]).length := by
        rw [List.length_append]
        omega
      by_cases c1 : c = l'
      · refine ⟨c, _, e1, by rw [c1]; exact zl', e3, e4, ?_⟩
        rw [List.length_append, List.length_append, List.length_singleton, List.length_singleton]
        omega
      · exact ⟨c, xs, e1, hz _ _ e2 e3 (ne_of e2 h.pa (by intro z; cases z)) (ne_of e2 k1 (by intro z; cases z)) (ne_of e2 h.tb (by intro z; cases z)) c1, e3, e4, e6⟩
    · cases List.mem_singleton.mp m
      exact ⟨l, _, rfl, zl, hll.1, hll.2, Nat.zero_le _⟩
  tb := zt
  td := paired_snoc ⟨rfl, D, rfl, hD⟩ (paired_monoM (fun kv q hq z => by
    obtain ⟨e1, d, e2, e3, e4, e5, e6, e7⟩ := z
    refine ⟨e1, d, e2, e3, e4, e5, e6, tkk.full (ok q hq) ?_ e7⟩
    obtain ⟨fk, f1, f2⟩ := e7
    rw [f1]
    exact hz _ _ f1 (ne_of f1 h.or_ (by intro z; cases z)) e4 e5 e6 (ne_of f1 hl (by intro z; cases z))) h.td)
  ne := h.ne
theorem names_nd {rows : List RowM} (h : RowsOk rows) : ∀ i, ((rows.take i).map (·.name)).Nodup
  | 0 => List.nodup_nil
  | i + 1 => by
    have ih := names_nd h i
    rw [List.take_add_one]
    cases e : rows[i]? with
    | none => simpa using ih
    | some r =>
      rw [Option.toList_some, List.map_append]
      refine List.nodup_append.mpr ⟨ih, by simp, fun a ha b hb => ?_⟩
      obtain ⟨q, hq, rfl⟩ := List.mem_map.mp ha
      cases List.mem_singleton.mp hb
      exact (h i r e).2.2.1 q hq
section
variable {P : Program} {w : World} {K : PySem.W.Frag} {mg : Str → Option Value} {base : Heap} {aL C : Addr} {left : List (Key × V)}
/-- the rule for a def with defaults that lets nothing out -/
theorem fund_ok {x qual : Str} {params : Arguments} {body : List Stmt} {scope : Scope} {dvs : List V} {kws : List (Str × V)} {f : Addr} {fd : FuncData} {N ps : List Str} {k : Nat} {sp : Sp} (F : FunD K x qual params body scope dvs kws f fd) (S : FnScope N ps scope) (len : ∀ vs H Q E, sp vs H Q E → vs.length = ps.length)
    (hbody : ∀ (cdv : Value) (A : Around) (outer : List Env) (s : Shared) (H : Hp) (vs : List V) (Q : VK) (E : XK), Room k (A.deeper (PyProof.Rows.envOfC qual scope s.heap.objs.size f cdv)) → sp vs H Q E →
      ∃ t, PSs (cxOf CX0 P w K mg base N qual scope f cdv A outer s H E).nox body t ∧ t { nx := fun _ H' => Q .non H', rt := Q } (start N vs) H) : FnOk P w K mg base CX0 (k + 1) f fd ps sp :=
  F.ok S len fun cdv A outer s H vs Q E hr h => let ⟨t, h1, h2⟩ := hbody cdv A outer s H vs Q E hr h; ⟨t, h1.nox, h2⟩
theorem ok_init {f g e : Addr} {fd gd ed : FuncData} (F : FunD K "__init__" "Tree.__init__" (defArgs sInit) (defBody sInit) (defScope sInit) [.bl false] [] f fd) (T : TP P w K mg aL left) (TCl : TC K mg C) (hLV : ∀ H, Paired (PV K H) left leftD) (cG : Cal P w K mg base "is_group_row" ["thing"] 6 (spIsGroupRow K) g gd) (cM : Cal P w K mg base "may_stand" ["tree", "row"] 2 (spMayStand K C) e ed) :
    FnOk P w K mg base CX0 7 f fd ["self", "rows", "handing"] (spInit K C) := by
  refine fund_ok F scInit (fun vs H Q E h => ?_) (fun cdv A outer s H vs Q E hr h => ?_)
  · obtain ⟨H0, p, dx, a, xs, rows, b, rfl, _⟩ := h
    rfl
  obtain ⟨H0, p, dx, a, xs, rows, b, rfl, s0, p0, hp, ha, hrows, hok, hlen, q⟩ := h
  have hu := hu_of hr
  refine ⟨_, (pss_cons (ps_if (pt_not (pt_val (pe_callB call_isi (by rfl) T.z_isinstance (by decide +kernel) (pa_cons (pv 1) (pa_cons (pe_bltn (v := .ty "list") (u := .type "list") (by rfl) T.z_list (by decide +kernel) rfl) pa_nil))))) (pss_one ps_never) pss_nil) (pss_cons (ps_fld (pv 0) (pe_lst pa_nil) rfl) (pss_cons (ps_fld (pv 0) pe_dnewK rfl) (pss_cons (ps_fld (pv 0) (pe_disp (pps_cons pe_str (pe_lst pa_nil) pps_nil) (by rfl) (by rfl) (fun z => by cases z) (by decide)) rfl) (pss_cons (ps_fld (pv 0) pe_dnewK rfl) (pss_cons (ps_for PassesOwn.never rfl (pi_enum (by rfl) T.z_enumerate (pa_cons (pv 1) pa_nil)) (pg_tup (by rfl) (pgs_cons (pg_name (i := 3) scInit.nd rfl (Or.inl rfl)) (pgs_cons (pg_name (i := 4) scInit.nd rfl (Or.inl rfl)) pgs_nil))) (pss_cons (ps_if (PW.pt (pw_or (pt_not (pt_val (pe_call cG.ok (hr.mono (by decide)) rfl cG.mg cG.kp cG.bd .nil pass0 (pa_cons (pv 4) pa_nil)))) (pw_or1 (pt_not (pt_val (pe_call cM.ok (hr.mono (by decide)) rfl cM.mg cM.kp cM.bd .nil pass0 (pa_cons (pv 0) (pa_cons (pv 4) pa_nil)))))))) (pss_one ps_never) pss_nil) (pss_cons (ps_asg (pv 4) (pg_tup (by rfl) (pgs_cons (pg_name (i := 5) scInit.nd rfl (Or.inl rfl)) (pgs_cons (pg_name (i := 6) scInit.nd rfl (Or.inl rfl)) (pgs_cons (pg_name (i := 7) scInit.nd rfl (Or.inl rfl)) pgs_nil))))) (pss_cons (ps_expr (pe_bm PySem.F.plainAttrs_list PySem.F.slot_list_append PySem.F.type_list_append mt_append (pe_fld (pv 0) rfl) (pa_cons (pv 5) pa_nil))) (pss_cons (ps_dput hu (pe_fld (pv 0) rfl) (pv 5) (pv 6) rfl) (pss_cons (ps_dput hu (pe_fld (pv 0) rfl) (pv 5) (pe_lst pa_nil) rfl) (pss_cons (ps_expr (pe_bm PySem.F.plainAttrs_list PySem.F.slot_list_append PySem.F.type_list_append mt_append (pe_dget hu (pe_fld (pv 0) rfl) (pv 6) (fun _ _ => rfl)) (pa_cons (pv 5) pa_nil))) (pss_one (ps_dput hu (pe_fld (pv 0) rfl) (pv 5) (pe_both (pe_callTy call_dictK (by rfl) T.z_dict (by decide +kernel) (pa_cons (pe_glob (v := .ref aL) rfl T.g_LEFT_OUT rfl) pa_nil)) (pe_callTy (call_dictT rfl) (by rfl) T.z_dict (by decide +kernel) (pa_cons (pv 7) pa_nil))) rfl))))))))) (pss_cons (ps_if (pt_not (pt_val (pe_callB call_isi (by rfl) T.z_isinstance (by decide +kernel) (pa_cons (pv 2) (pa_cons (pe_bltn (v := .ty "bool") (u := .type "bool") (by rfl) T.z_bool (by decide +kernel) rfl) pa_nil))))) (pss_one ps_never) pss_nil) (pss_one (ps_fld (pv 0) (pv 2) rfl))))))))), ?_⟩
  refine ⟨_, rfl, _, _, _, _, true, rfl, .ty _, (.base (.lst (s0 _ _ ha))), kit_ty (by decide +kernel), true, rfl, ?_⟩
  refine iteF ?_
  -- the empty tables
  refine ⟨Nat.zero_le _, fun po hpo => ?_⟩
  have npo : p ≠ po := ne_of_none hp hpo
  refine ⟨_, rfl, p, C, dx, [], rfl, (by rw [upd_ne npo]; exact hp), TCl.cl, TCl.n_order, (by show 0 < 1000; decide), ?_⟩
  intro pp hpp
  obtain ⟨npp1, hpp1⟩ := none_upd hpp
  obtain ⟨npp2, hpp2⟩ := none_upd hpp1
  refine ⟨_, rfl, p, C, dx, _, rfl, (by rw [upd_ne npp1.symm]; exact upd_same), TCl.cl, TCl.n_parents, (by show 1 < 1000; decide), ?_⟩
  rw [putF_two]
  intro pk hpk
  obtain ⟨npk1, hpk1⟩ := none_upd hpk
  obtain ⟨npk2, hpk2⟩ := none_upd hpk1
  obtain ⟨npk3, hpk3⟩ := none_upd hpk2
  obtain ⟨npk4, hpk4⟩ := none_upd hpk3
  refine ⟨Nat.zero_le _, fun l0 hl0 => ?_⟩
  obtain ⟨nl1, hl1⟩ := none_upd hl0
  obtain ⟨nl2, hl2⟩ := none_upd hl1
  obtain ⟨nl3, hl3⟩ := none_upd hl2
  obtain ⟨nl4, hl4⟩ := none_upd hl3
  obtain ⟨nl5, hl5⟩ := none_upd hl4
  refine ⟨by rw [upd_ne nl1.symm]; exact upd_same, [(Sum.inr "", .ref l0)], rfl, by show 1 ≤ 15; decide, ?_⟩
  refine ⟨_, rfl, p, C, dx, _, rfl, (by rw [upd_ne npk1.symm, upd_ne nl2.symm, upd_ne npk1.symm]; exact upd_same), TCl.cl, TCl.n_kids, (by show 2 < 1000; decide), ?_⟩
  rw [putF_three]
  intro pt hpt
  obtain ⟨npt1, hpt1⟩ := none_upd hpt
  obtain ⟨npt2, hpt2⟩ := none_upd hpt1
  obtain ⟨npt3, hpt3⟩ := none_upd hpt2
  obtain ⟨npt4, hpt4⟩ := none_upd hpt3
  obtain ⟨npt5, hpt5⟩ := none_upd hpt4
  obtain ⟨npt6, hpt6⟩ := none_upd hpt5
  obtain ⟨npt7, hpt7⟩ := none_upd hpt6
  refine ⟨_, rfl, p, C, dx, _, rfl, (by rw [upd_ne npt1.symm]; exact upd_same), TCl.cl, TCl.n_table, (by show 3 < 1000; decide), ?_⟩
  rw [putF_four]
  have xl : xs.length = rows.length := Paired.length hrows
  refine ⟨_, rfl, a, xs, rfl, ?_, for_it walk_enum (fun i σ H' => ∃ (tk : List (Key × V)) (o3 o4 o5 o6 o7 : Option V), σ = [some (.ref p), some (.ref a), some (.bl b), o3, o4, o5, o6, o7] ∧ PartAt K H0 H' C p dx po pp pk pt (rows.take i) tk)
    ⟨[], none, none, none, none, none, rfl, ?_⟩ (fun i σ H' _ ⟨_, _, _, _, _, _, _, h⟩ => SqL.of (h.same _ _ ha)) ?_ ?_⟩
  · have := s0 _ _ ha
    have z1 := ne_of_none this hpo
    have z2 := ne_of this hp (by intro z; cases z)
    have z3 := ne_of_none this hpp2
    have z4 := ne_of_none this hpk4
    have z5 := ne_of_none this hl5
    have z6 := ne_of_none this (none_upd hpt7).2
    refine SqL.of ?_
    simp only [upd, if_neg z1, if_neg z2, if_neg z3, if_neg z4, if_neg z5, if_neg z6]
    exact this
  · have npt8 := (none_upd hpt7).1
    have hpt8 := (none_upd hpt7).2
    refine ⟨fun b2 o2 hb => ?_, ⟨p0, s0.free hpo, s0.free hpp2, s0.free hpk4, s0.free hpt8⟩, upd_same, ?_, ?_, ⟨[(Sum.inr "", .ref l0)], ?_, rfl, fun kv hkv => ?_⟩, ?_, .nil, npk2.symm, npt6.symm, npt2.symm⟩
    · have hb' := s0 _ _ hb
      have a1 := ne_of_none hb p0
      have a2 := ne_of_none hb' hpt8
      have a3 := ne_of_none hb' hpk4
      have a4 := ne_of_none hb' hl5
      have a5 := ne_of_none hb' hpp2
      have a6 := ne_of_none hb' hpo
      rw [upd_ne a1, upd_ne a2, upd_ne a1, upd_ne a3, upd_ne a4, upd_ne a3, upd_ne a1, upd_ne a5, upd_ne a1, upd_ne a6]
      exact hb'
    · rw [upd_ne npo.symm, upd_ne npt8.symm, upd_ne npo.symm, upd_ne npk4.symm, upd_ne nl5.symm, upd_ne npk4.symm, upd_ne npo.symm, upd_ne npp2.symm, upd_ne npo.symm]
      exact upd_same
    · rw [upd_ne npp1, upd_ne npt6.symm, upd_ne npp1, upd_ne npk2.symm, upd_ne nl3.symm, upd_ne npk2.symm, upd_ne npp1]
      exact upd_same
    · rw [upd_ne npk1, upd_ne npt2.symm, upd_ne npk1]
      exact upd_same
    · cases List.mem_singleton.mp hkv
      refine ⟨l0, [], rfl, ?_, nl5, s0.free hl5, Nat.zero_le _⟩
      rw [upd_ne nl2, upd_ne npt3.symm, upd_ne nl2, upd_ne nl1]
      exact upd_same
    · rw [upd_ne npt1]
      exact upd_same
  · rintro i v σ H1 H2 hi ⟨tk, o3, o4, o5, o6, o7, rfl, hP⟩ ⟨TT, x, y, rfl, hTT, rfl, hx, hy⟩
    have P1 := hP.grow (Same.new (Same.refl H1) hTT (.tup [x, y]))
    obtain ⟨r, hr1, hrow⟩ := paired_get hrows hy
    obtain ⟨hn, hd, hst⟩ := hok i r hr1
    refine ⟨TT, _, rfl, SqT.of upd_same, rfl, _, _, rfl, _, _, rfl, rfl, ?_⟩
    refine ⟨_, rfl, y, r, rfl, RowAt.same P1.same hrow, hn, hd, fun H3 s3 => ?_⟩
    refine ⟨true, rfl, ?_⟩
    refine iteF ?_
    have P2 := P1.grow s3
    refine ⟨_, rfl, _, rfl, H0, p, dx, po, pp, pk, pt, rows.take i, tk, y, r, rfl, P2, RowAt.same P2.same hrow, hst, ?_, ?_, fun H4 s4 => ?_⟩
    · exact names_nd hok i
    · intro q2 hq2 e
      obtain ⟨m, hm⟩ := List.mem_iff_getElem?.mp (List.mem_of_mem_take hq2)
      have := (hok m q2 hm).1.1
      rw [e] at this
      exact absurd this (by decide +kernel)
    refine ⟨true, rfl, ?_⟩
    refine iteF ?_
    have P3 := P2.grow s4
    obtain ⟨ra, t, rfl, hra, hdues⟩ := RowAt.same P3.same hrow
    refine ⟨_, rfl, ra, _, rfl, hra, rfl, _, _, rfl, _, _, rfl, _, _, rfl, rfl, ?_⟩
    -- self.order.append(name)
    refine ⟨_, rfl, p, C, dx, _, _, rfl, P3.ob, TCl.cl, TCl.n_order, tf4_order, .inl ⟨rfl, _, SqL.of P3.or_⟩, _, rfl, po, _, _, rfl, rfl, P3.or_, ?_, ?_⟩
    · rw [List.length_map, List.length_take]
      exact small1000 (by omega)
    obtain ⟨ks, k1, k2, k3⟩ := P3.kd
    have n_p_o := ne_of P3.ob P3.or_ (by intro z; cases z)
    have n_pp_o := ne_of P3.pa P3.or_ (by intro z; cases z)
    have n_pk_o := ne_of k1 P3.or_ (by intro z; cases z)
    have n_pt_o := ne_of P3.tb P3.or_ (by intro z; cases z)
    have n_p_pp := ne_of P3.ob P3.pa (by intro z; cases z)
    have n_p_pk := ne_of P3.ob k1 (by intro z; cases z)
    have n_p_pt := ne_of P3.ob P3.tb (by intro z; cases z)
    have n_pp_pk := P3.ne.1
    have n_pp_pt := P3.ne.2.1
    have n_pk_pt := P3.ne.2.2
    have lt : (rows.take i).length ≤ 200 := by
      rw [List.length_take]
      omega
    have tkl : tk.length = (rows.take i).length := Paired.length P3.td
    have ksl : ks.length = (rows.take i).length + 1 := by
      have := congrArg List.length k2
      simpa using this
    -- self.parents[name] = above
    refine ⟨_, rfl, _, rfl, p, C, dx, _, _, rfl, (upd_ne n_p_o).trans P3.ob, TCl.cl, TCl.n_parents, tf4_parents, _, rfl, pp, _, rfl, DPut.k (k := Sum.inr r.name) ((upd_ne n_pp_o).trans P3.pa) ?_, ?_⟩
    · rw [List.length_map]
      exact small1000 (by omega)
    -- self.kids[name] = []
    refine ⟨Nat.zero_le _, fun l hl => ?_⟩
    obtain ⟨nl_pp, hlA⟩ := none_upd hl
    obtain ⟨nl_o, hlB⟩ := none_upd hlA
    have nl_p : l ≠ p := (ne_of_none P3.ob hlB).symm
    have nl_pk : l ≠ pk := (ne_of_none k1 hlB).symm
    have nl_pt : l ≠ pt := (ne_of_none P3.tb hlB).symm
    refine ⟨_, rfl, p, C, dx, _, _, rfl, (upd_ne nl_p.symm).trans ((upd_ne n_p_pp).trans ((upd_ne n_p_o).trans P3.ob)), TCl.cl, TCl.n_kids, tf4_kids, _, rfl, pk, _, rfl,
      DPut.k (k := Sum.inr r.name) ((upd_ne nl_pk.symm).trans ((upd_ne n_pp_pk.symm).trans ((upd_ne n_pk_o).trans k1))) (small1000 (by omega)), ?_⟩
    -- self.kids[above].append(name)
    have hab : r.above ≠ r.name := by
      rcases hst.2 with e | ⟨q2, hq2, e, _⟩
      · intro z
        have := hn.1
        rw [← z, e] at this
        exact absurd this (by decide +kernel)
      · intro z
        exact hst.1 q2 hq2 (e.trans z)
    obtain ⟨l2, lx, hkv, hl2, hl2o, hl20, hlx⟩ : ∃ l2 lx, valV ks (Sum.inr r.above : Key) = some (.ref l2) ∧ H4 l2 = some (.lst lx) ∧ l2 ≠ po ∧ H0 l2 = none ∧ lx.length ≤ (rows.take i).length := by
      have hin : (Sum.inr r.above : Key) ∈ ks.map (·.1) := by
        rw [k2]
        rcases hst.2 with e | ⟨q, hq, e, _⟩
        · rw [e]
          exact List.mem_cons_self
        · exact List.mem_cons_of_mem _ (List.mem_map.mpr ⟨q, hq, by rw [e]⟩)
      cases hv : valV ks (Sum.inr r.above : Key) with
      | none => exact absurd hin (valV_not hv)
      | some v =>
        unfold valV at hv
        obtain ⟨kv, hf, he⟩ := Option.map_eq_some_iff.mp hv
        obtain ⟨c, ys, e1, e2, e3, e4, e5⟩ := k3 kv (List.mem_of_find?_eq_some hf)
        exact ⟨c, ys, by rw [← he, e1], e2, e3, e4, e5⟩
    have hkv2 : valV (putK ks (Sum.inr r.name : Key) (.ref l)) (Sum.inr r.above : Key) = some (.ref l2) := by
      rw [valV_put, if_neg (fun z => hab (Sum.inr.inj z))]
      exact hkv
    have n_l2_l : l2 ≠ l := ne_of_none hl2 hlB
    have n_l2_pp := ne_of hl2 P3.pa (by intro z; cases z)
    have n_l2_pk := ne_of hl2 k1 (by intro z; cases z)
    have n_l2_p := ne_of hl2 P3.ob (by intro z; cases z)
    have n_l2_pt := ne_of hl2 P3.tb (by intro z; cases z)
    have c_l2 : ∀ o1 o2 o3 o4, upd (upd (upd (upd H4 po o1) pp o2) l o3) pk o4 l2 = some (.lst lx) := fun o1 o2 o3 o4 => by
      rw [upd_ne n_l2_pk, upd_ne n_l2_l, upd_ne n_l2_pp, upd_ne hl2o]
      exact hl2
    refine ⟨_, rfl, p, C, dx, _, _, rfl, (upd_ne n_p_pk).trans ((upd_ne nl_p.symm).trans ((upd_ne n_p_pp).trans ((upd_ne n_p_o).trans P3.ob))), TCl.cl, TCl.n_kids, tf4_kids, _, rfl, pk, _, rfl,
      dget_of upd_same hkv2, .inl ⟨rfl, _, SqL.of (c_l2 _ _ _ _)⟩, _, rfl, l2, _, _, rfl, rfl, c_l2 _ _ _ _, small1000 (by omega), ?_⟩
    -- self.table[name] = both
    refine fun D hD => ⟨aL, left, rfl, T.tab, fun d1 h1 => ?_⟩
    obtain ⟨nD_l2, hD1⟩ := none_upd hD
    obtain ⟨nD_pk, hD2⟩ := none_upd hD1
    obtain ⟨nD_l, hD3⟩ := none_upd hD2
    obtain ⟨nD_pp, hD4⟩ := none_upd hD3
    obtain ⟨nD_o, hD5⟩ := none_upd hD4
    have nD_p : D ≠ p := (ne_of_none P3.ob hD5).symm
    have nD_pt : D ≠ pt := (ne_of_none P3.tb hD5).symm
    obtain ⟨n1_D, h11⟩ := none_upd h1
    obtain ⟨n1_l2, h12⟩ := none_upd h11
    obtain ⟨n1_pk, h13⟩ := none_upd h12
    obtain ⟨n1_l, h14⟩ := none_upd h13
    obtain ⟨n1_pp, h15⟩ := none_upd h14
    obtain ⟨n1_o, h16⟩ := none_upd h15
    have n1_p : d1 ≠ p := (ne_of_none P3.ob h16).symm
    have n1_pt : d1 ≠ pt := (ne_of_none P3.tb h16).symm
    have t8 := ((((((TK.lst P3.or_ (.lst (List.map (fun r => V.str r.name) (List.take i rows) ++ [V.str r.name]))).trans (TK.dk ((upd_ne n_pp_o).trans P3.pa) _)).trans (TK.new hl _)).trans (TK.dk ((upd_ne nl_pk.symm).trans ((upd_ne n_pp_pk.symm).trans ((upd_ne n_pk_o).trans k1))) _)).trans (TK.lst (c_l2 _ _ _ _) _)).trans (TK.new hD _)).trans (TK.new h1 (.dK left))
    have t9 := t8.trans (TK.dk ((upd_ne n1_D.symm).trans upd_same) (.dK (mergeK [] left)))
    obtain ⟨ps, f1, f2⟩ := t9.dues hd hdues
    obtain ⟨dk, g1, g2⟩ := dk_of_dues f2
    have dkl : dk.length ≤ 8 := by
      have e := Paired.length g2
      have := words_few hd.1 fun du hdu => (hd.2 du hdu).1
      omega
    have lefl : left.length = 8 := by
      have := congrArg List.length T.keys
      rw [List.length_map, List.length_map] at this
      exact this
    have mdl : (mergeK [] dk).length ≤ 8 := by
      have := length_mergeK dk []
      rw [List.length_nil] at this
      omega
    refine ⟨d1, left, rfl, (upd_ne n1_D.symm).trans upd_same, upd_same, n1_D.symm, ?_⟩
    refine ⟨_, rfl, t, ps, dk, rfl, f1, g1, fun d2 h2 => ?_⟩
    obtain ⟨n2_D, h21⟩ := none_upd h2
    obtain ⟨n2_1, h22⟩ := none_upd h21
    obtain ⟨_, h23⟩ := none_upd h22
    obtain ⟨n2_l2, h24⟩ := none_upd h23
    obtain ⟨n2_pk, h25⟩ := none_upd h24
    obtain ⟨n2_l, h26⟩ := none_upd h25
    obtain ⟨n2_pp, h27⟩ := none_upd h26
    obtain ⟨n2_o, h28⟩ := none_upd h27
    have n2_p : d2 ≠ p := (ne_of_none P3.ob h28).symm
    have n2_pt : d2 ≠ pt := (ne_of_none P3.tb h28).symm
    refine ⟨d2, mergeK [] dk, rfl, (upd_ne n2_D.symm).trans upd_same, upd_same, n2_D.symm, by omega, ?_⟩
    have t10 := (t9.trans (TK.new h2 (.dK (mergeK [] dk)))).trans (TK.dk ((upd_ne n2_D.symm).trans upd_same) (.dK (mergeK (mergeK [] left) (mergeK [] dk))))
    have e_p : ∀ o1 o2 o3 o4 o5 o6 o7 o8 o9 o10, upd (upd (upd (upd (upd (upd (upd (upd (upd (upd H4 po o1) pp o2) l o3) pk o4) l2 o5) D o6) d1 o7) D o8) d2 o9) D o10 p = some (.ins C dx (tf4 po pp pk pt)) := fun o1 o2 o3 o4 o5 o6 o7 o8 o9 o10 => by
      rw [upd_ne nD_p.symm, upd_ne n2_p.symm, upd_ne nD_p.symm, upd_ne n1_p.symm, upd_ne nD_p.symm, upd_ne n_l2_p.symm, upd_ne n_p_pk, upd_ne nl_p.symm, upd_ne n_p_pp, upd_ne n_p_o]
      exact P3.ob
    have e_pt : ∀ o1 o2 o3 o4 o5 o6 o7 o8 o9 o10, upd (upd (upd (upd (upd (upd (upd (upd (upd (upd H4 po o1) pp o2) l o3) pk o4) l2 o5) D o6) d1 o7) D o8) d2 o9) D o10 pt = some (.dK tk) := fun o1 o2 o3 o4 o5 o6 o7 o8 o9 o10 => by
      rw [upd_ne nD_pt.symm, upd_ne n2_pt.symm, upd_ne nD_pt.symm, upd_ne n1_pt.symm, upd_ne nD_pt.symm, upd_ne n_l2_pt.symm, upd_ne n_pk_pt.symm, upd_ne nl_pt.symm, upd_ne n_pp_pt.symm, upd_ne n_pt_o]
      exact P3.tb
    refine ⟨_, rfl, p, C, dx, _, _, rfl, e_p _ _ _ _ _ _ _ _ _ _, TCl.cl, TCl.n_table, tf4_table, _, rfl, pt, _, rfl, DPut.k (k := Sum.inr r.name) (e_pt _ _ _ _ _ _ _ _ _ _) (small1000 (by omega)), ?_⟩
    have nm : ∀ q ∈ rows.take i, q.name ≠ r.name := hst.1
    have tknew : putK tk (Sum.inr r.name : Key) (V.ref D) = tk ++ [(Sum.inr r.name, .ref D)] := by
      refine putK_new _ (keys_none fun m => ?_)
      rw [td_keys (fun _ _ z => z.1) P3.td] at m
      obtain ⟨q, hq, e⟩ := List.mem_map.mp m
      exact nm q hq (Sum.inr.inj e)
    have ksnew : putK ks (Sum.inr r.name : Key) (V.ref l) = ks ++ [(Sum.inr r.name, .ref l)] := by
      refine putK_new _ (keys_none fun m => ?_)
      rw [k2] at m
      rcases List.mem_cons.mp m with e | m
      · have := hn.1
        rw [Sum.inr.inj e] at this
        exact absurd this (by decide +kernel)
      · obtain ⟨q, hq, e⟩ := List.mem_map.mp m
        exact nm q hq (Sum.inr.inj e)
    have panew : putK (List.map (fun r => ((Sum.inr r.name : Key), V.str r.above)) (rows.take i)) (Sum.inr r.name : Key) (V.str r.above) = List.map (fun r => ((Sum.inr r.name : Key), V.str r.above)) (rows.take i) ++ [(Sum.inr r.name, .str r.above)] := by
      refine putK_new _ (keys_none fun m => ?_)
      rw [List.map_map] at m
      obtain ⟨q, hq, e⟩ := List.mem_map.mp m
      exact nm q hq (Sum.inr.inj e)
    have t11 := t10.trans (TK.dk (e_pt _ _ _ _ _ _ _ _ _ _) (.dK (tk ++ [(Sum.inr r.name, .ref D)])))
    refine ⟨tk ++ [(Sum.inr r.name, .ref D)], _, _, _, _, _, rfl, ?_⟩
    rw [List.take_add_one, hr1, Option.toList_some, tknew, ksnew, panew]
    rw [ksnew, panew] at t11
    refine part_step (l := l) (l' := l2) (D := D) P3 (fun q hq => ?_) t11 (fun b2 o2 hb b1 b2' b3 b4 b5 => ?_) hl20 hl2o hl2 hlx ?_ ?_ ⟨ks, ?_, k1⟩ ?_ ⟨nl_o, P3.same.free hlB⟩ ?_ upd_same ⟨P3.same.free hD5, nD_pp, nD_pk, nD_pt, ?_⟩
    · obtain ⟨m, hm⟩ := List.mem_iff_getElem?.mp (List.mem_of_mem_take hq)
      exact (hok m q hm).2.1
    · rw [upd_ne b4, upd_ne (ne_of_none hb hD5), upd_ne (ne_of_none hb h28), upd_ne (ne_of_none hb hD5), upd_ne (ne_of_none hb h16), upd_ne (ne_of_none hb hD5), upd_ne b5, upd_ne b3, upd_ne (ne_of_none hb hlB), upd_ne b2', upd_ne b1]
      exact hb
    · rw [upd_ne n_pt_o.symm, upd_ne nD_o.symm, upd_ne n2_o.symm, upd_ne nD_o.symm, upd_ne n1_o.symm, upd_ne nD_o.symm, upd_ne hl2o.symm, upd_ne n_pk_o.symm, upd_ne nl_o.symm, upd_ne n_pp_o.symm]
      exact upd_same
    · rw [upd_ne n_pp_pt, upd_ne nD_pp.symm, upd_ne n2_pp.symm, upd_ne nD_pp.symm, upd_ne n1_pp.symm, upd_ne nD_pp.symm, upd_ne n_l2_pp.symm, upd_ne n_pp_pk, upd_ne nl_pp.symm]
      exact upd_same
    · rw [upd_ne n_pk_pt, upd_ne nD_pk.symm, upd_ne n2_pk.symm, upd_ne nD_pk.symm, upd_ne n1_pk.symm, upd_ne nD_pk.symm, upd_ne n_l2_pk.symm]
      exact upd_same
    · rw [upd_ne nl_pt, upd_ne nD_l.symm, upd_ne n2_l.symm, upd_ne nD_l.symm, upd_ne n1_l.symm, upd_ne nD_l.symm, upd_ne n_l2_l.symm, upd_ne nl_pk]
      exact upd_same
    · rw [upd_ne n_l2_pt, upd_ne nD_l2.symm, upd_ne n2_l2.symm, upd_ne nD_l2.symm, upd_ne n1_l2.symm, upd_ne nD_l2.symm]
      exact upd_same
    · have t12 := ((TK.new h2 (.dK (mergeK [] dk))).trans (TK.dk ((upd_ne n2_D.symm).trans upd_same) (.dK (mergeK (mergeK [] left) (mergeK [] dk))))).trans (TK.dk (e_pt _ _ _ _ _ _ _ _ _ _) (.dK (tk ++ [(Sum.inr r.name, .ref D)])))
      have g3 := g2
      rw [ksnew, panew] at t12 g3
      exact ⟨_, (upd_ne nD_pt).trans upd_same, full_of (hLV _) (paired_monoM (fun kv du hm z => ⟨z.1, t12.val (hd.2 du hm).2 z.2⟩) g3) hd⟩
  · rintro σ H1 ⟨tk, o3, o4, o5, o6, o7, rfl, hP⟩
    rw [xl, List.take_length] at hP
    refine ⟨_, rfl, _, _, _, _, true, rfl, .ty _, .base (.bl b), kit_ty (by decide +kernel), true, rfl, ?_⟩
    refine iteF ?_
    refine ⟨_, rfl, _, rfl, p, C, dx, _, rfl, hP.ob, TCl.cl, TCl.n_hands, (by show 4 < 1000; decide), ?_⟩
    show Q .non (upd H1 p (.ins C dx (putF "hands" (.bl b) [("order", V.ref po), ("parents", .ref pp), ("kids", .ref pk), ("table", .ref pt)])))
    rw [putF_five]
    have tkk : TK H1 (upd H1 p (.ins C dx (tf5 po pp pk pt b))) := TK.ins hP.ob _
    refine q _ tk (fun b2 o2 hb => ?_) ⟨dx, po, pp, pk, pt, upd_same, ?_, ?_, ?_, ?_⟩ ?_
    · rw [upd_ne (ne_of_none hb p0)]
      exact hP.same _ _ hb
    · rw [upd_ne (ne_of hP.or_ hP.ob (by intro z; cases z))]
      exact hP.or_
    · rw [upd_ne (ne_of hP.pa hP.ob (by intro z; cases z))]
      exact hP.pa
    · rw [upd_ne (ne_of hP.tb hP.ob (by intro z; cases z))]
      exact hP.tb
    · refine paired_monoM (fun kv r hr z => ?_) hP.td
      obtain ⟨e1, d, e2, e3, e4, e5, e6, e7⟩ := z
      refine ⟨e1, d, e2, tkk.full ?_ ?_ e7⟩
      · obtain ⟨m, hm⟩ := List.mem_iff_getElem?.mp hr
        exact (hok m r hm).2.1
      · obtain ⟨fk, f1, _⟩ := e7
        rw [upd_ne (ne_of f1 hP.ob (by intro z; cases z))]
    · intro kv hkv
      obtain ⟨m, hm⟩ := List.mem_iff_getElem?.mp hkv
      obtain ⟨r, _, _, d, e2, e3, _⟩ := paired_get hP.td hm
      exact ⟨d, e2, e3⟩

end
end Bd
end

section
namespace Bd
open PySem L2
abbrev sTEq : Stmt := (inClass (top 29) 1)
theorem scTEq : FnScope ["self", "other"] ["self", "other"] (defScope sTEq) := ⟨rfl, rfl, rfl, by decide +kernel, rfl, by decide +kernel, by decide +kernel⟩

def duesEqB (a b : List (Str × PyData)) : Bool := (List.zipWith (fun x y => PyData.eqv x.2 y.2) a b).all id
def treeEqB (rows : List RowM) (h : Bool) (rows' : List RowM) (h' : Bool) : Bool :=
  decide (rows.map (·.name) = rows'.map (·.name)) && (decide (rows.map (·.above) = rows'.map (·.above)) && ((List.zipWith (fun r r' => duesEqB (fullD r.dues) (fullD r'.dues)) rows rows').all id && decide (h = h')))
/-- three lists in step -/
inductive P3 {α β γ : Type} (F : α → β → γ → Prop) : List α → List β → List γ → Prop
  | nil : P3 F [] [] []
  | cons {a : α} {b : β} {c : γ} {as : List α} {bs : List β} {cs : List γ} : F a b c → P3 F as bs cs → P3 F (a :: as) (b :: bs) (c :: cs)
theorem hits_al {F : V → V → Bool → Prop} {ls : List (Key × V)} (nd : (ls.map (·.1)).Nodup) {ks us : List (Key × V)} {rs : List Bool} (h : P3 (fun (k u : Key × V) r => k.1 = u.1 ∧ F k.2 u.2 r) ks us rs) (hu : ∀ u ∈ us, u ∈ ls) : HitsV F ls ks (rs.all id) := by
  induction h with
  | nil => exact .nil
  | @cons k u r ks us rs h1 h2 ih =>
    obtain ⟨k1, k2⟩ := k
    have e : valV ls k1 = some u.2 := by
      have := val_nd nd u (hu u List.mem_cons_self)
      rw [← h1.1] at this
      exact this
    rw [List.all_cons]
    exact .hit e h1.2 (ih fun x hx => hu x (List.mem_cons_of_mem _ hx))
theorem eqv_strs : ∀ (xs ys : List Str), PyData.eqvAll (xs.map .str) (ys.map .str) = decide (xs = ys)
  | [], [] => by simp [PyData.eqvAll]
  | [], y :: ys => by simp [PyData.eqvAll]
  | x :: xs, [] => by simp [PyData.eqvAll]
  | x :: xs, y :: ys => by
    rw [List.map_cons, List.map_cons, PyData.eqvAll, eqv_strs xs ys, PyData.eqv]
    by_cases a : x = y
    · subst a
      simp
    · simp [a]
theorem eqv_strL (xs ys : List Str) : PyData.eqv (.list (xs.map .str)) (.list (ys.map .str)) = decide (xs = ys) := by
  rw [PyData.eqv]
  exact eqv_strs xs ys
theorem lay_strs : ∀ xs : List Str, (∀ x ∈ xs, PyData.canLay0 (.str x) = true) → PyData.canLayAll0 (xs.map .str) = true
  | [], _ => by simp [PyData.canLayAll0]
  | x :: xs, h => by
    rw [List.map_cons, PyData.canLayAll0, lay_strs xs fun y hy => h y (List.mem_cons_of_mem _ hy), h x List.mem_cons_self]
    rfl
theorem dep_strs : ∀ xs : List Str, PyData.depthAll (xs.map .str) = 0
  | [] => by simp [PyData.depthAll]
  | x :: xs => by
    rw [List.map_cons, PyData.depthAll, dep_strs xs, PyData.depth]
    rfl
theorem shaped_strs {xs : List Str} (h : ∀ x ∈ xs, PyData.canLay0 (.str x) = true) : SeqAt.shaped (.list (xs.map .str)) = true := by
  unfold SeqAt.shaped
  rw [PyData.canLay0, lay_strs xs h, PyData.depth, dep_strs]
  rfl
theorem lay_name {x : Str} (h : NameOk x) : PyData.canLay0 (.str x) = true := by
  have e : PyData.canLay0 (.str x) = x.cps.all (· < 0x110000) := by
    rw [PyData.canLay0]
    rfl
  rw [e, Array.all_eq_true']
  intro c hc
  have := (h.2.2 c (Array.mem_toList_iff.mpr hc)).2
  exact decide_eq_true (by omega)
theorem lay_ints : ∀ xs : List Int, PyData.canLayAll0 (xs.map .int) = true
  | [] => by simp [PyData.canLayAll0]
  | x :: xs => by
    rw [List.map_cons, PyData.canLayAll0, lay_ints xs, PyData.canLay0]
    rfl
theorem dep_ints : ∀ xs : List Int, PyData.depthAll (xs.map .int) = 0
  | [] => by simp [PyData.depthAll]
  | x :: xs => by
    rw [List.map_cons, PyData.depthAll, dep_ints xs, PyData.depth]
    rfl
theorem shaped_ints (xs : List Int) : SeqAt.shaped (.tuple (xs.map .int)) = true := by
  unfold SeqAt.shaped
  rw [PyData.canLay0, lay_ints xs, PyData.depth, dep_ints]
  rfl
theorem shaped_val {x : Str} {d : PyData} (h : ValOk x d) : SeqAt.shaped d = true := by
  cases h with
  | amt => exact shaped_ints [_, _]
  | endl => decide +kernel
  | none => decide +kernel
  | set => exact shaped_ints _
  | alone =>
    unfold SeqAt.shaped
    rw [PyData.canLay0, PyData.depth]
    rfl
theorem shaped_name {x : Str} (h : PyData.canLay0 (.str x) = true) : SeqAt.shaped (.str x) = true := by
  unfold SeqAt.shaped
  rw [h, PyData.depth]
  rfl
/-- aboves, too, are names or the root's -/
theorem lay_above {rows : List RowM} (h : RowsOk rows) {i : Nat} {r : RowM} (e : rows[i]? = some r) : PyData.canLay0 (.str r.above) = true := by
  rcases (h i r e).2.2.2 with z | ⟨q, hq, z, _⟩
  · rw [z]
    decide +kernel
  · rw [← z]
    obtain ⟨m, hm⟩ := List.mem_iff_getElem?.mp (List.mem_of_mem_take hq)
    exact lay_name (h m q hm).1
theorem dp_strs {K : PySem.W.Frag} {H : Hp} : ∀ xs : List Str, DpAll K H (xs.map V.str) (xs.map .str)
  | [] => .nil
  | x :: xs => .cons (.str x) (dp_strs xs)
/-- a thing that is no instance of the class -/
def NonIns (K : PySem.W.Frag) (H : Hp) (C : Addr) (y : V) : Prop := ∃ t, TyX K H y t ∧ PySem.W.kitOne K t (.ref C) = some false
/-- what isinstance asks of the class -/
structure TI (K : PySem.W.Frag) (C : Addr) : Prop where
  ha : PySem.W.findIn K (.ref C) "__class__" = some (some (.builtin "object.__class__"))
  hn : PySem.W.specialIn K (.builtin "object.__class__") "__get__" = some (some (.builtin "getset_descriptor.__get__"))
  htk : PySem.W.takesIn K (.builtin "object.__class__") = some true
  hm : PySem.W.mroIn K C (.type "object") = some true
def spTEq (K : PySem.W.Frag) (C : Addr) : Sp := fun vs H Q _ => ∃ (p : Addr) (y : V) (rows : List RowM) (h : Bool) (tk : List (Key × V)), vs = [.ref p, y] ∧ TreeAt K H C p rows h tk ∧ RowsOk rows ∧
  ((NonIns K H C y ∧ Q (.bl false) H) ∨ ∃ p' rows' h' tk', y = .ref p' ∧ TreeAt K H C p' rows' h' tk' ∧ RowsOk rows' ∧ (∀ kv ∈ tk, ∀ kv' ∈ tk', kv.2 ≠ kv'.2) ∧ Q (.bl (treeEqB rows h rows' h')) H)
section
variable {P : Program} {w : World} {K : PySem.W.Frag} {mg : Str → Option Value} {base : Heap} {aL C : Addr} {left : List (Key × V)}
theorem hu100 {A : Around} {k : Nat} (hr : Room k A) : A.units + 100 < cLine := by
  have := hr.un
  omega
theorem p3_dues {H : Hp} : ∀ {kvs lvs : List (Key × V)} {a b : List (Str × PyData)}, Paired (PV K H) kvs a → Paired (PV K H) lvs b → a.map (·.1) = b.map (·.1) → (∀ x ∈ a, ValOk x.1 x.2) → (∀ x ∈ b, ValOk x.1 x.2) →
    P3 (fun (k u : Key × V) r => k.1 = u.1 ∧ EqF K H 0 k.2 u.2 r) kvs lvs (List.zipWith (fun x y => PyData.eqv x.2 y.2) a b)
  | _, _, _, _, .nil, .nil, _, _, _ => .nil
  | _, _, _, _, .cons x1 x2, .cons y1 y2, e, h1, h2 => by
    rw [List.map_cons, List.map_cons] at e
    injection e with e1 e2
    exact .cons ⟨by rw [x1.1, y1.1, e1], _, _, x1.2, y1.2, shaped_val (h1 _ List.mem_cons_self), shaped_val (h2 _ List.mem_cons_self), rfl⟩ (p3_dues x2 y2 e2 (fun z hz => h1 z (List.mem_cons_of_mem _ hz)) fun z hz => h2 z (List.mem_cons_of_mem _ hz))
  | _, _, _, _, .nil, .cons _ _, e, _, _ => by cases e
  | _, _, _, _, .cons _ _, .nil, e, _, _ => by cases e
theorem fullD_keys (a : List (Str × PyData)) : (fullD a).map (·.1) = leftW := by
  rw [← leftD_words]
  unfold fullD
  rw [List.map_map]
  rfl
theorem full_nd {H : Hp} {kvs : List (Key × V)} {a : List (Str × PyData)} (h : Paired (PV K H) kvs (fullD a)) : (kvs.map (·.1)).Nodup := by
  have e : (fullD a).map (fun du => (Sum.inr du.1 : Key)) = leftW.map fun x => (Sum.inr x : Key) := by
    rw [← fullD_keys a, List.map_map]
    rfl
  rw [pv_keys h, e]
  exact nodup_inr leftW_nd
theorem p3_table {H : Hp} : ∀ {tk tk' : List (Key × V)} {rows rows' : List RowM}, Paired (fun (kv : Key × V) (r : RowM) => kv.1 = (Sum.inr r.name : Key) ∧ ∃ d, kv.2 = .ref d ∧ FullAt K H d r.dues) tk rows →
    Paired (fun (kv : Key × V) (r : RowM) => kv.1 = (Sum.inr r.name : Key) ∧ ∃ d, kv.2 = .ref d ∧ FullAt K H d r.dues) tk' rows' → rows.map (·.name) = rows'.map (·.name) → (∀ r ∈ rows, DuesOk r.dues) → (∀ r ∈ rows', DuesOk r.dues) →
    (∀ kv ∈ tk, ∀ kv' ∈ tk', kv.2 ≠ kv'.2) → P3 (fun (k u : Key × V) r => k.1 = u.1 ∧ EqF K H 1 k.2 u.2 r) tk tk' (List.zipWith (fun r r' => duesEqB (fullD r.dues) (fullD r'.dues)) rows rows')
  | _, _, _, _, .nil, .nil, _, _, _, _ => .nil
  | _, _, _, _, .cons (a := kv) (b := r) x1 x2, .cons (a := kv') (b := r') y1 y2, e, h1, h2, h3 => by
    rw [List.map_cons, List.map_cons] at e
    injection e with e1 e2
    obtain ⟨k1, d, k2, fk, f1, f2⟩ := x1
    obtain ⟨l1, d', l2, gk, g1, g2⟩ := y1
    refine .cons ⟨by rw [k1, l1, e1], d, d', k2, l2, .inr ⟨fun z => h3 kv List.mem_cons_self kv' List.mem_cons_self (by rw [k2, l2, z]), fk, gk, _, f1, g1, fun _ => hits_al (full_nd g2) (p3_dues f2 g2 ?_ ?_ ?_) fun u hu => hu, ?_⟩⟩
      (p3_table x2 y2 e2 (fun z hz => h1 z (List.mem_cons_of_mem _ hz)) (fun z hz => h2 z (List.mem_cons_of_mem _ hz)) fun z hz z' hz' => h3 z (List.mem_cons_of_mem _ hz) z' (List.mem_cons_of_mem _ hz'))
    · rw [fullD_keys, fullD_keys]
    · exact fullD_ok (h1 _ List.mem_cons_self)
    · exact fullD_ok (h2 _ List.mem_cons_self)
    · have z1 : fk.length = gk.length := by
        rw [Paired.length f2, Paired.length g2]
        unfold fullD
        rw [List.length_map, List.length_map]
      unfold duesEqB
      rw [z1]
      simp
  | _, _, _, _, .nil, .cons _ _, e, _, _, _ => by cases e
  | _, _, _, _, .cons _ _, .nil, e, _, _, _ => by cases e
theorem p3_above {H : Hp} : ∀ {rows rows' : List RowM}, rows.map (·.name) = rows'.map (·.name) → (∀ r ∈ rows, PyData.canLay0 (.str r.above) = true) → (∀ r ∈ rows', PyData.canLay0 (.str r.above) = true) →
    P3 (fun (k u : Key × V) r => k.1 = u.1 ∧ EqF K H 0 k.2 u.2 r) (rows.map fun r => ((Sum.inr r.name : Key), V.str r.above)) (rows'.map fun r => ((Sum.inr r.name : Key), V.str r.above)) (List.zipWith (fun r r' => decide (r.above = r'.above)) rows rows')
  | [], [], _, _, _ => .nil
  | r :: rows, r' :: rows', e, h1, h2 => by
    rw [List.map_cons, List.map_cons] at e
    injection e with e1 e2
    refine .cons ⟨congrArg Sum.inr e1, _, _, .str _, .str _, shaped_name (h1 _ List.mem_cons_self), shaped_name (h2 _ List.mem_cons_self), ?_⟩ (p3_above e2 (fun z hz => h1 z (List.mem_cons_of_mem _ hz)) fun z hz => h2 z (List.mem_cons_of_mem _ hz))
    rw [PyData.eqv]
    show decide (r.above = r'.above) = (r.above == r'.above)
    by_cases c : r.above = r'.above
    · rw [decide_eq_true c, c]
      exact (beq_self_eq_true _).symm
    · rw [decide_eq_false c]
      exact (beq_eq_false_iff_ne.mpr c).symm
  | [], _ :: _, e, _, _ => by cases e
  | _ :: _, [], e, _, _ => by cases e
theorem above_all : ∀ {rows rows' : List RowM}, rows.length = rows'.length → (List.zipWith (fun (r r' : RowM) => decide (r.above = r'.above)) rows rows').all id = decide (rows.map (·.above) = rows'.map (·.above))
  | [], [], _ => by simp
  | r :: rows, r' :: rows', e => by
    rw [List.zipWith_cons_cons, List.all_cons, above_all (by simpa using e), List.map_cons, List.map_cons]
    by_cases c : r.above = r'.above
    · simp [c]
    · simp [c]
  | [], _ :: _, e => by cases e
  | _ :: _, [], e => by cases e
theorem ok_teq {f : Addr} {fd : FuncData} (F : Fun K "__eq__" "Tree.__eq__" sTEq f fd) (T : TP P w K mg aL left) (TCl : TC K mg C) (TIs : TI K C) : FnOk P w K mg base CX0 1 f fd ["self", "other"] (spTEq K C) := by
  refine F.ok scTEq (fun vs H Q E h => ?_) (fun cdv A outer s H vs Q E hr h => ?_)
  · obtain ⟨p, y, rows, h, tk, rfl, _⟩ := h
    rfl
  obtain ⟨p, y, rows, h, tk, rfl, ht, hok, hy⟩ := h
  refine ⟨_, (pss_one (ps_ret (pe_and (pe_callB call_isi (by rfl) T.z_isinstance (by decide +kernel) (pa_cons (pv 1) (pa_cons (pe_glob (v := .ref C) rfl TCl.g_Tree rfl) pa_nil))) (pe_and (pe_cmpR (op_eqD hr.units) (pe_fld (pv 0) rfl) (pe_fld (pv 1) rfl) (nomark _)) (pe_and (pe_cmpR (op_eqF (hu100 hr)) (pe_fld (pv 0) rfl) (pe_fld (pv 1) rfl) (nomark _)) (pe_and (pe_cmpR (op_eqF (hu100 hr)) (pe_fld (pv 0) rfl) (pe_fld (pv 1) rfl) (nomark _)) (pe_one (pe_cmpR op_eq (pe_fld (pv 0) rfl) (pe_fld (pv 1) rfl) (nomark _))))))))), ?_⟩
  rcases hy with ⟨⟨t, ty, kt⟩, q⟩ | ⟨p', rows', h', tk', rfl, ht', hok', hdis, q⟩
  · exact ⟨_, rfl, _, _, _, _, false, rfl, .own C, ty, kt, false, rfl, iteF q⟩
  obtain ⟨dx, po, pp, pk, pt, o1, o2, o3, o4, o5⟩ := ht
  obtain ⟨dx', po', pp', pk', pt', w1, w2, w3, w4, w5⟩ := ht'
  refine ⟨_, rfl, _, _, _, _, true, rfl, .own C, .base (.ins w1 TCl.cl TIs.ha TIs.hn TIs.htk TIs.hm), by simp [PySem.W.kitOne], true, rfl, iteT ?_⟩
  refine ⟨_, rfl, p, C, dx, _, _, rfl, o1, TCl.cl, TCl.n_order, tf5_order, _, rfl, p', C, dx', _, _, rfl, w1, TCl.cl, TCl.n_order, tf5_order, ?_⟩
  have mem : ∀ {rs : List RowM}, RowsOk rs → ∀ r ∈ rs, NameOk r.name ∧ DuesOk r.dues ∧ PyData.canLay0 (.str r.above) = true := fun ok r hr => by
    obtain ⟨m, hm⟩ := List.mem_iff_getElem?.mp hr
    exact ⟨(ok m r hm).1, (ok m r hm).2.1, lay_above ok hm⟩
  have lays : ∀ {rs : List RowM}, RowsOk rs → ∀ x ∈ rs.map (·.name), PyData.canLay0 (.str x) = true := fun ok x hx => by
    obtain ⟨r, hr, rfl⟩ := List.mem_map.mp hx
    exact lay_name (mem ok r hr).1
  refine ⟨.list ((rows.map (·.name)).map .str), .list ((rows'.map (·.name)).map .str), .lst (SqL.of o2) ?_, .lst (SqL.of w2) ?_, shaped_strs (lays hok), shaped_strs (lays hok'), ?_⟩
  · have := dp_strs (K := K) (H := H) (rows.map (·.name))
    rw [List.map_map] at this
    exact this
  · have := dp_strs (K := K) (H := H) (rows'.map (·.name))
    rw [List.map_map] at this
    exact this
  rw [eqv_strL]
  unfold treeEqB at q
  by_cases en : rows.map (·.name) = rows'.map (·.name)
  · rw [decide_eq_true en]
    rw [decide_eq_true en, Bool.true_and] at q
    have el : rows.length = rows'.length := by
      have := congrArg List.length en
      simpa using this
    refine ⟨true, rfl, iteT ?_⟩
    refine ⟨_, rfl, p, C, dx, _, _, rfl, o1, TCl.cl, TCl.n_parents, tf5_parents, _, rfl, p', C, dx', _, _, rfl, w1, TCl.cl, TCl.n_parents, tf5_parents, ?_⟩
    have ndp : ((rows'.map fun r => ((Sum.inr r.name : Key), V.str r.above)).map (·.1)).Nodup := by
      have := names_nd hok' rows'.length
      rw [List.take_length] at this
      have := nodup_inr this
      rw [List.map_map] at this ⊢
      exact this
    refine ⟨pp, pp', _, _, _, 0, by decide, rfl, rfl, o3, w3, fun _ => hits_al ndp (p3_above en (fun r hr => (mem hok r hr).2.2) fun r hr => (mem hok' r hr).2.2) fun u hu => hu, ?_⟩
    rw [above_all el, List.length_map, List.length_map, el, beq_self_eq_true, Bool.true_and]
    by_cases ea : rows.map (·.above) = rows'.map (·.above)
    · rw [decide_eq_true ea]
      rw [decide_eq_true ea, Bool.true_and] at q
      refine ⟨true, rfl, iteT ?_⟩
      refine ⟨_, rfl, p, C, dx, _, _, rfl, o1, TCl.cl, TCl.n_table, tf5_table, _, rfl, p', C, dx', _, _, rfl, w1, TCl.cl, TCl.n_table, tf5_table, ?_⟩
      have ndt : (tk'.map (·.1)).Nodup := by
        rw [td_keys (fun _ _ z => z.1) w5]
        rw [List.map_map] at ndp
        exact ndp
      refine ⟨pt, pt', _, _, _, 1, by decide, rfl, rfl, o4, w4, fun _ => hits_al ndt (p3_table o5 w5 en (fun r hr => (mem hok r hr).2.1) (fun r hr => (mem hok' r hr).2.1) hdis) fun u hu => hu, ?_⟩
      rw [Paired.length o5, Paired.length w5, el, beq_self_eq_true, Bool.true_and]
      cases et : (List.zipWith (fun r r' => duesEqB (fullD r.dues) (fullD r'.dues)) rows rows').all id with
      | false =>
        rw [et, Bool.false_and] at q
        exact ⟨false, rfl, iteF q⟩
      | true =>
        rw [et, Bool.true_and] at q
        refine ⟨true, rfl, iteT ?_⟩
        refine ⟨_, rfl, p, C, dx, _, _, rfl, o1, TCl.cl, TCl.n_hands, tf5_hands, _, rfl, p', C, dx', _, _, rfl, w1, TCl.cl, TCl.n_hands, tf5_hands, rfl, ?_⟩
        have e : decide (V.bl h = V.bl h') = decide (h = h') := by
          by_cases c : h = h'
          · rw [c]
            simp
          · rw [decide_eq_false c, decide_eq_false fun z => c (V.bl.inj z)]
        show Q (.bl (decide (V.bl h = V.bl h'))) H
        rw [e]
        exact q
    · rw [decide_eq_false ea]
      rw [decide_eq_false ea, Bool.false_and] at q
      exact ⟨false, rfl, iteF q⟩
  · rw [decide_eq_false en]
    rw [decide_eq_false en, Bool.false_and] at q
    exact ⟨false, rfl, iteF q⟩
end
end Bd
end

section
namespace Bd
open PySem L2
abbrev sNames2 : Stmt := (top 41)
theorem scNames2 : FnScope ["_law_source_here", "_law_many", "_law_some", "_law_found", "_law_turn"] ["_law_source_here", "_law_many"] (defScope sNames2) := ⟨rfl, rfl, rfl, by decide +kernel, rfl, by decide +kernel, by decide +kernel⟩
abbrev sWords : Stmt := (top 44)
theorem scWords : FnScope [] [] (defScope sWords) := ⟨rfl, rfl, rfl, by decide +kernel, rfl, by decide +kernel, by decide +kernel⟩
abbrev sValue2 : Stmt := (top 45)
theorem scValue2 : FnScope ["_law_source_here", "_law_word"] ["_law_source_here", "_law_word"] (defScope sValue2) := ⟨rfl, rfl, rfl, by decide +kernel, rfl, by decide +kernel, by decide +kernel⟩

def menu : List Str := ["a", "b", "c", "d", "e", "f", "g", "h", "k", "m", "pit", "shed", "tenletters", "zz"]
def bigD : PyData := .tuple [.int (10 ^ 15 + 1), .int 1]
def spWords : Sp := fun vs H Q _ => vs = [] ∧ ∀ r, H r = none → Q (.ref r) (upd H r (.lst (leftW.map .str)))
def spNames2 : Sp := fun vs H Q _ => ∃ (s : Addr) (m : Nat), vs = [.ref s, .int (m : Int)] ∧ Src H s ∧ m ≤ 9 ∧
  ∀ r H' (xs : List Str), H r = none → H' r = some (.lst (xs.map .str)) → xs.Nodup → (∀ x ∈ xs, x ∈ menu) → xs.length = m → Src H' s → Kept s H H' → Q (.ref r) H'
def spValue (K : PySem.W.Frag) : Sp := fun vs H Q _ => ∃ (s : Addr) (x : Str), vs = [.ref s, .str x] ∧ Src H s ∧ x ∈ leftW ∧
  ∀ v d H', ValOk x d → d ≠ bigD → Dp K H' v d → Src H' s → Kept s H H' → Q v H'
section
variable {P : Program} {w : World} {K : PySem.W.Frag} {mg : Str → Option Value} {base : Heap}
theorem src_ne {H : Hp} {p r : Addr} (h : Src H p) (hr : H r = none) : p ≠ r := by
  obtain ⟨_, _, _, h⟩ := h
  exact ne_of_none h hr
theorem src_new {H : Hp} {p r : Addr} {o : HO} (h : Src H p) (hr : H r = none) : Src (upd H r o) p := by
  have n := src_ne h hr
  obtain ⟨x, y, z, h⟩ := h
  exact ⟨x, y, z, by rw [upd_ne n]; exact h⟩
theorem src_upd {H : Hp} {p r : Addr} {o : HO} (h : Src H p) (hr : p ≠ r) : Src (upd H r o) p := by
  obtain ⟨x, y, z, h⟩ := h
  exact ⟨x, y, z, by rw [upd_ne hr]; exact h⟩
theorem ok_words {f : Addr} {fd : FuncData} (F : Fun K "_law_words" "_law_words" sWords f fd) : FnOk P w K mg base CX0 1 f fd [] spWords := by
  refine F.ok scWords (fun vs H Q E h => ?_) (fun cdv A outer s H vs Q E hr h => ?_)
  · obtain ⟨rfl, _⟩ := h
    rfl
  obtain ⟨rfl, q⟩ := h
  refine ⟨_, (pss_one (ps_ret (pe_lst (pa_cons pe_str (pa_cons pe_str (pa_cons pe_str (pa_cons pe_str (pa_cons pe_str (pa_cons pe_str (pa_cons pe_str (pa_cons pe_str pa_nil))))))))))), ?_⟩
  refine ⟨by show 8 ≤ sizeLine; decide, fun r hr' => ?_⟩
  exact q r hr'

theorem seq_nat {k n : Nat} (h : k < n) : seqIndex? (k : Int) n = some k := by
  rw [seqIndex_of (by omega) (by omega)]
  rfl
theorem map_erase {α β : Type} (f : α → β) : ∀ (xs : List α) (i : Nat), (xs.map f).eraseIdx i = (xs.eraseIdx i).map f
  | [], _ => rfl
  | x :: xs, 0 => rfl
  | x :: xs, i + 1 => by
    rw [List.map_cons, List.eraseIdx_cons_succ, List.eraseIdx_cons_succ, List.map_cons, map_erase f xs i]
theorem perm_erase {α : Type} : ∀ (ys : List α) (k : Nat) (h : k < ys.length), (ys[k] :: ys.eraseIdx k).Perm ys
  | y :: ys, 0, _ => List.Perm.refl _
  | y :: ys, k + 1, h => by
    rw [List.eraseIdx_cons_succ, List.getElem_cons_succ]
    exact (List.Perm.swap _ _ _).trans ((perm_erase ys k (by simpa using h)).cons y)
theorem ok_names2 {f g : Addr} {fd gd : FuncData} (F : Fun K "_law_names" "_law_names" sNames2 f fd) (T : TA mg) (cN : Cal P w K mg base "_law_next" ["_law_source_here", "_law_many"] 2 spNext g gd) : FnOk P w K mg base CX0 3 f fd ["_law_source_here", "_law_many"] spNames2 := by
  refine F.ok scNames2 (fun vs H Q E h => ?_) (fun cdv A outer s H vs Q E hr h => ?_)
  · obtain ⟨p, m, rfl, _⟩ := h
    rfl
  obtain ⟨p, m, rfl, hp, hm, q⟩ := h
  refine ⟨_, (pss_cons (ps_set (i := 2) scNames2.nd rfl (Or.inl rfl) (pe_lst (pa_cons pe_str (pa_cons pe_str (pa_cons pe_str (pa_cons pe_str (pa_cons pe_str (pa_cons pe_str (pa_cons pe_str (pa_cons pe_str (pa_cons pe_str (pa_cons pe_str (pa_cons pe_str (pa_cons pe_str (pa_cons pe_str (pa_cons pe_str pa_nil)))))))))))))))) (pss_cons (ps_set (i := 3) scNames2.nd rfl (Or.inl rfl) (pe_lst pa_nil)) (pss_cons (ps_for PassesOwn.never rfl (pi_range1 rfl T.z_range (pa_cons (pv 1) pa_nil)) (pg_name (i := 4) scNames2.nd rfl (Or.inl rfl)) (pss_one (ps_expr (pe_bm PySem.F.plainAttrs_list PySem.F.slot_list_append PySem.F.type_list_append mt_append (pv 3) (pa_cons (pe_bm PySem.F.plainAttrs_list PySem.F.slot_list_pop PySem.F.type_list_pop mt_popAt (pv 2) (pa_cons (pe_call cN.ok (hr.mono (by decide)) rfl cN.mg cN.kp cN.bd .nil pass0 (pa_cons (pv 0) (pa_cons (pe_callB call_len_seq (by rfl) T.z_len PySem.boot_len (pa_cons (pv 2) pa_nil)) pa_nil))) pa_nil)) pa_nil))))) (pss_one (ps_ret (pv 3)))))), ?_⟩
  refine ⟨by show 14 ≤ sizeLine; decide, fun a ha => ?_⟩
  refine ⟨Nat.zero_le _, fun r hr' => ?_⟩
  obtain ⟨nra, hr0⟩ := none_upd hr'
  have npa := src_ne hp ha
  have npr := src_ne hp hr0
  refine ⟨_, rfl, _, rfl, ?_, ?_, for_range (n := m) (fun i σ H' => ∃ (o : Option V) (xs ys : List Str), σ = [some (.ref p), some (.int (m : Int)), some (.ref a), some (.ref r), o] ∧ Src H' p ∧ Kept p H H' ∧ H' a = some (.lst (ys.map .str)) ∧ H' r = some (.lst (xs.map .str)) ∧ (xs ++ ys).Perm menu ∧ xs.length = i)
    ⟨none, [], menu, rfl, src_new (src_new hp ha) hr', ((Kept.refl p H).new ha _).new hr' _, by rw [upd_ne nra.symm]; exact upd_same, upd_same, List.Perm.refl _, rfl⟩ ?_ ?_⟩
  · omega
  · omega
  · rintro i σ H1 hi ⟨o, xs, ys, rfl, hs, k1, ea, er, hperm, hlen⟩
    have l14 : (xs ++ ys).length = 14 := hperm.length_eq
    rw [List.length_append] at l14
    have yl : (ys.map V.str).length = ys.length := List.length_map _
    refine ⟨_, rfl, .inl ⟨rfl, _, SqL.of er⟩, _, rfl, .inl ⟨rfl, _, SqL.of ea⟩, _, rfl, _, rfl, a, _, rfl, .inl (SqL.of ea), p, (ys.map V.str).length, rfl, hs, by omega, by omega, fun k H2 hk hs2 kk => ?_⟩
    have ea2 := kk a _ npa.symm ea
    have er2 := kk r _ npr.symm er
    have hk' : k < ys.length := by omega
    have hy : (ys.map V.str)[k]? = some (V.str ys[k]) := by rw [List.getElem?_map, List.getElem?_eq_getElem hk']; rfl
    refine ⟨a, _, (k : Int), k, V.str ys[k], rfl, rfl, ea2, by omega, by omega, seq_nat (by omega), hy, r, _, _, rfl, rfl, (upd_ne nra).trans er2, ?_, ?_⟩
    · rw [List.length_map]
      exact small1000 (by omega)
    · refine ⟨_, xs ++ [ys[k]], ys.eraseIdx k, rfl, src_upd (src_upd hs2 npa) npr, ?_, ?_, ?_, ?_, ?_⟩
      · intro b2 o2 hb e
        have e1 := k1 b2 o2 hb e
        have e2 := kk b2 o2 hb e1
        rw [upd_ne (ne_of_none e hr0), upd_ne (ne_of_none e ha)]
        exact e2
      · rw [upd_ne nra.symm, upd_same, map_erase]
      · rw [upd_same, List.map_append]
        rfl
      · refine List.Perm.trans ?_ hperm
        rw [List.append_assoc]
        exact (List.perm_append_left_iff xs).mpr (perm_erase ys k hk')
      · rw [List.length_append, hlen]
        rfl
  · rintro σ H1 ⟨o, xs, ys, rfl, hs, k1, ea, er, hperm, hlen⟩
    have nd : (xs ++ ys).Nodup := hperm.nodup_iff.mpr (by decide +kernel)
    exact ⟨_, rfl, q r H1 xs hr0 er (List.nodup_append.mp nd).1 (fun x hx => hperm.mem_iff.mp (List.mem_append_left _ hx)) hlen hs k1⟩

theorem big_pow : 10 ^ 13 < 2 ^ 3000 := by decide +kernel
theorem amt_val {x : Str} {n d : Nat} (hx : x ∈ (["min", "low", "burst", "max", "quota", "tops"] : List Str)) (h : AmtOk n d) : ValOk x (.tuple [.int n, .int d]) ∧ (PyData.tuple [.int n, .int d]) ≠ bigD := by
  obtain ⟨h1, h2, h3, h4⟩ := h
  refine ⟨.amt hx (Nat.lt_of_le_of_lt h3 (big_pow)) h1 (Nat.lt_of_le_of_lt h4 big_pow) h2, fun e => ?_⟩
  unfold bigD at e
  injection e with e
  injection e with e _
  injection e with e
  omega
theorem amt_dp {H : Hp} {v : V} {n d : Nat} (h : AmtAt H v n d) : Dp K H v (.tuple [.int n, .int d]) := by
  obtain ⟨p, rfl, h⟩ := h
  exact .tup (SqT.of h) (.cons (.int _) (.cons (.int _) .nil))
theorem ok_value {f g e c : Addr} {fd gd ed cd : FuncData} (F : Fun K "_law_value" "_law_value" sValue2 f fd) (cN : Cal P w K mg base "_law_next" ["_law_source_here", "_law_many"] 2 spNext g gd) (cA : Cal P w K mg base "_law_amount" ["_law_source_here"] 3 spAmount e ed)
    (cO : Cal P w K mg base "_law_one" ["_law_source_here", "_law_things"] 3 (spOne K) c cd) : FnOk P w K mg base CX0 4 f fd ["_law_source_here", "_law_word"] (spValue K) := by
  refine F.ok scValue2 (fun vs H Q E h => ?_) (fun cdv A outer s H vs Q E hr h => ?_)
  · obtain ⟨p, m, rfl, _⟩ := h
    rfl
  obtain ⟨p, x, rfl, hp, hx, q⟩ := h
  have amt : ∀ H1, Src H1 p → Kept p H H1 → x ∈ (["min", "low", "burst", "max", "quota", "tops"] : List Str) → spAmount [.ref p] H1 Q E0 := fun H1 h1 k1 hx => ⟨p, rfl, h1, fun v n d H2 ok at_ s2 k2 => q v _ H2 (amt_val hx ok).1 (amt_val hx ok).2 (amt_dp at_) s2 (k1.trans k2)⟩
  refine ⟨_, (pss_cons (ps_if (pt_cmpR op_in_seq (pv 1) (pe_tup (pa_cons pe_str (pa_cons pe_str (pa_cons pe_str pa_nil)))) (by first | exact nomark _ | rfl)) (pss_one (ps_ret (pe_call cA.ok (hr.mono (by decide)) rfl cA.mg cA.kp cA.bd .nil pass0 (pa_cons (pv 0) pa_nil)))) pss_nil) (pss_cons (ps_if (pt_cmpR op_in_seq (pv 1) (pe_tup (pa_cons pe_str (pa_cons pe_str (pa_cons pe_str pa_nil)))) (by first | exact nomark _ | rfl)) (pss_one (ps_ret (pe_ifExp (pt_cmpR op_eq (pe_call cN.ok (hr.mono (by decide)) rfl cN.mg cN.kp cN.bd .nil pass0 (pa_cons (pv 0) (pa_cons pe_int pa_nil))) pe_int (nomark _)) pe_str (pe_call cA.ok (hr.mono (by decide)) rfl cA.mg cA.kp cA.bd .nil pass0 (pa_cons (pv 0) pa_nil))))) pss_nil) (pss_cons (ps_if (pt_cmpR op_eq (pv 1) pe_str (nomark _)) (pss_one (ps_ret (pe_call cO.ok (hr.mono (by decide)) rfl cO.mg cO.kp cO.bd .nil pass0 (pa_cons (pv 0) (pa_cons (pe_lst (pa_cons pe_non (pa_cons (pe_tup pa_nil) (pa_cons (pe_tup (pa_cons pe_int pa_nil)) (pa_cons (pe_tup (pa_cons pe_int pa_nil)) (pa_cons (pe_tup (pa_cons pe_int (pa_cons pe_int (pa_cons pe_int pa_nil)))) pa_nil)))))) pa_nil))))) pss_nil) (pss_one (ps_ret (pe_call cN.ok (hr.mono (by decide)) rfl cN.mg cN.kp cN.bd .nil pass0 (pa_cons (pv 0) (pa_cons pe_int pa_nil)))))))), ?_⟩
  refine ⟨_, rfl, by show 3 ≤ sizeLine; decide, fun a ha => ⟨a, _, rfl, .inr (SqT.of upd_same), rfl, rfl, ?_⟩⟩
  have s1 := src_new (o := .tup [.str "min", .str "low", .str "burst"]) hp ha
  have k1 := (Kept.refl p H).new ha (.tup [.str "min", .str "low", .str "burst"])
  simp only [leftW, List.mem_cons, List.not_mem_nil, or_false] at hx
  have no1 : ∀ {G : Prop}, True → G → G := fun _ g => g
  have ints_ok : ∀ {H1 : Hp} {t : Addr} {xs : List Int}, x = "sets" → RiseOk (-1) xs → xs.length ≤ 64 → xs.length ≠ 2 → SqT K H1 t (xs.map V.int) → Src H1 p → Kept p H H1 → Q (.ref t) H1 := fun {H1 t xs} hx h1 h2 h3 h4 h5 h6 => by
    subst hx
    refine q _ (.tuple (xs.map .int)) H1 (.set h1 h2) (fun e => ?_) (.tup h4 (dp_ofints xs)) h5 h6
    unfold bigD at e
    injection e with e
    have := congrArg List.length e
    rw [List.length_map] at this
    exact h3 this
  rcases hx with rfl | rfl | rfl | rfl | rfl | rfl | rfl | rfl
  · exact ⟨true, congrArg V.bl (by decide +kernel), iteT ⟨_, rfl, amt _ s1 k1 (by decide +kernel)⟩⟩
  · exact ⟨true, congrArg V.bl (by decide +kernel), iteT ⟨_, rfl, amt _ s1 k1 (by decide +kernel)⟩⟩
  iterate 2
    · refine ⟨false, congrArg V.bl (by decide +kernel), iteF ?_⟩
      refine ⟨_, rfl, by show 3 ≤ sizeLine; decide, fun a2 ha2 => ⟨a2, _, rfl, .inr (SqT.of upd_same), rfl, rfl, true, congrArg V.bl (by decide +kernel), iteT ?_⟩⟩
      refine ⟨_, rfl, p, 3, rfl, src_new s1 ha2, by decide, by decide, fun v H3 hv s3 k3 => ⟨rfl, _, rfl, ?_⟩⟩
      have k4 := (k1.new ha2 (.tup [.str "max", .str "quota", .str "tops"])).trans k3
      refine ite2 (fun _ => ?_) (fun _ => ?_)
      · exact q _ (.str "endless") H3 (.endl (by decide +kernel)) (fun e => by cases e) (.str _) s3 k4
      · exact ⟨_, rfl, amt _ s3 k4 (by decide +kernel)⟩
  · exact ⟨true, congrArg V.bl (by decide +kernel), iteT ⟨_, rfl, amt _ s1 k1 (by decide +kernel)⟩⟩
  · refine ⟨false, congrArg V.bl (by decide +kernel), iteF ?_⟩
    refine ⟨_, rfl, by show 3 ≤ sizeLine; decide, fun a2 ha2 => ⟨a2, _, rfl, .inr (SqT.of upd_same), rfl, rfl, true, congrArg V.bl (by decide +kernel), iteT ?_⟩⟩
    refine ⟨_, rfl, p, 3, rfl, src_new s1 ha2, by decide, by decide, fun v H3 hv s3 k3 => ⟨rfl, _, rfl, ?_⟩⟩
    have k4 := (k1.new ha2 (.tup [.str "max", .str "quota", .str "tops"])).trans k3
    refine ite2 (fun _ => ?_) (fun _ => ?_)
    · exact q _ (.str "endless") H3 (.endl (by decide +kernel)) (fun e => by cases e) (.str _) s3 k4
    · exact ⟨_, rfl, amt _ s3 k4 (by decide +kernel)⟩
  · refine ⟨false, congrArg V.bl (by decide +kernel), iteF ?_⟩
    refine ⟨_, rfl, by show 3 ≤ sizeLine; decide, fun a2 ha2 => ⟨a2, _, rfl, .inr (SqT.of upd_same), rfl, rfl, false, congrArg V.bl (by decide +kernel), iteF ?_⟩⟩
    have s2 := src_new (o := .tup [.str "max", .str "quota", .str "tops"]) s1 ha2
    have k2 := k1.new ha2 (.tup [.str "max", .str "quota", .str "tops"])
    refine ⟨_, rfl, rfl, _, rfl, ifT (by decide +kernel) ?_⟩
    refine ⟨_, rfl, Nat.zero_le _, fun t0 h0 => ⟨by show 1 ≤ sizeLine; decide, fun t1 h1 => ⟨by show 1 ≤ sizeLine; decide, fun t2 h2 => ⟨by show 3 ≤ sizeLine; decide, fun t3 h3 => ⟨by show 5 ≤ sizeLine; decide, fun l hl => ?_⟩⟩⟩⟩⟩
    have s7 := src_new (o := .lst [.non, .ref t0, .ref t1, .ref t2, .ref t3]) (src_new (o := .tup [.int 1, .int 5, .int 40]) (src_new (o := .tup [.int 63]) (src_new (o := .tup [.int 0]) (src_new (o := .tup []) s2 h0) h1) h2) h3) hl
    have k7 := ((((k2.new h0 (.tup [])).new h1 (.tup [.int 0])).new h2 (.tup [.int 63])).new h3 (.tup [.int 1, .int 5, .int 40])).new hl (.lst [.non, .ref t0, .ref t1, .ref t2, .ref t3])
    obtain ⟨nl3, hl3⟩ := none_upd hl
    obtain ⟨nl2, hl2⟩ := none_upd hl3
    obtain ⟨nl1, hl1⟩ := none_upd hl2
    obtain ⟨nl0, hl0⟩ := none_upd hl1
    obtain ⟨n32, h32⟩ := none_upd h3
    obtain ⟨n31, h31⟩ := none_upd h32
    obtain ⟨n30, h30⟩ := none_upd h31
    obtain ⟨n21, h21⟩ := none_upd h2
    obtain ⟨n20, h20⟩ := none_upd h21
    obtain ⟨n10, h10⟩ := none_upd h1
    have np0 := src_ne s2 h0
    have np1 := src_ne s2 h10
    have np2 := src_ne s2 h20
    have np3 := src_ne s2 h30
    refine ⟨p, l, _, rfl, s7, SqL.of upd_same, (src_ne s2 hl0).symm, by simp, by show 5 ≤ 1000; decide, fun v H4 hv s4 k4 => ?_⟩
    have kk := k7.trans k4
    simp only [List.mem_cons, List.not_mem_nil, or_false] at hv
    rcases hv with rfl | rfl | rfl | rfl | rfl
    · exact q _ .none H4 .none (fun e => by cases e) .non s4 kk
    · refine ints_ok (xs := []) rfl trivial (by decide) (by decide) (SqT.of (k4 t0 _ np0.symm ?_)) s4 kk
      rw [upd_ne nl0.symm, upd_ne n30.symm, upd_ne n20.symm, upd_ne n10.symm]
      exact upd_same
    · refine ints_ok (xs := [0]) rfl ⟨by decide, by decide, trivial⟩ (by decide) (by decide) (SqT.of (k4 t1 _ np1.symm ?_)) s4 kk
      rw [upd_ne nl1.symm, upd_ne n31.symm, upd_ne n21.symm]
      exact upd_same
    · refine ints_ok (xs := [63]) rfl ⟨by decide, by decide, trivial⟩ (by decide) (by decide) (SqT.of (k4 t2 _ np2.symm ?_)) s4 kk
      rw [upd_ne nl2.symm, upd_ne n32.symm]
      exact upd_same
    · refine ints_ok (xs := [1, 5, 40]) rfl ⟨by decide, by decide, by decide, by decide, by decide, by decide, trivial⟩ (by decide) (by decide) (SqT.of (k4 t3 _ np3.symm ?_)) s4 kk
      rw [upd_ne nl3.symm]
      exact upd_same
  · refine ⟨false, congrArg V.bl (by decide +kernel), iteF ?_⟩
    refine ⟨_, rfl, by show 3 ≤ sizeLine; decide, fun a2 ha2 => ⟨a2, _, rfl, .inr (SqT.of upd_same), rfl, rfl, false, congrArg V.bl (by decide +kernel), iteF ?_⟩⟩
    refine ⟨_, rfl, rfl, _, rfl, ifF (by decide +kernel) ?_⟩
    refine ⟨_, rfl, p, 2, rfl, src_new s1 ha2, by decide, by decide, fun v H3 hv s3 k3 => ?_⟩
    have k4 := (k1.new ha2 (.tup [.str "max", .str "quota", .str "tops"])).trans k3
    exact q _ (.int (v : Int)) H3 (.alone (by omega)) (fun e => by cases e) (.int _) s3 k4

end
end Bd
end

section
namespace Bd
open PySem L2
abbrev sRows2 : Stmt := (top 42)
theorem scRows2 : FnScope ["_law_source_here", "_law_many", "_law_words_here", "_law_names_here", "_law_found", "_law_at", "_law_name", "_law_way", "_law_above", "_law_dues", "_law_spot", "_law_word"] ["_law_source_here", "_law_many", "_law_words_here"] (defScope sRows2) := ⟨rfl, rfl, rfl, by decide +kernel, rfl, by decide +kernel, by decide +kernel⟩
abbrev sLeaves2 : Stmt := (top 43)
theorem scLeaves2 : FnScope ["_law_rows_here", "_law_above", "_law_row"] ["_law_rows_here"] (defScope sLeaves2) := ⟨rfl, rfl, rfl, by decide +kernel, rfl, by decide +kernel, by decide +kernel⟩

def Plain (rows : List RowM) : Prop := ∀ (i : Nat) (r : RowM), rows[i]? = some r → r.dues = [] ∧ (r.above = ("" : Str) ∨ ∃ q ∈ rows.take i, q.name = r.above)
def spRows2 (K : PySem.W.Frag) : Sp := fun vs H Q _ => ∃ (s wl : Addr) (m : Nat), vs = [.ref s, .int (m : Int), .ref wl] ∧ Src H s ∧ m ≤ 9 ∧ H wl = some (.lst []) ∧ wl ≠ s ∧
  ∀ r H' vs rows, H r = none → H' r = some (.lst vs) → Paired (RowAt K H') vs rows → Plain rows → (rows.map (·.name)).Nodup → (∀ x ∈ rows.map (·.name), x ∈ menu) → rows.length = m → Src H' s → Kept s H H' → Q (.ref r) H'
section
variable {P : Program} {w : World} {K : PySem.W.Frag} {mg : Str → Option Value} {base : Heap}
theorem plain_snoc {rows : List RowM} {r : RowM} (h : Plain rows) (h1 : r.dues = []) (h2 : r.above = ("" : Str) ∨ ∃ q ∈ rows, q.name = r.above) : Plain (rows ++ [r]) := by
  intro i q e
  by_cases c : i < rows.length
  · rw [List.getElem?_append_left c] at e
    rw [List.take_append_of_le_length (Nat.le_of_lt c)]
    exact h i q e
  · rw [List.getElem?_append_right (by omega)] at e
    have z : i - rows.length = 0 := by
      cases hz : i - rows.length with
      | zero => rfl
      | succ k =>
        rw [hz] at e
        cases e
    rw [z] at e
    cases Option.some.inj e
    have : i = rows.length := by omega
    rw [this, List.take_left]
    exact ⟨h1, h2⟩
theorem plain_ok {rows : List RowM} (h : Plain rows) : ∀ r ∈ rows, DuesOk r.dues := fun r hr => by
  obtain ⟨m, hm⟩ := List.mem_iff_getElem?.mp hr
  rw [(h m r hm).1]
  exact ⟨List.nodup_nil, fun _ h => nomatch h⟩
theorem ok_rows2 {f g e : Addr} {fd gd ed : FuncData} (F : Fun K "_law_rows" "_law_rows" sRows2 f fd) (T : TA mg) (cN : Cal P w K mg base "_law_next" ["_law_source_here", "_law_many"] 2 spNext g gd) (cM : Cal P w K mg base "_law_names" ["_law_source_here", "_law_many"] 3 spNames2 e ed) :
    FnOk P w K mg base CX0 4 f fd ["_law_source_here", "_law_many", "_law_words_here"] (spRows2 K) := by
  refine F.ok scRows2 (fun vs H Q E h => ?_) (fun cdv A outer s H vs Q E hr h => ?_)
  · obtain ⟨p, wl, m, rfl, _⟩ := h
    rfl
  obtain ⟨p, wl, m, rfl, hp, hm, hwl, nwl, q⟩ := h
  refine ⟨_, (pss_cons (ps_par (i := 3) (j := 4) (by rfl) scRows2.nd rfl rfl (by decide) rfl rfl (pa_cons (pe_call cM.ok (hr.mono (by decide)) rfl cM.mg cM.kp cM.bd .nil pass0 (pa_cons (pv 0) (pa_cons (pv 1) pa_nil))) (pa_cons (pe_lst pa_nil) pa_nil)) (by rfl)) (pss_cons (ps_for PassesOwn.never rfl (pi_enum (by rfl) T.z_enumerate (pa_cons (pv 3) pa_nil)) (pg_tup (by rfl) (pgs_cons (pg_name (i := 5) scRows2.nd rfl (Or.inl rfl)) (pgs_cons (pg_name (i := 6) scRows2.nd rfl (Or.inl rfl)) pgs_nil))) (pss_cons (ps_set (i := 7) scRows2.nd rfl (Or.inl rfl) (pe_call cN.ok (hr.mono (by decide)) rfl cN.mg cN.kp cN.bd .nil pass0 (pa_cons (pv 0) (pa_cons pe_int pa_nil)))) (pss_cons (ps_par (i := 8) (j := 9) (by rfl) scRows2.nd rfl rfl (by decide) rfl rfl (pa_cons pe_str (pa_cons (pe_lst pa_nil) pa_nil)) (by rfl)) (pss_cons (ps_if (PW.pt (pw_and (pt_cmpR op_gt (pv 5) pe_int (nomark _)) (pw_and1 (pt_cmpR op_gt (pv 7) pe_int (nomark _))))) (pss_cons (ps_set (i := 10) scRows2.nd rfl (Or.inl rfl) (pe_ifExp (pt_cmpR op_eq (pv 7) pe_int (nomark _)) (pe_op op_sub (pv 5) pe_int) (pe_call cN.ok (hr.mono (by decide)) rfl cN.mg cN.kp cN.bd .nil pass0 (pa_cons (pv 0) (pa_cons (pv 5) pa_nil))))) (pss_one (ps_set (i := 8) scRows2.nd rfl (Or.inl rfl) (pe_ix ix_list (pv 3) (pv 10) (fun _ _ => rfl))))) pss_nil) (pss_cons (ps_for PassesOwn.never rfl (pi_list (pv 2)) (pg_name (i := 11) scRows2.nd rfl (Or.inl rfl)) (pss_one ps_never)) (pss_one (ps_expr (pe_bm PySem.F.plainAttrs_list PySem.F.slot_list_append PySem.F.type_list_append mt_append (pv 4) (pa_cons (pe_tup (pa_cons (pv 6) (pa_cons (pv 8) (pa_cons (pe_callTy call_tupleF (by rfl) T.z_tuple (by decide +kernel) (pa_cons (pv 9) pa_nil)) pa_nil)))) pa_nil))))))))) (pss_one (ps_ret (pv 4))))), ?_⟩
  refine ⟨_, rfl, _, rfl, p, m, rfl, hp, hm, fun nl H1 xs hnl enl hnd hmem hxl s1 k1 => ?_⟩
  refine ⟨Nat.zero_le _, fun fl hfl => ⟨_, _, rfl, ?_⟩⟩
  have npf := src_ne s1 hfl
  have nfl : H fl = none := k1.free npf.symm hfl
  have npn := src_ne hp hnl
  have nnf : nl ≠ fl := ne_of_none enl hfl
  have nwf : wl ≠ fl := ne_of_none hwl nfl
  refine ⟨_, rfl, nl, xs.map V.str, rfl, SqL.of (by rw [upd_ne nnf]; exact enl), for_it (walk_enum (xs := xs.map V.str)) (fun i σ H' => ∃ (o5 o6 o7 o8 o9 o10 o11 : Option V) (vs : List V) (rows : List RowM), σ = [some (.ref p), some (.int (m : Int)), some (.ref wl), some (.ref nl), some (.ref fl), o5, o6, o7, o8, o9, o10, o11] ∧
      Src H' p ∧ Kept p H H' ∧ H' nl = some (.lst (xs.map V.str)) ∧ H' fl = some (.lst vs) ∧ Paired (RowAt K H') vs rows ∧ rows.map (·.name) = xs.take i ∧ Plain rows)
    ⟨none, none, none, none, none, none, none, [], [], rfl, src_new s1 hfl, k1.new hfl _, by rw [upd_ne nnf]; exact enl, upd_same, .nil, rfl, fun i r e => by simp at e⟩ ?_ ?_ ?_⟩
  · rintro i σ H' _ ⟨_, _, _, _, _, _, _, _, _, _, _, _, e, _⟩
    exact SqL.of e
  · rintro i v σ H2 H3 hi ⟨o5, o6, o7, o8, o9, o10, o11, vs, rows, rfl, s2, k2, en2, ef2, hpr, hnm, hpl⟩ ⟨TT, x, y, rfl, hTT, rfl, hx, hy⟩
    have hx' : x = .int (i : Nat) := (Option.some.inj hx).symm
    subst hx'
    rw [List.length_map] at hi
    obtain ⟨nm, rfl, hnm2⟩ : ∃ nm, y = .str nm ∧ xs[i]? = some nm := by
      have hy : (xs.map V.str)[i]? = some y := hy
      rw [List.getElem?_map] at hy
      obtain ⟨a, b, c⟩ := Option.map_eq_some_iff.mp hy
      exact ⟨a, c.symm, b⟩
    refine ⟨TT, _, rfl, SqT.of upd_same, rfl, _, _, rfl, _, _, rfl, rfl, ?_⟩
    have s3 := src_new (o := .tup [.int (i : Nat), .str nm]) s2 hTT
    have k3 := k2.new hTT (.tup [.int (i : Nat), .str nm])
    have tk3 : TK H2 (upd H2 TT (.tup [.int (i : Nat), .str nm])) := TK.new hTT _
    have nTn := ne_of_none en2 hTT
    have nTf := ne_of_none ef2 hTT
    refine ⟨_, rfl, p, 3, rfl, s3, by decide, by decide, fun way H4 hway s4 k4 => ?_⟩
    refine ⟨Nat.zero_le _, fun d hd => ⟨_, _, rfl, ?_⟩⟩
    have en4 := k4 nl _ npn.symm ((upd_ne nTn).trans en2)
    have ef4 := k4 fl _ npf.symm ((upd_ne nTf).trans ef2)
    have npd := src_ne s4 hd
    have s5 := src_new (o := .lst []) s4 hd
    have k5 := (k3.trans k4).new hd (.lst [])
    have n_n_d := ne_of_none en4 hd
    have n_f_d := ne_of_none ef4 hd
    have en5 : upd H4 d (.lst []) nl = some (.lst (xs.map V.str)) := (upd_ne n_n_d).trans en4
    have ef5 : upd H4 d (.lst []) fl = some (.lst vs) := (upd_ne n_f_d).trans ef4
    have tk5 : TK H2 (upd H4 d (.lst [])) := (tk3.trans (let ⟨_, _, _, z⟩ := s3; TK.kept z k4)).trans (TK.new hd _)
    have ed5 : upd H4 d (.lst []) d = some (.lst []) := upd_same
    have ew5 : upd H4 d (.lst []) wl = some (.lst []) := k5 wl _ nwl hwl
    have rl : rows.length ≤ 9 := by
      have := congrArg List.length hnm
      rw [List.length_map, List.length_take] at this
      omega
    have vl : vs.length = rows.length := Paired.length hpr
    have below : ∀ j, j < i → ∃ a, xs[j]? = some a ∧ ∃ q ∈ rows, q.name = a := fun j hj => by
      have hjx : j < xs.length := by omega
      refine ⟨xs[j], List.getElem?_eq_getElem hjx, ?_⟩
      have hm : xs[j] ∈ rows.map (·.name) := by
        rw [hnm]
        have : (xs.take i)[j]? = some xs[j] := by
          rw [List.getElem?_take_of_lt hj, List.getElem?_eq_getElem hjx]
        exact List.mem_of_getElem? this
      obtain ⟨q, hq, e⟩ := List.mem_map.mp hm
      exact ⟨q, hq, e⟩
    refine ⟨_, rfl, _, _, rfl, rfl, _, rfl, ?_⟩
    refine ite2 (fun c1 => ?_) (fun c1 => ?_)
    · have c1' : (0 : Int) < (i : Int) := of_decide_eq_true c1
      refine ⟨_, rfl, _, _, rfl, rfl, _, rfl, ?_⟩
      refine ite2 (fun c2 => ?_) (fun c2 => ?_)
      · refine ⟨_, rfl, rfl, _, rfl, ite2 (fun c3 => ?_) (fun c3 => ?_)⟩
        · refine ⟨_, rfl, _, _, rfl, rfl, ?_⟩
          obtain ⟨ab, hab, habR⟩ := below (i - 1) (by omega)
          refine ⟨_, rfl, _, rfl, nl, _, _, .str ab, rfl, rfl, SqL.of en5, at_of (j := i - 1) (by show (i : Int) - 1 = ((i - 1 : Nat) : Int); omega) (by rw [List.getElem?_map, hab]; rfl), ?_⟩
          have hsR := s5
          have kR := k5
          have enR := en5
          have efR := ef5
          have edR := ed5
          have ewR := ew5
          have tkR := tk5
          have habR : ab = "" ∨ ∃ q ∈ rows, q.name = ab := .inr habR
          refine ⟨_, rfl, wl, rfl, ⟨_, SqL.of ewR⟩, for_list (xs := []) (fun _ σ' H' => σ' = _ ∧ H' = _) ⟨rfl, rfl⟩ (fun _ _ _ _ ⟨_, e⟩ => by rw [e]; exact SqL.of ewR) (fun i x _ _ hx => by simp at hx) ?_⟩
          rintro _ _ ⟨rfl, rfl⟩
          refine ⟨_, rfl, .inl ⟨rfl, _, SqL.of efR⟩, _, rfl, _, rfl, _, rfl, d, [], rfl, SqL.of edR, fun t o ht ho => ⟨by show 3 ≤ sizeLine; decide, fun ra hra => ?_⟩⟩
          obtain ⟨nrt, hra2⟩ := none_upd hra
          have n_ft := ne_of_none efR ht
          have n_fr := ne_of_none efR hra2
          have n_pt := src_ne hsR ht
          have n_pr := src_ne hsR hra2
          have n_nt := ne_of_none enR ht
          have n_nr := ne_of_none enR hra2
          refine ⟨fl, _, _, rfl, rfl, (upd_ne n_fr).trans ((upd_ne n_ft).trans efR), small1000 (by omega), ?_⟩
          have tkZ := ((tkR.trans (TK.new ht (.frz o (.tup [])))).trans (TK.new hra (.tup [.str nm, .str ab, .ref t]))).trans (TK.lst ((upd_ne n_fr).trans ((upd_ne n_ft).trans efR)) (.lst (vs ++ [.ref ra])))
          refine ⟨_, _, _, _, _, _, _, vs ++ [.ref ra], rows ++ [⟨nm, ab, []⟩], rfl, src_upd (src_new (src_new hsR ht) hra) npf, ?_, (upd_ne nnf).trans ((upd_ne n_nr).trans ((upd_ne n_nt).trans enR)), upd_same, paired_snoc ?_ (paired_monoM (fun v q hq z => tkZ.row (plain_ok hpl q hq) z) hpr), ?_, plain_snoc hpl rfl habR⟩
          · intro b2 o2 hb e
            have z := kR b2 o2 hb e
            rw [upd_ne (ne_of_none e nfl), upd_ne (ne_of_none z hra2), upd_ne (ne_of_none z ht)]
            exact z
          · refine ⟨ra, t, rfl, SqT.of ?_, [], ⟨o, ho, ?_⟩, .nil⟩
            · rw [upd_ne n_fr.symm]
              exact upd_same
            · rw [upd_ne n_ft.symm, upd_ne nrt.symm]
              exact upd_same
          · rw [List.map_append, hnm, List.take_add_one, hnm2]
            rfl
        · refine ⟨_, rfl, _, rfl, p, i, rfl, s5, by omega, by omega, fun sp H6 hsp s6 k6 => ?_⟩
          obtain ⟨ab, hab, habR⟩ := below sp hsp
          have enR := k6 nl _ npn.symm en5
          refine ⟨_, rfl, _, rfl, nl, _, _, .str ab, rfl, rfl, SqL.of enR, at_of (j := sp) rfl (by rw [List.getElem?_map, hab]; rfl), ?_⟩
          have hsR := s6
          have kR := k5.trans k6
          have efR := k6 fl _ npf.symm ef5
          have edR := k6 d _ npd.symm ed5
          have ewR := k6 wl _ nwl ew5
          have tkR := tk5.trans (let ⟨_, _, _, z⟩ := s5; TK.kept z k6)
          have habR : ab = "" ∨ ∃ q ∈ rows, q.name = ab := .inr habR
          refine ⟨_, rfl, wl, rfl, ⟨_, SqL.of ewR⟩, for_list (xs := []) (fun _ σ' H' => σ' = _ ∧ H' = _) ⟨rfl, rfl⟩ (fun _ _ _ _ ⟨_, e⟩ => by rw [e]; exact SqL.of ewR) (fun i x _ _ hx => by simp at hx) ?_⟩
          rintro _ _ ⟨rfl, rfl⟩
          refine ⟨_, rfl, .inl ⟨rfl, _, SqL.of efR⟩, _, rfl, _, rfl, _, rfl, d, [], rfl, SqL.of edR, fun t o ht ho => ⟨by show 3 ≤ sizeLine; decide, fun ra hra => ?_⟩⟩
          obtain ⟨nrt, hra2⟩ := none_upd hra
          have n_ft := ne_of_none efR ht
          have n_fr := ne_of_none efR hra2
          have n_pt := src_ne hsR ht
          have n_pr := src_ne hsR hra2
          have n_nt := ne_of_none enR ht
          have n_nr := ne_of_none enR hra2
          refine ⟨fl, _, _, rfl, rfl, (upd_ne n_fr).trans ((upd_ne n_ft).trans efR), small1000 (by omega), ?_⟩
          have tkZ := ((tkR.trans (TK.new ht (.frz o (.tup [])))).trans (TK.new hra (.tup [.str nm, .str ab, .ref t]))).trans (TK.lst ((upd_ne n_fr).trans ((upd_ne n_ft).trans efR)) (.lst (vs ++ [.ref ra])))
          refine ⟨_, _, _, _, _, _, _, vs ++ [.ref ra], rows ++ [⟨nm, ab, []⟩], rfl, src_upd (src_new (src_new hsR ht) hra) npf, ?_, (upd_ne nnf).trans ((upd_ne n_nr).trans ((upd_ne n_nt).trans enR)), upd_same, paired_snoc ?_ (paired_monoM (fun v q hq z => tkZ.row (plain_ok hpl q hq) z) hpr), ?_, plain_snoc hpl rfl habR⟩
          · intro b2 o2 hb e
            have z := kR b2 o2 hb e
            rw [upd_ne (ne_of_none e nfl), upd_ne (ne_of_none z hra2), upd_ne (ne_of_none z ht)]
            exact z
          · refine ⟨ra, t, rfl, SqT.of ?_, [], ⟨o, ho, ?_⟩, .nil⟩
            · rw [upd_ne n_fr.symm]
              exact upd_same
            · rw [upd_ne n_ft.symm, upd_ne nrt.symm]
              exact upd_same
          · rw [List.map_append, hnm, List.take_add_one, hnm2]
            rfl
      · have hsR := s5
        have kR := k5
        have enR := en5
        have efR := ef5
        have edR := ed5
        have ewR := ew5
        have tkR := tk5
        have habR : ("" : Str) = "" ∨ ∃ q ∈ rows, q.name = ("" : Str) := .inl rfl
        refine ⟨_, rfl, wl, rfl, ⟨_, SqL.of ewR⟩, for_list (xs := []) (fun _ σ' H' => σ' = _ ∧ H' = _) ⟨rfl, rfl⟩ (fun _ _ _ _ ⟨_, e⟩ => by rw [e]; exact SqL.of ewR) (fun i x _ _ hx => by simp at hx) ?_⟩
        rintro _ _ ⟨rfl, rfl⟩
        refine ⟨_, rfl, .inl ⟨rfl, _, SqL.of efR⟩, _, rfl, _, rfl, _, rfl, d, [], rfl, SqL.of edR, fun t o ht ho => ⟨by show 3 ≤ sizeLine; decide, fun ra hra => ?_⟩⟩
        obtain ⟨nrt, hra2⟩ := none_upd hra
        have n_ft := ne_of_none efR ht
        have n_fr := ne_of_none efR hra2
        have n_pt := src_ne hsR ht
        have n_pr := src_ne hsR hra2
        have n_nt := ne_of_none enR ht
        have n_nr := ne_of_none enR hra2
        refine ⟨fl, _, _, rfl, rfl, (upd_ne n_fr).trans ((upd_ne n_ft).trans efR), small1000 (by omega), ?_⟩
        have tkZ := ((tkR.trans (TK.new ht (.frz o (.tup [])))).trans (TK.new hra (.tup [.str nm, .str ("" : Str), .ref t]))).trans (TK.lst ((upd_ne n_fr).trans ((upd_ne n_ft).trans efR)) (.lst (vs ++ [.ref ra])))
        refine ⟨_, _, _, _, _, _, _, vs ++ [.ref ra], rows ++ [⟨nm, ("" : Str), []⟩], rfl, src_upd (src_new (src_new hsR ht) hra) npf, ?_, (upd_ne nnf).trans ((upd_ne n_nr).trans ((upd_ne n_nt).trans enR)), upd_same, paired_snoc ?_ (paired_monoM (fun v q hq z => tkZ.row (plain_ok hpl q hq) z) hpr), ?_, plain_snoc hpl rfl habR⟩
        · intro b2 o2 hb e
          have z := kR b2 o2 hb e
          rw [upd_ne (ne_of_none e nfl), upd_ne (ne_of_none z hra2), upd_ne (ne_of_none z ht)]
          exact z
        · refine ⟨ra, t, rfl, SqT.of ?_, [], ⟨o, ho, ?_⟩, .nil⟩
          · rw [upd_ne n_fr.symm]
            exact upd_same
          · rw [upd_ne n_ft.symm, upd_ne nrt.symm]
            exact upd_same
        · rw [List.map_append, hnm, List.take_add_one, hnm2]
          rfl
    · refine iteF ?_
      have hsR := s5
      have kR := k5
      have enR := en5
      have efR := ef5
      have edR := ed5
      have ewR := ew5
      have tkR := tk5
      have habR : ("" : Str) = "" ∨ ∃ q ∈ rows, q.name = ("" : Str) := .inl rfl
      refine ⟨_, rfl, wl, rfl, ⟨_, SqL.of ewR⟩, for_list (xs := []) (fun _ σ' H' => σ' = _ ∧ H' = _) ⟨rfl, rfl⟩ (fun _ _ _ _ ⟨_, e⟩ => by rw [e]; exact SqL.of ewR) (fun i x _ _ hx => by simp at hx) ?_⟩
      rintro _ _ ⟨rfl, rfl⟩
      refine ⟨_, rfl, .inl ⟨rfl, _, SqL.of efR⟩, _, rfl, _, rfl, _, rfl, d, [], rfl, SqL.of edR, fun t o ht ho => ⟨by show 3 ≤ sizeLine; decide, fun ra hra => ?_⟩⟩
      obtain ⟨nrt, hra2⟩ := none_upd hra
      have n_ft := ne_of_none efR ht
      have n_fr := ne_of_none efR hra2
      have n_pt := src_ne hsR ht
      have n_pr := src_ne hsR hra2
      have n_nt := ne_of_none enR ht
      have n_nr := ne_of_none enR hra2
      refine ⟨fl, _, _, rfl, rfl, (upd_ne n_fr).trans ((upd_ne n_ft).trans efR), small1000 (by omega), ?_⟩
      have tkZ := ((tkR.trans (TK.new ht (.frz o (.tup [])))).trans (TK.new hra (.tup [.str nm, .str ("" : Str), .ref t]))).trans (TK.lst ((upd_ne n_fr).trans ((upd_ne n_ft).trans efR)) (.lst (vs ++ [.ref ra])))
      refine ⟨_, _, _, _, _, _, _, vs ++ [.ref ra], rows ++ [⟨nm, ("" : Str), []⟩], rfl, src_upd (src_new (src_new hsR ht) hra) npf, ?_, (upd_ne nnf).trans ((upd_ne n_nr).trans ((upd_ne n_nt).trans enR)), upd_same, paired_snoc ?_ (paired_monoM (fun v q hq z => tkZ.row (plain_ok hpl q hq) z) hpr), ?_, plain_snoc hpl rfl habR⟩
      · intro b2 o2 hb e
        have z := kR b2 o2 hb e
        rw [upd_ne (ne_of_none e nfl), upd_ne (ne_of_none z hra2), upd_ne (ne_of_none z ht)]
        exact z
      · refine ⟨ra, t, rfl, SqT.of ?_, [], ⟨o, ho, ?_⟩, .nil⟩
        · rw [upd_ne n_fr.symm]
          exact upd_same
        · rw [upd_ne n_ft.symm, upd_ne nrt.symm]
          exact upd_same
      · rw [List.map_append, hnm, List.take_add_one, hnm2]
        rfl
  · rintro σ H2 ⟨o5, o6, o7, o8, o9, o10, o11, vs, rows, rfl, s2, k2, en2, ef2, hpr, hnm, hpl⟩
    rw [List.length_map, List.take_length] at hnm
    exact ⟨_, rfl, q fl H2 vs rows nfl ef2 hpr hpl (by rw [hnm]; exact hnd) (by rw [hnm]; exact hmem) (by
      have := congrArg List.length hnm
      rw [List.length_map] at this
      omega) s2 k2⟩

def spLeaves (K : PySem.W.Frag) : Sp := fun vs H Q _ => ∃ (a : Addr) (vs' : List V) (rows : List RowM), vs = [.ref a] ∧ H a = some (.lst vs') ∧ Paired (RowAt K H) vs' rows ∧ rows.length ≤ 9 ∧
  ∀ r H' (ls : List Str), H r = none → Same H H' → H' r = some (.lst (ls.map .str)) → (∀ x ∈ ls, ∀ q ∈ rows, q.above ≠ x) → ls.length ≤ 9 → Q (.ref r) H'
theorem ok_leaves {f : Addr} {fd : FuncData} (F : Fun K "_law_leaves" "_law_leaves" sLeaves2 f fd) : FnOk P w K mg base CX0 1 f fd ["_law_rows_here"] (spLeaves K) := by
  refine F.ok scLeaves2 (fun vs H Q E h => ?_) (fun cdv A outer s H vs Q E hr h => ?_)
  · obtain ⟨a, vs', rows, rfl, _⟩ := h
    rfl
  obtain ⟨a, vs', rows, rfl, ha, hrows, hl, q⟩ := h
  refine ⟨_, (pss_cons (ps_set (i := 1) scLeaves2.nd rfl (Or.inr rfl) (pe_lc (own := [("_law_row", 2)]) (g := gName 2) (tt := tYes) (te := tOp (rIxT K) (tVar 2) (tC (.int 1))) rfl scLeaves2.nd (pi_list (pv 0)) (blkOk_by (own := [("_law_row", 2)]) (N := ["_law_rows_here", "_law_above", "_law_row"]) (sc := defScope sLeaves2) (by decide +kernel)) (fun _ _ _ _ _ => (pg_name (i := 2) scLeaves2.nd rfl (Or.inl rfl))) (fun _ _ _ _ _ => pts_nil) (fun _ _ _ _ _ => (pe_ix ix_tup (pv 2) pe_int (fun _ _ => rfl))))) (pss_one (ps_ret (pe_lc (own := [("_law_row", 2)]) (g := gName 2) (tt := tTest (tOp (rIn K true) (tOp (rIxT K) (tVar 2) (tC (.int 0))) (tVar 1))) (te := tOp (rIxT K) (tVar 2) (tC (.int 0))) rfl scLeaves2.nd (pi_list (pv 0)) (blkOk_by (own := [("_law_row", 2)]) (N := ["_law_rows_here", "_law_above", "_law_row"]) (sc := defScope sLeaves2) (by decide +kernel)) (fun _ _ _ _ _ => (pg_name (i := 2) scLeaves2.nd rfl (Or.inl rfl))) (fun _ _ _ _ _ => (pts_one (pt_cmpR op_notIn_seq (pe_ix ix_tup (pv 2) pe_int (fun _ _ => rfl)) (pv 1) (by first | exact nomark _ | rfl)))) (fun _ _ _ _ _ => (pe_ix ix_tup (pv 2) pe_int (fun _ _ => rfl))))))), ?_⟩
  have vl : vs'.length = rows.length := Paired.length hrows
  refine ⟨_, rfl, a, rfl, ⟨_, SqL.of ha⟩, fun D hD => lc_list (K := K) (a := a) (xs := vs') (fun i H' => H' = upd H D (.lst ((rows.take i).map fun r => .str r.above))) rfl ?_ ?_ ?_⟩
  · rintro i _ _ rfl
    exact SqL.of (by rw [upd_ne (ne_of_none ha hD)]; exact ha)
  · rintro i x _ hx rfl
    obtain ⟨r, hr1, ra, t, rfl, hra, _⟩ := paired_get hrows hx
    have il : i < rows.length := (List.getElem?_eq_some_iff.mp hr1).1
    refine ⟨rfl, ?_⟩
    unfold tYes
    refine iteT ?_
    refine ⟨_, rfl, ra, _, _, _, rfl, rfl, Same.seqT (Same.new (Same.refl H) hD _) hra, rfl, _, upd_same, ?_, ?_⟩
    · rw [List.length_map, List.length_take]
      exact small1000 (by omega)
    · rw [upd_upd, List.take_add_one, hr1, Option.toList_some, List.map_append]
      rfl
  rintro _ rfl
  rw [vl, List.take_length]
  have naD := ne_of_none ha hD
  refine ⟨_, rfl, a, rfl, ⟨_, SqL.of (by rw [upd_ne naD]; exact ha)⟩, fun D2 hD2 => lc_list (K := K) (a := a) (xs := vs') (fun i H' => ∃ ls : List Str, H' = upd (upd H D (.lst (rows.map fun r => .str r.above))) D2 (.lst (ls.map V.str)) ∧ (∀ x ∈ ls, ∀ q ∈ rows, q.above ≠ x) ∧ ls.length ≤ i)
    ⟨[], rfl, (fun x hx => nomatch hx), Nat.le_refl _⟩ ?_ ?_ ?_⟩
  · rintro i _ _ ⟨ls, rfl, _⟩
    obtain ⟨_, hD3⟩ := none_upd hD2
    exact SqL.of (by rw [upd_ne (ne_of_none ha hD3), upd_ne naD]; exact ha)
  · rintro i x _ hx ⟨ls, rfl, hls, hli⟩
    obtain ⟨r, hr1, ra, t, rfl, hra, _⟩ := paired_get hrows hx
    have il : i < rows.length := (List.getElem?_eq_some_iff.mp hr1).1
    obtain ⟨nD2, hD3⟩ := none_upd hD2
    have hra2 : SqT K (upd (upd H D (.lst (rows.map fun r => .str r.above))) D2 (.lst (ls.map V.str))) ra [.str r.name, .str r.above, .ref t] := Same.seqT (Same.new (Same.new (Same.refl H) hD _) hD2 _) hra
    refine ⟨rfl, ?_⟩
    refine ⟨_, rfl, ra, _, _, _, rfl, rfl, hra2, rfl, _, rfl, D, rows.map (fun r => .str r.above), rfl, .inl (SqL.of (by rw [upd_ne nD2.symm]; exact upd_same)), rfl, ?_, _, rfl, ?_⟩
    · rw [List.all_map]
      exact List.all_eq_true.mpr fun _ _ => rfl
    · refine ite2 (fun c => ?_) (fun c => ?_)
      · refine ⟨_, rfl, ra, _, _, _, rfl, rfl, hra2, rfl, _, upd_same, ?_, ls ++ [r.name], ?_, ?_, ?_⟩
        · rw [List.length_map]
          exact small1000 (by omega)
        · rw [upd_upd, List.map_append]
          rfl
        · intro x hx q hq
          rcases List.mem_append.mp hx with hx | hx
          · exact hls x hx q hq
          · cases List.mem_singleton.mp hx
            intro e
            have c2 : (!inV (V.str r.name) (rows.map fun r => V.str r.above)) = true := c
            have c3 : inV (V.str r.name) (rows.map fun r => V.str r.above) = true := by
              unfold inV
              rw [List.any_map]
              exact List.any_eq_true.mpr ⟨q, hq, by show (q.above == r.name) = true; rw [e]; exact beq_self_eq_true _⟩
            rw [c3] at c2
            cases c2
        · rw [List.length_append, List.length_singleton]
          omega
      · exact ⟨ls, rfl, hls, by omega⟩
  · rintro _ ⟨ls, rfl, hls, hli⟩
    obtain ⟨nD2, hD3⟩ := none_upd hD2
    exact q D2 _ ls hD3 (Same.new (Same.new (Same.refl H) hD _) hD2 _) upd_same hls (by omega)

end
end Bd
end

section
namespace Bd
open PySem L2
abbrev sFull : Stmt := (top 46)
theorem scFull : FnScope ["_law_source_here", "_law_many", "_law_plain", "_law_found", "_law_ends", "_law_name", "_law_above", "_law_dues", "_law_words_here", "_law_word"] ["_law_source_here", "_law_many"] (defScope sFull) := ⟨rfl, rfl, rfl, by decide +kernel, rfl, by decide +kernel, by decide +kernel⟩

def Good (ends : List Str) (r : RowM) : Prop := DuesOk r.dues ∧ (∀ du ∈ r.dues, du.2 ≠ bigD) ∧ ((∃ du ∈ r.dues, du.1 = ("tops" : Str)) → r.name ∈ ends)
/-- rows as the law draws them -/
def LawRows (rows : List RowM) : Prop := RowsOk rows ∧ (∀ r ∈ rows, ∀ du ∈ r.dues, du.2 ≠ bigD) ∧ (∀ x ∈ rows.map (·.name), x ∈ menu)
def spFull (K : PySem.W.Frag) : Sp := fun vs H Q _ => ∃ (s : Addr) (m : Nat), vs = [.ref s, .int (m : Int)] ∧ Src H s ∧ m ≤ 9 ∧
  ∀ r H' vs rows, H r = none → H' r = some (.lst vs) → Paired (RowAt K H') vs rows → LawRows rows → rows.length = m → Src H' s → Kept s H H' → Q (.ref r) H'
theorem menu_ok : ∀ x ∈ menu, NameOk x := by
  intro x hx
  have h : (menu.all fun x => decide (1 ≤ x.length) && decide (x.length ≤ 10) && x.cps.toList.all fun c => decide (97 ≤ c) && decide (c ≤ 122)) = true := by decide +kernel
  have := List.all_eq_true.mp h x hx
  simp only [Bool.and_eq_true, decide_eq_true_eq, List.all_eq_true] at this
  exact ⟨this.1.1, this.1.2, this.2⟩
theorem dueOf_map (f : Str × PyData → PyData) (x : Str) : ∀ l : List (Str × PyData), dueOf (l.map fun wd => (wd.1, f wd)) x = (l.find? fun wd => decide (wd.1 = x)).map f
  | [] => rfl
  | a :: l => by
    rw [List.map_cons]
    unfold dueOf
    by_cases c : a.1 = x
    · rw [List.find?_cons_of_pos (by simpa using c), List.find?_cons_of_pos (by simpa using c)]
      rfl
    · rw [List.find?_cons_of_neg (by simpa using c), List.find?_cons_of_neg (by simpa using c)]
      exact dueOf_map f x l
theorem tops_of (dues : List (Str × PyData)) (h : ¬ ∃ du ∈ dues, du.1 = ("tops" : Str)) : dueOf (fullD dues) "tops" = some (.str "endless") := by
  unfold fullD
  rw [dueOf_map (fun wd => (dueOf dues wd.1).getD wd.2)]
  have e : (leftD.find? fun wd => decide (wd.1 = ("tops" : Str))) = some (("tops" : Str), PyData.str "endless") := by rfl
  rw [e]
  have z : dueOf dues "tops" = none := by
    cases z : dueOf dues "tops" with
    | none => rfl
    | some d => exact absurd ⟨_, dueOf_mem z, rfl⟩ h
  show some ((dueOf dues "tops").getD (.str "endless")) = _
  rw [z]
  rfl
/-- rows with the names and groups above of plain ones, and good dues -/
theorem full_rows_ok {plain rows : List RowM} {ends : List Str} (hp : Plain plain) (hnd : (plain.map (·.name)).Nodup) (hm : ∀ x ∈ plain.map (·.name), x ∈ menu) (hn : rows.map (·.name) = plain.map (·.name)) (ha : rows.map (·.above) = plain.map (·.above))
    (hg : ∀ r ∈ rows, Good ends r) (he : ∀ x ∈ ends, ∀ q ∈ plain, q.above ≠ x) : LawRows rows := by
  have hl : rows.length = plain.length := by
    have := congrArg List.length hn
    simpa using this
  refine ⟨fun i r hr => ?_, fun r hr => (hg r hr).2.1, fun x hx => hm x (by rw [← hn]; exact hx)⟩
  have hmr := List.mem_of_getElem? hr
  have il := (List.getElem?_eq_some_iff.mp hr).1
  have hp1 : plain[i]? = some plain[i] := List.getElem?_eq_getElem (by omega)
  have en : ∀ (j : Nat) (a b : RowM), rows[j]? = some a → plain[j]? = some b → a.name = b.name ∧ a.above = b.above := fun j a b h1 h2 => by
    have z1 : (rows.map (·.name))[j]? = (plain.map (·.name))[j]? := by rw [hn]
    have z2 : (rows.map (·.above))[j]? = (plain.map (·.above))[j]? := by rw [ha]
    rw [List.getElem?_map, List.getElem?_map, h1, h2] at z1 z2
    exact ⟨Option.some.inj z1, Option.some.inj z2⟩
  obtain ⟨e1, e2⟩ := en i r _ hr hp1
  refine ⟨menu_ok _ (hm _ (by rw [e1]; exact List.mem_map.mpr ⟨_, List.mem_of_getElem? hp1, rfl⟩)), (hg r hmr).1, ?_, ?_⟩
  · intro q hq e
    obtain ⟨j, hj⟩ := List.mem_iff_getElem?.mp hq
    have hji : j < i := by
      have := (List.getElem?_eq_some_iff.mp hj).1
      rw [List.length_take] at this
      omega
    rw [List.getElem?_take_of_lt hji] at hj
    have nd2 : (rows.map (·.name)).Nodup := by
      rw [hn]
      exact hnd
    exact fresh_at nd2 hr q hq e
  · rw [e2]
    rcases (hp i _ hp1).2 with z | ⟨q, hq, z⟩
    · exact .inl z
    · right
      obtain ⟨j, hj⟩ := List.mem_iff_getElem?.mp hq
      have hji : j < i := by
        have := (List.getElem?_eq_some_iff.mp hj).1
        rw [List.length_take] at this
        omega
      rw [List.getElem?_take_of_lt hji] at hj
      have hjr : rows[j]? = some (rows[j]'(by omega)) := List.getElem?_eq_getElem (by omega)
      obtain ⟨f1, f2⟩ := en j _ _ hjr hj
      refine ⟨rows[j]'(by omega), ?_, by rw [f1]; exact z, tops_of _ fun h => ?_⟩
      · have : (rows.take i)[j]? = some (rows[j]'(by omega)) := by
          rw [List.getElem?_take_of_lt hji]
          exact hjr
        exact List.mem_of_getElem? this
      · have := (hg _ (List.mem_of_getElem? hjr)).2.2 h
        rw [f1] at this
        exact he _ this _ (List.mem_of_getElem? hp1) z.symm
section
variable {P : Program} {w : World} {K : PySem.W.Frag} {mg : Str → Option Value} {base : Heap}
theorem ok_full {f f1 f2 f3 f4 f5 : Addr} {fd d1 d2 d3 d4 d5 : FuncData} (F : Fun K "_law_full_rows" "_law_full_rows" sFull f fd) (T : TA mg) (cN : Cal P w K mg base "_law_next" ["_law_source_here", "_law_many"] 2 spNext f1 d1) (cR : Cal P w K mg base "_law_rows" ["_law_source_here", "_law_many", "_law_words_here"] 4 (spRows2 K) f2 d2)
    (cL : Cal P w K mg base "_law_leaves" ["_law_rows_here"] 1 (spLeaves K) f3 d3) (cW : Cal P w K mg base "_law_words" [] 1 spWords f4 d4) (cV : Cal P w K mg base "_law_value" ["_law_source_here", "_law_word"] 4 (spValue K) f5 d5) :
    FnOk P w K mg base CX0 5 f fd ["_law_source_here", "_law_many"] (spFull K) := by
  refine F.ok scFull (fun vs H Q E h => ?_) (fun cdv A outer s H vs Q E hr h => ?_)
  · obtain ⟨p, m, rfl, _⟩ := h
    rfl
  obtain ⟨p, m, rfl, hp, hm, q⟩ := h
  refine ⟨_, (pss_cons (ps_par (i := 2) (j := 3) (by rfl) scFull.nd rfl rfl (by decide) rfl rfl (pa_cons (pe_call cR.ok (hr.mono (by decide)) rfl cR.mg cR.kp cR.bd .nil pass0 (pa_cons (pv 0) (pa_cons (pv 1) (pa_cons (pe_lst pa_nil) pa_nil)))) (pa_cons (pe_lst pa_nil) pa_nil)) (by rfl)) (pss_cons (ps_set (i := 4) scFull.nd rfl (Or.inr rfl) (pe_call cL.ok (hr.mono (by decide)) rfl cL.mg cL.kp cL.bd .nil pass0 (pa_cons (pv 2) pa_nil))) (pss_cons (ps_for PassesOwn.never rfl (pi_list (pv 2)) (pg_tup (by rfl) (pgs_cons (pg_name (i := 5) scFull.nd rfl (Or.inr rfl)) (pgs_cons (pg_name (i := 6) scFull.nd rfl (Or.inl rfl)) (pgs_cons (pg_name (i := 7) scFull.nd rfl (Or.inl rfl)) pgs_nil)))) (pss_cons (ps_setLc (i := 8) (own := [("_law_word", 9)]) (g := gName 9) (tt := tAnd (tTest (tOp rEq (tCall spNext [] E0 (tCons (tVar 0) (tCons (tC (.int 3)) tNil))) (tC (.int 0)))) (tOr (tTest (tOp rNe (tVar 9) (tC (.str "tops")))) (tTest (tOp (rIn K false) (tVar 5) (tVar 4))))) (te := tVar 9) rfl scFull.nd rfl rfl (sw_true rfl rfl rfl (by decide +kernel)) (pi_list (pe_call0 cW.ok (hr.mono (by decide)) rfl cW.mg cW.kp cW.bd .nil pass0)) (blkOk_by (own := [("_law_word", 9)]) (N := ["_law_source_here", "_law_many", "_law_plain", "_law_found", "_law_ends", "_law_name", "_law_above", "_law_dues", "_law_words_here", "_law_word"]) (sc := defScope sFull) (by decide +kernel)) (fun _ _ _ _ _ => (pg_name (i := 9) scFull.nd rfl (Or.inl rfl))) (fun _ _ _ _ _ => (pts_one (PW.pt (pw_and (pt_cmpR op_eq (pe_call cN.ok (hr.mono (by decide)) rfl cN.mg cN.kp cN.bd .nil pass0 (pa_cons (pv 0) (pa_cons pe_int pa_nil))) pe_int (nomark _)) (pw_and1 (PW.pt (pw_or (pt_cmpR op_ne (pv 9) pe_str (nomark _)) (pw_or1 (pt_cmpR op_in_seq (pv 5) (pv 4) (by first | exact nomark _ | rfl)))))))))) (fun _ _ _ _ _ => (pv 9))) (pss_cons (ps_set (i := 8) scFull.nd rfl (Or.inl rfl) (pe_ifExp (pt_cmpR op_eq (pe_call cN.ok (hr.mono (by decide)) rfl cN.mg cN.kp cN.bd .nil pass0 (pa_cons (pv 0) (pa_cons pe_int pa_nil))) pe_int (nomark _)) (pe_revL (pv 8)) (pv 8))) (pss_one (ps_expr (pe_bm PySem.F.plainAttrs_list PySem.F.slot_list_append PySem.F.type_list_append mt_append (pv 3) (pa_cons (pe_tup (pa_cons (pv 5) (pa_cons (pv 6) (pa_cons (pe_callTy call_tupleF (by rfl) T.z_tuple (by decide +kernel) (pa_cons (pe_lc (own := [("_law_word", 9)]) (g := gName 9) (tt := tYes) (te := tTup (tCons (tVar 9) (tCons (tCall (spValue K) [] E0 (tCons (tVar 0) (tCons (tVar 9) tNil))) tNil))) rfl scFull.nd (pi_list (pv 8)) (blkOk_by (own := [("_law_word", 9)]) (N := ["_law_source_here", "_law_many", "_law_plain", "_law_found", "_law_ends", "_law_name", "_law_above", "_law_dues", "_law_words_here", "_law_word"]) (sc := defScope sFull) (by decide +kernel)) (fun _ _ _ _ _ => (pg_name (i := 9) scFull.nd rfl (Or.inl rfl))) (fun _ _ _ _ _ => pts_nil) (fun _ _ _ _ _ => (pe_tup (pa_cons (pv 9) (pa_cons (pe_call cV.ok (hr.mono (by decide)) rfl cV.mg cV.kp cV.bd .nil pass0 (pa_cons (pv 0) (pa_cons (pv 9) pa_nil))) pa_nil))))) pa_nil)) pa_nil)))) pa_nil))))))) (pss_one (ps_ret (pv 3)))))), ?_⟩
  refine ⟨_, rfl, _, rfl, Nat.zero_le _, fun wl hwl => ⟨p, wl, m, rfl, src_new hp hwl, hm, upd_same, (src_ne hp hwl).symm, fun pl H1 pvs plain hpl epl hpr hplain hnd hmem hlen s2 k2 => ?_⟩⟩
  refine ⟨Nat.zero_le _, fun fl hfl => ⟨_, _, rfl, ?_⟩⟩
  have npl := src_ne (src_new (o := .lst []) hp hwl) hpl
  have npf := src_ne s2 hfl
  have n_l_f := ne_of_none epl hfl
  have epl2 : upd H1 fl (.lst []) pl = some (.lst pvs) := (upd_ne n_l_f).trans epl
  refine ⟨_, rfl, pl, pvs, plain, rfl, epl2, paired_mono (fun _ _ z => RowAt.same (Same.new (Same.refl H1) hfl _) z) hpr, by omega, fun el H3 ends hel s3 eel he hle => ?_⟩
  have s3' : Src H3 p := let ⟨x, y, z, e⟩ := src_new (o := .lst []) s2 hfl; ⟨x, y, z, s3 _ _ e⟩
  have k3 : Kept p H H3 := fun b o hb e => s3 _ _ ((((Kept.refl p H).new hwl (.lst [])).trans k2).new hfl (.lst []) b o hb e)
  have npe := src_ne (src_new (o := .lst []) s2 hfl) hel
  have n_l_e := ne_of_none epl2 hel
  have n_f_e := ne_of_none (upd_same : upd H1 fl (.lst []) fl = some (.lst [])) hel
  have nfl : H fl = none := by
    have z := (k2.free (by exact npf.symm) hfl)
    exact (none_upd z).2
  refine ⟨_, rfl, pl, rfl, ⟨_, SqL.of (s3 _ _ epl2)⟩, for_list (K := K) (a := pl) (xs := pvs) (fun i σ H' => ∃ (o5 o6 o7 o8 o9 : Option V) (fvs : List V) (rows : List RowM), σ = [some (.ref p), some (.int (m : Int)), some (.ref pl), some (.ref fl), some (.ref el), o5, o6, o7, o8, o9] ∧
      Src H' p ∧ Kept p H H' ∧ H' pl = some (.lst pvs) ∧ H' fl = some (.lst fvs) ∧ H' el = some (.lst (ends.map V.str)) ∧ Paired (RowAt K H') pvs plain ∧ Paired (RowAt K H') fvs rows ∧ rows.map (·.name) = (plain.take i).map (·.name) ∧ rows.map (·.above) = (plain.take i).map (·.above) ∧ ∀ r ∈ rows, Good ends r)
    ⟨none, none, none, none, none, [], [], rfl, s3', k3, s3 _ _ epl2, s3 _ _ upd_same, eel, paired_mono (fun _ _ z => RowAt.same ((Same.new (Same.refl H1) hfl _).trans s3) z) hpr, .nil, rfl, rfl, fun _ h => nomatch h⟩ ?_ ?_ ?_⟩
  · rintro i σ H' _ ⟨_, _, _, _, _, _, _, _, _, _, e, _⟩
    exact SqL.of e
  · rintro i x σ H' hi ⟨o5, o6, o7, o8, o9, fvs, rows, rfl, s4, k4, el4, ef4, ee4, hp4, hr4, hn4, ha4, hg4⟩
    obtain ⟨r, hr1, hrow⟩ := paired_get hp4 hi
    obtain ⟨ra, t, rfl, hra, _⟩ := id hrow
    refine ⟨ra, _, rfl, hra, rfl, _, _, rfl, _, _, rfl, _, _, rfl, rfl, ?_⟩
    refine ⟨rfl, fun wl2 hwl2 => ⟨wl2, rfl, ⟨_, SqL.of upd_same⟩, fun D hD => ?_⟩⟩
    have nw2 := src_ne s4 hwl2
    have sb := src_new (o := .lst (leftW.map V.str)) s4 hwl2
    have kb := (Kept.refl p H').new hwl2 (.lst (leftW.map V.str))
    have nDp := src_ne sb hD
    refine lc_list (K := K) (a := wl2) (xs := leftW.map V.str) (fun j G => ∃ ws : List Str, G D = some (.lst (ws.map V.str)) ∧ (∀ x ∈ ws, x ∈ leftW.take j ∧ (x = "tops" → r.name ∈ ends)) ∧ ws.Nodup ∧ ws.length ≤ j ∧ Src G p ∧ Kept p (upd H' wl2 (.lst (leftW.map V.str))) G)
      ⟨[], upd_same, (fun _ h => nomatch h), List.nodup_nil, Nat.le_refl _, src_new sb hD, (Kept.refl p _).new hD _⟩ ?_ ?_ ?_
    · rintro j G _ ⟨ws, _, _, _, _, _, kG⟩
      exact SqL.of (kG wl2 _ nw2.symm upd_same)
    · rintro j x2 G hj ⟨ws, eD, hws, wnd, wlen, sG, kG⟩
      obtain ⟨wd, rfl, hwd⟩ : ∃ wd, x2 = .str wd ∧ leftW[j]? = some wd := by
        rw [List.getElem?_map] at hj
        obtain ⟨a, b, c⟩ := Option.map_eq_some_iff.mp hj
        exact ⟨a, c.symm, b⟩
      have j8 : j < 8 := (List.getElem?_eq_some_iff.mp hwd).1
      have tk1 : leftW.take (j + 1) = leftW.take j ++ [wd] := by
        rw [List.take_add_one, hwd]
        rfl
      have skip : ∀ G2, Src G2 p → Kept p G G2 → ∃ ws : List Str, G2 D = some (.lst (ws.map V.str)) ∧ (∀ x ∈ ws, x ∈ leftW.take (j + 1) ∧ (x = "tops" → r.name ∈ ends)) ∧ ws.Nodup ∧ ws.length ≤ j + 1 ∧ Src G2 p ∧ Kept p (upd H' wl2 (.lst (leftW.map V.str))) G2 := fun G2 s2 k2 =>
        ⟨ws, k2 D _ nDp.symm eD, fun x hx => ⟨by rw [tk1]; exact List.mem_append_left _ (hws x hx).1, (hws x hx).2⟩, wnd, by omega, s2, kG.trans k2⟩
      have keep : ∀ G2, Src G2 p → Kept p G G2 → (wd = "tops" → r.name ∈ ends) → ∃ acc, G2 D = some (.lst acc) ∧ acc.length < sizeLine ∧ ∃ ws : List Str, (upd G2 D (.lst (acc ++ [.str wd]))) D = some (.lst (ws.map V.str)) ∧ (∀ x ∈ ws, x ∈ leftW.take (j + 1) ∧ (x = "tops" → r.name ∈ ends)) ∧ ws.Nodup ∧ ws.length ≤ j + 1 ∧ Src (upd G2 D (.lst (acc ++ [.str wd]))) p ∧
          Kept p (upd H' wl2 (.lst (leftW.map V.str))) (upd G2 D (.lst (acc ++ [.str wd]))) := fun G2 s2 k2 ht => by
        refine ⟨_, k2 D _ nDp.symm eD, ?_, ws ++ [wd], ?_, fun x hx => ?_, ?_, ?_, src_upd s2 nDp, ?_⟩
        · rw [List.length_map]
          exact small1000 (by omega)
        · rw [upd_same, List.map_append]
          rfl
        · rcases List.mem_append.mp hx with h | h
          · exact ⟨by rw [tk1]; exact List.mem_append_left _ (hws x h).1, (hws x h).2⟩
          · cases List.mem_singleton.mp h
            exact ⟨by rw [tk1]; exact List.mem_append_right _ (List.mem_singleton.mpr rfl), ht⟩
        · refine List.nodup_append.mpr ⟨wnd, by simp, fun a ha b hb => ?_⟩
          cases List.mem_singleton.mp hb
          have nd8 : (leftW.map id).Nodup := by
            rw [List.map_id]
            exact leftW_nd
          exact fresh_at nd8 hwd a (hws a ha).1
        · rw [List.length_append, List.length_singleton]
          omega
        · intro b2 o2 hb e
          have z := k2 b2 o2 hb (kG b2 o2 hb e)
          rw [upd_ne (ne_of_none e hD)]
          exact z
      refine ⟨rfl, ?_⟩
      refine ⟨_, rfl, p, 3, rfl, sG, by decide, by decide, fun v G2 hv s2 k2 => ⟨rfl, _, rfl, ?_⟩⟩
      refine ite2 (fun _ => ?_) (fun _ => ?_)
      · refine ⟨_, rfl, rfl, _, rfl, ?_⟩
        refine ite2 (fun c => ?_) (fun c => ?_)
        · refine iteT ⟨_, rfl, keep G2 s2 k2 fun z => ?_⟩
          rw [z, decide_eq_true rfl] at c
          cases c
        · refine ⟨_, rfl, _, rfl, el, ends.map V.str, rfl, .inl (SqL.of (k2 el _ npe.symm (kG el _ npe.symm (kb el _ npe.symm ee4)))), rfl, ?_, _, rfl, ?_⟩
          · rw [List.all_map]
            exact List.all_eq_true.mpr fun _ _ => rfl
          · refine ite2 (fun c2 => ?_) (fun c2 => ?_)
            · refine ⟨_, rfl, keep G2 s2 k2 fun z => ?_⟩
              have c3 : inV (V.str r.name) (ends.map V.str) = true := c2
              unfold inV at c3
              rw [List.any_map] at c3
              obtain ⟨a, ha, hb⟩ := List.any_eq_true.mp c3
              have hb : (a == r.name) = true := hb
              rw [← eq_of_beq hb]
              exact ha
            · exact skip G2 s2 k2
      · exact iteF (skip G2 s2 k2)
    · rintro G ⟨ws, eD, hws, wnd, wlen, sG, kG⟩
      rw [List.length_map, show leftW.length = 8 from rfl] at hws
      have hws8 : ∀ x ∈ ws, x ∈ leftW ∧ (x = "tops" → r.name ∈ ends) := fun x hx => ⟨List.mem_of_mem_take (hws x hx).1, (hws x hx).2⟩
      refine ⟨_, rfl, p, 2, rfl, sG, by decide, by decide, fun v H7 hv s7 k7 => ⟨rfl, _, rfl, ?_⟩⟩
      refine ite2 (fun _ => ?_) (fun _ => ?_)
      · refine ⟨_, rfl, D, ws.map V.str, rfl, SqL.of (k7 D _ nDp.symm eD), fun wa hwa => ?_⟩
        obtain ⟨ws2, hw2⟩ : ∃ ws2, ws2 = ws.reverse := ⟨_, rfl⟩
        obtain ⟨H8, hH8⟩ : ∃ H8, H8 = upd H7 wa (.lst (ws.map V.str).reverse) := ⟨_, rfl⟩
        have ewa : H8 wa = some (.lst (ws2.map V.str)) := by
          rw [hH8, upd_same, hw2, List.map_reverse]
        have hws2 : ∀ x ∈ ws2, x ∈ leftW ∧ (x = "tops" → r.name ∈ ends) := fun x hx => hws8 x (by rw [hw2] at hx; exact List.mem_reverse.mp hx)
        have nd2 : ws2.Nodup := by
          rw [hw2]
          exact (List.reverse_perm ws).nodup_iff.mpr wnd
        have wl8 : ws2.length ≤ 8 := by
          rw [hw2, List.length_reverse]
          exact wlen
        have s8 : Src H8 p := by
          rw [hH8]
          exact src_new s7 hwa
        have k8 : Kept p (upd H' wl2 (.lst (leftW.map V.str))) H8 := by
          rw [hH8]
          exact (kG.trans k7).new hwa _
        rw [← hH8]
        have kf8 := kb.trans k8
        have ef8 := kf8 fl _ npf.symm ef4
        have el8 := kf8 pl _ npl.symm el4
        have ee8 := kf8 el _ npe.symm ee4
        have nwa : wa ≠ p := fun e => by
          obtain ⟨x1, x2, x3, z⟩ := s8
          rw [e, z] at ewa
          cases ws2 with
          | nil => cases ewa
          | cons a b => cases ewa
        refine ⟨_, rfl, .inl ⟨rfl, _, SqL.of ef8⟩, _, rfl, _, rfl, _, rfl, wa, rfl, ⟨_, SqL.of ewa⟩, fun D2 hD2 => lc_list (K := K) (a := wa) (xs := ws2.map V.str) (fun j H' => ∃ (ps : List Addr) (dues : List (Str × PyData)), H' D2 = some (.lst (ps.map V.ref)) ∧ Paired (DueAt K H') ps dues ∧ dues.map (·.1) = ws2.take j ∧ (∀ du ∈ dues, ValOk du.1 du.2 ∧ du.2 ≠ bigD) ∧ Src H' p ∧ Kept p H8 H')
          ⟨[], [], upd_same, .nil, rfl, (fun _ h => nomatch h), src_new s8 hD2, (Kept.refl p H8).new hD2 _⟩ ?_ ?_ ?_⟩
        · rintro j G _ ⟨ps, dues, e1, _, _, _, sG, kG⟩
          exact SqL.of (kG wa _ nwa ewa)
        · rintro j x2 G hj ⟨ps, dues, e1, e2, e3, e4, sG, kG⟩
          obtain ⟨wd, rfl, hwd⟩ : ∃ wd, x2 = .str wd ∧ ws2[j]? = some wd := by
            rw [List.getElem?_map] at hj
            obtain ⟨a, b, c⟩ := Option.map_eq_some_iff.mp hj
            exact ⟨a, c.symm, b⟩
          have hm2 := hws2 wd (List.mem_of_getElem? hwd)
          refine ⟨rfl, ?_⟩
          unfold tYes
          refine iteT ?_
          refine ⟨_, rfl, _, rfl, _, rfl, p, wd, rfl, sG, hm2.1, fun v d H9 hv hb hdp s9 k9 => ⟨by show 2 ≤ sizeLine; decide, fun pr hpr' => ?_⟩⟩
          have nD2 : D2 ≠ p := (src_ne s8 hD2).symm
          have eD9 := k9 D2 _ nD2 e1
          have nDp := ne_of_none eD9 hpr'
          have pl2 : ps.length = dues.length := Paired.length e2
          have dl2 : dues.length ≤ ws2.length := by
            have := congrArg List.length e3
            rw [List.length_map, List.length_take] at this
            omega
          have tk9 : TK G H9 := let ⟨_, _, _, z⟩ := sG; TK.kept z k9
          have tk10 := (tk9.trans (TK.new hpr' (.tup [.str wd, v]))).trans (TK.lst ((upd_ne nDp).trans eD9) (.lst (ps.map V.ref ++ [.ref pr])))
          have hsn : DueAt K (upd (upd H9 pr (.tup [.str wd, v])) D2 (.lst (ps.map V.ref ++ [.ref pr]))) pr (wd, d) := by
            refine ⟨v, SqT.of ?_, ((TK.new hpr' (.tup [.str wd, v])).trans (TK.lst ((upd_ne nDp).trans eD9) (.lst (ps.map V.ref ++ [.ref pr])))).val hv hdp⟩
            rw [upd_ne nDp.symm]
            exact upd_same
          have hold : Paired (DueAt K (upd (upd H9 pr (.tup [.str wd, v])) D2 (.lst (ps.map V.ref ++ [.ref pr])))) ps dues := paired_monoM (fun q du hdu z => by
            obtain ⟨u, z1, z2⟩ := z
            exact ⟨u, tk10.seqT z1, tk10.val (e4 du hdu).1 z2⟩) e2
          refine  ⟨_, (upd_ne nDp).trans eD9, ?_, ps ++ [pr], dues ++ [(wd, d)], ?_, paired_snoc hsn hold, ?_, ?_, src_upd (src_new s9 hpr') nD2.symm, ?_⟩
          · rw [List.length_map]
            exact small1000 (by omega)
          · rw [upd_same, List.map_append]
            rfl
          · rw [List.map_append, e3, List.take_add_one, hwd]
            rfl
          · intro du hdu
            rcases List.mem_append.mp hdu with h | h
            · exact e4 du h
            · cases List.mem_singleton.mp h
              exact ⟨hv, hb⟩
          · intro b2 o2 hb2 e
            have z := k9 b2 o2 hb2 (kG b2 o2 hb2 e)
            rw [upd_ne (ne_of_none e hD2), upd_ne (ne_of_none z hpr')]
            exact z
        · rintro H9 ⟨ps, dues, e1, e2, e3, e4, s9, k9⟩
          rw [List.length_map, List.take_length] at e3
          refine ⟨D2, ps.map V.ref, rfl, SqL.of e1, fun tt o htt ho => ⟨by show 3 ≤ sizeLine; decide, fun rw' hrw => ?_⟩⟩
          obtain ⟨nrt, hrw2⟩ := none_upd hrw
          have kf9 := kf8.trans k9
          have ef9 := kf9 fl _ npf.symm ef4
          have el9 := kf9 pl _ npl.symm el4
          have ee9 := kf9 el _ npe.symm ee4
          have n_ft := ne_of_none ef9 htt
          have n_fr := ne_of_none ef9 hrw2
          have n_lt := ne_of_none el9 htt
          have n_lr := ne_of_none el9 hrw2
          have n_et := ne_of_none ee9 htt
          have n_er := ne_of_none ee9 hrw2
          have ef11 : upd (upd H9 tt (.frz o (.tup (ps.map V.ref)))) rw' (.tup [.str r.name, .str r.above, .ref tt]) fl = some (.lst fvs) := (upd_ne n_fr).trans ((upd_ne n_ft).trans ef9)
          have tkA : TK H' H9 := let ⟨_, _, _, z⟩ := s4; TK.kept z kf9
          have tkB := ((TK.new htt (.frz o (.tup (ps.map V.ref)))).trans (TK.new hrw (.tup [.str r.name, .str r.above, .ref tt]))).trans (TK.lst ef11 (.lst (fvs ++ [.ref rw'])))
          have tkZ := tkA.trans tkB
          have fl2 : fvs.length = rows.length := Paired.length hr4
          have rl2 : rows.length ≤ 9 := by
            have := congrArg List.length hn4
            rw [List.length_map, List.length_map, List.length_take] at this
            omega
          have dok : DuesOk dues := ⟨by rw [e3]; exact nd2, fun du hdu => ⟨(hws2 du.1 (by rw [← e3]; exact List.mem_map.mpr ⟨du, hdu, rfl⟩)).1, (e4 du hdu).1⟩⟩
          refine ⟨fl, _, _, rfl, rfl, ef11, small1000 (by omega), ?_⟩
          refine ⟨_, _, _, _, _, fvs ++ [.ref rw'], rows ++ [⟨r.name, r.above, dues⟩], rfl, src_upd (src_new (src_new s9 htt) hrw) npf, ?_, (upd_ne n_l_f).trans ((upd_ne n_lr).trans ((upd_ne n_lt).trans el9)), upd_same, (upd_ne n_f_e.symm).trans ((upd_ne n_er).trans ((upd_ne n_et).trans ee9)),
            paired_monoM (fun v q hq z => tkZ.row (plain_ok hplain q hq) z) hp4, paired_snoc ?_ (paired_monoM (fun v q hq z => tkZ.row (hg4 q hq).1 z) hr4), ?_, ?_, ?_⟩
          · intro b2 o2 hb e
            have z := kf9 b2 o2 hb (k4 b2 o2 hb e)
            rw [upd_ne (ne_of_none e nfl), upd_ne (ne_of_none z hrw2), upd_ne (ne_of_none z htt)]
            exact z
          · refine ⟨rw', tt, rfl, SqT.of ?_, ps, ⟨o, ho, ?_⟩, paired_monoM (fun q du hdu z => ?_) e2⟩
            · rw [upd_ne n_fr.symm]
              exact upd_same
            · rw [upd_ne n_ft.symm, upd_ne nrt.symm]
              exact upd_same
            · obtain ⟨u, z1, z2⟩ := z
              exact ⟨u, tkB.seqT z1, tkB.val (e4 du hdu).1 z2⟩
          · rw [List.map_append, hn4, List.take_add_one, hr1, Option.toList_some, List.map_append]
            rfl
          · rw [List.map_append, ha4, List.take_add_one, hr1, Option.toList_some, List.map_append]
            rfl
          · intro q hq
            rcases List.mem_append.mp hq with h | h
            · exact hg4 q h
            · cases List.mem_singleton.mp h
              refine ⟨dok, fun du hdu => (e4 du hdu).2, fun ⟨du, hdu, et⟩ => ?_⟩
              exact (hws2 du.1 (by rw [← e3]; exact List.mem_map.mpr ⟨du, hdu, rfl⟩)).2 et
      · have ewa := k7 D _ nDp.symm eD
        obtain ⟨wa, hwaD⟩ : ∃ wa, wa = D := ⟨_, rfl⟩
        obtain ⟨H8, hH8⟩ : ∃ H8, H8 = H7 := ⟨_, rfl⟩
        subst hwaD
        subst hH8
        obtain ⟨ws2, hw2⟩ : ∃ ws2, ws2 = ws := ⟨_, rfl⟩
        subst hw2
        have hws2 := hws8
        have nd2 := wnd
        have wl8 : ws2.length ≤ 8 := wlen
        have s8 := s7
        have k8 := kG.trans k7
        refine ⟨_, rfl, ?_⟩
        have kf8 := kb.trans k8
        have ef8 := kf8 fl _ npf.symm ef4
        have el8 := kf8 pl _ npl.symm el4
        have ee8 := kf8 el _ npe.symm ee4
        have nwa : wa ≠ p := fun e => by
          obtain ⟨x1, x2, x3, z⟩ := s8
          rw [e, z] at ewa
          cases ws2 with
          | nil => cases ewa
          | cons a b => cases ewa
        refine ⟨_, rfl, .inl ⟨rfl, _, SqL.of ef8⟩, _, rfl, _, rfl, _, rfl, wa, rfl, ⟨_, SqL.of ewa⟩, fun D2 hD2 => lc_list (K := K) (a := wa) (xs := ws2.map V.str) (fun j H' => ∃ (ps : List Addr) (dues : List (Str × PyData)), H' D2 = some (.lst (ps.map V.ref)) ∧ Paired (DueAt K H') ps dues ∧ dues.map (·.1) = ws2.take j ∧ (∀ du ∈ dues, ValOk du.1 du.2 ∧ du.2 ≠ bigD) ∧ Src H' p ∧ Kept p H8 H')
          ⟨[], [], upd_same, .nil, rfl, (fun _ h => nomatch h), src_new s8 hD2, (Kept.refl p H8).new hD2 _⟩ ?_ ?_ ?_⟩
        · rintro j G _ ⟨ps, dues, e1, _, _, _, sG, kG⟩
          exact SqL.of (kG wa _ nwa ewa)
        · rintro j x2 G hj ⟨ps, dues, e1, e2, e3, e4, sG, kG⟩
          obtain ⟨wd, rfl, hwd⟩ : ∃ wd, x2 = .str wd ∧ ws2[j]? = some wd := by
            rw [List.getElem?_map] at hj
            obtain ⟨a, b, c⟩ := Option.map_eq_some_iff.mp hj
            exact ⟨a, c.symm, b⟩
          have hm2 := hws2 wd (List.mem_of_getElem? hwd)
          refine ⟨rfl, ?_⟩
          unfold tYes
          refine iteT ?_
          refine ⟨_, rfl, _, rfl, _, rfl, p, wd, rfl, sG, hm2.1, fun v d H9 hv hb hdp s9 k9 => ⟨by show 2 ≤ sizeLine; decide, fun pr hpr' => ?_⟩⟩
          have nD2 : D2 ≠ p := (src_ne s8 hD2).symm
          have eD9 := k9 D2 _ nD2 e1
          have nDp := ne_of_none eD9 hpr'
          have pl2 : ps.length = dues.length := Paired.length e2
          have dl2 : dues.length ≤ ws2.length := by
            have := congrArg List.length e3
            rw [List.length_map, List.length_take] at this
            omega
          have tk9 : TK G H9 := let ⟨_, _, _, z⟩ := sG; TK.kept z k9
          have tk10 := (tk9.trans (TK.new hpr' (.tup [.str wd, v]))).trans (TK.lst ((upd_ne nDp).trans eD9) (.lst (ps.map V.ref ++ [.ref pr])))
          have hsn : DueAt K (upd (upd H9 pr (.tup [.str wd, v])) D2 (.lst (ps.map V.ref ++ [.ref pr]))) pr (wd, d) := by
            refine ⟨v, SqT.of ?_, ((TK.new hpr' (.tup [.str wd, v])).trans (TK.lst ((upd_ne nDp).trans eD9) (.lst (ps.map V.ref ++ [.ref pr])))).val hv hdp⟩
            rw [upd_ne nDp.symm]
            exact upd_same
          have hold : Paired (DueAt K (upd (upd H9 pr (.tup [.str wd, v])) D2 (.lst (ps.map V.ref ++ [.ref pr])))) ps dues := paired_monoM (fun q du hdu z => by
            obtain ⟨u, z1, z2⟩ := z
            exact ⟨u, tk10.seqT z1, tk10.val (e4 du hdu).1 z2⟩) e2
          refine  ⟨_, (upd_ne nDp).trans eD9, ?_, ps ++ [pr], dues ++ [(wd, d)], ?_, paired_snoc hsn hold, ?_, ?_, src_upd (src_new s9 hpr') nD2.symm, ?_⟩
          · rw [List.length_map]
            exact small1000 (by omega)
          · rw [upd_same, List.map_append]
            rfl
          · rw [List.map_append, e3, List.take_add_one, hwd]
            rfl
          · intro du hdu
            rcases List.mem_append.mp hdu with h | h
            · exact e4 du h
            · cases List.mem_singleton.mp h
              exact ⟨hv, hb⟩
          · intro b2 o2 hb2 e
            have z := k9 b2 o2 hb2 (kG b2 o2 hb2 e)
            rw [upd_ne (ne_of_none e hD2), upd_ne (ne_of_none z hpr')]
            exact z
        · rintro H9 ⟨ps, dues, e1, e2, e3, e4, s9, k9⟩
          rw [List.length_map, List.take_length] at e3
          refine ⟨D2, ps.map V.ref, rfl, SqL.of e1, fun tt o htt ho => ⟨by show 3 ≤ sizeLine; decide, fun rw' hrw => ?_⟩⟩
          obtain ⟨nrt, hrw2⟩ := none_upd hrw
          have kf9 := kf8.trans k9
          have ef9 := kf9 fl _ npf.symm ef4
          have el9 := kf9 pl _ npl.symm el4
          have ee9 := kf9 el _ npe.symm ee4
          have n_ft := ne_of_none ef9 htt
          have n_fr := ne_of_none ef9 hrw2
          have n_lt := ne_of_none el9 htt
          have n_lr := ne_of_none el9 hrw2
          have n_et := ne_of_none ee9 htt
          have n_er := ne_of_none ee9 hrw2
          have ef11 : upd (upd H9 tt (.frz o (.tup (ps.map V.ref)))) rw' (.tup [.str r.name, .str r.above, .ref tt]) fl = some (.lst fvs) := (upd_ne n_fr).trans ((upd_ne n_ft).trans ef9)
          have tkA : TK H' H9 := let ⟨_, _, _, z⟩ := s4; TK.kept z kf9
          have tkB := ((TK.new htt (.frz o (.tup (ps.map V.ref)))).trans (TK.new hrw (.tup [.str r.name, .str r.above, .ref tt]))).trans (TK.lst ef11 (.lst (fvs ++ [.ref rw'])))
          have tkZ := tkA.trans tkB
          have fl2 : fvs.length = rows.length := Paired.length hr4
          have rl2 : rows.length ≤ 9 := by
            have := congrArg List.length hn4
            rw [List.length_map, List.length_map, List.length_take] at this
            omega
          have dok : DuesOk dues := ⟨by rw [e3]; exact nd2, fun du hdu => ⟨(hws2 du.1 (by rw [← e3]; exact List.mem_map.mpr ⟨du, hdu, rfl⟩)).1, (e4 du hdu).1⟩⟩
          refine ⟨fl, _, _, rfl, rfl, ef11, small1000 (by omega), ?_⟩
          refine ⟨_, _, _, _, _, fvs ++ [.ref rw'], rows ++ [⟨r.name, r.above, dues⟩], rfl, src_upd (src_new (src_new s9 htt) hrw) npf, ?_, (upd_ne n_l_f).trans ((upd_ne n_lr).trans ((upd_ne n_lt).trans el9)), upd_same, (upd_ne n_f_e.symm).trans ((upd_ne n_er).trans ((upd_ne n_et).trans ee9)),
            paired_monoM (fun v q hq z => tkZ.row (plain_ok hplain q hq) z) hp4, paired_snoc ?_ (paired_monoM (fun v q hq z => tkZ.row (hg4 q hq).1 z) hr4), ?_, ?_, ?_⟩
          · intro b2 o2 hb e
            have z := kf9 b2 o2 hb (k4 b2 o2 hb e)
            rw [upd_ne (ne_of_none e nfl), upd_ne (ne_of_none z hrw2), upd_ne (ne_of_none z htt)]
            exact z
          · refine ⟨rw', tt, rfl, SqT.of ?_, ps, ⟨o, ho, ?_⟩, paired_monoM (fun q du hdu z => ?_) e2⟩
            · rw [upd_ne n_fr.symm]
              exact upd_same
            · rw [upd_ne n_ft.symm, upd_ne nrt.symm]
              exact upd_same
            · obtain ⟨u, z1, z2⟩ := z
              exact ⟨u, tkB.seqT z1, tkB.val (e4 du hdu).1 z2⟩
          · rw [List.map_append, hn4, List.take_add_one, hr1, Option.toList_some, List.map_append]
            rfl
          · rw [List.map_append, ha4, List.take_add_one, hr1, Option.toList_some, List.map_append]
            rfl
          · intro q hq
            rcases List.mem_append.mp hq with h | h
            · exact hg4 q h
            · cases List.mem_singleton.mp h
              refine ⟨dok, fun du hdu => (e4 du hdu).2, fun ⟨du, hdu, et⟩ => ?_⟩
              exact (hws2 du.1 (by rw [← e3]; exact List.mem_map.mpr ⟨du, hdu, rfl⟩)).2 et
  · rintro σ H' ⟨o5, o6, o7, o8, o9, fvs, rows, rfl, s4, k4, el4, ef4, ee4, hp4, hr4, hn4, ha4, hg4⟩
    have xl : pvs.length = plain.length := Paired.length hpr
    rw [xl, List.take_length] at hn4 ha4
    exact ⟨_, rfl, q fl H' fvs rows nfl ef4 hr4 (full_rows_ok hplain hnd hmem hn4 ha4 hg4 he) (by
      have := congrArg List.length hn4
      rw [List.length_map, List.length_map] at this
      omega) s4 k4⟩

end
end Bd
end

section
namespace Bd
open PySem L2
abbrev sTold : Stmt := (top 47)
theorem scTold : FnScope ["_law_source_here", "_law_row", "_law_plain", "_law_known", "_law_more", "_law_word", "_law_value_here", "_law_one_here"] ["_law_source_here", "_law_row"] (defScope sTold) := ⟨rfl, rfl, rfl, by decide +kernel, rfl, by decide +kernel, by decide +kernel⟩

def zeroD : PyData := .tuple [.int 0, .int 1]
def plainD : List (Str × PyData) := [("min", zeroD), ("low", zeroD), ("burst", zeroD), ("sets", .none), ("alone", .int 0), ("max", .str "endless"), ("quota", .str "endless"), ("tops", .str "endless")]
theorem plain_left : ∀ x ∈ plainD, x ∈ leftD := by
  intro x hx
  simp only [plainD, zeroD, List.mem_cons, List.not_mem_nil, or_false] at hx
  simp only [leftD, List.mem_cons, List.not_mem_nil, or_false]
  rcases hx with h | h | h | h | h | h | h | h <;> simp [h]
theorem due_mem {dues : List (Str × PyData)} (hn : (dues.map (·.1)).Nodup) : ∀ du ∈ dues, dueOf dues du.1 = some du.2 := by
  induction dues with
  | nil => intro du h; cases h
  | cons a r ih =>
    intro du h
    have hn : (a.1 :: r.map (·.1)).Nodup := hn
    obtain ⟨h1, h2⟩ := List.nodup_cons.mp hn
    unfold dueOf
    rcases List.mem_cons.mp h with rfl | h
    · rw [List.find?_cons_of_pos (by simp)]
      rfl
    · have e : ¬ a.1 = du.1 := fun z => h1 (by rw [z]; exact List.mem_map.mpr ⟨du, h, rfl⟩)
      rw [List.find?_cons_of_neg (by simpa using e)]
      exact ih h2 du h
theorem leftD_nd : (leftD.map (·.1)).Nodup := by
  rw [leftD_words]
  exact leftW_nd
theorem full_same {dues dues' : List (Str × PyData)} (h1 : (dues.map (·.1)).Nodup) (h2 : (dues'.map (·.1)).Nodup) (h3 : ∀ x ∈ dues, x ∈ dues') (h4 : ∀ x ∈ dues', x ∈ dues ∨ (x ∈ plainD ∧ ∀ y ∈ dues, y.1 ≠ x.1)) : fullD dues' = fullD dues := by
  unfold fullD
  refine List.map_congr_left fun ld hl => ?_
  have e : (dueOf dues' ld.1).getD ld.2 = (dueOf dues ld.1).getD ld.2 := by
    cases c : dueOf dues ld.1 with
    | some d =>
      have := due_mem h2 _ (h3 _ (dueOf_mem c))
      rw [show dueOf dues' ld.1 = some d from this]
    | none =>
      cases c2 : dueOf dues' ld.1 with
      | none => rfl
      | some d =>
        rcases h4 _ (dueOf_mem c2) with m | ⟨m, _⟩
        · have := due_mem h1 _ m
          rw [show dueOf dues ld.1 = some d from this] at c
          cases c
        · have a := due_mem leftD_nd _ (plain_left _ m)
          have b := due_mem leftD_nd _ hl
          rw [show dueOf leftD ld.1 = some d from a] at b
          exact Option.some.inj b
  rw [e]
def spTold (K : PySem.W.Frag) : Sp := fun vs H Q _ => ∃ (s : Addr) (v : V) (r : RowM), vs = [.ref s, v] ∧ Src H s ∧ RowAt K H v r ∧ DuesOk r.dues ∧
  ∀ v' dues' H', RowAt K H' v' ⟨r.name, r.above, dues'⟩ → DuesOk dues' → fullD dues' = fullD r.dues → Src H' s → Kept s H H' → Q v' H'
section
variable {P : Program} {w : World} {K : PySem.W.Frag} {mg : Str → Option Value} {base : Heap}
theorem DueAt.moved {G G2 : Hp} (tk : TK G G2) {q : Addr} {du : Str × PyData} (hv : ValOk du.1 du.2) (z : DueAt K G q du) : DueAt K G2 q du := by
  obtain ⟨u, z1, z2⟩ := z
  exact ⟨u, tk.seqT z1, tk.val hv z2⟩
theorem paired_app {α β : Type} {F : α → β → Prop} : ∀ {xs : List α} {ys : List β} {xs' : List α} {ys' : List β}, Paired F xs ys → Paired F xs' ys' → Paired F (xs ++ xs') (ys ++ ys')
  | _, _, _, _, .nil, h => h
  | _, _, _, _, .cons a b, h => .cons a (paired_app b h)
theorem paired_rev {α β : Type} {F : α → β → Prop} : ∀ {xs : List α} {ys : List β}, Paired F xs ys → Paired F xs.reverse ys.reverse
  | _, _, .nil => .nil
  | _, _, .cons a b => by
    rw [List.reverse_cons, List.reverse_cons]
    exact paired_snoc a (paired_rev b)
theorem ok_told {f g : Addr} {fd gd : FuncData} (F : Fun K "_law_fully_told" "_law_fully_told" sTold f fd) (T : TA mg) (cN : Cal P w K mg base "_law_next" ["_law_source_here", "_law_many"] 2 spNext g gd) : FnOk P w K mg base CX0 3 f fd ["_law_source_here", "_law_row"] (spTold K) := by
  refine F.ok scTold (fun vs H Q E h => ?_) (fun cdv A outer s H vs Q E hr h => ?_)
  · obtain ⟨p, v, r, rfl, _⟩ := h
    rfl
  obtain ⟨p, v, r, rfl, hp, hrow, hd, q⟩ := h
  refine ⟨_, (pss_cons (ps_set (i := 2) scTold.nd rfl (Or.inl rfl) (pe_lst (pa_cons (pe_tup (pa_cons pe_str (pa_cons (pe_tup (pa_cons pe_int (pa_cons pe_int pa_nil))) pa_nil))) (pa_cons (pe_tup (pa_cons pe_str (pa_cons (pe_tup (pa_cons pe_int (pa_cons pe_int pa_nil))) pa_nil))) (pa_cons (pe_tup (pa_cons pe_str (pa_cons (pe_tup (pa_cons pe_int (pa_cons pe_int pa_nil))) pa_nil))) (pa_cons (pe_tup (pa_cons pe_str (pa_cons pe_non pa_nil))) (pa_cons (pe_tup (pa_cons pe_str (pa_cons pe_int pa_nil))) (pa_cons (pe_tup (pa_cons pe_str (pa_cons pe_str pa_nil))) pa_nil)))))))) (pss_cons (ps_set (i := 2) scTold.nd rfl (Or.inl rfl) (pe_op op_cat (pv 2) (pe_lst (pa_cons (pe_tup (pa_cons pe_str (pa_cons pe_str pa_nil))) (pa_cons (pe_tup (pa_cons pe_str (pa_cons pe_str pa_nil))) pa_nil))))) (pss_cons (ps_set (i := 3) scTold.nd rfl (Or.inr rfl) (pe_lc (own := [("_law_word", 5), ("_law_value_here", 6)]) (g := gTup K 2 (gCons (gName 5) (gCons (gName 6) gNil))) (tt := tYes) (te := tVar 5) rfl scTold.nd (pi_tup (pe_ix ix_tup (pv 1) pe_int (fun _ _ => rfl))) (blkOk_by (own := [("_law_word", 5), ("_law_value_here", 6)]) (N := ["_law_source_here", "_law_row", "_law_plain", "_law_known", "_law_more", "_law_word", "_law_value_here", "_law_one_here"]) (sc := defScope sTold) (by decide +kernel)) (fun _ _ _ _ _ => (pg_tup (by rfl) (pgs_cons (pg_name (i := 5) scTold.nd rfl (Or.inl rfl)) (pgs_cons (pg_name (i := 6) scTold.nd rfl (Or.inl rfl)) pgs_nil)))) (fun _ _ _ _ _ => pts_nil) (fun _ _ _ _ _ => (pv 5)))) (pss_cons (ps_setLc (i := 4) (own := [("_law_one_here", 7)]) (g := gName 7) (tt := tAnd (tTest (tOp (rIn K true) (tOp (rIxT K) (tVar 7) (tC (.int 0))) (tVar 3))) (tTest (tOp rEq (tCall spNext [] E0 (tCons (tVar 0) (tCons (tC (.int 2)) tNil))) (tC (.int 0))))) (te := tVar 7) rfl scTold.nd rfl rfl (sw_true rfl rfl rfl (by decide +kernel)) (pi_list (pv 2)) (blkOk_by (own := [("_law_one_here", 7)]) (N := ["_law_source_here", "_law_row", "_law_plain", "_law_known", "_law_more", "_law_word", "_law_value_here", "_law_one_here"]) (sc := defScope sTold) (by decide +kernel)) (fun _ _ _ _ _ => (pg_name (i := 7) scTold.nd rfl (Or.inl rfl))) (fun _ _ _ _ _ => (pts_one (PW.pt (pw_and (pt_cmpR op_notIn_seq (pe_ix ix_tup (pv 7) pe_int (fun _ _ => rfl)) (pv 3) (by first | exact nomark _ | rfl)) (pw_and1 (pt_cmpR op_eq (pe_call cN.ok (hr.mono (by decide)) rfl cN.mg cN.kp cN.bd .nil pass0 (pa_cons (pv 0) (pa_cons pe_int pa_nil))) pe_int (nomark _))))))) (fun _ _ _ _ _ => (pv 7))) (pss_one (ps_ret (pe_tup (pa_cons (pe_ix ix_tup (pv 1) pe_int (fun _ _ => rfl)) (pa_cons (pe_ix ix_tup (pv 1) pe_int (fun _ _ => rfl)) (pa_cons (pe_callTy call_tupleF (by rfl) T.z_tuple (by decide +kernel) (pa_cons (pe_revL (pe_op op_cat (pv 4) (pe_callTy call_list_of (by rfl) T.z_list (by decide +kernel) (pa_cons (pe_ix ix_tup (pv 1) pe_int (fun _ _ => rfl)) pa_nil)))) pa_nil)) pa_nil)))))))))), ?_⟩
  have t2 : 2 ≤ sizeLine := by decide
  refine ⟨t2, fun i1 hi1 => ⟨t2, fun o1 ho1 => ⟨t2, fun i2 hi2 => ⟨t2, fun o2 ho2 => ⟨t2, fun i3 hi3 => ⟨t2, fun o3 ho3 => ⟨t2, fun o4 ho4 => ⟨t2, fun o5 ho5 => ⟨t2, fun o6 ho6 => ⟨by show 6 ≤ sizeLine; decide, fun l1 hl1 => ?_⟩⟩⟩⟩⟩⟩⟩⟩⟩⟩
  refine ⟨_, rfl, t2, fun o7 ho7 => ⟨t2, fun o8 ho8 => ⟨t2, fun l2 hl2 => ?_⟩⟩⟩
  have d11 := Same.new (Same.refl _) hl2 (.lst [V.ref o7, .ref o8])
  have d10 := Same.trans (Same.new (Same.refl _) ho8 (.tup [V.str "tops", .str "endless"])) d11
  have d9 := Same.trans (Same.new (Same.refl _) ho7 (.tup [V.str "quota", .str "endless"])) d10
  refine ⟨l1, l2, _, _, rfl, rfl, d9 _ _ upd_same, upd_same, by show 6 + 2 ≤ sizeLine; decide, fun l3 hl3 => ?_⟩
  have c12 := Same.new (Same.refl _) hl3 (.lst ([V.ref o1, .ref o2, .ref o3, .ref o4, .ref o5, .ref o6] ++ [V.ref o7, .ref o8]))
  have c11 := Same.trans (Same.new (Same.refl _) hl2 (.lst [V.ref o7, .ref o8])) c12
  have c10 := Same.trans (Same.new (Same.refl _) ho8 (.tup [V.str "tops", .str "endless"])) c11
  have c9 := Same.trans (Same.new (Same.refl _) ho7 (.tup [V.str "quota", .str "endless"])) c10
  have c8 := Same.trans (Same.new (Same.refl _) hl1 (.lst [V.ref o1, .ref o2, .ref o3, .ref o4, .ref o5, .ref o6])) c9
  have c7 := Same.trans (Same.new (Same.refl _) ho6 (.tup [V.str "max", .str "endless"])) c8
  have c6 := Same.trans (Same.new (Same.refl _) ho5 (.tup [V.str "alone", .int 0])) c7
  have c5 := Same.trans (Same.new (Same.refl _) ho4 (.tup [V.str "sets", .non])) c6
  have c4 := Same.trans (Same.new (Same.refl _) ho3 (.tup [V.str "burst", .ref i3])) c5
  have c3 := Same.trans (Same.new (Same.refl _) hi3 (.tup [V.int 0, .int 1])) c4
  have c2 := Same.trans (Same.new (Same.refl _) ho2 (.tup [V.str "low", .ref i2])) c3
  have c1 := Same.trans (Same.new (Same.refl _) hi2 (.tup [V.int 0, .int 1])) c2
  have c0 := Same.trans (Same.new (Same.refl _) ho1 (.tup [V.str "min", .ref i1])) c1
  have c := Same.trans (Same.new (Same.refl _) hi1 (.tup [V.int 0, .int 1])) c0
  have hpl : Paired (DueAt K _) [o1, o2, o3, o4, o5, o6, o7, o8] plainD :=
    .cons ⟨.ref i1, SqT.of (c1 _ _ upd_same), .tup (SqT.of (c0 _ _ upd_same)) (.cons (.int _) (.cons (.int _) .nil))⟩
      (.cons ⟨.ref i2, SqT.of (c3 _ _ upd_same), .tup (SqT.of (c2 _ _ upd_same)) (.cons (.int _) (.cons (.int _) .nil))⟩
      (.cons ⟨.ref i3, SqT.of (c5 _ _ upd_same), .tup (SqT.of (c4 _ _ upd_same)) (.cons (.int _) (.cons (.int _) .nil))⟩
      (.cons ⟨.non, SqT.of (c6 _ _ upd_same), .non⟩ (.cons ⟨.int 0, SqT.of (c7 _ _ upd_same), .int 0⟩ (.cons ⟨.str "endless", SqT.of (c8 _ _ upd_same), .str _⟩
      (.cons ⟨.str "endless", SqT.of (c10 _ _ upd_same), .str _⟩ (.cons ⟨.str "endless", SqT.of (c11 _ _ upd_same), .str _⟩ .nil)))))))
  obtain ⟨Hs, hHs⟩ : ∃ Hs, Hs = upd (upd (upd (upd (upd (upd (upd (upd (upd (upd (upd (upd (upd (upd H i1 (.tup [.int 0, .int 1])) o1 (.tup [.str "min", .ref i1])) i2 (.tup [.int 0, .int 1])) o2 (.tup [.str "low", .ref i2])) i3 (.tup [.int 0, .int 1])) o3 (.tup [.str "burst", .ref i3])) o4 (.tup [.str "sets", .non])) o5 (.tup [.str "alone", .int 0])) o6 (.tup [.str "max", .str "endless"])) l1 (.lst [V.ref o1, .ref o2, .ref o3, .ref o4, .ref o5, .ref o6])) o7 (.tup [.str "quota", .str "endless"])) o8 (.tup [.str "tops", .str "endless"])) l2 (.lst [V.ref o7, .ref o8])) l3 (.lst ([V.ref o1, .ref o2, .ref o3, .ref o4, .ref o5, .ref o6] ++ [V.ref o7, .ref o8])) := ⟨_, rfl⟩
  have e3 : Hs l3 = some (.lst ([o1, o2, o3, o4, o5, o6, o7, o8].map V.ref)) := by
    rw [hHs]
    exact upd_same
  rw [← hHs] at hpl c ⊢
  clear c0 c1 c2 c3 c4 c5 c6 c7 c8 c9 c10 c11 c12 d9 d10 d11 hHs hl3
  have ss : Src Hs p := let ⟨x, y, z, e⟩ := hp; ⟨x, y, z, c _ _ e⟩
  have ks : Kept p H Hs := Kept.of c
  have n3 : l3 ≠ p := by
    obtain ⟨x, y, z, e⟩ := ss
    exact ne_of e3 e (by intro z; cases z)
  obtain ⟨a, t, rfl, ha, hdu⟩ := RowAt.same c hrow
  obtain ⟨ps, hF, hps⟩ := id hdu
  have dl8 : r.dues.length ≤ 8 := words_few hd.1 fun du hdu => (hd.2 du hdu).1
  have pl8 : ps.length = r.dues.length := Paired.length hps
  -- the words that are told
  refine ⟨_, rfl, a, _, _, _, rfl, rfl, ha, rfl, t, rfl, ⟨_, hF.seq⟩, fun D hD => lc_tup (K := K) (a := t) (xs := ps.map V.ref) (fun i G => G = upd Hs D (.lst ((r.dues.take i).map fun du => .str du.1))) rfl ?_ ?_ ?_⟩
  · rintro i _ _ rfl
    exact Same.seqT (Same.new (Same.refl Hs) hD _) hF.seq
  · rintro i x _ hx rfl
    obtain ⟨q1, rfl, hq1⟩ := map_ref_get hx
    obtain ⟨du, hdu1, u, hu1, hu2⟩ := paired_get hps hq1
    have il : i < r.dues.length := (List.getElem?_eq_some_iff.mp hdu1).1
    refine ⟨q1, _, rfl, Same.seqT (Same.new (Same.refl Hs) hD _) hu1, rfl, _, _, rfl, _, _, rfl, rfl, rfl, ?_⟩
    unfold tYes
    refine iteT ?_
    refine ⟨_, rfl, _, upd_same, ?_, ?_⟩
    · rw [List.length_map, List.length_take]
      exact small1000 (by omega)
    · rw [upd_upd, List.take_add_one, hdu1, Option.toList_some, List.map_append]
      rfl
  rintro _ rfl
  rw [List.length_map, pl8, List.take_length]
  have sD := src_new (o := .lst (r.dues.map fun du => .str du.1)) ss hD
  have kD := (Kept.refl p Hs).new hD (.lst (r.dues.map fun du => .str du.1))
  have nDp : D ≠ p := (src_ne ss hD).symm
  have n3D := ne_of_none e3 hD
  have hplD : Paired (DueAt K (upd Hs D (.lst (r.dues.map fun du => .str du.1)))) [o1, o2, o3, o4, o5, o6, o7, o8] plainD := paired_mono (fun _ _ z => DueAt.same (Same.new (Same.refl Hs) hD _) z) hpl
  -- the words that are told besides
  refine ⟨_, rfl, l3, rfl, ⟨_, SqL.of ((upd_ne n3D).trans e3)⟩, fun D2 hD2 => lc_list (K := K) (a := l3) (xs := [o1, o2, o3, o4, o5, o6, o7, o8].map V.ref) (fun i G => ∃ (ms : List Addr) (md : List (Str × PyData)), G D2 = some (.lst (ms.map V.ref)) ∧ Paired (DueAt K G) ms md ∧ Paired (DueAt K G) [o1, o2, o3, o4, o5, o6, o7, o8] plainD ∧
      (∀ x ∈ md, x ∈ plainD.take i ∧ ∀ y ∈ r.dues, y.1 ≠ x.1) ∧ (md.map (·.1)).Nodup ∧ md.length ≤ i ∧ Src G p ∧ Kept p (upd Hs D (.lst (r.dues.map fun du => .str du.1))) G)
    ⟨[], [], upd_same, .nil, paired_mono (fun _ _ z => DueAt.same (Same.new (Same.refl _) hD2 _) z) hplD, (fun _ h => nomatch h), List.nodup_nil, Nat.le_refl _, src_new sD hD2, (Kept.refl p _).new hD2 _⟩ ?_ ?_ ?_⟩
  · rintro i G _ ⟨ms, md, _, _, _, _, _, _, _, kG⟩
    exact SqL.of (kG l3 _ n3 ((upd_ne n3D).trans e3))
  · rintro i x G hx ⟨ms, md, g1, g2, g3, g4, g5, g6, sG, kG⟩
    obtain ⟨q1, rfl, hq1⟩ := map_ref_get hx
    obtain ⟨du, hdu1, hat⟩ := paired_get g3 hq1
    obtain ⟨u, hu1, hu2⟩ := id hat
    have nD2 : D2 ≠ p := (src_ne sD hD2).symm
    have i8 : i < 8 := (List.getElem?_eq_some_iff.mp hdu1).1
    have tk1 : plainD.take (i + 1) = plainD.take i ++ [du] := by
      rw [List.take_add_one, hdu1]
      rfl
    have val : ∀ x ∈ plainD, ValOk x.1 x.2 := fun x hx => (leftD_ok x (plain_left x hx)).2
    have mono : ∀ {G2 : Hp} (tk : TK G G2) {q : Addr} {du : Str × PyData}, du ∈ plainD → DueAt K G q du → DueAt K G2 q du := fun tk _ _ hm z => DueAt.moved tk (val _ hm) z
    have inpl : ∀ x ∈ md, x ∈ plainD := fun x hx => List.mem_of_mem_take (g4 x hx).1
    have skip : ∀ G2, Src G2 p → Kept p G G2 → ∃ (ms : List Addr) (md : List (Str × PyData)), G2 D2 = some (.lst (ms.map V.ref)) ∧ Paired (DueAt K G2) ms md ∧ Paired (DueAt K G2) [o1, o2, o3, o4, o5, o6, o7, o8] plainD ∧
        (∀ x ∈ md, x ∈ plainD.take (i + 1) ∧ ∀ y ∈ r.dues, y.1 ≠ x.1) ∧ (md.map (·.1)).Nodup ∧ md.length ≤ i + 1 ∧ Src G2 p ∧ Kept p (upd Hs D (.lst (r.dues.map fun du => .str du.1))) G2 := fun G2 s2 k2 => by
      have tk : TK G G2 := let ⟨_, _, _, z⟩ := sG; TK.kept z k2
      exact ⟨ms, md, k2 D2 _ nD2 g1, paired_monoM (fun q du hm z => mono tk (inpl du hm) z) g2, paired_monoM (fun q du hm z => mono tk hm z) g3, fun x hx => ⟨by rw [tk1]; exact List.mem_append_left _ (g4 x hx).1, (g4 x hx).2⟩, g5, by omega, s2, kG.trans k2⟩
    refine ⟨rfl, ?_⟩
    refine ⟨_, rfl, q1, _, _, _, rfl, rfl, hu1, rfl, _, rfl, D, r.dues.map (fun du => .str du.1), rfl, .inl (SqL.of (kG D _ nDp upd_same)), rfl, ?_, _, rfl, ?_⟩
    · rw [List.all_map]
      exact List.all_eq_true.mpr fun _ _ => rfl
    refine ite2 (fun c1 => ?_) (fun c1 => ?_)
    · refine ⟨_, rfl, p, 2, rfl, sG, by decide, by decide, fun v G2 hv s2 k2 => ⟨rfl, _, rfl, ?_⟩⟩
      refine ite2 (fun _ => ?_) (fun _ => ?_)
      · have hnew : ∀ y ∈ r.dues, y.1 ≠ du.1 := fun y hy e => by
          have c2 : (!inV (V.str du.1) (r.dues.map fun du => V.str du.1)) = true := c1
          have c3 : inV (V.str du.1) (r.dues.map fun du => V.str du.1) = true := by
            unfold inV
            rw [List.any_map]
            exact List.any_eq_true.mpr ⟨y, hy, by show (y.1 == du.1) = true; rw [e]; exact beq_self_eq_true _⟩
          rw [c3] at c2
          cases c2
        have tk : TK G G2 := let ⟨_, _, _, z⟩ := sG; TK.kept z k2
        have g1' := k2 D2 _ nD2 g1
        have tk2 := tk.trans (TK.lst g1' (.lst (ms.map V.ref ++ [.ref q1])))
        have ml : ms.length = md.length := Paired.length g2
        have hm1 : du ∈ plainD := List.mem_of_getElem? hdu1
        have hold : Paired (DueAt K (upd G2 D2 (.lst (ms.map V.ref ++ [.ref q1])))) (ms ++ [q1]) (md ++ [du]) := paired_snoc (mono tk2 hm1 hat) (paired_monoM (fun q du hm z => mono tk2 (inpl du hm) z) g2)
        refine ⟨_, rfl, _, g1', ?_, ms ++ [q1], md ++ [du], ?_, hold, paired_monoM (fun q du hm z => mono tk2 hm z) g3, ?_, ?_, ?_, src_upd s2 nD2.symm, ?_⟩
        · rw [List.length_map]
          exact small1000 (by omega)
        · rw [upd_same, List.map_append]
          rfl
        · intro x hx
          rcases List.mem_append.mp hx with h | h
          · exact ⟨by rw [tk1]; exact List.mem_append_left _ (g4 x h).1, (g4 x h).2⟩
          · cases List.mem_singleton.mp h
            exact ⟨by rw [tk1]; exact List.mem_append_right _ (List.mem_singleton.mpr rfl), hnew⟩
        · rw [List.map_append]
          refine List.nodup_append.mpr ⟨g5, by simp, fun a ha b hb => ?_⟩
          cases List.mem_singleton.mp hb
          obtain ⟨x, hx, rfl⟩ := List.mem_map.mp ha
          have ndp : (plainD.map (·.1)).Nodup := by decide +kernel
          exact fresh_at ndp hdu1 x (g4 x hx).1
        · rw [List.length_append, List.length_singleton]
          omega
        · intro b2 o2 hb e
          have z := k2 b2 o2 hb (kG b2 o2 hb e)
          rw [upd_ne (ne_of_none e hD2)]
          exact z
      · exact skip G2 s2 k2
    · exact iteF (skip G (let ⟨x, y, z, e⟩ := sG; ⟨x, y, z, e⟩) (Kept.refl p G))
  rintro G ⟨ms, md, g1, g2, g3, g4, g5, g6, sG, kG⟩
  have tkG : TK Hs G := by
    obtain ⟨_, _, _, z⟩ := sD
    exact (TK.of (Same.new (Same.refl Hs) hD _)).trans (TK.kept z kG)
  have haG := tkG.seqT ha
  have hFG := tkG.frT hF
  have hpsG : Paired (DueAt K G) ps r.dues := paired_monoM (fun q du hm z => DueAt.moved tkG (hd.2 du hm).2 z) hps
  have ml : ms.length = md.length := Paired.length g2
  have g6' : md.length ≤ 8 := g6
  have vm : ∀ du ∈ md, ValOk du.1 du.2 := fun x hx => (leftD_ok x (plain_left x (List.mem_of_mem_take (g4 x hx).1))).2
  refine ⟨_, rfl, a, _, _, _, rfl, rfl, haG, rfl, _, rfl, a, _, _, _, rfl, rfl, haG, rfl, _, rfl, _, rfl, a, _, _, _, rfl, rfl, haG, rfl, t, _, rfl, .inr hFG.seq, fun l4 hl4 => ⟨D2, l4, _, _, rfl, rfl, (upd_ne (ne_of_none g1 hl4)).trans g1, upd_same, ?_, fun l5 hl5 => ?_⟩⟩
  · show (ms.map V.ref).length + (ps.map V.ref).length ≤ sizeLine
    rw [List.length_map, List.length_map]
    have : ms.length + ps.length ≤ 1000 := by omega
    exact Nat.le_of_lt (small1000 this)
  refine ⟨l5, _, rfl, SqL.of upd_same, fun l6 hl6 => ⟨l6, _, rfl, SqL.of upd_same, fun tt o htt ho => ?_⟩⟩
  refine ⟨by show 3 ≤ sizeLine; decide, fun rw hrw => ?_⟩
  have sm := Same.new (Same.new (Same.new (Same.new (Same.new (Same.refl G) hl4 (.lst (ps.map V.ref))) hl5 (.lst (ms.map V.ref ++ ps.map V.ref))) hl6 (.lst (ms.map V.ref ++ ps.map V.ref).reverse)) htt (.frz o (.tup (ms.map V.ref ++ ps.map V.ref).reverse))) hrw (.tup [.str r.name, .str r.above, .ref tt])
  have sSrc : Src G p := sG
  have nd : ((md ++ r.dues).reverse.map (·.1)).Nodup := by
    rw [List.map_reverse]
    refine List.pairwise_reverse.mpr (List.Pairwise.imp (fun h => Ne.symm h) ?_)
    rw [List.map_append]
    refine List.nodup_append.mpr ⟨g5, hd.1, fun x hx y hy e => ?_⟩
    obtain ⟨x, hx1, rfl⟩ := List.mem_map.mp hx
    obtain ⟨y, hy1, rfl⟩ := List.mem_map.mp hy
    exact (g4 x hx1).2 y hy1 e.symm
  have mm : ∀ x ∈ (md ++ r.dues).reverse, x ∈ md ∨ x ∈ r.dues := fun x hx => List.mem_append.mp (List.mem_reverse.mp hx)
  have pp : Paired (DueAt K _) (ms ++ ps).reverse (md ++ r.dues).reverse := paired_mono (fun _ _ z => DueAt.same sm z) (paired_rev (paired_app g2 hpsG))
  refine q (.ref rw) (md ++ r.dues).reverse _ ⟨rw, tt, rfl, SqT.of upd_same, (ms ++ ps).reverse, ⟨o, ho, ?_⟩, pp⟩ ⟨nd, fun x hx => ?_⟩ (full_same hd.1 nd (fun x hx => List.mem_reverse.mpr (List.mem_append_right _ hx)) (fun x hx => ?_)) (let ⟨x, y, z, e⟩ := sG; ⟨x, y, z, sm _ _ e⟩) (ks.trans (kD.trans (kG.trans (Kept.of sm))))
  · rw [upd_ne (ne_of_none upd_same hrw), upd_same, List.map_reverse, List.map_append]
  · rcases mm x hx with h | h
    · have hp2 := plain_left x (List.mem_of_mem_take (g4 x h).1)
      exact ⟨by rw [← leftD_words]; exact List.mem_map.mpr ⟨x, hp2, rfl⟩, vm x h⟩
    · exact hd.2 x h
  · rcases mm x hx with h | h
    · exact .inr ⟨List.mem_of_mem_take (g4 x h).1, (g4 x h).2⟩
    · exact .inl h

end
end Bd
end

section
namespace Bd
open PySem L2
abbrev sIs : Stmt := (top 48)
theorem scIs : FnScope ["_law_one_here", "_law_other", "_law_due"] ["_law_one_here", "_law_other", "_law_due"] (defScope sIs) := ⟨rfl, rfl, rfl, by decide +kernel, rfl, by decide +kernel, by decide +kernel⟩

/-- what a tree is held against -/
def Held (K : PySem.W.Frag) (H : Hp) (C p : Addr) (rows : List RowM) (h : Bool) (tk : List (Key × V)) (y : V) (due : Bool) : Prop :=
  (NonIns K H C y ∧ (∀ c dy gs, y = .ref c → H c ≠ some (.ins C dy gs)) ∧ due = false) ∨ ∃ p' rows' h' tk', y = .ref p' ∧ TreeAt K H C p' rows' h' tk' ∧ RowsOk rows' ∧
    (∀ kv ∈ tk, ∀ kv' ∈ tk', kv.2 ≠ kv'.2) ∧ treeEqB rows h rows' h' = due ∧ treeEqB rows' h' rows h = due
def spIs (K : PySem.W.Frag) (C : Addr) : Sp := fun vs H Q _ => ∃ (p : Addr) (y : V) (rows : List RowM) (h : Bool) (tk : List (Key × V)) (due : Bool), vs = [.ref p, y, .bl due] ∧ TreeAt K H C p rows h tk ∧ RowsOk rows ∧ YTy K H C y ∧ Held K H C p rows h tk y due ∧
  ∀ H', Same H H' → Q (.bl true) H'
section
variable {P : Program} {w : World} {K : PySem.W.Frag} {mg : Str → Option Value} {base : Heap} {C e : Addr}
theorem ok_is {f : Addr} {fd ed : FuncData} (F : Fun K "_law_is" "_law_is" sIs f fd) (OC : OwnCmp K C e) (FE : FnOk P w K mg base CX0 1 e ed ["self", "other"] (spTEq K C)) (hbE : Binds K ed ["self", "other"] []) :
    FnOk P w K mg base CX0 3 f fd ["_law_one_here", "_law_other", "_law_due"] (spIs K C) := by
  refine F.ok scIs (fun vs H Q E h => ?_) (fun cdv A outer s H vs Q E hr h => ?_)
  · obtain ⟨p, y, rows, h, tk, due, rfl, _⟩ := h
    rfl
  obtain ⟨p, y, rows, h, tk, due, rfl, ht, hok, hy, hh, q⟩ := h
  refine ⟨_, (pss_one (ps_ret (pe_cmpR (op_eqD hr.units) (pe_lst (pa_cons (pe_cmpR (op_eqL OC FE hbE (hr.mono (by decide)) pass0) (pv 0) (pv 1) (nomark _)) (pa_cons (pe_cmpR (op_eqR OC FE hbE (hr.mono (by decide)) pass0) (pv 1) (pv 0) (nomark _)) (pa_cons (pe_cmpR (op_neL OC FE hbE (hr.mono (by decide)) pass0) (pv 0) (pv 1) (nomark _)) pa_nil)))) (pe_lst (pa_cons (pv 2) (pa_cons (pv 2) (pa_cons (pe_not (pv 2)) pa_nil)))) (nomark _)))), ?_⟩
  obtain ⟨dx, po, pp, pk, pt, o1, o2, o3, o4, o5⟩ := id ht
  have eqL : ∀ (Q : VK) (E : XK), Q (.bl due) H → spTEq K C [.ref p, y] H Q E := fun Q E hq => by
    rcases hh with ⟨n1, n2, n3⟩ | ⟨p', rows', h', tk', rfl, t1, t2, t3, t4, t5⟩
    · exact ⟨p, y, rows, h, tk, rfl, ht, hok, .inl ⟨n1, by rw [← n3]; exact hq⟩⟩
    · exact ⟨p, _, rows, h, tk, rfl, ht, hok, .inr ⟨p', rows', h', tk', rfl, t1, t2, t3, by rw [t4]; exact hq⟩⟩
  have eqR : ∀ (Q : VK) (E : XK), Q (.bl due) H → ∀ c dy gs, y = .ref c → H c = some (.ins C dy gs) → spTEq K C [y, .ref p] H Q E := fun Q E hq c dy gs ey ec => by
    rcases hh with ⟨n1, n2, n3⟩ | ⟨p', rows', h', tk', rfl, t1, t2, t3, t4, t5⟩
    · exact absurd ec (n2 c dy gs ey)
    · exact ⟨p', _, rows', h', tk', rfl, t1, t2, .inr ⟨p, rows, h, tk, rfl, ht, hok, fun a ha b hb e => t3 b hb a ha e.symm, by rw [t5]; exact hq⟩⟩
  refine ⟨_, rfl, _, rfl, p, dx, _, rfl, o1, hy, eqL _ _ ⟨due, rfl, ?_⟩⟩
  refine ⟨_, rfl, _, rfl, p, dx, _, rfl, o1, hy, (fun rest => ⟨eqL _ _ ⟨due, rfl, rest⟩, eqR _ _ ⟨due, rfl, rest⟩⟩) ?_⟩
  refine ⟨_, rfl, _, rfl, p, dx, _, rfl, o1, hy, eqL _ _ ⟨due, rfl, ?_⟩⟩
  refine ⟨by show 3 ≤ sizeLine; decide, fun l1 hl1 => ?_⟩
  refine ⟨_, rfl, _, rfl, _, rfl, _, rfl, ?_⟩
  refine ⟨by show 3 ≤ sizeLine; decide, fun l2 hl2 => ?_⟩
  have s2 := Same.new (Same.new (Same.refl H) hl1 (.lst [V.bl due, .bl due, .bl !due])) hl2 (.lst [V.bl due, .bl due, .bl !due])
  have dl : ∀ (G : Hp) (a : Addr), G a = some (.lst [V.bl due, .bl due, .bl !due]) → Dp K G (.ref a) (.list [.bool due, .bool due, .bool !due]) := fun G a e => .lst (SqL.of e) (.cons (.bl _) (.cons (.bl _) (.cons (.bl _) .nil)))
  have shp : SeqAt.shaped (.list [.bool due, .bool due, .bool !due]) = true := by
    cases due <;> decide +kernel
  refine ⟨_, _, dl _ l1 ((upd_ne (ne_of_none upd_same hl2)).trans upd_same), dl _ l2 upd_same, shp, shp, ?_⟩
  have e : PyData.eqv (.list [.bool due, .bool due, .bool !due]) (.list [.bool due, .bool due, .bool !due]) = true := by
    cases due <;> decide +kernel
  rw [e]
  exact q _ s2

end
end Bd
end

section
namespace Bd
open PySem L2
theorem in_take {α : Type} {xs : List α} {i : Nat} {x : α} (h : x ∈ xs.take i) : ∃ j, j < i ∧ xs[j]? = some x := by
  obtain ⟨j, hj⟩ := List.mem_iff_getElem?.mp h
  have ji : j < i := by
    have := (List.getElem?_eq_some_iff.mp hj).1
    rw [List.length_take] at this
    omega
  rw [List.getElem?_take_of_lt ji] at hj
  exact ⟨j, ji, hj⟩
theorem to_take {α : Type} {xs : List α} {i j : Nat} {x : α} (ji : j < i) (h : xs[j]? = some x) : x ∈ xs.take i := by
  have : (xs.take i)[j]? = some x := by
    rw [List.getElem?_take_of_lt ji]
    exact h
  exact List.mem_of_getElem? this
theorem rowsok_ren {f : Str → Str} {rows rows' : List RowM} (f0 : f "" = "") (inj : ∀ a ∈ rows, ∀ b ∈ rows, f a.name = f b.name → a.name = b.name) (hl : rows'.length = rows.length)
    (hr : ∀ (i : Nat) (r r' : RowM), rows[i]? = some r → rows'[i]? = some r' → r'.name = f r.name ∧ (r'.above = f r.above ∨ r'.above = "") ∧ NameOk r'.name ∧ DuesOk r'.dues ∧ dueOf (fullD r'.dues) "tops" = dueOf (fullD r.dues) "tops")
    (ok : RowsOk rows) : RowsOk rows' := by
  intro i r' h'
  have il := (List.getElem?_eq_some_iff.mp h').1
  have h : rows[i]? = some (rows[i]'(by omega)) := List.getElem?_eq_getElem (by omega)
  obtain ⟨e1, e2, e3, e4, e5⟩ := hr i _ r' h h'
  obtain ⟨o1, o2, o3, o4⟩ := ok i _ h
  refine ⟨e3, e4, fun q' hq' => ?_, ?_⟩
  · obtain ⟨j, ji, hj⟩ := in_take hq'
    have hq : rows[j]? = some (rows[j]'(by omega)) := List.getElem?_eq_getElem (by omega)
    obtain ⟨d1, _⟩ := hr j _ q' hq hj
    rw [d1, e1]
    intro e
    exact o3 _ (to_take ji hq) (inj _ (List.mem_of_getElem? hq) _ (List.mem_of_getElem? h) e)
  · rcases e2 with e2 | e2
    · rcases o4 with z | ⟨q, hq, z1, z2⟩
      · left
        rw [e2, z]
        exact f0
      · right
        obtain ⟨j, ji, hj⟩ := in_take hq
        have hj' : rows'[j]? = some (rows'[j]'(by omega)) := List.getElem?_eq_getElem (by omega)
        obtain ⟨d1, _, _, _, d5⟩ := hr j q _ hj hj'
        exact ⟨_, to_take ji hj', by rw [d1, z1, e2], by rw [d5]; exact z2⟩
    · exact .inl e2
theorem rows_append {xs ys : List RowM} : RowsOk (xs ++ ys) ↔ RowsOk xs ∧ ∀ (j : Nat) (r : RowM), ys[j]? = some r → NameOk r.name ∧ DuesOk r.dues ∧ StandOk (xs ++ ys.take j) r := by
  constructor
  · intro ok
    refine ⟨fun i r h => ?_, fun j r h => ?_⟩
    · have il := (List.getElem?_eq_some_iff.mp h).1
      have := ok i r (by rw [List.getElem?_append_left il]; exact h)
      rw [List.take_append_of_le_length (by omega)] at this
      exact this
    · have := ok (xs.length + j) r (by rw [List.getElem?_append_right (by omega), Nat.add_sub_cancel_left]; exact h)
      rw [List.take_length_add_append] at this
      exact this
  · rintro ⟨ok, h2⟩ i r h
    by_cases il : i < xs.length
    · rw [List.getElem?_append_left il] at h
      rw [List.take_append_of_le_length (by omega)]
      exact ok i r h
    · rw [List.getElem?_append_right (by omega)] at h
      have := h2 (i - xs.length) r h
      rw [← List.take_length_add_append, show xs.length + (i - xs.length) = i by omega] at this
      exact this
theorem stand_mem {xs ys : List RowM} {r : RowM} (h : ∀ q, q ∈ xs ↔ q ∈ ys) (s : StandOk xs r) : StandOk ys r := by
  refine ⟨fun q hq => s.1 q ((h q).mpr hq), ?_⟩
  rcases s.2 with z | ⟨q, hq, z⟩
  · exact .inl z
  · exact .inr ⟨q, (h q).mp hq, z⟩
theorem rowsok_swap {A B : List RowM} {a b : RowM} (ok : RowsOk (A ++ [a, b] ++ B)) (hn : b.above ≠ a.name) : RowsOk (A ++ [b, a] ++ B) := by
  obtain ⟨ok1, ok2⟩ := rows_append.mp ok
  obtain ⟨ok3, ok4⟩ := rows_append.mp ok1
  refine rows_append.mpr ⟨rows_append.mpr ⟨ok3, fun j r h => ?_⟩, fun j r h => ?_⟩
  · have fa := ok4 0 a rfl
    have fb := ok4 1 b rfl
    rw [show [a, b].take 0 = ([] : List RowM) from rfl, List.append_nil] at fa
    rw [show [a, b].take 1 = [a] from rfl] at fb
    match j, h with
    | 0, h =>
      cases h
      rw [show [b, a].take 0 = ([] : List RowM) from rfl, List.append_nil]
      refine ⟨fb.1, fb.2.1, fun q hq => fb.2.2.1 q (List.mem_append_left _ hq), ?_⟩
      rcases fb.2.2.2 with z | ⟨q, hq, z1, z2⟩
      · exact .inl z
      · rcases List.mem_append.mp hq with hq | hq
        · exact .inr ⟨q, hq, z1, z2⟩
        · cases List.mem_singleton.mp hq
          exact absurd z1.symm hn
    | 1, h =>
      cases h
      rw [show [b, a].take 1 = [b] from rfl]
      refine ⟨fa.1, fa.2.1, fun q hq => ?_, ?_⟩
      · rcases List.mem_append.mp hq with hq | hq
        · exact fa.2.2.1 q hq
        · cases List.mem_singleton.mp hq
          exact fun e => fb.2.2.1 a (List.mem_append_right _ (List.mem_singleton.mpr rfl)) e.symm
      · rcases fa.2.2.2 with z | ⟨q, hq, z⟩
        · exact .inl z
        · exact .inr ⟨q, List.mem_append_left _ hq, z⟩
    | j + 2, h => cases h
  · obtain ⟨f1, f2, f3⟩ := ok2 j r h
    refine ⟨f1, f2, stand_mem (fun q => ?_) f3⟩
    simp only [List.mem_append, List.mem_cons, List.not_mem_nil, or_false]
    constructor <;> rintro ((h | h | h) | h) <;> simp [h]
theorem eqv_ints : ∀ (xs ys : List Int), PyData.eqvAll (xs.map .int) (ys.map .int) = decide (xs = ys)
  | [], [] => by simp [PyData.eqvAll]
  | [], y :: ys => by simp [PyData.eqvAll]
  | x :: xs, [] => by simp [PyData.eqvAll]
  | x :: xs, y :: ys => by
    rw [List.map_cons, List.map_cons, PyData.eqvAll, eqv_ints xs ys, PyData.eqv]
    by_cases a : x = y
    · subst a
      simp
    · simp [a]
theorem eqv_val {x : Str} {d : PyData} (h : ValOk x d) : PyData.eqv d d = true := by
  cases h with
  | amt =>
    rename_i n m _ _ _ _ _
    rw [PyData.eqv]
    exact (eqv_ints [(n : Int), m] [(n : Int), m]).trans (decide_eq_true rfl)
  | endl => simp [PyData.eqv]
  | none => simp [PyData.eqv]
  | set => 
    rw [PyData.eqv]
    exact (eqv_ints _ _).trans (decide_eq_true rfl)
  | alone => simp [PyData.eqv]
theorem treeEq_false {rows rows' : List RowM} {h h' : Bool} {i : Nat} {r r' : RowM} (hr : rows[i]? = some r) (hr' : rows'[i]? = some r') (d : r.name ≠ r'.name ∨ r.above ≠ r'.above ∨ duesEqB (fullD r.dues) (fullD r'.dues) = false) :
    treeEqB rows h rows' h' = false := by
  cases e : treeEqB rows h rows' h' with
  | false => rfl
  | true =>
    exfalso
    unfold treeEqB at e
    simp only [Bool.and_eq_true, decide_eq_true_eq] at e
    obtain ⟨e1, e2, e3, e4⟩ := e
    rcases d with d | d | d
    · have := congrArg (fun l => l[i]?) e1
      simp only [List.getElem?_map, hr, hr', Option.map_some] at this
      exact d (Option.some.inj this)
    · have := congrArg (fun l => l[i]?) e2
      simp only [List.getElem?_map, hr, hr', Option.map_some] at this
      exact d (Option.some.inj this)
    · have z : (List.zipWith (fun r r' => duesEqB (fullD r.dues) (fullD r'.dues)) rows rows')[i]? = some (duesEqB (fullD r.dues) (fullD r'.dues)) := by
        rw [List.getElem?_zipWith, hr, hr']
      have := List.all_eq_true.mp e3 _ (List.mem_of_getElem? z)
      rw [d] at this
      cases this
theorem treeEq_len {rows rows' : List RowM} {h h' : Bool} (d : rows.length ≠ rows'.length) : treeEqB rows h rows' h' = false := by
  cases e : treeEqB rows h rows' h' with
  | false => rfl
  | true =>
    exfalso
    unfold treeEqB at e
    simp only [Bool.and_eq_true, decide_eq_true_eq] at e
    have := congrArg List.length e.1
    rw [List.length_map, List.length_map] at this
    exact d this
theorem treeEq_flag {rows rows' : List RowM} {h h' : Bool} (d : h ≠ h') : treeEqB rows h rows' h' = false := by
  cases e : treeEqB rows h rows' h' with
  | false => rfl
  | true =>
    exfalso
    unfold treeEqB at e
    simp only [Bool.and_eq_true, decide_eq_true_eq] at e
    exact d e.2.2.2
theorem duesEq_refl {a : List (Str × PyData)} (h : ∀ x ∈ a, ValOk x.1 x.2) : duesEqB (fullD a) (fullD a) = true := by
  unfold duesEqB
  rw [List.all_eq_true]
  intro b hb
  obtain ⟨i, hi⟩ := List.mem_iff_getElem?.mp hb
  rw [List.getElem?_zipWith] at hi
  cases e : (fullD a)[i]? with
  | none =>
    rw [e] at hi
    cases hi
  | some wd =>
    rw [e] at hi
    have hi : some (PyData.eqv wd.2 wd.2) = some b := hi
    rw [← Option.some.inj hi]
    have m := List.mem_of_getElem? e
    unfold fullD at m
    obtain ⟨ld, hl, rfl⟩ := List.mem_map.mp m
    show id (PyData.eqv ((dueOf a ld.1).getD ld.2) ((dueOf a ld.1).getD ld.2)) = true
    cases c : dueOf a ld.1 with
    | none => exact eqv_val (leftD_ok ld hl).2
    | some d => exact eqv_val (h _ (dueOf_mem c))
theorem treeEq_true {rows rows' : List RowM} {h : Bool} (hn : rows.map (·.name) = rows'.map (·.name)) (ha : rows.map (·.above) = rows'.map (·.above)) (hd : ∀ (i : Nat) (r r' : RowM), rows[i]? = some r → rows'[i]? = some r' → fullD r'.dues = fullD r.dues)
    (ok : ∀ r ∈ rows, DuesOk r.dues) : treeEqB rows h rows' h = true := by
  unfold treeEqB
  simp only [Bool.and_eq_true, decide_eq_true_eq]
  refine ⟨hn, ha, ?_, trivial⟩
  rw [List.all_eq_true]
  intro b hb
  obtain ⟨i, hi⟩ := List.mem_iff_getElem?.mp hb
  rw [List.getElem?_zipWith] at hi
  cases e : rows[i]? with
  | none =>
    rw [e] at hi
    cases hi
  | some r =>
    cases e' : rows'[i]? with
    | none =>
      rw [e, e'] at hi
      cases hi
    | some r' =>
      rw [e, e'] at hi
      have hi : some (duesEqB (fullD r.dues) (fullD r'.dues)) = some b := hi
      rw [← Option.some.inj hi, hd i r r' e e']
      exact duesEq_refl fun x hx => ((ok r (List.mem_of_getElem? e)).2 x hx).2
/-- dues with a burst that none has -/
def burstD (dues : List (Str × PyData)) : List (Str × PyData) := dues.filter (fun du => decide (du.1 ≠ ("burst" : Str))) ++ [((("burst" : Str), bigD) : Str × PyData)]
theorem dueOf_burst : ∀ dues : List (Str × PyData), dueOf (burstD dues) "burst" = some bigD
  | [] => rfl
  | a :: l => by
    have ih := dueOf_burst l
    unfold burstD at ih ⊢
    by_cases c : a.1 = ("burst" : Str)
    · rw [List.filter_cons_of_neg (by simpa using c)]
      exact ih
    · rw [List.filter_cons_of_pos (by simpa using c), List.cons_append]
      unfold dueOf at ih ⊢
      rw [List.find?_cons_of_neg (by simpa using c)]
      exact ih
theorem dueOf_other {x : Str} (hx : x ≠ "burst") : ∀ dues : List (Str × PyData), dueOf (burstD dues) x = dueOf dues x
  | [] => by
    unfold burstD dueOf
    rw [List.filter_nil, List.nil_append, List.find?_cons_of_neg (by simpa using fun e => hx e.symm)]
  | a :: l => by
    have ih := dueOf_other hx l
    unfold burstD at ih ⊢
    by_cases c : a.1 = ("burst" : Str)
    · rw [List.filter_cons_of_neg (by simpa using c), ih]
      unfold dueOf
      rw [List.find?_cons_of_neg (by simpa using fun e => hx (e.symm.trans c))]
    · rw [List.filter_cons_of_pos (by simpa using c), List.cons_append]
      unfold dueOf at ih ⊢
      by_cases d : a.1 = x
      · rw [List.find?_cons_of_pos (by simpa using d), List.find?_cons_of_pos (by simpa using d)]
      · rw [List.find?_cons_of_neg (by simpa using d), List.find?_cons_of_neg (by simpa using d)]
        exact ih
theorem dueOf_full (dues : List (Str × PyData)) : dueOf (fullD dues) "tops" = some ((dueOf dues "tops").getD (.str "endless")) := by
  unfold fullD
  rw [dueOf_map (fun wd => (dueOf dues wd.1).getD wd.2)]
  have e : (leftD.find? fun wd => decide (wd.1 = ("tops" : Str))) = some (("tops" : Str), PyData.str "endless") := by rfl
  rw [e]
  rfl
theorem burst_tops (dues : List (Str × PyData)) : dueOf (fullD (burstD dues)) "tops" = dueOf (fullD dues) "tops" := by
  rw [dueOf_full, dueOf_full, dueOf_other (by decide)]
theorem bigD_ok : ValOk "burst" bigD := by
  have := ValOk.amt (x := "burst") (n := 10 ^ 15 + 1) (d := 1) (by decide) (by decide +kernel) (by decide) (by decide +kernel) (by decide +kernel)
  exact this
theorem burst_ok {dues : List (Str × PyData)} (h : DuesOk dues) : DuesOk (burstD dues) := by
  refine ⟨?_, fun du hd => ?_⟩
  · unfold burstD
    rw [List.map_append]
    refine List.nodup_append.mpr ⟨(List.Sublist.map _ List.filter_sublist).nodup h.1, by simp, fun a ha b hb => ?_⟩
    cases List.mem_singleton.mp hb
    obtain ⟨x, hx, rfl⟩ := List.mem_map.mp ha
    simpa using (List.mem_filter.mp hx).2
  · rcases List.mem_append.mp hd with h1 | h1
    · exact h.2 du (List.mem_filter.mp h1).1
    · cases List.mem_singleton.mp h1
      exact ⟨by decide, bigD_ok⟩
theorem duesEq_false {a b : List (Str × PyData)} (h : PyData.eqv ((dueOf a "burst").getD zeroD) ((dueOf b "burst").getD zeroD) = false) : duesEqB (fullD a) (fullD b) = false := by
  cases e : duesEqB (fullD a) (fullD b) with
  | false => rfl
  | true =>
    exfalso
    unfold duesEqB at e
    have z : (List.zipWith (fun x y : Str × PyData => PyData.eqv x.2 y.2) (fullD a) (fullD b))[4]? = some (PyData.eqv ((dueOf a "burst").getD zeroD) ((dueOf b "burst").getD zeroD)) := rfl
    have := List.all_eq_true.mp e _ (List.mem_of_getElem? z)
    rw [h] at this
    cases this
theorem eqv_big {d : PyData} (h : ValOk "burst" d) (hb : d ≠ bigD) : PyData.eqv d bigD = false ∧ PyData.eqv bigD d = false := by
  cases h with
  | amt =>
    rename_i n m h1 h2 h3 h4 h5
    have ne : ¬ [(n : Int), (m : Int)] = [10 ^ 15 + 1, 1] := fun e => hb (by
      injection e with e1 e2
      injection e2 with e2 e3
      rw [e1, e2]
      rfl)
    constructor
    · show PyData.eqv (.tuple _) (.tuple _) = false
      rw [PyData.eqv]
      exact (eqv_ints [(n : Int), m] [10 ^ 15 + 1, 1]).trans (decide_eq_false ne)
    · show PyData.eqv (.tuple _) (.tuple _) = false
      rw [PyData.eqv]
      exact (eqv_ints [10 ^ 15 + 1, 1] [(n : Int), m]).trans (decide_eq_false fun e => ne e.symm)
  | endl h => exact absurd h (by decide)
theorem burst_differs {dues : List (Str × PyData)} (h : DuesOk dues) (hb : ∀ du ∈ dues, du.2 ≠ bigD) : duesEqB (fullD dues) (fullD (burstD dues)) = false ∧ duesEqB (fullD (burstD dues)) (fullD dues) = false := by
  have vo : ValOk "burst" ((dueOf dues "burst").getD zeroD) ∧ (dueOf dues "burst").getD zeroD ≠ bigD := by
    cases c : dueOf dues "burst" with
    | none => exact ⟨(leftD_ok ("burst", zeroD) (by simp [leftD, zeroD])).2, by
        intro e
        injection e with e
        injection e with e1 e2
        injection e1 with e1
        revert e1
        decide⟩
    | some d => exact ⟨(h.2 _ (dueOf_mem c)).2, hb _ (dueOf_mem c)⟩
  obtain ⟨a, b⟩ := eqv_big vo.1 vo.2
  refine ⟨duesEq_false ?_, duesEq_false ?_⟩
  · rw [dueOf_burst]
    exact a
  · rw [dueOf_burst]
    exact b
end Bd
end

section
namespace Bd
open PySem L2
abbrev sOther : Stmt := (top 49)
theorem scOther : FnScope ["_law_source_here", "_law_lines", "_law_way", "_law_at", "_law_name", "_law_above", "_law_dues", "_law_some", "_law_row", "_law_one_here"] ["_law_source_here", "_law_lines"] (defScope sOther) := ⟨rfl, rfl, rfl, by decide +kernel, rfl, by decide +kernel, by decide +kernel⟩

def spOther (K : PySem.W.Frag) : Sp := fun vs H Q _ => ∃ (s lp : Addr) (xs : List V) (rows : List RowM), vs = [.ref s, .ref lp] ∧ Src H s ∧ H lp = some (.lst xs) ∧ lp ≠ s ∧ Paired (RowAt K H) xs rows ∧ LawRows rows ∧ 1 ≤ rows.length ∧ rows.length ≤ 9 ∧
  (∀ H', Src H' s → Kept s H H' → Q .non H') ∧
  (∀ r H' vs' rows', H' r = some (.lst vs') → Paired (RowAt K H') vs' rows' → RowsOk rows' → rows'.length ≤ 200 → (∀ h, treeEqB rows h rows' h = false ∧ treeEqB rows' h rows h = false) → Src H' s → Kept s H H' → Q (.ref r) H')
theorem paired_take {α β : Type} {F : α → β → Prop} : ∀ {xs : List α} {ys : List β}, Paired F xs ys → ∀ i, Paired F (xs.take i) (ys.take i)
  | _, _, .nil, i => by
    rw [List.take_nil, List.take_nil]
    exact .nil
  | _, _, .cons a b, 0 => .nil
  | _, _, .cons a b, i + 1 => .cons a (paired_take b i)
theorem paired_drop {α β : Type} {F : α → β → Prop} : ∀ {xs : List α} {ys : List β}, Paired F xs ys → ∀ i, Paired F (xs.drop i) (ys.drop i)
  | _, _, .nil, i => by
    rw [List.drop_nil, List.drop_nil]
    exact .nil
  | _, _, .cons a b, 0 => .cons a b
  | _, _, .cons a b, i + 1 => paired_drop b i
theorem stay {H : Hp} {a b : Addr} {o o' : HO} (e : H a = some o) (h : H b = none) : upd H b o' a = some o := (upd_ne (ne_of_none e h)).trans e
theorem cut_to {xs : List V} {k : Nat} (h : k ≤ xs.length) : cutV xs none (some (k : Int)) = xs.take k := by
  unfold cutV
  rw [HT.sIx_none, HT.sIx_nat, Nat.min_eq_left h, List.drop_zero, Nat.sub_zero]
theorem cut_from {xs : List V} {k : Nat} (h : k ≤ xs.length) : cutV xs (some (k : Int)) none = xs.drop k := by
  unfold cutV
  rw [HT.sIx_none, HT.sIx_nat, Nat.min_eq_left h, List.take_of_length_le]
  rw [List.length_drop]
  omega
section
variable {P : Program} {w : World} {K : PySem.W.Frag} {mg : Str → Option Value} {base : Heap}
theorem ok_other {f f1 : Addr} {fd d1 : FuncData} (F : Fun K "_law_other_rows" "_law_other_rows" sOther f fd) (T : TA mg) (cN : Cal P w K mg base "_law_next" ["_law_source_here", "_law_many"] 2 spNext f1 d1) :
    FnOk P w K mg base CX0 3 f fd ["_law_source_here", "_law_lines"] (spOther K) := by
  refine F.ok scOther (fun vs H Q E h => ?_) (fun cdv A outer s H vs Q E hr h => ?_)
  · obtain ⟨p, lp, xs, rows, rfl, _⟩ := h
    rfl
  obtain ⟨p, lp, xs, rows, rfl, hp, el, nlp, hrows, hlaw, len1, len9, qn, qr⟩ := h
  refine ⟨_, (pss_cons (ps_par (i := 2) (j := 3) (by rfl) scOther.nd rfl rfl (by decide) rfl rfl (pa_cons (pe_call cN.ok (hr.mono (by decide)) rfl cN.mg cN.kp cN.bd .nil pass0 (pa_cons (pv 0) (pa_cons pe_int pa_nil))) (pa_cons (pe_call cN.ok (hr.mono (by decide)) rfl cN.mg cN.kp cN.bd .nil pass0 (pa_cons (pv 0) (pa_cons (pe_callB call_len_seq (by rfl) T.z_len PySem.boot_len (pa_cons (pv 1) pa_nil)) pa_nil))) pa_nil)) (by rfl)) (pss_cons (ps_asg (pe_ix ix_list (pv 1) (pv 3) (fun _ _ => rfl)) (pg_tup (by rfl) (pgs_cons (pg_name (i := 4) scOther.nd rfl (Or.inr rfl)) (pgs_cons (pg_name (i := 5) scOther.nd rfl (Or.inl rfl)) (pgs_cons (pg_name (i := 6) scOther.nd rfl (Or.inl rfl)) pgs_nil))))) (pss_cons (ps_if (pt_cmpR op_eq (pv 2) pe_int (nomark _)) (pss_cons (ps_set (i := 7) scOther.nd rfl (Or.inl rfl) (pe_op op_cat (pe_lc (own := [("_law_one_here", 9)]) (g := gName 9) (tt := tTest (tOp rNe (tOp (rIxT K) (tVar 9) (tC (.int 0))) (tC (.str "burst")))) (te := tVar 9) rfl scOther.nd (pi_tup (pv 6)) (blkOk_by (own := [("_law_one_here", 9)]) (N := ["_law_source_here", "_law_lines", "_law_way", "_law_at", "_law_name", "_law_above", "_law_dues", "_law_some", "_law_row", "_law_one_here"]) (sc := defScope sOther) (by decide +kernel)) (fun _ _ _ _ _ => (pg_name (i := 9) scOther.nd rfl (Or.inl rfl))) (fun _ _ _ _ _ => (pts_one (pt_cmpR op_ne (pe_ix ix_tup (pv 9) pe_int (fun _ _ => rfl)) pe_str (nomark _)))) (fun _ _ _ _ _ => (pv 9))) (pe_lst (pa_cons (pe_tup (pa_cons pe_str (pa_cons (pe_tup (pa_cons (pe_op op_add (pe_op op_pow pe_int pe_int) pe_int) (pa_cons pe_int pa_nil))) pa_nil))) pa_nil)))) (pss_one (ps_ret (pe_op op_cat (pe_op op_cat (pe_slice sl_list (pv 1) po_none (po_some (pv 3))) (pe_lst (pa_cons (pe_tup (pa_cons (pv 4) (pa_cons (pv 5) (pa_cons (pe_callTy call_tupleF (by rfl) T.z_tuple (by decide +kernel) (pa_cons (pv 7) pa_nil)) pa_nil)))) pa_nil))) (pe_slice sl_list (pv 1) (po_some (pe_op op_add (pv 3) pe_int)) po_none))))) pss_nil) (pss_cons (ps_if (pt_cmpR op_eq (pv 2) pe_int (nomark _)) (pss_one (ps_ret (pe_lc (own := [("_law_row", 8)]) (g := gName 8) (tt := tYes) (te := tTup (tCons (tIf (tTest (tOp rEq (tOp (rIxT K) (tVar 8) (tC (.int 0))) (tVar 4))) (tC (.str "q")) (tOp (rIxT K) (tVar 8) (tC (.int 0)))) (tCons (tIf (tTest (tOp rEq (tOp (rIxT K) (tVar 8) (tC (.int 1))) (tVar 4))) (tC (.str "q")) (tOp (rIxT K) (tVar 8) (tC (.int 1)))) (tCons (tOp (rIxT K) (tVar 8) (tC (.int 2))) tNil)))) rfl scOther.nd (pi_list (pv 1)) (blkOk_by (own := [("_law_row", 8)]) (N := ["_law_source_here", "_law_lines", "_law_way", "_law_at", "_law_name", "_law_above", "_law_dues", "_law_some", "_law_row", "_law_one_here"]) (sc := defScope sOther) (by decide +kernel)) (fun _ _ _ _ _ => (pg_name (i := 8) scOther.nd rfl (Or.inl rfl))) (fun _ _ _ _ _ => pts_nil) (fun _ _ _ _ _ => (pe_tup (pa_cons (pe_ifExp (pt_cmpR op_eq (pe_ix ix_tup (pv 8) pe_int (fun _ _ => rfl)) (pv 4) (nomark _)) pe_str (pe_ix ix_tup (pv 8) pe_int (fun _ _ => rfl))) (pa_cons (pe_ifExp (pt_cmpR op_eq (pe_ix ix_tup (pv 8) pe_int (fun _ _ => rfl)) (pv 4) (nomark _)) pe_str (pe_ix ix_tup (pv 8) pe_int (fun _ _ => rfl))) (pa_cons (pe_ix ix_tup (pv 8) pe_int (fun _ _ => rfl)) pa_nil)))))))) pss_nil) (pss_cons (ps_if (PW.pt (pw_and (pt_cmpR op_eq (pv 2) pe_int (nomark _)) (pw_and1 (pt_cmpR op_ne (pv 5) pe_str (nomark _))))) (pss_one (ps_ret (pe_op op_cat (pe_op op_cat (pe_slice sl_list (pv 1) po_none (po_some (pv 3))) (pe_lst (pa_cons (pe_tup (pa_cons (pv 4) (pa_cons pe_str (pa_cons (pv 6) pa_nil)))) pa_nil))) (pe_slice sl_list (pv 1) (po_some (pe_op op_add (pv 3) pe_int)) po_none)))) pss_nil) (pss_cons (ps_if (PW.pt (pw_and (pt_cmpR op_eq (pv 2) pe_int (nomark _)) (pw_and (pt_cmpR op_lt (pe_op op_add (pv 3) pe_int) (pe_callB call_len_seq (by rfl) T.z_len PySem.boot_len (pa_cons (pv 1) pa_nil)) (nomark _)) (pw_and1 (pt_cmpR op_ne (pe_ix ix_tup (pe_ix ix_list (pv 1) (pe_op op_add (pv 3) pe_int) (fun _ _ => rfl)) pe_int (fun _ _ => rfl)) (pv 4) (nomark _)))))) (pss_one (ps_ret (pe_op op_cat (pe_op op_cat (pe_slice sl_list (pv 1) po_none (po_some (pv 3))) (pe_lst (pa_cons (pe_ix ix_list (pv 1) (pe_op op_add (pv 3) pe_int) (fun _ _ => rfl)) (pa_cons (pe_ix ix_list (pv 1) (pv 3) (fun _ _ => rfl)) pa_nil)))) (pe_slice sl_list (pv 1) (po_some (pe_op op_add (pv 3) pe_int)) po_none)))) pss_nil) (pss_one (ps_ret pe_non)))))))), ?_⟩
  have xl : xs.length = rows.length := Paired.length hrows
  refine ⟨_, rfl, p, 4, rfl, hp, by decide, by decide, fun way H1 hw s1 k1 => ?_⟩
  refine ⟨_, rfl, _, rfl, lp, xs, rfl, .inl (SqL.of (k1 lp _ nlp el)), p, xs.length, rfl, s1, by omega, by omega, fun at' H2 hat s2 k2 => ?_⟩
  have kk := k1.trans k2
  have el2 := kk lp _ nlp el
  have tk : TK H H2 := let ⟨_, _, _, z⟩ := hp; TK.kept z kk
  have rdue : ∀ r ∈ rows, DuesOk r.dues := fun r hr => by
    obtain ⟨j, hj⟩ := List.mem_iff_getElem?.mp hr
    exact (hlaw.1 j r hj).2.1
  have hrows2 : Paired (RowAt K H2) xs rows := paired_monoM (fun v q hq z => tk.row (rdue q hq) z) hrows
  have hx : xs[at']? = some xs[at'] := List.getElem?_eq_getElem hat
  obtain ⟨r, hr1, hrow⟩ := paired_get hrows2 hx
  obtain ⟨a, t, ea, ha, hdu⟩ := id hrow
  obtain ⟨ps, hF, hps⟩ := id hdu
  have hrm := List.mem_of_getElem? hr1
  have hdo := rdue r hrm
  have dl8 : r.dues.length ≤ 8 := words_few hdo.1 fun du hdu => (hdo.2 du hdu).1
  have hat2 : at' < rows.length := by omega
  have hset : ∀ r', rows.set at' r' = rows.take at' ++ [r'] ++ rows.drop (at' + 1) := fun r' => by
    rw [List.set_eq_take_append_cons_drop, if_pos hat2, List.append_assoc]
    rfl
  have fin : ∀ (G : Hp) (l : Addr) (rw' : V) (r' : RowM), Same H2 G → G l = some (.lst (xs.take at' ++ [rw'] ++ xs.drop (at' + 1))) → RowAt K G rw' r' → RowsOk (rows.set at' r') →
      (∀ h, treeEqB rows h (rows.set at' r') h = false ∧ treeEqB (rows.set at' r') h rows h = false) → Q (.ref l) G := fun G l rw' r' sm e hrw ok hd => by
    refine qr l G _ (rows.set at' r') e ?_ ok (by rw [List.length_set]; omega) hd (let ⟨x, y, z, e⟩ := s2; ⟨x, y, z, sm _ _ e⟩) (kk.trans (Kept.of sm))
    rw [hset]
    have hrG := paired_mono (fun _ _ z => RowAt.same sm z) hrows2
    exact paired_app (paired_app (paired_take hrG at') (.cons hrw .nil)) (paired_drop hrG (at' + 1))
  have cl : ∀ lo hi, (cutV xs lo hi).length ≤ 9 := fun lo hi => by
    have := cutV_length xs lo hi
    omega
  have small : ∀ {n : Nat}, n ≤ 1000 → n ≤ sizeLine := fun h => Nat.le_of_lt (small1000 h)
  have setok : ∀ r' : RowM, r'.name = r.name → (r'.above = r.above ∨ r'.above = "") → DuesOk r'.dues → dueOf (fullD r'.dues) "tops" = dueOf (fullD r.dues) "tops" → RowsOk (rows.set at' r') := fun r' e1 e2 e3 e4 =>
    rowsok_ren (f := id) rfl (fun _ _ _ _ e => e) (by rw [List.length_set]) (fun i q q' h1 h2 => by
      rw [List.getElem?_set] at h2
      by_cases c : at' = i
      · subst c
        rw [if_pos rfl, if_pos hat2] at h2
        cases h2
        rw [hr1] at h1
        cases h1
        exact ⟨e1, e2, by rw [e1]; exact (hlaw.1 _ _ hr1).1, e3, e4⟩
      · rw [if_neg c, h1] at h2
        cases h2
        exact ⟨rfl, .inl rfl, (hlaw.1 _ _ h1).1, (hlaw.1 _ _ h1).2.1, rfl⟩) hlaw.1
  have setne : ∀ r' : RowM, (r.above ≠ r'.above ∨ (duesEqB (fullD r.dues) (fullD r'.dues) = false ∧ duesEqB (fullD r'.dues) (fullD r.dues) = false)) → ∀ h, treeEqB rows h (rows.set at' r') h = false ∧ treeEqB (rows.set at' r') h rows h = false := fun r' d h => by
    have h2 : (rows.set at' r')[at']? = some r' := List.getElem?_set_self hat2
    rcases d with d | ⟨d1, d2⟩
    · exact ⟨treeEq_false hr1 h2 (.inr (.inl d)), treeEq_false h2 hr1 (.inr (.inl (Ne.symm d)))⟩
    · exact ⟨treeEq_false hr1 h2 (.inr (.inr d1)), treeEq_false h2 hr1 (.inr (.inr d2))⟩
  have cutS : ∀ rw' : V, (cutV xs none (some (at' : Int)) ++ [rw'] ++ cutV xs (some ((at' : Int) + 1)) none) = xs.take at' ++ [rw'] ++ xs.drop (at' + 1) := fun rw' => by
    rw [cut_to (by omega), show ((at' : Int) + 1) = ((at' + 1 : Nat) : Int) from rfl, cut_from (by omega)]
  refine ⟨_, _, rfl, ?_⟩
  refine ⟨_, rfl, _, rfl, lp, xs, _, .ref a, rfl, rfl, SqL.of el2, atI_nat (by rw [hx, ea]), ?_⟩
  refine ⟨a, _, rfl, ha, rfl, _, _, rfl, _, _, rfl, _, _, rfl, rfl, ?_⟩
  refine ⟨_, rfl, rfl, _, rfl, ?_⟩
  refine ite2 (fun c0 => ?_) (fun c0 => ?_)
  · refine ⟨_, rfl, t, rfl, ⟨_, hF.seq⟩, fun D hD => lc_tup (K := K) (a := t) (xs := ps.map V.ref) (fun i G => ∃ ms : List Addr, G = upd H2 D (.lst (ms.map V.ref)) ∧ ms.length ≤ i ∧ Paired (DueAt K H2) ms ((r.dues.take i).filter fun du => decide (du.1 ≠ ("burst" : Str))))
      ⟨[], rfl, Nat.le_refl _, .nil⟩ ?_ ?_ ?_⟩
    · rintro i _ _ ⟨ms, rfl, _, _⟩
      exact Same.seqT (Same.new (Same.refl H2) hD _) hF.seq
    · rintro i x _ hx ⟨ms, rfl, ml, hm⟩
      obtain ⟨q1, rfl, hq1⟩ := map_ref_get hx
      obtain ⟨du, hdu1, hat1⟩ := paired_get hps hq1
      obtain ⟨u, hu1, hu2⟩ := id hat1
      have il : i < r.dues.length := (List.getElem?_eq_some_iff.mp hdu1).1
      refine ⟨rfl, ?_⟩
      refine ⟨_, rfl, q1, _, _, _, rfl, rfl, Same.seqT (Same.new (Same.refl H2) hD _) hu1, rfl, rfl, _, rfl, ?_⟩
      have tk1 : (r.dues.take (i + 1)) = r.dues.take i ++ [du] := by
        rw [List.take_add_one, hdu1]
        rfl
      refine ite2 (fun c => ?_) (fun c => ?_)
      · refine ⟨_, rfl, _, upd_same, ?_, ms ++ [q1], ?_, ?_, ?_⟩
        · rw [List.length_map]
          exact small1000 (by omega)
        · rw [upd_upd, List.map_append]
          rfl
        · rw [List.length_append, List.length_singleton]
          omega
        · rw [tk1, List.filter_append, List.filter_cons_of_pos]
          · exact paired_snoc hat1 hm
          · simpa using c
      · refine ⟨ms, rfl, by omega, ?_⟩
        rw [tk1, List.filter_append, List.filter_cons_of_neg]
        · rw [List.filter_nil, List.append_nil]
          exact hm
        · simpa using c
    rintro _ ⟨ms, rfl, ml, hm⟩
    rw [List.length_map] at ml
    rw [List.length_map, Paired.length hps, List.take_length] at hm
    have pl8 := Paired.length hps
    have t2 : 2 ≤ sizeLine := by decide
    refine ⟨10, 15, rfl, rfl, ⟨by decide, by decide, by decide +kernel⟩, _, _, rfl, rfl, ⟨t2, fun i1 hi1 => ⟨t2, fun o1 ho1 => ⟨by show 1 ≤ sizeLine; decide, fun b1 hb1 => ?_⟩⟩⟩⟩
    refine ⟨D, b1, ms.map V.ref, [.ref o1], rfl, rfl, stay (stay (stay upd_same hi1) ho1) hb1, upd_same, ?_, fun l0 hl0 => ?_⟩
    · show (ms.map V.ref).length + 1 ≤ sizeLine
      rw [List.length_map]
      have : ms.length + 1 ≤ 1000 := by omega
      exact Nat.le_of_lt (small1000 this)
    have bv : V.int ((10 : Int) ^ (15 : Int).toNat + 1) = V.int (10 ^ 15 + 1) := rfl
    have s0 := Same.new (Same.new (Same.new (Same.new (Same.new (Same.refl H2) hD (.lst (ms.map V.ref))) hi1 (.tup [V.int ((10 : Int) ^ (15 : Int).toNat + 1), V.int 1])) ho1 (.tup [V.str "burst", .ref i1])) hb1 (.lst [V.ref o1])) hl0 (.lst (ms.map V.ref ++ [.ref o1]))
    have eo := stay (o' := .lst (ms.map V.ref ++ [.ref o1])) (stay (o' := .lst [V.ref o1]) (upd_same : upd (upd (upd H2 D (.lst (ms.map V.ref))) i1 (.tup [V.int ((10 : Int) ^ (15 : Int).toNat + 1), V.int 1])) o1 (.tup [V.str "burst", .ref i1]) o1 = some (.tup [V.str "burst", .ref i1])) hb1) hl0
    have ei := stay (o' := .lst (ms.map V.ref ++ [.ref o1])) (stay (o' := .lst [V.ref o1]) (stay (o' := .tup [V.str "burst", .ref i1]) (upd_same : upd (upd H2 D (.lst (ms.map V.ref))) i1 (.tup [V.int ((10 : Int) ^ (15 : Int).toNat + 1), V.int 1]) i1 = some (.tup [V.int ((10 : Int) ^ (15 : Int).toNat + 1), V.int 1])) ho1) hb1) hl0
    have hmG : Paired (DueAt K _) (ms ++ [o1]) (burstD r.dues) := paired_app (paired_mono (fun _ _ z => DueAt.same s0 z) (hm)) (.cons ⟨.ref i1, SqT.of eo, .tup (SqT.of ei) (.cons (.int _) (.cons (.int _) .nil))⟩ .nil)
    have e0 := (upd_same : upd (upd (upd (upd (upd H2 D (.lst (ms.map V.ref))) i1 (.tup [V.int ((10 : Int) ^ (15 : Int).toNat + 1), V.int 1])) o1 (.tup [V.str "burst", .ref i1])) b1 (.lst [V.ref o1])) l0 (.lst (ms.map V.ref ++ [.ref o1])) l0 = some (.lst (ms.map V.ref ++ [.ref o1])))
    refine ⟨_, rfl, _, rfl, _, rfl, lp, xs, rfl, SqL.of (s0 _ _ el2), fun l1 hl1 => ?_⟩
    refine ⟨_, rfl, _, rfl, _, rfl, l0, _, rfl, SqL.of (stay e0 hl1), fun tt o htt ho => ⟨by show 3 ≤ sizeLine; decide, fun rw' hrw => ⟨by show 1 ≤ sizeLine; decide, fun l2 hl2 => ?_⟩⟩⟩
    refine ⟨l1, l2, _, _, rfl, rfl, stay (stay (stay upd_same htt) hrw) hl2, upd_same, ?_, fun l3 hl3 => ?_⟩
    · have := cl none (some (at' : Int))
      exact small (by show _ + 1 ≤ 1000; omega)
    refine ⟨_, rfl, _, rfl, _, _, rfl, rfl, _, rfl, lp, xs, rfl, SqL.of ?_, fun l4 hl4 => ?_⟩
    · exact stay (stay (stay (stay (stay (s0 _ _ el2) hl1) htt) hrw) hl2) hl3
    refine ⟨l3, l4, _, _, rfl, rfl, stay upd_same hl4, upd_same, ?_, fun l5 hl5 => ?_⟩
    · have h1 := cl none (some (at' : Int))
      have h2 := cl (some ((at' : Int) + 1)) none
      rw [List.length_append]
      exact small (by show _ + 1 + _ ≤ 1000; omega)
    have sm := Same.new (Same.new (Same.new (Same.new (Same.new (Same.new (Same.new (Same.refl _) hl1 (.lst (cutV xs none (some (at' : Int))))) htt (.frz o (.tup (ms.map V.ref ++ [.ref o1])))) hrw (.tup [.str r.name, .str r.above, .ref tt])) hl2 (.lst [.ref rw'])) hl3 (.lst (cutV xs none (some (at' : Int)) ++ [.ref rw']))) hl4 (.lst (cutV xs (some ((at' : Int) + 1)) none))) hl5 (.lst (cutV xs none (some (at' : Int)) ++ [.ref rw'] ++ cutV xs (some ((at' : Int) + 1)) none))
    refine fin _ l5 (.ref rw') ⟨r.name, r.above, burstD r.dues⟩ (Same.trans s0 sm) (upd_same.trans (by rw [cutS])) ⟨rw', tt, rfl, SqT.of (stay (stay (stay (stay upd_same hl2) hl3) hl4) hl5), ms ++ [o1], ⟨o, ho, ?_⟩, paired_mono (fun _ _ z => DueAt.same sm z) hmG⟩
      (setok _ rfl (.inl rfl) (burst_ok hdo) (burst_tops _)) (setne _ (.inr (burst_differs hdo (hlaw.2.1 r hrm))))
    refine (stay (stay (stay (stay (stay upd_same hrw) hl2) hl3) hl4) hl5).trans ?_
    rw [List.map_append]
    rfl
  refine ⟨_, rfl, rfl, _, rfl, ?_⟩
  refine ite2 (fun c1 => ?_) (fun c1 => ?_)
  · obtain ⟨ren, hren⟩ : ∃ ren : RowM → RowM, ren = fun q => ⟨if q.name = r.name then "q" else q.name, if q.above = r.name then "q" else q.above, q.dues⟩ := ⟨_, rfl⟩
    refine ⟨_, rfl, lp, rfl, ⟨_, SqL.of el2⟩, fun D hD => lc_list (K := K) (a := lp) (xs := xs) (fun i G => ∃ vs' : List V, G D = some (.lst vs') ∧ vs'.length = i ∧ Paired (RowAt K G) vs' ((rows.take i).map ren) ∧ Same H2 G)
      ⟨[], upd_same, rfl, .nil, Same.new (Same.refl H2) hD _⟩ ?_ ?_ ?_⟩
    · rintro i G _ ⟨vs', _, _, _, sG⟩
      exact SqL.of (sG _ _ el2)
    · rintro i x G hx1 ⟨vs', eD, vl, hv, sG⟩
      obtain ⟨q, hq1, hq⟩ := paired_get hrows2 hx1
      obtain ⟨a1, t1, rfl, ha1, hdu1⟩ := id hq
      have haG := Same.seqT sG ha1
      have i9 : i < rows.length := (List.getElem?_eq_some_iff.mp hq1).1
      have done : ∀ (n' a' : Str), n' = (ren q).name → a' = (ren q).above → ∀ rw', G rw' = none → ∃ acc, (upd G rw' (.tup [.str n', .str a', .ref t1])) D = some (.lst acc) ∧ acc.length < sizeLine ∧
          ∃ vs' : List V, (upd (upd G rw' (.tup [.str n', .str a', .ref t1])) D (.lst (acc ++ [.ref rw']))) D = some (.lst vs') ∧ vs'.length = i + 1 ∧ Paired (RowAt K (upd (upd G rw' (.tup [.str n', .str a', .ref t1])) D (.lst (acc ++ [.ref rw'])))) vs' ((rows.take (i + 1)).map ren) ∧
            Same H2 (upd (upd G rw' (.tup [.str n', .str a', .ref t1])) D (.lst (acc ++ [.ref rw']))) := fun n' a' hn ha rw' hrw => by
        have eD2 := stay (o' := .tup [V.str n', .str a', .ref t1]) eD hrw
        have tk1 := (TK.new hrw (.tup [V.str n', .str a', .ref t1])).trans (TK.lst eD2 (.lst (vs' ++ [.ref rw'])))
        have rok : ∀ p ∈ (rows.take i).map ren, DuesOk p.dues := fun p hp => by
          obtain ⟨z, hz, rfl⟩ := List.mem_map.mp hp
          rw [hren]
          exact rdue z (List.mem_of_mem_take hz)
        refine ⟨vs', eD2, small1000 (by omega), vs' ++ [.ref rw'], upd_same, by rw [List.length_append, vl]; rfl, ?_, ?_⟩
        · rw [List.take_add_one, hq1, List.map_append]
          refine paired_snoc ⟨rw', t1, rfl, SqT.of ((upd_ne (ne_of_none eD hrw).symm).trans (upd_same.trans (by rw [hn, ha]))), ?_⟩ (paired_monoM (fun v p hp z => tk1.row (rok p hp) z) hv)
          have : (ren q).dues = q.dues := by rw [hren]
          rw [this]
          exact tk1.dues (rdue q (List.mem_of_getElem? hq1)) (DuesAt.same sG hdu1)
        · intro b o e
          have z := sG b o e
          rw [upd_ne (ne_of_none e hD), upd_ne (ne_of_none z hrw)]
          exact z
      refine ⟨rfl, ?_⟩
      refine ⟨_, rfl, a1, _, _, _, rfl, rfl, haG, rfl, _, rfl, rfl, _, rfl, ?_⟩
      refine ite2 (fun c => ?_) (fun c => ?_)
      · refine ⟨_, rfl, a1, _, _, _, rfl, rfl, haG, rfl, _, rfl, rfl, _, rfl, ?_⟩
        refine ite2 (fun c' => ?_) (fun c' => ?_)
        · refine ⟨_, rfl, a1, _, _, _, rfl, rfl, haG, rfl, by show 3 ≤ sizeLine; decide, done _ _ ?_ ?_⟩
          · rw [hren]
            exact (if_pos (by simpa using c)).symm
          · rw [hren]
            exact (if_pos (by simpa using c')).symm
        · refine ⟨_, rfl, a1, _, _, _, rfl, rfl, haG, rfl, _, rfl, a1, _, _, _, rfl, rfl, haG, rfl, by show 3 ≤ sizeLine; decide, done _ _ ?_ ?_⟩
          · rw [hren]
            exact (if_pos (by simpa using c)).symm
          · rw [hren]
            exact (if_neg (by simpa using c')).symm
      · refine ⟨_, rfl, a1, _, _, _, rfl, rfl, haG, rfl, _, rfl, a1, _, _, _, rfl, rfl, haG, rfl, _, rfl, rfl, _, rfl, ?_⟩
        refine ite2 (fun c' => ?_) (fun c' => ?_)
        · refine ⟨_, rfl, a1, _, _, _, rfl, rfl, haG, rfl, by show 3 ≤ sizeLine; decide, done _ _ ?_ ?_⟩
          · rw [hren]
            exact (if_neg (by simpa using c)).symm
          · rw [hren]
            exact (if_pos (by simpa using c')).symm
        · refine ⟨_, rfl, a1, _, _, _, rfl, rfl, haG, rfl, _, rfl, a1, _, _, _, rfl, rfl, haG, rfl, by show 3 ≤ sizeLine; decide, done _ _ ?_ ?_⟩
          · rw [hren]
            exact (if_neg (by simpa using c)).symm
          · rw [hren]
            exact (if_neg (by simpa using c')).symm
    rintro G ⟨vs', eD, vl, hv, sG⟩
    rw [xl, List.take_length] at hv
    have menuq : ∀ z ∈ rows, z.name ≠ "q" := fun z hz e => by
      have := hlaw.2.2 z.name (List.mem_map.mpr ⟨z, hz, rfl⟩)
      rw [e] at this
      revert this
      decide
    have rne : ¬ (("" : Str) = r.name) := fun e => by
      have := (hlaw.1 _ _ hr1).1.1
      rw [← e] at this
      revert this
      decide
    have okq : NameOk ("q" : Str) := ⟨by decide, by decide, by decide⟩
    have hat3 : (rows.map ren)[at']? = some (ren r) := by
      rw [List.getElem?_map, hr1]
      rfl
    have rq : (ren r).name = "q" := by
      rw [hren]
      exact if_pos rfl
    refine qr D G vs' (rows.map ren) eD hv ?_ (by rw [List.length_map]; omega) (fun h => ⟨treeEq_false hr1 hat3 (.inl (by rw [rq]; exact menuq r hrm)), treeEq_false hat3 hr1 (.inl (by rw [rq]; exact (menuq r hrm).symm))⟩) (let ⟨x, y, z, e⟩ := s2; ⟨x, y, z, sG _ _ e⟩) (kk.trans (Kept.of sG))
    refine rowsok_ren (f := fun x => if x = r.name then "q" else x) (if_neg rne) (fun z hz y hy e => ?_) (by rw [List.length_map]) (fun i q q' h1 h2 => ?_) hlaw.1
    · have e : (if z.name = r.name then ("q" : Str) else z.name) = (if y.name = r.name then ("q" : Str) else y.name) := e
      by_cases c1 : z.name = r.name
      · by_cases c2 : y.name = r.name
        · rw [c1, c2]
        · rw [if_pos c1, if_neg c2] at e
          exact absurd e.symm (menuq y hy)
      · by_cases c2 : y.name = r.name
        · rw [if_neg c1, if_pos c2] at e
          exact absurd e (menuq z hz)
        · rw [if_neg c1, if_neg c2] at e
          exact e
    · rw [List.getElem?_map, h1] at h2
      cases h2
      have hq := List.mem_of_getElem? h1
      rw [hren]
      refine ⟨rfl, .inl rfl, ?_, rdue q hq, rfl⟩
      show NameOk (if q.name = r.name then ("q" : Str) else q.name)
      by_cases c1 : q.name = r.name
      · rw [if_pos c1]
        exact okq
      · rw [if_neg c1]
        exact (hlaw.1 _ _ h1).1
  refine ⟨_, rfl, rfl, _, rfl, ?_⟩
  refine (fun rest => ite2 (fun c2 => ⟨_, rfl, rfl, _, rfl, ite2 (fun c3 => ?_) (fun c3 => rest)⟩) (fun c2 => iteF rest)) ?_
  · refine ⟨_, rfl, rfl, _, rfl, ?_⟩
    refine ite2 (fun c4 => ?_) (fun c4 => iteF (qn H2 s2 kk))
    refine ⟨_, rfl, _, _, rfl, rfl, _, rfl, lp, xs, rfl, .inl (SqL.of el2), _, _, rfl, rfl, _, rfl, ?_⟩
    refine ite2 (fun c5 => ?_) (fun c5 => iteF (qn H2 s2 kk))
    have a1 : at' + 1 < xs.length := by
      have := of_decide_eq_true c5
      omega
    have hb : xs[at' + 1]? = some xs[at' + 1] := List.getElem?_eq_getElem a1
    obtain ⟨rb, hrb, hrowb⟩ := paired_get hrows2 hb
    obtain ⟨ab, tb, eb, hab, _⟩ := id hrowb
    have ib : atI xs ((at' : Int) + 1) = some (.ref ab) := atI_nat (j := at' + 1) (by rw [hb, eb])
    have ia : atI xs (at' : Int) = some (.ref a) := atI_nat (by rw [hx, ea])
    refine ⟨_, rfl, _, rfl, _, _, rfl, rfl, lp, xs, _, .ref ab, rfl, rfl, SqL.of el2, ib, ab, _, _, _, rfl, rfl, hab, rfl, _, rfl, rfl, _, rfl, ?_⟩
    refine ite2 (fun c6 => ?_) (fun c6 => qn H2 s2 kk)
    refine ⟨_, rfl, _, rfl, _, rfl, lp, xs, rfl, SqL.of el2, fun l1 hl1 => ?_⟩
    refine ⟨_, rfl, _, rfl, _, _, rfl, rfl, lp, xs, _, .ref ab, rfl, rfl, SqL.of (stay el2 hl1), ib, _, rfl, _, rfl, lp, xs, _, .ref a, rfl, rfl, SqL.of (stay el2 hl1), ia, by show 2 ≤ sizeLine; decide, fun l2 hl2 => ?_⟩
    refine ⟨l1, l2, _, _, rfl, rfl, stay upd_same hl2, upd_same, ?_, fun l3 hl3 => ?_⟩
    · have := cl none (some (at' : Int))
      exact small (by show _ + 2 ≤ 1000; omega)
    refine ⟨_, rfl, _, rfl, _, _, rfl, rfl, _, rfl, lp, xs, rfl, SqL.of ?_, fun l4 hl4 => ?_⟩
    · exact stay (stay (stay el2 hl1) hl2) hl3
    refine ⟨l3, l4, _, _, rfl, rfl, stay upd_same hl4, upd_same, ?_, fun l5 hl5 => ?_⟩
    · have h1 := cl none (some (at' : Int))
      have h2 := cl (some ((at' : Int) + 2)) none
      rw [List.length_append]
      exact small (by show _ + 2 + _ ≤ 1000; omega)
    have sm := Same.new (Same.new (Same.new (Same.new (Same.new (Same.refl H2) hl1 (.lst (cutV xs none (some (at' : Int))))) hl2 (.lst [.ref ab, .ref a])) hl3 (.lst (cutV xs none (some (at' : Int)) ++ [.ref ab, .ref a]))) hl4 (.lst (cutV xs (some ((at' : Int) + 2)) none))) hl5 (.lst (cutV xs none (some (at' : Int)) ++ [.ref ab, .ref a] ++ cutV xs (some ((at' : Int) + 2)) none))
    have hrG := paired_mono (fun _ _ z => RowAt.same sm z) hrows2
    have b2 : at' + 1 < rows.length := by omega
    have hsplit : rows.take at' ++ [r, rb] ++ rows.drop (at' + 2) = rows := by
      have e1 : rows[at'] = r := Option.some.inj ((List.getElem?_eq_getElem hat2).symm.trans hr1)
      have e2 : rows[at' + 1] = rb := Option.some.inj ((List.getElem?_eq_getElem b2).symm.trans hrb)
      have : rows.drop at' = [r, rb] ++ rows.drop (at' + 2) := by
        rw [List.drop_eq_getElem_cons hat2, List.drop_eq_getElem_cons b2, e1, e2]
        rfl
      rw [List.append_assoc, ← this, List.take_append_drop]
    have ho : RowsOk (rows.take at' ++ [r, rb] ++ rows.drop (at' + 2)) := by
      rw [hsplit]
      exact hlaw.1
    have hn : r.name ≠ rb.name := (hlaw.1 _ _ hrb).2.2.1 r (to_take (Nat.lt_succ_self _) hr1)
    have hat4 : (rows.take at' ++ [rb, r] ++ rows.drop (at' + 2))[at']? = some rb := by
      rw [List.append_assoc, List.getElem?_append_right (by rw [List.length_take]; omega), List.length_take, Nat.min_eq_left (by omega), Nat.sub_self]
      rfl
    refine qr l5 _ (xs.take at' ++ [.ref ab, .ref a] ++ xs.drop (at' + 2)) (rows.take at' ++ [rb, r] ++ rows.drop (at' + 2)) (upd_same.trans ?_) ?_ (rowsok_swap ho (by simpa using c6)) ?_ (fun h => ⟨treeEq_false hr1 hat4 (.inl hn), treeEq_false hat4 hr1 (.inl hn.symm)⟩) (let ⟨x, y, z, e⟩ := s2; ⟨x, y, z, sm _ _ e⟩) (kk.trans (Kept.of sm))
    · rw [cut_to (by omega), show ((at' : Int) + 2) = ((at' + 2 : Nat) : Int) from rfl, cut_from (by omega)]
    · rw [ea] at hrow
      rw [eb] at hrowb
      exact paired_app (paired_app (paired_take hrG at') (.cons (RowAt.same sm hrowb) (.cons (RowAt.same sm hrow) .nil))) (paired_drop hrG (at' + 2))
    · simp only [List.length_append, List.length_take, List.length_drop, List.length_cons, List.length_nil]
      omega
  refine ⟨_, rfl, _, rfl, _, rfl, lp, xs, rfl, SqL.of el2, fun l1 hl1 => ?_⟩
  refine ⟨_, rfl, _, rfl, by show 3 ≤ sizeLine; decide, fun rw' hrw => ⟨by show 1 ≤ sizeLine; decide, fun l2 hl2 => ?_⟩⟩
  refine ⟨l1, l2, _, _, rfl, rfl, stay (stay upd_same hrw) hl2, upd_same, ?_, fun l3 hl3 => ?_⟩
  · have := cl none (some (at' : Int))
    exact small (by show _ + 1 ≤ 1000; omega)
  refine ⟨_, rfl, _, rfl, _, _, rfl, rfl, _, rfl, lp, xs, rfl, SqL.of ?_, fun l4 hl4 => ?_⟩
  · exact stay (stay (stay (stay el2 hl1) hrw) hl2) hl3
  refine ⟨l3, l4, _, _, rfl, rfl, stay upd_same hl4, upd_same, ?_, fun l5 hl5 => ?_⟩
  · have h1 := cl none (some (at' : Int))
    have h2 := cl (some ((at' : Int) + 1)) none
    rw [List.length_append]
    exact small (by show _ + 1 + _ ≤ 1000; omega)
  have sm := Same.new (Same.new (Same.new (Same.new (Same.new (Same.new (Same.refl H2) hl1 (.lst (cutV xs none (some (at' : Int))))) hrw (.tup [.str r.name, .str "", .ref t])) hl2 (.lst [.ref rw'])) hl3 (.lst (cutV xs none (some (at' : Int)) ++ [.ref rw']))) hl4 (.lst (cutV xs (some ((at' : Int) + 1)) none))) hl5 (.lst (cutV xs none (some (at' : Int)) ++ [.ref rw'] ++ cutV xs (some ((at' : Int) + 1)) none))
  refine fin _ l5 (.ref rw') ⟨r.name, "", r.dues⟩ sm (upd_same.trans (by rw [cutS])) ⟨rw', t, rfl, SqT.of (stay (stay (stay (stay upd_same hl2) hl3) hl4) hl5), DuesAt.same sm hdu⟩
    (setok _ rfl (.inr rfl) hdo rfl) (setne _ (.inl (by simpa using c3)))

end
end Bd
end

section
namespace Bd
open PySem L2
abbrev sTNames : Stmt := (inClass (top 29) 2)
theorem scTNames : FnScope ["self"] ["self"] (defScope sTNames) := ⟨rfl, rfl, rfl, by decide +kernel, rfl, by decide +kernel, by decide +kernel⟩
abbrev sLaw : Stmt := (top 50)
theorem scLaw : FnScope ["_law_script", "_law_k", "_law_source_here", "_law_lines", "_law_flag", "_law_tree", "_law_twin", "_law_turn", "_law_other", "_law_thing", "_law_row"] ["_law_script"] (defScope sLaw) := ⟨rfl, rfl, rfl, by decide +kernel, rfl, by decide +kernel, by decide +kernel⟩

theorem full_val {dues : List (Str × PyData)} (h : ∀ x ∈ dues, ValOk x.1 x.2) : ∀ wd ∈ fullD dues, ValOk wd.1 wd.2 := by
  intro wd m
  unfold fullD at m
  obtain ⟨ld, hl, rfl⟩ := List.mem_map.mp m
  show ValOk ld.1 ((dueOf dues ld.1).getD ld.2)
  cases c : dueOf dues ld.1 with
  | none => exact (leftD_ok ld hl).2
  | some d => exact h _ (dueOf_mem c)
theorem rows_due {rows : List RowM} (h : RowsOk rows) : ∀ r ∈ rows, DuesOk r.dues := fun r hr => by
  obtain ⟨j, hj⟩ := List.mem_iff_getElem?.mp hr
  exact (h j r hj).2.1
theorem TreeAt.kept {K : PySem.W.Frag} {H H' : Hp} {s C p : Addr} {rows : List RowM} {h : Bool} {tk : List (Key × V)} (hs : Src H s) (k : Kept s H H') (ok : RowsOk rows) (t : TreeAt K H C p rows h tk) : TreeAt K H' C p rows h tk := by
  obtain ⟨dx, po, pp, pk, pt, o1, o2, o3, o4, o5⟩ := t
  obtain ⟨x, y, z, es⟩ := hs
  have tkk : TK H H' := TK.kept es k
  refine ⟨dx, po, pp, pk, pt, k _ _ (ne_of o1 es (by intro z; cases z)) o1, k _ _ (ne_of o2 es ?_) o2, k _ _ (ne_of o3 es (by intro z; cases z)) o3, k _ _ (ne_of o4 es (by intro z; cases z)) o4, paired_monoM (fun kv r hr z => ?_) o5⟩
  · intro z
    cases rows with
    | nil => cases z
    | cons a b => cases z
  · obtain ⟨z1, d, z2, kvs, z3, z4⟩ := z
    exact ⟨z1, d, z2, kvs, k _ _ (ne_of z3 es (by intro z; cases z)) z3, paired_monoM (fun kv wd hw z => ⟨z.1, tkk.val (full_val (fun x hx => ((rows_due ok r hr).2 x hx).2) wd hw) z.2⟩) z4⟩
theorem TreeAt.same {K : PySem.W.Frag} {H H' : Hp} {C p : Addr} {rows : List RowM} {h : Bool} {tk : List (Key × V)} (k : Same H H') (ok : RowsOk rows) (t : TreeAt K H C p rows h tk) : TreeAt K H' C p rows h tk := by
  obtain ⟨dx, po, pp, pk, pt, o1, o2, o3, o4, o5⟩ := t
  refine ⟨dx, po, pp, pk, pt, k _ _ o1, k _ _ o2, k _ _ o3, k _ _ o4, paired_monoM (fun kv r hr z => ?_) o5⟩
  obtain ⟨z1, d, z2, kvs, z3, z4⟩ := z
  exact ⟨z1, d, z2, kvs, k _ _ z3, paired_monoM (fun kv wd hw z => ⟨z.1, (TK.of k).val (full_val (fun x hx => ((rows_due ok r hr).2 x hx).2) wd hw) z.2⟩) z4⟩
def spTNames (K : PySem.W.Frag) (C : Addr) : Sp := fun vs H Q _ => ∃ (p : Addr) (rows : List RowM) (h : Bool) (tk : List (Key × V)), vs = [.ref p] ∧ TreeAt K H C p rows h tk ∧ ∀ l, H l = none → Q (.ref l) (upd H l (.lst (rows.map fun r => .str r.name)))
/-- what isinstance answers of plain things -/
structure TN (K : PySem.W.Frag) (mg : Str → Option Value) (C : Addr) : Prop where
  z_max : mg "max" = none
  z_min : mg "min" = none
  li : PySem.W.kitOne K (.type "list") (.ref C) = some false
  tu : PySem.W.kitOne K (.type "tuple") (.ref C) = some false
  st : PySem.W.kitOne K (.type "str") (.ref C) = some false
  it : PySem.W.kitOne K (.type "int") (.ref C) = some false
  nt : PySem.W.kitOne K (.type "NoneType") (.ref C) = some false
def spLaw (K : PySem.W.Frag) : Sp := fun vs H Q _ => ∃ (a : Addr) (ns : List Int), vs = [.ref a] ∧ SqL K H a (ns.map V.int) ∧ ns.length ≤ 63 ∧ ∀ H', Q (.bl true) H'
section
variable {K : PySem.W.Frag} {C : Addr}
theorem mkS {H1 : Hp} {x dx C : Addr} (hx : H1 x = none) (hdx : H1 dx = none) (hne : dx ≠ x) : Same H1 (upd (upd H1 dx (.own x)) x (.ins C dx [])) :=
  Same.new (Same.new (Same.refl H1) hdx _) ((upd_ne (Ne.symm hne)).trans hx) _
theorem paired_mem {α β : Type} {F : α → β → Prop} : ∀ {xs : List α} {ys : List β}, Paired F xs ys → ∀ x ∈ xs, ∃ y ∈ ys, F x y
  | _, _, .nil, x, h => nomatch h
  | _, _, .cons a b, x, h => by
    rcases List.mem_cons.mp h with rfl | h
    · exact ⟨_, List.mem_cons_self, a⟩
    · obtain ⟨y, hy, z⟩ := paired_mem b x h
      exact ⟨y, List.mem_cons_of_mem _ hy, z⟩
theorem paired_getR {α β : Type} {F : α → β → Prop} : ∀ {xs : List α} {ys : List β}, Paired F xs ys → ∀ {i : Nat} {y : β}, ys[i]? = some y → ∃ x, xs[i]? = some x ∧ F x y
  | _, _, .nil, i, y, h => by cases h
  | _, _, .cons a b, 0, y, h => by
    cases h
    exact ⟨_, rfl, a⟩
  | _, _, .cons a b, i + 1, y, h => paired_getR b (i := i) h
theorem map_of {α β γ : Type} {F : α → β → Prop} {f : α → γ} {g : β → γ} : ∀ {xs : List α} {ys : List β}, Paired F xs ys → (∀ x y, F x y → f x = g y) → xs.map f = ys.map g
  | _, _, .nil, h => rfl
  | _, _, .cons a b, h => by rw [List.map_cons, List.map_cons, h _ _ a, map_of b h]
theorem ne_not (b : Bool) : b ≠ !b := by
  cases b <;> decide
theorem ne_not' (b : Bool) : (!b) ≠ b := by
  cases b <;> decide
theorem cut_last (xs : List V) : cutV xs none (some (-1)) = xs.take (xs.length - 1) := by
  unfold cutV
  rw [HT.sIx_none]
  show (xs.drop 0).take ((-1 + (xs.length : Int)).toNat - 0) = _
  rw [List.drop_zero, Nat.sub_zero]
  congr 1
  omega
theorem rows_take {rows : List RowM} (ok : RowsOk rows) (n : Nat) : RowsOk (rows.take n) := fun i r h => by
  have il : i < n := by
    have := (List.getElem?_eq_some_iff.mp h).1
    rw [List.length_take] at this
    omega
  rw [List.getElem?_take_of_lt il] at h
  rw [List.take_take, Nat.min_eq_left (by omega)]
  exact ok i r h
theorem is_tree {Hb H' : Hp} {p x : Addr} {rows rows' : List RowM} {h h' due : Bool} {tk tk' : List (Key × V)} (t : TreeAt K Hb C p rows h tk) (ok : RowsOk rows) (sm : Same Hb H') (t' : TreeAt K H' C x rows' h' tk') (ok' : RowsOk rows')
    (ap : ∀ kv ∈ tk', ∃ d, kv.2 = .ref d ∧ Hb d = none) (e1 : treeEqB rows h rows' h' = due) (e2 : treeEqB rows' h' rows h = due) : TreeAt K H' C p rows h tk ∧ YTy K H' C (.ref x) ∧ Held K H' C p rows h tk (.ref x) due := by
  refine ⟨TreeAt.same sm ok t, ?_, .inr ⟨x, rows', h', tk', rfl, t', ok', fun kv hk kv' hk' e => ?_, e1, e2⟩⟩
  · obtain ⟨dx, po, pp, pk, pt, o1, _⟩ := t'
    exact .ins o1
  · obtain ⟨dx, po, pp, pk, pt, o1, o2, o3, o4, o5⟩ := t
    obtain ⟨r, _, _, d, z2, kvs, z3, _⟩ := paired_mem o5 kv hk
    obtain ⟨d', y1, y2⟩ := ap kv' hk'
    rw [z2, y1] at e
    injection e with e
    rw [e, y2] at z3
    cases z3
/-- what stands while a number of the script is looked at -/
structure St (K : PySem.W.Frag) (C s lp p : Addr) (xs : List V) (rows : List RowM) (h : Bool) (tk : List (Key × V)) (H2 G : Hp) : Prop where
  src : Src G s
  lst : G lp = some (.lst xs)
  prow : Paired (RowAt K G) xs rows
  tree : TreeAt K G C p rows h tk
  base : Same H2 G
theorem St.same {s lp p : Addr} {xs : List V} {rows : List RowM} {h : Bool} {tk : List (Key × V)} {H2 G G' : Hp} (ok : RowsOk rows) (S : St K C s lp p xs rows h tk H2 G) (e : Same G G') : St K C s lp p xs rows h tk H2 G' :=
  ⟨let ⟨x, y, z, q⟩ := S.src; ⟨x, y, z, e _ _ q⟩, e _ _ S.lst, paired_mono (fun _ _ z => RowAt.same e z) S.prow, S.tree.same e ok, Same.trans S.base e⟩
theorem St.kept {s lp p : Addr} {xs : List V} {rows : List RowM} {h : Bool} {tk : List (Key × V)} {H2 G G' : Hp} (ok : RowsOk rows) (n : lp ≠ s) (hs : H2 s = none) (S : St K C s lp p xs rows h tk H2 G) (s' : Src G' s) (e : Kept s G G') : St K C s lp p xs rows h tk H2 G' := by
  have tk : TK G G' := let ⟨_, _, _, z⟩ := S.src; TK.kept z e
  exact ⟨s', e _ _ n S.lst, paired_monoM (fun v q hq z => tk.row (rows_due ok q hq) z) S.prow, S.tree.kept S.src e ok, fun b o z => e b o (ne_of_none z hs) (S.base b o z)⟩
end
section
variable {P : Program} {w : World} {K : PySem.W.Frag} {mg : Str → Option Value} {base : Heap} {aL C : Addr} {left : List (Key × V)}
theorem ok_tnames {f : Addr} {fd : FuncData} (F : Fun K "names" "Tree.names" sTNames f fd) (T : TA mg) (TCl : TC K mg C) : FnOk P w K mg base CX0 1 f fd ["self"] (spTNames K C) := by
  refine F.ok scTNames (fun vs H Q E h => ?_) (fun cdv A outer s H vs Q E hr h => ?_)
  · obtain ⟨p, rows, h, tk, rfl, _⟩ := h
    rfl
  obtain ⟨p, rows, h, tk, rfl, ⟨dx, po, pp, pk, pt, o1, o2, o3, o4, o5⟩, q⟩ := h
  refine ⟨_, (pss_one (ps_ret (pe_callTy call_list_of (by rfl) T.z_list (by decide +kernel) (pa_cons (pe_fld (pv 0) rfl) pa_nil)))), ?_⟩
  exact ⟨_, rfl, p, C, dx, _, _, rfl, o1, TCl.cl, TCl.n_order, tf5_order, po, _, rfl, .inl (SqL.of o2), fun l hl => q l hl⟩
theorem ok_law {f fS fN fF fT fI fO fP e m : Addr} {fd dS dN dF dT dI dO dP ed md : FuncData} (F : Fun K "law" "law" sLaw f fd) (T : TA mg) (TCl : TC K mg C) (Tn : TN K mg C) (M : Mk K C e) (mN : Meth K C "names" m)
    (FI : FnOk P w K mg base CX0 7 e ed ["self", "rows", "handing"] (spInit K C)) (bI : Binds K ed ["self", "rows", "handing"] []) (bI1 : Binds K ed ["self", "rows", "handing"] [.bool false])
    (FN : FnOk P w K mg base CX0 1 m md ["self"] (spTNames K C)) (bN : Binds K md ["self"] [])
    (cS : Cal P w K mg base "_law_source" ["_law_script", "_law_k"] 2 (spSource K) fS dS) (cN : Cal P w K mg base "_law_next" ["_law_source_here", "_law_many"] 2 spNext fN dN) (cF : Cal P w K mg base "_law_full_rows" ["_law_source_here", "_law_many"] 5 (spFull K) fF dF)
    (cT : Cal P w K mg base "_law_fully_told" ["_law_source_here", "_law_row"] 3 (spTold K) fT dT) (cI : Cal P w K mg base "_law_is" ["_law_one_here", "_law_other", "_law_due"] 3 (spIs K C) fI dI) (cO : Cal P w K mg base "_law_other_rows" ["_law_source_here", "_law_lines"] 3 (spOther K) fO dO)
    (cP : Cal P w K mg base "_law_one" ["_law_source_here", "_law_things"] 3 (spOne K) fP dP) : FnOk P w K mg base CX0 9 f fd ["_law_script"] (spLaw K) := by
  refine F.ok scLaw (fun vs H Q E h => ?_) (fun cdv A outer s H vs Q E hr h => ?_)
  · obtain ⟨a, ns, rfl, _⟩ := h
    rfl
  obtain ⟨a, ns, rfl, hS, hlen, q⟩ := h
  refine ⟨_, (pss_cons (ps_for PassesOwn.never rfl (pi_range1 rfl T.z_range (pa_cons (pe_callB (call_max2 rfl) (by rfl) Tn.z_max (by decide +kernel) (pa_cons pe_int (pa_cons (pe_callB (call_min2 rfl) (by rfl) Tn.z_min (by decide +kernel) (pa_cons pe_int (pa_cons (pe_callB call_len_seq (by rfl) T.z_len PySem.boot_len (pa_cons (pv 0) pa_nil)) pa_nil))) pa_nil))) pa_nil)) (pg_name (i := 1) scLaw.nd rfl (Or.inl rfl)) (pss_cons (ps_set (i := 2) scLaw.nd rfl (Or.inr rfl) (pe_call cS.ok (hr.mono (by decide)) rfl cS.mg cS.kp cS.bd .nil pass0 (pa_cons (pv 0) (pa_cons (pv 1) pa_nil)))) (pss_cons (ps_par (i := 3) (j := 4) (by rfl) scLaw.nd rfl rfl (by decide) rfl rfl (pa_cons (pe_call cF.ok (hr.mono (by decide)) rfl cF.mg cF.kp cF.bd .nil pass0 (pa_cons (pv 2) (pa_cons (pe_op op_add pe_int (pe_call cN.ok (hr.mono (by decide)) rfl cN.mg cN.kp cN.bd .nil pass0 (pa_cons (pv 2) (pa_cons pe_int pa_nil)))) pa_nil))) (pa_cons (pe_cmpR op_eq (pe_call cN.ok (hr.mono (by decide)) rfl cN.mg cN.kp cN.bd .nil pass0 (pa_cons (pv 2) (pa_cons pe_int pa_nil))) pe_int (nomark _)) pa_nil)) (by rfl)) (pss_cons (ps_par (i := 5) (j := 6) (by rfl) scLaw.nd rfl rfl (by decide) rfl rfl (pa_cons (pe_make M FI (hr.mono (by decide)) rfl TCl.g_Tree bI .nil pass0 (pa_cons (pv 3) (pa_cons (pv 4) pa_nil))) (pa_cons (pe_make M FI (hr.mono (by decide)) rfl TCl.g_Tree bI .nil pass0 (pa_cons (pe_lc (own := [("_law_row", 10)]) (g := gName 10) (tt := tYes) (te := tCall (spTold K) [] E0 (tCons (tVar 2) (tCons (tVar 10) tNil))) rfl scLaw.nd (pi_list (pv 3)) (blkOk_by (own := [("_law_row", 10)]) (N := ["_law_script", "_law_k", "_law_source_here", "_law_lines", "_law_flag", "_law_tree", "_law_twin", "_law_turn", "_law_other", "_law_thing", "_law_row"]) (sc := defScope sLaw) (by decide +kernel)) (fun _ _ _ _ _ => (pg_name (i := 10) scLaw.nd rfl (Or.inl rfl))) (fun _ _ _ _ _ => pts_nil) (fun _ _ _ _ _ => (pe_call cT.ok (hr.mono (by decide)) rfl cT.mg cT.kp cT.bd .nil pass0 (pa_cons (pv 2) (pa_cons (pv 10) pa_nil))))) (pa_cons (pv 4) pa_nil))) pa_nil)) (by rfl)) (pss_cons (ps_if (PW.pt (pw_or (pt_not (pt_val (pe_call cI.ok (hr.mono (by decide)) rfl cI.mg cI.kp cI.bd .nil pass0 (pa_cons (pv 5) (pa_cons (pv 6) (pa_cons pe_bl pa_nil)))))) (pw_or1 (pt_not (pt_val (pe_call cI.ok (hr.mono (by decide)) rfl cI.mg cI.kp cI.bd .nil pass0 (pa_cons (pv 5) (pa_cons (pe_make M FI (hr.mono (by decide)) rfl TCl.g_Tree bI .nil pass0 (pa_cons (pv 3) (pa_cons (pe_not (pv 4)) pa_nil))) (pa_cons pe_bl pa_nil))))))))) (pss_one (ps_ret pe_bl)) pss_nil) (pss_cons (ps_for PassesOwn.never rfl (pi_range1 rfl T.z_range (pa_cons pe_int pa_nil)) (pg_name (i := 7) scLaw.nd rfl (Or.inl rfl)) (pss_cons (ps_set (i := 8) scLaw.nd rfl (Or.inl rfl) (pe_call cO.ok (hr.mono (by decide)) rfl cO.mg cO.kp cO.bd .nil pass0 (pa_cons (pv 2) (pa_cons (pv 3) pa_nil)))) (pss_one (ps_if (PW.pt (pw_and (pt_cmpR op_notN (pv 8) pe_non (nomark _)) (pw_and1 (pt_not (pt_val (pe_call cI.ok (hr.mono (by decide)) rfl cI.mg cI.kp cI.bd .nil pass0 (pa_cons (pv 5) (pa_cons (pe_make M FI (hr.mono (by decide)) rfl TCl.g_Tree bI .nil pass0 (pa_cons (pv 8) (pa_cons (pv 4) pa_nil))) (pa_cons pe_bl pa_nil))))))))) (pss_one (ps_ret pe_bl)) pss_nil)))) (pss_cons (ps_if (pt_not (pt_val (pe_call cI.ok (hr.mono (by decide)) rfl cI.mg cI.kp cI.bd .nil pass0 (pa_cons (pv 5) (pa_cons (pe_make M FI (hr.mono (by decide)) rfl TCl.g_Tree bI .nil pass0 (pa_cons (pe_slice sl_list (pv 3) po_none (po_some (pe_un un_neg pe_int))) (pa_cons (pv 4) pa_nil))) (pa_cons pe_bl pa_nil)))))) (pss_one (ps_ret pe_bl)) pss_nil) (pss_cons (ps_set (i := 9) scLaw.nd rfl (Or.inl rfl) (pe_call cP.ok (hr.mono (by decide)) rfl cP.mg cP.kp cP.bd .nil pass0 (pa_cons (pv 2) (pa_cons (pe_lst (pa_cons pe_non (pa_cons pe_int (pa_cons (pv 3) (pa_cons (pe_meth0 (pv 5) TCl.cl mN FN (hr.mono (by decide)) bN .nil pass0) (pa_cons pe_str (pa_cons (pe_tup (pa_cons (pv 3) (pa_cons (pv 4) pa_nil))) pa_nil))))))) pa_nil)))) (pss_one (ps_if (pt_not (pt_val (pe_call cI.ok (hr.mono (by decide)) rfl cI.mg cI.kp cI.bd .nil pass0 (pa_cons (pv 5) (pa_cons (pv 9) (pa_cons pe_bl pa_nil)))))) (pss_one (ps_ret pe_bl)) pss_nil)))))))))) (pss_one (ps_ret (pe_call cI.ok (hr.mono (by decide)) rfl cI.mg cI.kp cI.bd .nil pass0 (pa_cons (pe_make (dvs := [.bl false]) M FI (hr.mono (by decide)) rfl TCl.g_Tree bI1 (.cons rfl .nil) pass0 (pa_cons (pe_lst pa_nil) pa_nil)) (pa_cons (pe_make M FI (hr.mono (by decide)) rfl TCl.g_Tree bI .nil pass0 (pa_cons (pe_lst pa_nil) (pa_cons pe_bl pa_nil))) (pa_cons pe_bl pa_nil))))))), ?_⟩
  refine ⟨_, rfl, a, _, rfl, .inl hS, _, _, rfl, _, _, rfl, _, rfl, ?_, ?_, for_range (fun i σ H' => ∃ o1 o2 o3 o4 o5 o6 o7 o8 o9 o10 : Option V, σ = [some (.ref a), o1, o2, o3, o4, o5, o6, o7, o8, o9, o10] ∧ Same H H')
    ⟨none, none, none, none, none, none, none, none, none, none, rfl, Same.refl H⟩ ?_ ?_⟩
  · show -(2 ^ 62) ≤ (if (if ((ns.map V.int).length : Int) < 5 then ((ns.map V.int).length : Int) else 5) > 1 then (if ((ns.map V.int).length : Int) < 5 then ((ns.map V.int).length : Int) else 5) else 1)
    split <;> split <;> omega
  · show (if (if ((ns.map V.int).length : Int) < 5 then ((ns.map V.int).length : Int) else 5) > 1 then (if ((ns.map V.int).length : Int) < 5 then ((ns.map V.int).length : Int) else 5) else 1) < 2 ^ 62
    split <;> split <;> omega
  · rintro i σ H2 hi ⟨o1, o2, o3, o4, o5, o6, o7, o8, o9, o10, rfl, sH2⟩
    refine ⟨_, rfl, _, rfl, a, ns, i, by rw [Int.zero_add]; rfl, sH2.seq hS, fun sp H3 hsp s3 src3 => ?_⟩
    refine ⟨_, rfl, _, rfl, sp, 9, rfl, src3, by decide, by decide, fun v9 H4 hv9 src4 k4 => ⟨_, _, rfl, rfl, ?_⟩⟩
    refine ⟨sp, 1 + v9, by rw [Int.natCast_add]; rfl, src4, by omega, fun lp H5 xs rows hlp el hrows hlaw hlen2 src5 k5 => ?_⟩
    refine ⟨_, rfl, sp, 2, rfl, src5, by decide, by decide, fun v2 H6 hv2 src6 k6 => ⟨rfl, ?_⟩⟩
    refine ⟨_, _, rfl, ?_⟩
    have nlp : lp ≠ sp := fun e => by
      rw [e] at hlp
      obtain ⟨_, _, _, z⟩ := src4
      rw [hlp] at z
      cases z
    have b3 : Same H2 H6 := fun b o z => by
      have n := ne_of_none z hsp
      exact k6 b o n (k5 b o n (k4 b o n (s3 b o z)))
    have e6 := k6 lp _ nlp el
    have tk6 : TK H5 H6 := let ⟨_, _, _, z⟩ := src5; TK.kept z k6
    have hrows6 : Paired (RowAt K H6) xs rows := paired_monoM (fun v q hq z => tk6.row (rows_due hlaw.1 q hq) z) hrows
    have ok := hlaw.1
    have xl : xs.length = rows.length := Paired.length hrows
    refine ⟨_, rfl, _, rfl, fun p1 dx1 hp1 hdx1 hn1 => ⟨H6, p1, dx1, lp, xs, rows, _, rfl, mkS hp1 hdx1 hn1, hp1, upd_same, e6, hrows6, ok, by omega, fun H7 tk s7 t7 ap7 => ⟨rfl, ?_⟩⟩⟩
    have S7 : St K C sp lp p1 xs rows _ tk H2 H7 := ⟨let ⟨x, y, z, q⟩ := src6; ⟨x, y, z, s7 _ _ q⟩, s7 _ _ e6, paired_mono (fun _ _ z => RowAt.same s7 z) hrows6, t7, Same.trans b3 s7⟩
    refine ⟨_, rfl, lp, rfl, ⟨_, SqL.of S7.lst⟩, fun D hD => lc_list (K := K) (a := lp) (xs := xs) (fun i G => ∃ (vs' : List V) (rows' : List RowM), G D = some (.lst vs') ∧ vs'.length = i ∧ Paired (RowAt K G) vs' rows' ∧
        Paired (fun r r' : RowM => r'.name = r.name ∧ r'.above = r.above ∧ DuesOk r'.dues ∧ fullD r'.dues = fullD r.dues) (rows.take i) rows' ∧ Src G sp ∧ Kept sp H7 G)
      ⟨[], [], upd_same, rfl, .nil, .nil, src_new S7.src hD, (Kept.refl sp H7).new hD _⟩ ?_ ?_ ?_⟩
    · rintro i G _ ⟨vs', rows', _, _, _, _, _, kG⟩
      exact SqL.of (kG lp _ nlp S7.lst)
    · rintro i x G hx ⟨vs', rows', eD, vl, hv, hr', sG, kG⟩
      have SG := S7.kept ok nlp hsp sG kG
      obtain ⟨r, hr1, hrow⟩ := paired_get SG.prow hx
      have i9 : i < rows.length := (List.getElem?_eq_some_iff.mp hr1).1
      have rd := rows_due ok r (List.mem_of_getElem? hr1)
      refine ⟨rfl, ?_⟩
      refine ⟨_, rfl, _, rfl, sp, x, r, rfl, sG, hrow, rd, fun v' dues' G2 hv2 hd2 hf2 s2 k2 => ?_⟩
      have nDs : D ≠ sp := (src_ne S7.src hD).symm
      have tk2 : TK G G2 := let ⟨_, _, _, z⟩ := sG; TK.kept z k2
      have eD2 := k2 D _ nDs eD
      have tk3 := TK.lst eD2 (.lst (vs' ++ [v']))
      have rok : ∀ q ∈ rows', DuesOk q.dues := fun q hq => by
        obtain ⟨m, hm⟩ := List.mem_iff_getElem?.mp hq
        obtain ⟨r0, _, z⟩ := paired_getR hr' hm
        exact z.2.2.1
      refine ⟨vs', eD2, small1000 (by omega), vs' ++ [v'], rows' ++ [⟨r.name, r.above, dues'⟩], upd_same, by rw [List.length_append, vl]; rfl, ?_, ?_, src_upd s2 nDs.symm, ?_⟩
      · exact paired_snoc (tk3.row hd2 hv2) (paired_monoM (fun v q hq z => tk3.row (rok q hq) (tk2.row (rok q hq) z)) hv)
      · rw [List.take_add_one, hr1]
        exact paired_snoc ⟨rfl, rfl, hd2, hf2⟩ hr'
      · intro b o hb e
        rw [upd_ne (ne_of_none e hD)]
        exact k2 b o hb (kG b o hb e)
    rintro G ⟨vs', rows', eD, vl, hv, hr', sG, kG⟩
    rw [xl, List.take_length] at hr'
    have S8 := S7.kept ok nlp hsp sG kG
    have hl' : rows'.length = rows.length := (Paired.length hr').symm
    have okr : RowsOk rows' := rowsok_ren (f := id) rfl (fun _ _ _ _ e => e) hl' (fun i r r' h1 h2 => by
      obtain ⟨r2, g1, g2⟩ := paired_get hr' h1
      rw [h2] at g1
      cases g1
      exact ⟨g2.1, .inl g2.2.1, by rw [g2.1]; exact (ok i r h1).1, g2.2.2.1, by rw [g2.2.2.2]⟩) ok
    have en : rows.map (·.name) = rows'.map (·.name) := map_of hr' fun r r' z => z.1.symm
    have ea : rows.map (·.above) = rows'.map (·.above) := map_of hr' fun r r' z => z.2.1.symm
    have ef : ∀ (i : Nat) (r r' : RowM), rows[i]? = some r → rows'[i]? = some r' → fullD r'.dues = fullD r.dues := fun i r r' h1 h2 => by
      obtain ⟨r2, g1, g2⟩ := paired_get hr' h1
      rw [h2] at g1
      cases g1
      exact g2.2.2.2
    refine ⟨_, rfl, fun p2 dx2 hp2 hdx2 hn2 => ⟨G, p2, dx2, D, vs', rows', _, rfl, mkS hp2 hdx2 hn2, hp2, upd_same, eD, hv, okr, by omega, fun H9 tk2 s9 t9 ap9 => ⟨rfl, ?_⟩⟩⟩
    have S9 := S8.same ok s9
    refine ⟨_, _, rfl, ?_⟩
    obtain ⟨i1, i2, i3⟩ := is_tree S8.tree ok s9 t9 okr ap9 (treeEq_true en ea ef (rows_due ok)) (treeEq_true en.symm ea.symm (fun i r r' h1 h2 => (ef i r' r h2 h1).symm) (rows_due okr))
    refine ⟨_, rfl, _, rfl, p1, .ref p2, rows, _, tk, true, rfl, i1, ok, i2, i3, fun H10 s10 => ⟨true, rfl, ?_⟩⟩
    have S10 := S9.same ok s10
    refine iteF ?_
    refine ⟨_, rfl, _, rfl, _, rfl, _, rfl, fun p3 dx3 hp3 hdx3 hn3 => ⟨H10, p3, dx3, lp, xs, rows, _, rfl, mkS hp3 hdx3 hn3, hp3, upd_same, S10.lst, S10.prow, ok, by omega, fun H11 tk3 s11 t11 ap11 => ⟨rfl, ?_⟩⟩⟩
    obtain ⟨i1, i2, i3⟩ := is_tree S10.tree ok s11 t11 ok ap11 (treeEq_flag (ne_not _)) (treeEq_flag (ne_not' _))
    refine ⟨p1, .ref p3, rows, _, tk, false, rfl, i1, ok, i2, i3, fun H12 s12 => ⟨true, rfl, ?_⟩⟩
    have S12 := (S10.same ok s11).same ok s12
    refine iteF ?_
    refine ⟨_, rfl, by decide, by decide, for_range (fun i' σ G => ∃ o7 o8 : Option V, σ = [some (.ref a), some (.int (0 + (i : Int))), some (.ref sp), some (.ref lp), some (.bl (decide (V.int (v2 : Int) = V.int 0))), some (.ref p1), some (.ref p2), o7, o8, o9, o10] ∧ St K C sp lp p1 xs rows (decide (V.int (v2 : Int) = V.int 0)) tk H2 G)
      ⟨o7, o8, rfl, S12⟩ ?_ ?_⟩
    · rintro i' σ G0 hi' ⟨o7, o8, rfl, S⟩
      refine ⟨_, rfl, _, rfl, sp, lp, xs, rows, rfl, S.src, S.lst, nlp, S.prow, hlaw, by omega, by omega, fun G1 sr1 kr1 => ?_, fun r G1 vs1 rows1 e1 pr1 ok1 len1 ne1 sr1 kr1 => ?_⟩
      · have S1 := S.kept ok nlp hsp sr1 kr1
        refine ⟨_, rfl, rfl, _, rfl, ?_⟩
        exact iteF (iteF ⟨_, _, rfl, S1⟩)
      · have S1 := S.kept ok nlp hsp sr1 kr1
        refine ⟨_, rfl, rfl, _, rfl, iteT ?_⟩
        refine ⟨_, rfl, _, rfl, _, rfl, fun p4 dx4 hp4 hdx4 hn4 => ⟨G1, p4, dx4, r, vs1, rows1, _, rfl, mkS hp4 hdx4 hn4, hp4, upd_same, e1, pr1, ok1, len1, fun G2 tk4 s4 t4 ap4 => ⟨rfl, ?_⟩⟩⟩
        obtain ⟨i1, i2, i3⟩ := is_tree S1.tree ok s4 t4 ok1 ap4 (ne1 _).1 (ne1 _).2
        refine ⟨p1, .ref p4, rows, _, tk, false, rfl, i1, ok, i2, i3, fun G3 s5 => ⟨true, rfl, iteF ⟨_, _, rfl, (S1.same ok s4).same ok s5⟩⟩⟩
    rintro σ G0 ⟨o7', o8', rfl, S⟩
    refine ⟨_, rfl, _, rfl, _, rfl, _, rfl, lp, xs, rfl, SqL.of S.lst, fun l1 hl1 => ?_⟩
    have Sl := S.same ok (Same.new (Same.refl G0) hl1 (.lst (cutV xs none (some (-1)))))
    refine ⟨_, rfl, fun p5 dx5 hp5 hdx5 hn5 => ⟨_, p5, dx5, l1, _, rows.take (rows.length - 1), _, rfl, mkS hp5 hdx5 hn5, hp5, upd_same, upd_same, ?_, rows_take ok _, ?_, fun G2 tk5 s5 t5 ap5 => ⟨rfl, ?_⟩⟩⟩
    · show Paired (RowAt K _) (cutV xs none (some (-1))) _
      have ce : cutV xs none (some (-1)) = xs.take (rows.length - 1) := by
        rw [cut_last, xl]
      have z := paired_take Sl.prow (rows.length - 1)
      rw [← ce] at z
      exact z
    · rw [List.length_take]
      omega
    have ln : rows.length ≠ (rows.take (rows.length - 1)).length := by
      rw [List.length_take]
      omega
    obtain ⟨i1, i2, i3⟩ := is_tree Sl.tree ok s5 t5 (rows_take ok _) ap5 (treeEq_len ln) (treeEq_len ln.symm)
    refine ⟨p1, .ref p5, rows, _, tk, false, rfl, i1, ok, i2, i3, fun G3 s6 => ⟨true, rfl, iteF ?_⟩⟩
    have S3 := (Sl.same ok s5).same ok s6
    obtain ⟨dx, po, pp, pk, pt, o1', _⟩ := id S3.tree
    refine ⟨_, rfl, _, rfl, _, rfl, p1, dx, _, rfl, o1', by rfl, p1, rows, _, tk, rfl, S3.tree, fun nl hnl => ?_⟩
    refine ⟨_, rfl, _, rfl, by show 2 ≤ sizeLine; decide, fun tt htt => ⟨by show 6 ≤ sizeLine; decide, fun tl htl => ?_⟩⟩
    have ntl : tl ≠ sp := fun e => by
      obtain ⟨_, _, _, z⟩ := S3.src
      have z2 := stay (o' := .tup [V.ref lp, .bl (decide (V.int (v2 : Int) = V.int 0))]) (stay (o' := .lst (rows.map fun r => V.str r.name)) z hnl) htt
      rw [e, z2] at htl
      cases htl
    have S4 := ((S3.same ok (Same.new (Same.refl _) hnl (.lst (rows.map fun r => .str r.name)))).same ok (Same.new (Same.refl _) htt (.tup [.ref lp, .bl (decide (V.int (v2 : Int) = V.int 0))]))).same ok (Same.new (Same.refl _) htl (.lst [V.non, .int 5, .ref lp, .ref nl, .str "tree", .ref tt]))
    refine ⟨sp, tl, _, rfl, S4.src, SqL.of upd_same, ntl, (fun z => by cases z), (by show 6 ≤ 1000; decide), fun v G4 hv sr4 kr4 => ?_⟩
    have S5 := S4.kept ok nlp hsp sr4 kr4
    have nnl : nl ≠ sp := fun e => by
      obtain ⟨_, _, _, z⟩ := S3.src
      rw [e, z] at hnl
      cases hnl
    have ntt : tt ≠ sp := fun e => by
      obtain ⟨_, _, _, z⟩ := S3.src
      have z2 := stay (o' := .lst (rows.map fun r => V.str r.name)) z hnl
      rw [e, z2] at htt
      cases htt
    have enl := kr4 nl _ nnl (stay (stay upd_same htt) htl)
    have ett := kr4 tt _ ntt (stay upd_same htl)
    have thing : YTy K G4 C v ∧ NonIns K G4 C v ∧ ∀ c dy gs, v = .ref c → G4 c ≠ some (.ins C dy gs) := by
      have noL : ∀ {b : Addr} {ys : List V}, G4 b = some (.lst ys) → ∀ c dy gs, V.ref b = .ref c → G4 c ≠ some (.ins C dy gs) := fun e c dy gs z z2 => by
        injection z with z
        rw [← z, e] at z2
        cases z2
      have noT : ∀ {b : Addr} {ys : List V}, G4 b = some (.tup ys) → ∀ c dy gs, V.ref b = .ref c → G4 c ≠ some (.ins C dy gs) := fun e c dy gs z z2 => by
        injection z with z
        rw [← z, e] at z2
        cases z2
      simp only [List.mem_cons, List.not_mem_nil, or_false] at hv
      rcases hv with rfl | rfl | rfl | rfl | rfl | rfl
      · exact ⟨.non, ⟨_, .base .non, Tn.nt⟩, fun c dy gs z => by cases z⟩
      · exact ⟨.int 5, ⟨_, .base (.int 5), Tn.it⟩, fun c dy gs z => by cases z⟩
      · exact ⟨.lst (SqL.of S5.lst), ⟨_, .base (.lst S5.lst), Tn.li⟩, noL S5.lst⟩
      · exact ⟨.lst (SqL.of enl), ⟨_, .base (.lst enl), Tn.li⟩, noL enl⟩
      · exact ⟨.str _, ⟨_, .base (.str _), Tn.st⟩, fun c dy gs z => by cases z⟩
      · exact ⟨.tup (SqT.of ett), ⟨_, .base (.tup ett), Tn.tu⟩, noT ett⟩
    refine ⟨_, rfl, _, rfl, p1, v, rows, _, tk, false, rfl, S5.tree, ok, thing.1, .inl ⟨thing.2.1, thing.2.2, rfl⟩, fun G5 s7' => ⟨true, rfl, iteF ?_⟩⟩
    exact ⟨_, _, _, _, _, _, _, _, _, _, rfl, Same.trans sH2 (S5.same ok s7').base⟩
  · rintro σ G ⟨o1, o2, o3, o4, o5, o6, o7, o8, o9, o10, rfl, sG⟩
    refine ⟨Nat.zero_le _, fun l1 hl1 p1 dx1 hp1 hdx1 hn1 => ⟨_, p1, dx1, l1, [], [], false, rfl, mkS hp1 hdx1 hn1, hp1, upd_same, upd_same, .nil, (fun i r h => by cases h), by decide, fun G2 tk1 s1 t1 ap1 => ⟨rfl, ?_⟩⟩⟩
    refine ⟨Nat.zero_le _, fun l2 hl2 p2 dx2 hp2 hdx2 hn2 => ⟨_, p2, dx2, l2, [], [], false, rfl, mkS hp2 hdx2 hn2, hp2, upd_same, upd_same, .nil, (fun i r h => by cases h), by decide, fun G3 tk2 s2 t2 ap2 => ⟨rfl, ?_⟩⟩⟩
    have ok0 : RowsOk [] := fun i r h => by cases h
    obtain ⟨i1, i2, i3⟩ := is_tree (TreeAt.same (Same.new (Same.refl _) hl2 (.lst [])) ok0 t1) ok0 s2 t2 ok0 ap2 (due := true) rfl rfl
    exact ⟨p1, .ref p2, [], false, tk1, true, rfl, i1, ok0, i2, i3, fun G4 _ => q G4⟩
end
end Bd
end

section
namespace Bd
open PySem L2
/-- a def of the text as the top has written it -/
structure DK (K : PySem.W.Frag) (x : Str) (st : Stmt) (f : Addr) : Prop where
  at_ : PySem.W.nsIn K mainGlobals x = some (some (.ref f))
  fn : ∃ fd, Fun K x x st f fd
theorem dk_mk {K : PySem.W.Frag} {x : Str} {st : Stmt} {f : Addr} {oc : Value} {od an : Option Addr} {osl : Array (Option Value)} {kV doc pm cdv ct : Value} (a : PySem.W.nsIn K mainGlobals x = some (some (.ref f)))
    (l : K.lookup f = some ⟨oc, od, .func (PySem.W.fnOf x x (defArgs st) (defBody st) (defScope st) .none kV doc pm an cdv ct), osl⟩) (c : PySem.W.codeIn K cdv x = true) (k : PySem.W.keepIn K (.ref f) = true) : DK K x st f := ⟨a, _, fun_mk l c k⟩
/-- a method of the class -/
structure MK (K : PySem.W.Frag) (C : Addr) (m qual : Str) (st : Stmt) (f : Addr) : Prop where
  me : Meth K C m f
  fn : ∃ fd, Fun K m qual st f fd
theorem mk_mk {K : PySem.W.Frag} {C : Addr} {m qual : Str} {st : Stmt} {f : Addr} {oc : Value} {od an : Option Addr} {osl : Array (Option Value)} {kV doc pm cdv ct : Value} (a : PySem.W.findIn K (.ref C) m = some (some (.ref f))) (i : PySem.W.isFn K (.ref f) = true)
    (l : K.lookup f = some ⟨oc, od, .func (PySem.W.fnOf m qual (defArgs st) (defBody st) (defScope st) .none kV doc pm an cdv ct), osl⟩) (c : PySem.W.codeIn K cdv qual = true) (k : PySem.W.keepIn K (.ref f) = true) : MK K C m qual st f := ⟨⟨a, i, k⟩, _, fun_mk l c k⟩
/-- the maker, with its default -/
structure IK (K : PySem.W.Frag) (C f : Addr) : Prop where
  me : Meth K C "__init__" f
  fn : ∃ fd, FunD K "__init__" "Tree.__init__" (defArgs sInit) (defBody sInit) (defScope sInit) [.bl false] [] f fd
theorem ik_mk {K : PySem.W.Frag} {C f D : Addr} {oc dc : Value} {od an dd : Option Addr} {osl dsl : Array (Option Value)} {kV doc pm cdv ct : Value} {n : Nat} (a : PySem.W.findIn K (.ref C) "__init__" = some (some (.ref f))) (i : PySem.W.isFn K (.ref f) = true)
    (l : K.lookup f = some ⟨oc, od, .func (PySem.W.fnOf "__init__" "Tree.__init__" (defArgs sInit) (defBody sInit) (defScope sInit) (.ref D) kV doc pm an cdv ct), osl⟩) (c : PySem.W.codeIn K cdv "Tree.__init__" = true) (k : PySem.W.keepIn K (.ref f) = true)
    (d : K.lookup D = some ⟨dc, dd, .seq #[.bool false] n, dsl⟩) : IK K C f :=
  ⟨⟨a, i, k⟩, _, ⟨oc, od, .ref D, kV, doc, pm, an, cdv, ct, osl, rfl, l, c, .inr ⟨by simp, D, _, [.bool false], n, rfl, d, rfl, .cons rfl .nil⟩, .inl rfl⟩, k⟩
theorem init_binds2 {K : PySem.W.Frag} {f : Addr} {fd : FuncData} (F : FunD K "__init__" "Tree.__init__" (defArgs sInit) (defBody sInit) (defScope sInit) [.bl false] [] f fd) : Binds K fd ["self", "rows", "handing"] [] := by
  obtain ⟨ds, v, b⟩ := F.binds1 (ps := ["self", "rows", "handing"]) 3 1 (by simp) rfl fun T kV doc pm an cdv ct us its hl hi => match us, its, hl, hi with | [_, _, _], [_], _, _ => ⟨_, rfl, rfl⟩
  cases v
  exact b
theorem init_binds1 {K : PySem.W.Frag} {f : Addr} {fd : FuncData} (F : FunD K "__init__" "Tree.__init__" (defArgs sInit) (defBody sInit) (defScope sInit) [.bl false] [] f fd) : Binds K fd ["self", "rows", "handing"] [.bool false] := by
  obtain ⟨ds, v, b⟩ := F.binds1 (ps := ["self", "rows", "handing"]) 2 0 (by simp) rfl fun T kV doc pm an cdv ct us its hl hi => match us, its, hl, hi with | [_, _], [_], _, _ => ⟨_, rfl, rfl⟩
  cases v with
  | cons a r =>
    cases r
    cases a
    exact b
/-- the facts of the top -/
structure Tops (P : Program) (w : World) (K : PySem.W.Frag) (mg : Str → Option Value) (C aL : Addr) (left : List (Key × V)) : Prop where
  tp : TP P w K mg aL left
  lv : ∀ H, Paired (PV K H) left leftD
  tc : TC K mg C
  ti : TI K C
  tn : TN K mg C
  ta : TA mg
theorem all_mk {P : Program} {w : World} {K : PySem.W.Frag} {h : Heap} {mg : Str → Option Value} {fa C aL e m i : Addr} {left : List (Key × V)} {f0 f1 f2 f3 f4 f5 f6 f7 f8 f9 f10 f11 f12 f13 f14 f15 f16 f17 f18 f19 f20 f21 f22 f23 f24 f25 f26 f27 f28 f29 : Addr} (X : K.In h) (G : h.Ns mainGlobals mg) (hfa : mg "law" = some (.ref fa)) (TT : Tops P w K mg C aL left)
    (D0 : DK K "is_integer" sIsInteger f0)
    (D1 : DK K "is_amount" sIsAmount f1)
    (D2 : DK K "divisor" sDivisor f2)
    (D3 : DK K "is_name" sIsName f3)
    (D4 : DK K "is_word" sIsWord f4)
    (D5 : DK K "is_endless" sIsEndless f5)
    (D6 : DK K "is_set" sIsSet f6)
    (D7 : DK K "may_have" sMayHave f7)
    (D8 : DK K "is_due" sIsDue f8)
    (D9 : DK K "is_dues" sIsDues f9)
    (D10 : DK K "is_group_row" sIsGroupRow f10)
    (D11 : DK K "may_stand" sMayStand f11)
    (D12 : DK K "_law_cell_at" sCellAt f12)
    (D13 : DK K "_law_mixed" sMixed f13)
    (D14 : DK K "_law_source" sSource f14)
    (D15 : DK K "_law_next" sNext f15)
    (D16 : DK K "_law_one" sOne f16)
    (D17 : DK K "_law_common" sCommon f17)
    (D18 : DK K "_law_fraction" sFraction f18)
    (D19 : DK K "_law_amount" sAmount f19)
    (D20 : DK K "_law_names" sNames2 f20)
    (D21 : DK K "_law_rows" sRows2 f21)
    (D22 : DK K "_law_leaves" sLeaves2 f22)
    (D23 : DK K "_law_words" sWords f23)
    (D24 : DK K "_law_value" sValue2 f24)
    (D25 : DK K "_law_full_rows" sFull f25)
    (D26 : DK K "_law_fully_told" sTold f26)
    (D27 : DK K "_law_is" sIs f27)
    (D28 : DK K "_law_other_rows" sOther f28)
    (D29 : DK K "law" sLaw f29)
    (DE : MK K C "__eq__" "Tree.__eq__" sTEq e) (DN : MK K C "names" "Tree.names" sTNames m) (DI : IK K C i) (OC : OwnCmp K C e) (mk : PySem.W.makesIn K C = true) (kc : PySem.W.keepIn K (.ref C) = true) :
    ∃ fd : FuncData, (∀ (s : Shared) (v : Value), BindsTo s fd ⟨[v], []⟩ [("_law_script", v)]) ∧ ∀ base : Heap, K.In base → base.Ns mainGlobals mg → FnOk P w K mg base CX0 9 fa fd ["_law_script"] (spLaw K) := by
  have e1 := hfa.symm.trans (PySem.W.mg_of X G D29.at_)
  cases e1
  obtain ⟨d0, F0⟩ := D0.fn
  obtain ⟨d1, F1⟩ := D1.fn
  obtain ⟨d2, F2⟩ := D2.fn
  obtain ⟨d3, F3⟩ := D3.fn
  obtain ⟨d4, F4⟩ := D4.fn
  obtain ⟨d5, F5⟩ := D5.fn
  obtain ⟨d6, F6⟩ := D6.fn
  obtain ⟨d7, F7⟩ := D7.fn
  obtain ⟨d8, F8⟩ := D8.fn
  obtain ⟨d9, F9⟩ := D9.fn
  obtain ⟨d10, F10⟩ := D10.fn
  obtain ⟨d11, F11⟩ := D11.fn
  obtain ⟨d12, F12⟩ := D12.fn
  obtain ⟨d13, F13⟩ := D13.fn
  obtain ⟨d14, F14⟩ := D14.fn
  obtain ⟨d15, F15⟩ := D15.fn
  obtain ⟨d16, F16⟩ := D16.fn
  obtain ⟨d17, F17⟩ := D17.fn
  obtain ⟨d18, F18⟩ := D18.fn
  obtain ⟨d19, F19⟩ := D19.fn
  obtain ⟨d20, F20⟩ := D20.fn
  obtain ⟨d21, F21⟩ := D21.fn
  obtain ⟨d22, F22⟩ := D22.fn
  obtain ⟨d23, F23⟩ := D23.fn
  obtain ⟨d24, F24⟩ := D24.fn
  obtain ⟨d25, F25⟩ := D25.fn
  obtain ⟨d26, F26⟩ := D26.fn
  obtain ⟨d27, F27⟩ := D27.fn
  obtain ⟨d28, F28⟩ := D28.fn
  obtain ⟨d29, F29⟩ := D29.fn
  obtain ⟨de, FEq⟩ := DE.fn
  obtain ⟨dn, FNa⟩ := DN.fn
  obtain ⟨di, FIn⟩ := DI.fn
  have T := TT.tp
  have TCl := TT.tc
  have TA1 := TT.ta
  have bE : Binds K de ["self", "other"] [] := FEq.binds fun _ _ _ _ _ _ us hl => match us, hl with | [_, _], _ => rfl
  have bN : Binds K dn ["self"] [] := FNa.binds fun _ _ _ _ _ _ us hl => match us, hl with | [_], _ => rfl
  have b0 : Binds K d0 ["thing"] [] := F0.binds fun _ _ _ _ _ _ us hl => match us, hl with | [_], _ => rfl
  have b1 : Binds K d1 ["thing"] [] := F1.binds fun _ _ _ _ _ _ us hl => match us, hl with | [_], _ => rfl
  have b2 : Binds K d2 ["one", "other"] [] := F2.binds fun _ _ _ _ _ _ us hl => match us, hl with | [_, _], _ => rfl
  have b3 : Binds K d3 ["thing"] [] := F3.binds fun _ _ _ _ _ _ us hl => match us, hl with | [_], _ => rfl
  have b4 : Binds K d4 ["thing"] [] := F4.binds fun _ _ _ _ _ _ us hl => match us, hl with | [_], _ => rfl
  have b5 : Binds K d5 ["thing"] [] := F5.binds fun _ _ _ _ _ _ us hl => match us, hl with | [_], _ => rfl
  have b6 : Binds K d6 ["thing"] [] := F6.binds fun _ _ _ _ _ _ us hl => match us, hl with | [_], _ => rfl
  have b7 : Binds K d7 ["word", "value"] [] := F7.binds fun _ _ _ _ _ _ us hl => match us, hl with | [_, _], _ => rfl
  have b8 : Binds K d8 ["thing"] [] := F8.binds fun _ _ _ _ _ _ us hl => match us, hl with | [_], _ => rfl
  have b9 : Binds K d9 ["thing"] [] := F9.binds fun _ _ _ _ _ _ us hl => match us, hl with | [_], _ => rfl
  have b10 : Binds K d10 ["thing"] [] := F10.binds fun _ _ _ _ _ _ us hl => match us, hl with | [_], _ => rfl
  have b11 : Binds K d11 ["tree", "row"] [] := F11.binds fun _ _ _ _ _ _ us hl => match us, hl with | [_, _], _ => rfl
  have b12 : Binds K d12 ["_law_script", "_law_k"] [] := F12.binds fun _ _ _ _ _ _ us hl => match us, hl with | [_, _], _ => rfl
  have b13 : Binds K d13 ["_law_cell", "_law_k"] [] := F13.binds fun _ _ _ _ _ _ us hl => match us, hl with | [_, _], _ => rfl
  have b14 : Binds K d14 ["_law_script", "_law_k"] [] := F14.binds fun _ _ _ _ _ _ us hl => match us, hl with | [_, _], _ => rfl
  have b15 : Binds K d15 ["_law_source_here", "_law_many"] [] := F15.binds fun _ _ _ _ _ _ us hl => match us, hl with | [_, _], _ => rfl
  have b16 : Binds K d16 ["_law_source_here", "_law_things"] [] := F16.binds fun _ _ _ _ _ _ us hl => match us, hl with | [_, _], _ => rfl
  have b17 : Binds K d17 ["_law_one_here", "_law_other"] [] := F17.binds fun _ _ _ _ _ _ us hl => match us, hl with | [_, _], _ => rfl
  have b18 : Binds K d18 ["_law_top", "_law_bottom"] [] := F18.binds fun _ _ _ _ _ _ us hl => match us, hl with | [_, _], _ => rfl
  have b19 : Binds K d19 ["_law_source_here"] [] := F19.binds fun _ _ _ _ _ _ us hl => match us, hl with | [_], _ => rfl
  have b20 : Binds K d20 ["_law_source_here", "_law_many"] [] := F20.binds fun _ _ _ _ _ _ us hl => match us, hl with | [_, _], _ => rfl
  have b21 : Binds K d21 ["_law_source_here", "_law_many", "_law_words_here"] [] := F21.binds fun _ _ _ _ _ _ us hl => match us, hl with | [_, _, _], _ => rfl
  have b22 : Binds K d22 ["_law_rows_here"] [] := F22.binds fun _ _ _ _ _ _ us hl => match us, hl with | [_], _ => rfl
  have b23 : Binds K d23 [] [] := F23.binds fun _ _ _ _ _ _ us hl => match us, hl with | [], _ => rfl
  have b24 : Binds K d24 ["_law_source_here", "_law_word"] [] := F24.binds fun _ _ _ _ _ _ us hl => match us, hl with | [_, _], _ => rfl
  have b25 : Binds K d25 ["_law_source_here", "_law_many"] [] := F25.binds fun _ _ _ _ _ _ us hl => match us, hl with | [_, _], _ => rfl
  have b26 : Binds K d26 ["_law_source_here", "_law_row"] [] := F26.binds fun _ _ _ _ _ _ us hl => match us, hl with | [_, _], _ => rfl
  have b27 : Binds K d27 ["_law_one_here", "_law_other", "_law_due"] [] := F27.binds fun _ _ _ _ _ _ us hl => match us, hl with | [_, _, _], _ => rfl
  have b28 : Binds K d28 ["_law_source_here", "_law_lines"] [] := F28.binds fun _ _ _ _ _ _ us hl => match us, hl with | [_, _], _ => rfl
  obtain ⟨oc, od, kV, doc, pm, an, cdv, ct, osl, rfl, lk, hcd⟩ := id F29.ex
  refine ⟨PySem.W.fnOf "law" "law" (defArgs sLaw) (defBody sLaw) (defScope sLaw) .none kV doc pm an cdv ct, fun s v => .of_eq rfl, fun base _ _ => ?_⟩
  have FE : FnOk P w K mg base CX0 1 e de ["self", "other"] (spTEq K C) := ok_teq FEq T TCl TT.ti
  have FN : FnOk P w K mg base CX0 1 m dn ["self"] (spTNames K C) := ok_tnames FNa TA1 TCl
  have c0 : Cal P w K mg base "is_integer" ["thing"] 1 spIsInteger f0 d0 := ⟨ok_isInteger F0 T, PySem.W.mg_of X G D0.at_, F0.kp, b0⟩
  have c2 : Cal P w K mg base "divisor" ["one", "other"] 1 spDivisor f2 d2 := ⟨ok_divisor F2 T, PySem.W.mg_of X G D2.at_, F2.kp, b2⟩
  have c1 : Cal P w K mg base "is_amount" ["thing"] 2 (spIsAmount K) f1 d1 := ⟨ok_isAmount F1 T c0 c2, PySem.W.mg_of X G D1.at_, F1.kp, b1⟩
  have c5 : Cal P w K mg base "is_endless" ["thing"] 1 (spIsEndless K) f5 d5 := ⟨ok_isEndless F5 T, PySem.W.mg_of X G D5.at_, F5.kp, b5⟩
  have c4 : Cal P w K mg base "is_word" ["thing"] 1 spIsWord f4 d4 := ⟨ok_isWord F4 T, PySem.W.mg_of X G D4.at_, F4.kp, b4⟩
  have c6 : Cal P w K mg base "is_set" ["thing"] 2 (spIsSet K) f6 d6 := ⟨ok_isSet F6 T c0, PySem.W.mg_of X G D6.at_, F6.kp, b6⟩
  have c7 : Cal P w K mg base "may_have" ["word", "value"] 3 (spMayHave K) f7 d7 := ⟨ok_mayHave F7 T c1 c0 c6 c5, PySem.W.mg_of X G D7.at_, F7.kp, b7⟩
  have c8 : Cal P w K mg base "is_due" ["thing"] 4 (spIsDue K) f8 d8 := ⟨ok_isDue F8 T c4 c7, PySem.W.mg_of X G D8.at_, F8.kp, b8⟩
  have c3 : Cal P w K mg base "is_name" ["thing"] 1 spIsName f3 d3 := ⟨ok_isName F3 T, PySem.W.mg_of X G D3.at_, F3.kp, b3⟩
  have c9 : Cal P w K mg base "is_dues" ["thing"] 5 (spIsDues K) f9 d9 := ⟨ok_isDues F9 T c8, PySem.W.mg_of X G D9.at_, F9.kp, b9⟩
  have c10 : Cal P w K mg base "is_group_row" ["thing"] 6 (spIsGroupRow K) f10 d10 := ⟨ok_isGroupRow F10 T c3 c9, PySem.W.mg_of X G D10.at_, F10.kp, b10⟩
  have c11 : Cal P w K mg base "may_stand" ["tree", "row"] 2 (spMayStand K C) f11 d11 := ⟨ok_mayStand F11 T TCl c5, PySem.W.mg_of X G D11.at_, F11.kp, b11⟩
  have c12 : Cal P w K mg base "_law_cell_at" ["_law_script", "_law_k"] 1 (spCellAt K) f12 d12 := ⟨ok_cellAt F12 TA1, PySem.W.mg_of X G D12.at_, F12.kp, b12⟩
  have c13 : Cal P w K mg base "_law_mixed" ["_law_cell", "_law_k"] 1 spMixed f13 d13 := ⟨ok_mixed F13 TA1, PySem.W.mg_of X G D13.at_, F13.kp, b13⟩
  have c15 : Cal P w K mg base "_law_next" ["_law_source_here", "_law_many"] 2 spNext f15 d15 := ⟨ok_next F15 TA1 c13, PySem.W.mg_of X G D15.at_, F15.kp, b15⟩
  have c14 : Cal P w K mg base "_law_source" ["_law_script", "_law_k"] 2 (spSource K) f14 d14 := ⟨ok_source F14 TA1 c13 c12, PySem.W.mg_of X G D14.at_, F14.kp, b14⟩
  have c16 : Cal P w K mg base "_law_one" ["_law_source_here", "_law_things"] 3 (spOne K) f16 d16 := ⟨ok_one F16 TA1 c15, PySem.W.mg_of X G D16.at_, F16.kp, b16⟩
  have c17 : Cal P w K mg base "_law_common" ["_law_one_here", "_law_other"] 1 spCommon f17 d17 := ⟨ok_common F17 TA1, PySem.W.mg_of X G D17.at_, F17.kp, b17⟩
  have c18 : Cal P w K mg base "_law_fraction" ["_law_top", "_law_bottom"] 2 spFraction f18 d18 := ⟨ok_fraction F18 TA1 c17, PySem.W.mg_of X G D18.at_, F18.kp, b18⟩
  have c19 : Cal P w K mg base "_law_amount" ["_law_source_here"] 3 spAmount f19 d19 := ⟨ok_amount F19 TA1 c15 c18, PySem.W.mg_of X G D19.at_, F19.kp, b19⟩
  have c23 : Cal P w K mg base "_law_words" [] 1 spWords f23 d23 := ⟨ok_words F23 , PySem.W.mg_of X G D23.at_, F23.kp, b23⟩
  have c20 : Cal P w K mg base "_law_names" ["_law_source_here", "_law_many"] 3 spNames2 f20 d20 := ⟨ok_names2 F20 TA1 c15, PySem.W.mg_of X G D20.at_, F20.kp, b20⟩
  have c24 : Cal P w K mg base "_law_value" ["_law_source_here", "_law_word"] 4 (spValue K) f24 d24 := ⟨ok_value F24 c15 c19 c16, PySem.W.mg_of X G D24.at_, F24.kp, b24⟩
  have c21 : Cal P w K mg base "_law_rows" ["_law_source_here", "_law_many", "_law_words_here"] 4 (spRows2 K) f21 d21 := ⟨ok_rows2 F21 TA1 c15 c20, PySem.W.mg_of X G D21.at_, F21.kp, b21⟩
  have c22 : Cal P w K mg base "_law_leaves" ["_law_rows_here"] 1 (spLeaves K) f22 d22 := ⟨ok_leaves F22 , PySem.W.mg_of X G D22.at_, F22.kp, b22⟩
  have c25 : Cal P w K mg base "_law_full_rows" ["_law_source_here", "_law_many"] 5 (spFull K) f25 d25 := ⟨ok_full F25 TA1 c15 c21 c22 c23 c24, PySem.W.mg_of X G D25.at_, F25.kp, b25⟩
  have c26 : Cal P w K mg base "_law_fully_told" ["_law_source_here", "_law_row"] 3 (spTold K) f26 d26 := ⟨ok_told F26 TA1 c15, PySem.W.mg_of X G D26.at_, F26.kp, b26⟩
  have c27 : Cal P w K mg base "_law_is" ["_law_one_here", "_law_other", "_law_due"] 3 (spIs K C) f27 d27 := ⟨ok_is F27 OC FE bE, PySem.W.mg_of X G D27.at_, F27.kp, b27⟩
  have c28 : Cal P w K mg base "_law_other_rows" ["_law_source_here", "_law_lines"] 3 (spOther K) f28 d28 := ⟨ok_other F28 TA1 c15, PySem.W.mg_of X G D28.at_, F28.kp, b28⟩
  have FI : FnOk P w K mg base CX0 7 i di ["self", "rows", "handing"] (spInit K C) := ok_init FIn T TCl TT.lv c10 c11
  exact ok_law F29 TA1 TCl TT.tn ⟨mk, DI.me.at_, DI.me.fn, kc⟩ DN.me FI (init_binds2 FIn) (init_binds1 FIn) FN bN c14 c15 c25 c26 c27 c28 c16
theorem walk {l : PySem.W.OpenLaw} {q : Program} {loose : List Str} {XP : (Str → Option Value) → Heap → Prop} {YP : World → Heap → Prop} {d : DefRec} {K : Params → PySem.W.Frag} (hn : l.most = some 63) (hdf : d.params.defaults = [])
    (hY : ∀ (w : World) (h : Heap), YP w h → (K w.params).In h)
    (F : ∀ (w : World) (mg : Str → Option Value) (fa : Addr) (h : Heap), (K w.params).In h → h.Ns mainGlobals mg → mg d.name = some (.ref fa) →
      ∃ fd : FuncData, (∀ (s : Shared) (u : Value), BindsTo s fd ⟨[u], []⟩ [("_law_script", u)]) ∧ ∀ base : Heap, (K w.params).In base → base.Ns mainGlobals mg → FnOk l.prog w (K w.params) mg base CX0 9 fa fd ["_law_script"] (spLaw (K w.params))) :
    PySem.W.WalkO q loose XP YP l.row.toRowW d [] (fun f vs => PySem.call f vs) :=
  L2.walk_of (n := 63) (k := 9) (x := "_law_script") (CX := fun _ => CX0) (sp := fun w => spLaw (K w.params)) hn (by decide) hdf ⟨rfl, by decide, by decide⟩ hY F (fun _ _ a ns hl _ hS => ⟨a, ns, rfl, hS, hl, fun _ => rfl⟩) fun _ _ _ _ _ z => z
end Bd
end

section
namespace Bd
open PySem L2
theorem kit_no {K : PySem.W.Frag} {C : Addr} {T : String} {cd : PySem.ClassData} (c : PySem.W.clsIn K C = some cd) (t : PySem.W.typeIn K (.ref C) = some (.type "type")) (s : PySem.W.subIn K (.type T) (.ref C) = some false) : PySem.W.kitOne K (.type T) (.ref C) = some false := by
  unfold PySem.W.kitOne
  rw [if_neg (by intro z; cases (eq_of_beq z))]
  unfold PySem.W.kitCls
  simp only [c, t, s, Option.isSome_some, Bool.true_and]
  rw [if_pos (by rfl)]
def leftOf (a1 a2 a3 : Addr) : List (Key × V) := [((Sum.inr "min" : Key), (.ref a1 : V)), ((Sum.inr "low" : Key), (.ref a2 : V)), ((Sum.inr "max" : Key), (.str "endless" : V)), ((Sum.inr "quota" : Key), (.str "endless" : V)), ((Sum.inr "burst" : Key), (.ref a3 : V)), ((Sum.inr "tops" : Key), (.str "endless" : V)), ((Sum.inr "sets" : Key), (.non : V)), ((Sum.inr "alone" : Key), (.int 0 : V))]
/-- what the top has written -/
theorem tops_mk {P : Program} {w : World} {K : PySem.W.Frag} {h : Heap} {mg : Str → Option Value} {C aL a1 a2 a3 : Addr} (X : K.In h) (G : h.Ns mainGlobals mg)
    {tl te tg u3 u4 u6 u8 t1 t2 t3 t4 t5 t6 t7 t8 : Tok} {h1 h2 h3 h4 h5 h6 h7 h8 : Int} {cd : PySem.ClassData} {ep n1 n2 n3 : Nat} {x1 x2 x3 : Option Addr} {y1 y2 y3 : Array (Option Value)} {p1 p2 p3 p4 p5 p6 : Tok}
    (cz_len : PySem.W.nsIn K mainGlobals "len" = some none)
    (cz_int : PySem.W.nsIn K mainGlobals "int" = some none)
    (cz_bool : PySem.W.nsIn K mainGlobals "bool" = some none)
    (cz_str : PySem.W.nsIn K mainGlobals "str" = some none)
    (cz_tuple : PySem.W.nsIn K mainGlobals "tuple" = some none)
    (cz_list : PySem.W.nsIn K mainGlobals "list" = some none)
    (cz_dict : PySem.W.nsIn K mainGlobals "dict" = some none)
    (cz_all : PySem.W.nsIn K mainGlobals "all" = some none)
    (cz_enumerate : PySem.W.nsIn K mainGlobals "enumerate" = some none)
    (cz_isinstance : PySem.W.nsIn K mainGlobals "isinstance" = some none)
    (cz_range : PySem.W.nsIn K mainGlobals "range" = some none)
    (cz_abs : PySem.W.nsIn K mainGlobals "abs" = some none)
    (cz_max : PySem.W.nsIn K mainGlobals "max" = some none)
    (cz_min : PySem.W.nsIn K mainGlobals "min" = some none)
    (cgL : PySem.W.nsIn K mainGlobals "LONG" = some (some (.int 3000 tl)))
    (cgE : PySem.W.nsIn K mainGlobals "ENDLESS" = some (some (.str "endless" te)))
    (cgG : PySem.W.nsIn K mainGlobals "GREATEST_PROCESSOR" = some (some (.int 63 tg)))
    (cgO : PySem.W.nsIn K mainGlobals "LEFT_OUT" = some (some (.ref aL)))
    (ckO : K.lookup aL = some ⟨.type "dict", none, .dict #[⟨h1, .str "min" t1, .ref a1⟩, ⟨h2, .str "low" t2, .ref a2⟩, ⟨h3, .str "max" t3, .str "endless" u3⟩, ⟨h4, .str "quota" t4, .str "endless" u4⟩, ⟨h5, .str "burst" t5, .ref a3⟩, ⟨h6, .str "tops" t6, .str "endless" u6⟩, ⟨h7, .str "sets" t7, .none⟩, ⟨h8, .str "alone" t8, .int 0 u8⟩] ep, #[]⟩)
    (cl1 : K.lookup a1 = some ⟨.type "tuple", x1, .seq #[.int 0 p1, .int 1 p2] n1, y1⟩)
    (cl2 : K.lookup a2 = some ⟨.type "tuple", x2, .seq #[.int 0 p3, .int 1 p4] n2, y2⟩)
    (cl3 : K.lookup a3 = some ⟨.type "tuple", x3, .seq #[.int 0 p5, .int 1 p6] n3, y3⟩)
    (cgC : PySem.W.nsIn K mainGlobals "Tree" = some (some (.ref C)))
    (cpg : PySem.W.plainGet K C Str.empty = true)
    (chd : PySem.W.hasDictIn K C = true)
    (cpo : PySem.W.plainOver K C = true)
    (csa : PySem.W.findIn K (.ref C) "__setattr__" = some (some (.builtin "object.__setattr__")))
    (cnO : PySem.W.findIn K (.ref C) "order" = some none)
    (cnP : PySem.W.findIn K (.ref C) "parents" = some none)
    (cnK : PySem.W.findIn K (.ref C) "kids" = some none)
    (cnT : PySem.W.findIn K (.ref C) "table" = some none)
    (cnH : PySem.W.findIn K (.ref C) "hands" = some none)
    (ciA : PySem.W.findIn K (.ref C) "__class__" = some (some (.builtin "object.__class__")))
    (ciN : PySem.W.specialIn K (.builtin "object.__class__") "__get__" = some (some (.builtin "getset_descriptor.__get__")))
    (ciT : PySem.W.takesIn K (.builtin "object.__class__") = some true)
    (ciM : PySem.W.mroIn K C (.type "object") = some true)
    (ccd : PySem.W.clsIn K C = some cd)
    (cct : PySem.W.typeIn K (.ref C) = some (.type "type"))
    (csl : PySem.W.subIn K (.type "list") (.ref C) = some false)
    (csu : PySem.W.subIn K (.type "tuple") (.ref C) = some false)
    (css : PySem.W.subIn K (.type "str") (.ref C) = some false)
    (csi : PySem.W.subIn K (.type "int") (.ref C) = some false)
    (csn : PySem.W.subIn K (.type "NoneType") (.ref C) = some false)
    (clo : (aL == sysModules) = false)
    (ce1 : h1 = hashStr w "min")
    (ce2 : h2 = hashStr w "low")
    (ce3 : h3 = hashStr w "max")
    (ce4 : h4 = hashStr w "quota")
    (ce5 : h5 = hashStr w "burst")
    (ce6 : h6 = hashStr w "tops")
    (ce7 : h7 = hashStr w "sets")
    (ce8 : h8 = hashStr w "alone")
    : Tops P w K mg C aL (leftOf a1 a2 a3) := by
  have L : ∀ {a : Addr} {x : Option Addr} {n : Nat} {y : Array (Option Value)} {p q : Tok}, K.lookup a = some ⟨.type "tuple", x, .seq #[.int 0 p, .int 1 q] n, y⟩ → ∀ H, Dp K H (.ref a) (.tuple [.int 0, .int 1]) := fun e H =>
    .tup (xs := [V.int 0, V.int 1]) (.inr ⟨_, _, _, e, rfl, rfl, by show 2 ≤ sizeLine; decide, .cons ⟨_, rfl⟩ (.cons ⟨_, rfl⟩ .nil)⟩) (.cons (.int _) (.cons (.int _) .nil))
  refine ⟨⟨PySem.W.mg_none_of X G cz_len, PySem.W.mg_none_of X G cz_int, PySem.W.mg_none_of X G cz_bool, PySem.W.mg_none_of X G cz_str, PySem.W.mg_none_of X G cz_tuple, PySem.W.mg_none_of X G cz_list, PySem.W.mg_none_of X G cz_dict, PySem.W.mg_none_of X G cz_all, PySem.W.mg_none_of X G cz_enumerate, PySem.W.mg_none_of X G cz_isinstance, ⟨_, PySem.W.mg_of X G cgL⟩, ⟨_, PySem.W.mg_of X G cgE⟩, ⟨_, PySem.W.mg_of X G cgG⟩, PySem.W.mg_of X G cgO, ⟨clo, ?_, by show 8 ≤ 1000; decide⟩, rfl⟩, fun H => ?_,
    ⟨⟨cpg, chd, cpo, csa⟩, cnO, cnP, cnK, cnT, cnH, PySem.W.mg_of X G cgC⟩, ⟨ciA, ciN, ciT, ciM⟩, ⟨PySem.W.mg_none_of X G cz_max, PySem.W.mg_none_of X G cz_min, kit_no ccd cct csl, kit_no ccd cct csu, kit_no ccd cct css, kit_no ccd cct csi, kit_no ccd cct csn⟩,
    ⟨PySem.W.mg_none_of X G cz_len, PySem.W.mg_none_of X G cz_int, PySem.W.mg_none_of X G cz_range, PySem.W.mg_none_of X G cz_abs, PySem.W.mg_none_of X G cz_tuple, PySem.W.mg_none_of X G cz_list, PySem.W.mg_none_of X G cz_enumerate⟩⟩
  · refine ⟨[((Sum.inr "min" : Key), (.ref a1 : Value)), ((Sum.inr "low" : Key), (.ref a2 : Value)), ((Sum.inr "max" : Key), (.str "endless" u3 : Value)), ((Sum.inr "quota" : Key), (.str "endless" u4 : Value)), ((Sum.inr "burst" : Key), (.ref a3 : Value)), ((Sum.inr "tops" : Key), (.str "endless" u6 : Value)), ((Sum.inr "sets" : Key), (.none : Value)), ((Sum.inr "alone" : Key), (.int 0 u8 : Value))], .cons ⟨rfl, rfl⟩ (.cons ⟨rfl, rfl⟩ (.cons ⟨rfl, ⟨_, rfl⟩⟩ (.cons ⟨rfl, ⟨_, rfl⟩⟩ (.cons ⟨rfl, rfl⟩ (.cons ⟨rfl, ⟨_, rfl⟩⟩ (.cons ⟨rfl, rfl⟩ (.cons ⟨rfl, ⟨_, rfl⟩⟩ (.nil)))))))), fun h2 X2 => ⟨_, _, _, X2 _ _ ckO, ⟨rfl, rfl, rfl⟩, rfl, fun e he => ?_, .cons (by simp [mixKind, keyIs, Value.isStrOf]) rfl (.cons (by simp [mixKind, keyIs, Value.isStrOf]) rfl (.cons (by simp [mixKind, keyIs, Value.isStrOf]) rfl (.cons (by simp [mixKind, keyIs, Value.isStrOf]) rfl (.cons (by simp [mixKind, keyIs, Value.isStrOf]) rfl (.cons (by simp [mixKind, keyIs, Value.isStrOf]) rfl (.cons (by simp [mixKind, keyIs, Value.isStrOf]) rfl (.cons (by simp [mixKind, keyIs, Value.isStrOf]) rfl (.nil)))))))), ?_⟩⟩
    · simp only [List.mem_toArray, List.mem_cons, List.not_mem_nil, or_false] at he
      rcases he with rfl | rfl | rfl | rfl | rfl | rfl | rfl | rfl
      · exact ⟨Sum.inr "min", by simp [mixKind, keyIs, Value.isStrOf], ce1⟩
      · exact ⟨Sum.inr "low", by simp [mixKind, keyIs, Value.isStrOf], ce2⟩
      · exact ⟨Sum.inr "max", by simp [mixKind, keyIs, Value.isStrOf], ce3⟩
      · exact ⟨Sum.inr "quota", by simp [mixKind, keyIs, Value.isStrOf], ce4⟩
      · exact ⟨Sum.inr "burst", by simp [mixKind, keyIs, Value.isStrOf], ce5⟩
      · exact ⟨Sum.inr "tops", by simp [mixKind, keyIs, Value.isStrOf], ce6⟩
      · exact ⟨Sum.inr "sets", by simp [mixKind, keyIs, Value.isStrOf], ce7⟩
      · exact ⟨Sum.inr "alone", by simp [mixKind, keyIs, Value.isStrOf], ce8⟩
    · show ([Sum.inr "min", Sum.inr "low", Sum.inr "max", Sum.inr "quota", Sum.inr "burst", Sum.inr "tops", Sum.inr "sets", Sum.inr "alone"] : List Key).Nodup
      decide
  · exact .cons ⟨rfl, L cl1 H⟩ (.cons ⟨rfl, L cl2 H⟩ (.cons ⟨rfl, .str _⟩ (.cons ⟨rfl, .str _⟩ (.cons ⟨rfl, L cl3 H⟩ (.cons ⟨rfl, .str _⟩ (.cons ⟨rfl, .non⟩ (.cons ⟨rfl, .int _⟩ (.nil))))))))
end Bd
end
open PySem PySem.W PyProof.Rows
set_option maxRecDepth 100000 in
set_option maxHeartbeats 0 in
theorem PySem.Challenge.cw_branchdues_k03_equal_trees_holds : PySem.Challenge.rw_branchdues_k03_equal_trees.Holds := by
  w_on; o_law; k_head; (case hw => w_witness2)
  k_fill
  refine Bd.walk (l := PySem.Challenge.rw_branchdues_k03_equal_trees) rfl rfl (fun w h Y => PySem.W.kIn_of Y) ?F
  case F =>
    intro w mg fa h KX G hmg
    refine' Bd.all_mk KX G hmg (Bd.tops_mk KX G ?zzcz_len ?zzcz_int ?zzcz_bool ?zzcz_str ?zzcz_tuple ?zzcz_list ?zzcz_dict ?zzcz_all ?zzcz_enumerate ?zzcz_isinstance ?zzcz_range ?zzcz_abs ?zzcz_max ?zzcz_min ?zzcgL ?zzcgE ?zzcgG ?zzcgO ?zzckO ?zzcl1 ?zzcl2 ?zzcl3 ?zzcgC ?zzcpg ?zzchd ?zzcpo ?zzcsa ?zzcnO ?zzcnP ?zzcnK ?zzcnT ?zzcnH ?zzciA ?zzciN ?zzciT ?zzciM ?zzccd ?zzcct ?zzcsl ?zzcsu ?zzcss ?zzcsi ?zzcsn ?zzclo ?zzce1 ?zzce2 ?zzce3 ?zzce4 ?zzce5 ?zzce6 ?zzce7 ?zzce8) (Bd.dk_mk ?zza0 ?zzb0 ?zzd0 ?zzg0) (Bd.dk_mk ?zza1 ?zzb1 ?zzd1 ?zzg1) (Bd.dk_mk ?zza2 ?zzb2 ?zzd2 ?zzg2) (Bd.dk_mk ?zza3 ?zzb3 ?zzd3 ?zzg3) (Bd.dk_mk ?zza4 ?zzb4 ?zzd4 ?zzg4) (Bd.dk_mk ?zza5 ?zzb5 ?zzd5 ?zzg5) (Bd.dk_mk ?zza6 ?zzb6 ?zzd6 ?zzg6) (Bd.dk_mk ?zza7 ?zzb7 ?zzd7 ?zzg7) (Bd.dk_mk ?zza8 ?zzb8 ?zzd8 ?zzg8) (Bd.dk_mk ?zza9 ?zzb9 ?zzd9 ?zzg9) (Bd.dk_mk ?zza10 ?zzb10 ?zzd10 ?zzg10) (Bd.dk_mk ?zza11 ?zzb11 ?zzd11 ?zzg11) (Bd.dk_mk ?zza12 ?zzb12 ?zzd12 ?zzg12) (Bd.dk_mk ?zza13 ?zzb13 ?zzd13 ?zzg13) (Bd.dk_mk ?zza14 ?zzb14 ?zzd14 ?zzg14) (Bd.dk_mk ?zza15 ?zzb15 ?zzd15 ?zzg15) (Bd.dk_mk ?zza16 ?zzb16 ?zzd16 ?zzg16) (Bd.dk_mk ?zza17 ?zzb17 ?zzd17 ?zzg17) (Bd.dk_mk ?zza18 ?zzb18 ?zzd18 ?zzg18) (Bd.dk_mk ?zza19 ?zzb19 ?zzd19 ?zzg19) (Bd.dk_mk ?zza20 ?zzb20 ?zzd20 ?zzg20) (Bd.dk_mk ?zza21 ?zzb21 ?zzd21 ?zzg21) (Bd.dk_mk ?zza22 ?zzb22 ?zzd22 ?zzg22) (Bd.dk_mk ?zza23 ?zzb23 ?zzd23 ?zzg23) (Bd.dk_mk ?zza24 ?zzb24 ?zzd24 ?zzg24) (Bd.dk_mk ?zza25 ?zzb25 ?zzd25 ?zzg25) (Bd.dk_mk ?zza26 ?zzb26 ?zzd26 ?zzg26) (Bd.dk_mk ?zza27 ?zzb27 ?zzd27 ?zzg27) (Bd.dk_mk ?zza28 ?zzb28 ?zzd28 ?zzg28) (Bd.dk_mk ?zza29 ?zzb29 ?zzd29 ?zzg29) (Bd.mk_mk ?zzq1 ?zzq2 ?zzq3 ?zzq4 ?zzq5) (Bd.mk_mk ?zzr1 ?zzr2 ?zzr3 ?zzr4 ?zzr5) (Bd.ik_mk ?zzs1 ?zzs2 ?zzs3 ?zzs4 ?zzs5 ?zzs6) ⟨?zzo1, ?zzo2, ?zzo3, ?zzo4, ?zzo5, ?zzo6, ?zzo7, ?zzo8, ?zzo9, ?zzp1, ?zzp2, ?zzp3, ?zzp4, ?zzp5⟩ ?zzmk ?zzkc
    (case zzcz_len => k_is)
    (case zzcz_int => k_is)
    (case zzcz_bool => k_is)
    (case zzcz_str => k_is)
    (case zzcz_tuple => k_is)
    (case zzcz_list => k_is)
    (case zzcz_dict => k_is)
    (case zzcz_all => k_is)
    (case zzcz_enumerate => k_is)
    (case zzcz_isinstance => k_is)
    (case zzcz_range => k_is)
    (case zzcz_abs => k_is)
    (case zzcz_max => k_is)
    (case zzcz_min => k_is)
    (case zzcgL => k_is)
    (case zzcgE => k_is)
    (case zzcgG => k_is)
    (case zzcgO => k_is)
    (case zzckO => k_is)
    (case zzcl1 => k_is)
    (case zzcl2 => k_is)
    (case zzcl3 => k_is)
    (case zzcgC => k_is)
    (case zzcpg => k_is)
    (case zzchd => k_is)
    (case zzcpo => k_is)
    (case zzcsa => k_is)
    (case zzcnO => k_is)
    (case zzcnP => k_is)
    (case zzcnK => k_is)
    (case zzcnT => k_is)
    (case zzcnH => k_is)
    (case zzciA => k_is)
    (case zzciN => k_is)
    (case zzciT => k_is)
    (case zzciM => k_is)
    (case zzccd => k_is)
    (case zzcct => k_is)
    (case zzcsl => k_is)
    (case zzcsu => k_is)
    (case zzcss => k_is)
    (case zzcsi => k_is)
    (case zzcsn => k_is)
    (case zzclo => first | rfl | decide)
    (case zzce1 => first | rfl | decide)
    (case zzce2 => first | rfl | decide)
    (case zzce3 => first | rfl | decide)
    (case zzce4 => first | rfl | decide)
    (case zzce5 => first | rfl | decide)
    (case zzce6 => first | rfl | decide)
    (case zzce7 => first | rfl | decide)
    (case zzce8 => first | rfl | decide)
    (case zza0 => k_is)
    (case zzb0 => k_is)
    (case zzd0 => k_is)
    (case zzg0 => k_is)
    (case zza1 => k_is)
    (case zzb1 => k_is)
    (case zzd1 => k_is)
    (case zzg1 => k_is)
    (case zza2 => k_is)
    (case zzb2 => k_is)
    (case zzd2 => k_is)
    (case zzg2 => k_is)
    (case zza3 => k_is)
    (case zzb3 => k_is)
    (case zzd3 => k_is)
    (case zzg3 => k_is)
    (case zza4 => k_is)
    (case zzb4 => k_is)
    (case zzd4 => k_is)
    (case zzg4 => k_is)
    (case zza5 => k_is)
    (case zzb5 => k_is)
    (case zzd5 => k_is)
    (case zzg5 => k_is)
    (case zza6 => k_is)
    (case zzb6 => k_is)
    (case zzd6 => k_is)
    (case zzg6 => k_is)
    (case zza7 => k_is)
    (case zzb7 => k_is)
    (case zzd7 => k_is)
    (case zzg7 => k_is)
    (case zza8 => k_is)
    (case zzb8 => k_is)
    (case zzd8 => k_is)
    (case zzg8 => k_is)
    (case zza9 => k_is)
    (case zzb9 => k_is)
    (case zzd9 => k_is)
    (case zzg9 => k_is)
    (case zza10 => k_is)
    (case zzb10 => k_is)
    (case zzd10 => k_is)
    (case zzg10 => k_is)
    (case zza11 => k_is)
    (case zzb11 => k_is)
    (case zzd11 => k_is)
    (case zzg11 => k_is)
    (case zza12 => k_is)
    (case zzb12 => k_is)
    (case zzd12 => k_is)
    (case zzg12 => k_is)
    (case zza13 => k_is)
    (case zzb13 => k_is)
    (case zzd13 => k_is)
    (case zzg13 => k_is)
    (case zza14 => k_is)
    (case zzb14 => k_is)
    (case zzd14 => k_is)
    (case zzg14 => k_is)
    (case zza15 => k_is)
    (case zzb15 => k_is)
    (case zzd15 => k_is)
    (case zzg15 => k_is)
    (case zza16 => k_is)
    (case zzb16 => k_is)
    (case zzd16 => k_is)
    (case zzg16 => k_is)
    (case zza17 => k_is)
    (case zzb17 => k_is)
    (case zzd17 => k_is)
    (case zzg17 => k_is)
    (case zza18 => k_is)
    (case zzb18 => k_is)
    (case zzd18 => k_is)
    (case zzg18 => k_is)
    (case zza19 => k_is)
    (case zzb19 => k_is)
    (case zzd19 => k_is)
    (case zzg19 => k_is)
    (case zza20 => k_is)
    (case zzb20 => k_is)
    (case zzd20 => k_is)
    (case zzg20 => k_is)
    (case zza21 => k_is)
    (case zzb21 => k_is)
    (case zzd21 => k_is)
    (case zzg21 => k_is)
    (case zza22 => k_is)
    (case zzb22 => k_is)
    (case zzd22 => k_is)
    (case zzg22 => k_is)
    (case zza23 => k_is)
    (case zzb23 => k_is)
    (case zzd23 => k_is)
    (case zzg23 => k_is)
    (case zza24 => k_is)
    (case zzb24 => k_is)
    (case zzd24 => k_is)
    (case zzg24 => k_is)
    (case zza25 => k_is)
    (case zzb25 => k_is)
    (case zzd25 => k_is)
    (case zzg25 => k_is)
    (case zza26 => k_is)
    (case zzb26 => k_is)
    (case zzd26 => k_is)
    (case zzg26 => k_is)
    (case zza27 => k_is)
    (case zzb27 => k_is)
    (case zzd27 => k_is)
    (case zzg27 => k_is)
    (case zza28 => k_is)
    (case zzb28 => k_is)
    (case zzd28 => k_is)
    (case zzg28 => k_is)
    (case zza29 => k_is)
    (case zzb29 => k_is)
    (case zzd29 => k_is)
    (case zzg29 => k_is)
    (case zzq1 => k_is)
    (case zzq2 => k_is)
    (case zzq3 => k_is)
    (case zzq4 => k_is)
    (case zzq5 => k_is)
    (case zzr1 => k_is)
    (case zzr2 => k_is)
    (case zzr3 => k_is)
    (case zzr4 => k_is)
    (case zzr5 => k_is)
    (case zzs1 => k_is)
    (case zzs2 => k_is)
    (case zzs3 => k_is)
    (case zzs4 => k_is)
    (case zzs5 => k_is)
    (case zzs6 => k_is)
    (case zzo1 => k_is)
    (case zzo2 => k_is)
    (case zzo3 => k_is)
    (case zzo4 => k_is)
    (case zzo5 => k_is)
    (case zzo6 => k_is)
    (case zzo7 => k_is)
    (case zzo8 => k_is)
    (case zzo9 => k_is)
    (case zzp1 => k_is)
    (case zzp2 => k_is)
    (case zzp3 => k_is)
    (case zzp4 => k_is)
    (case zzp5 => k_is)
    (case zzmk => k_is)
    (case zzkc => k_is)
