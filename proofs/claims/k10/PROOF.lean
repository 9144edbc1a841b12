import PyProof.Rows.All
import Wide.All
import OpenK.AllK
import Wide.FinOn
import HandS.ForMost
import HandS.Wide
import HandS.WideBits
import HandS.IsInst
import HandS.Flow
import HandS.Defaults
import HandS.OwnEq
import HandS.MakeKw
import HandS.DictEq
import HandS.Deep
import PySem.Challenge.RW_branchdues_k10_whole_wide_and_deep
import KE.KDictPairs
import HandS.DeepEq
import HandS.Iter
import HandS.Walk
import KE.KDictZip
import KE.KItemsList
import HandS.ListItems
import HandS.ForExc
import HandS.WordsExc
import HandS.SlotsOwn
import PyProof.InstNe
import PyProof.Rows.EqNone
import HandS.Evl
import HandS.DictComp
import HandS.SetFor
import HandS.Conv
import HandS.Rev
import KE.KEqDict
import HandS.WordsDict
import PyProof.P3In
import HandS.Style
import HandS.More
import PyProof.Rows.StrMeet
import HandS.TupLe
set_option Elab.async false
set_option linter.unusedVariables false
set_option linter.unusedSectionVars false
set_option maxRecDepth 100000
set_option maxHeartbeats 1000000
section
namespace Bd
open PySem L2
def top (i : Nat) : Stmt := PySem.Challenge.pw_branchdues_k10_whole_wide_and_deep.main.body.getD i (.Pass ⟨0, 0, 0, 0⟩)
/-- a def as its callers see it -/
structure Cal (P : Program) (w : World) (K : PySem.W.Frag) (mg : Str → Option Value) (base : Heap) (x : Str) (ps : List Str) (k : Nat) (sp : Sp) (f : Addr) (fd : FuncData) : Prop where
  ok : FnOk P w K mg base CX0 k f fd ps sp
  mg : mg x = some (.ref f)
  kp : PySem.W.keepIn K (.ref f) = true
  bd : Binds K fd ps []
/-- all but p stays as it was -/
def Kept (p : Addr) (H H' : Hp) : Prop := ∀ b o, b ≠ p → H b = some o → H' b = some o
theorem Kept.refl (p : Addr) (H : Hp) : Kept p H H := fun _ _ _ h => h
theorem Kept.trans {p : Addr} {H H1 H2 : Hp} (a : Kept p H H1) (b : Kept p H1 H2) : Kept p H H2 := fun c o h e => b c o h (a c o h e)
theorem Kept.of {p : Addr} {H H1 : Hp} (a : Same H H1) : Kept p H H1 := fun c o _ e => a c o e
theorem Kept.upd {p : Addr} {H H1 : Hp} (a : Kept p H H1) (o : HO) : Kept p H (L2.upd H1 p o) := fun c u h e => by rw [upd_ne h]; exact a c u h e
theorem Kept.new {p q : Addr} {H H1 : Hp} (a : Kept p H H1) (h : H1 q = none) (o : HO) : Kept p H (L2.upd H1 q o) := fun c u hc e => by
  have := a c u hc e
  rw [upd_ne (ne_of_none this h)]; exact this
theorem Kept.free {p l : Addr} {H H' : Hp} (e : Kept p H H') (hl : l ≠ p) (h : H' l = none) : H l = none := by
  cases q : H l with
  | none => rfl
  | some o => rw [e l o hl q] at h; cases h
theorem Same.new {H H1 : Hp} {q : Addr} (a : Same H H1) (h : H1 q = none) (o : HO) : Same H (upd H1 q o) := fun c u e => by
  have := a c u e
  rw [upd_ne (ne_of_none this h)]; exact this
theorem Kept.seq {K : PySem.W.Frag} {p : Addr} {H H' : Hp} {a : Addr} {xs : List V} (e : Kept p H H') (hp : a ≠ p) (h : SqL K H a xs) : SqL K H' a xs := by
  rcases h with (h | ⟨o, h⟩) | h
  · exact .inl (.inl (e _ _ hp h))
  · exact .inl (.inr ⟨o, e _ _ hp h⟩)
  · exact .inr h
theorem fm0 {x m : Int} (h : 0 < m) : 0 ≤ x.fmod m := Int.fmod_nonneg_of_pos x h
theorem fm1 {x m : Int} (h : 0 < m) : x.fmod m < m := Int.fmod_lt_of_pos x h
theorem fm_in {x m : Int} (h : 0 < m) (h2 : m ≤ 2 ^ 63) : -(2 ^ 64) < x.fmod m ∧ x.fmod m < 2 ^ 64 := by
  have := fm0 (x := x) h
  have := fm1 (x := x) h
  omega
theorem fm_nat {x : Int} {m : Nat} (h : 0 < m) : ∃ v : Nat, x.fmod (m : Int) = (v : Int) ∧ v < m := by
  have h1 := fm0 (x := x) (m := (m : Int)) (by omega)
  have h2 := fm1 (x := x) (m := (m : Int)) (by omega)
  exact ⟨(x.fmod (m : Int)).toNat, by omega, by omega⟩
theorem small {n : Nat} (h : n ≤ 1000) : n ≤ sizeLine := Nat.le_of_lt (small1000 h)
/-- an amount as the law draws it: in lowest terms, not too long -/
def AmtOk (n d : Nat) : Prop := 0 < d ∧ Nat.gcd n d = 1 ∧ n ≤ 10 ^ 13 ∧ d ≤ 10 ^ 13

/-- what the text needs of the top, one built-in name each -/
structure TA (mg : Str → Option Value) : Prop where
  z_len : mg "len" = none
  z_int : mg "int" = none
  z_range : mg "range" = none
  z_abs : mg "abs" = none
  z_tuple : mg "tuple" = none
  z_list : mg "list" = none
  z_enumerate : mg "enumerate" = none
abbrev sCellAt : Stmt := (top 56)
theorem scCellAt : FnScope ["_law_script", "_law_k"] ["_law_script", "_law_k"] (defScope sCellAt) := ⟨rfl, rfl, rfl, by decide +kernel, rfl, by decide +kernel, by decide +kernel⟩
abbrev sMixed : Stmt := (top 57)
theorem scMixed : FnScope ["_law_cell", "_law_k", "_law_low"] ["_law_cell", "_law_k"] (defScope sMixed) := ⟨rfl, rfl, rfl, by decide +kernel, rfl, by decide +kernel, by decide +kernel⟩
abbrev sSource : Stmt := (top 58)
theorem scSource : FnScope ["_law_script", "_law_k", "_law_cell"] ["_law_script", "_law_k"] (defScope sSource) := ⟨rfl, rfl, rfl, by decide +kernel, rfl, by decide +kernel, by decide +kernel⟩
abbrev sNext : Stmt := (top 59)
theorem scNext : FnScope ["_law_source_here", "_law_many", "_law_found"] ["_law_source_here", "_law_many"] (defScope sNext) := ⟨rfl, rfl, rfl, by decide +kernel, rfl, by decide +kernel, by decide +kernel⟩
abbrev sOne : Stmt := (top 60)
theorem scOne : FnScope ["_law_source_here", "_law_things"] ["_law_source_here", "_law_things"] (defScope sOne) := ⟨rfl, rfl, rfl, by decide +kernel, rfl, by decide +kernel, by decide +kernel⟩

/-- a source of draws -/
def Src (H : Hp) (p : Addr) : Prop := ∃ x y z : Int, H p = some (.lst [.int x, .int y, .int z])
def spCellAt (K : PySem.W.Frag) : Sp := fun vs H Q _ => ∃ (a : Addr) (ns : List Int) (k : Nat), vs = [.ref a, .int (k : Int)] ∧ SqL K H a (ns.map V.int) ∧ ∀ v : Int, Q (.int v) H
def spMixed : Sp := fun vs H Q _ => ∃ (c k : Int), vs = [.int c, .int k] ∧ ∀ v : Int, 0 ≤ v → Q (.int v) H
def spSource (K : PySem.W.Frag) : Sp := fun vs H Q _ => ∃ (a : Addr) (ns : List Int) (k : Nat), vs = [.ref a, .int (k : Int)] ∧ SqL K H a (ns.map V.int) ∧ ∀ p H', H p = none → Same H H' → Src H' p → Q (.ref p) H'
def spNext : Sp := fun vs H Q _ => ∃ (p : Addr) (m : Nat), vs = [.ref p, .int (m : Int)] ∧ Src H p ∧ 0 < m ∧ m ≤ 1000000 ∧ ∀ (v : Nat) H', v < m → Src H' p → Kept p H H' → Q (.int (v : Int)) H'
/-- one of some things: a list or a tuple that is not the source -/
def spOne (K : PySem.W.Frag) : Sp := fun vs H Q _ => ∃ (p a : Addr) (xs : List V), vs = [.ref p, .ref a] ∧ Src H p ∧ SqL K H a xs ∧ a ≠ p ∧ xs ≠ [] ∧ xs.length ≤ 1000 ∧ ∀ (v : V) H', v ∈ xs → Src H' p → Kept p H H' → Q v H'
section
variable {P : Program} {w : World} {K : PySem.W.Frag} {mg : Str → Option Value} {base : Heap}
theorem cell_at {ns : List Int} {k : Nat} (h : k < ns.length) : ∃ v : Int, atI (ns.map V.int) (k : Int) = some (.int v) :=
  ⟨ns[k], atI_nat (by rw [List.getElem?_map, List.getElem?_eq_getElem h]; rfl)⟩
theorem ok_cellAt {f : Addr} {fd : FuncData} (F : Fun K "_law_cell_at" "_law_cell_at" sCellAt f fd) (T : TA mg) : FnOk P w K mg base CX0 1 f fd ["_law_script", "_law_k"] (spCellAt K) := by
  refine F.ok scCellAt (fun vs H Q E h => ?_) (fun cdv A outer s H vs Q E hr h => ?_)
  · obtain ⟨a, ns, k, rfl, _⟩ := h
    rfl
  obtain ⟨a, ns, k, rfl, hS, q⟩ := h
  refine ⟨_, (pss_cons (ps_if (pt_cmpR op_lt (pv 1) (pe_callB call_len_seq (by rfl) T.z_len PySem.boot_len (pa_cons (pv 0) pa_nil)) (nomark _)) (pss_one (ps_ret (pe_ix ix_list (pv 0) (pv 1) (fun _ _ => rfl)))) pss_nil) (pss_one (ps_ret pe_int))), ?_⟩
  refine ⟨_, rfl, _, rfl, a, _, rfl, .inl hS, _, _, rfl, rfl, _, rfl, ?_⟩
  refine ite2 (fun c => ?_) (fun c => ?_)
  · have c' := of_decide_eq_true c
    rw [List.length_map] at c'
    obtain ⟨v, hv⟩ := cell_at (ns := ns) (k := k) (by omega)
    refine ⟨_, rfl, _, rfl, a, _, _, _, rfl, rfl, hS, hv, ?_⟩
    exact q v
  · exact q 0

theorem ok_mixed {f : Addr} {fd : FuncData} (F : Fun K "_law_mixed" "_law_mixed" sMixed f fd) (T : TA mg) : FnOk P w K mg base CX0 1 f fd ["_law_cell", "_law_k"] spMixed := by
  refine F.ok scMixed (fun vs H Q E h => ?_) (fun cdv A outer s H vs Q E hr h => ?_)
  · obtain ⟨c, k, rfl, _⟩ := h
    rfl
  obtain ⟨c, k, rfl, q⟩ := h
  refine ⟨_, (pss_cons (ps_set (i := 2) scMixed.nd rfl (Or.inl rfl) (pe_op op_add (pe_op op_modN (pe_callTy call_int1 (by rfl) T.z_int (by decide +kernel) (pa_cons (pv 0) pa_nil)) pe_int) (pe_op op_mul (pe_op op_fdivW (pv 0) pe_int) pe_int))) (pss_cons (ps_set (i := 2) scMixed.nd rfl (Or.inl rfl) (pe_op op_modN (pe_callTy call_int1 (by rfl) T.z_int (by decide +kernel) (pa_cons (pe_op op_mul (pe_op op_add (pe_op op_add (pv 2) (pe_op op_mul pe_int (pv 1))) pe_int) pe_int) pa_nil)) pe_int)) (pss_cons (ps_set (i := 2) scMixed.nd rfl (Or.inl rfl) (pe_op op_modN (pe_callTy call_int1 (by rfl) T.z_int (by decide +kernel) (pa_cons (pe_op op_mul (pv 2) (pe_op op_add (pe_op op_add (pe_op op_fdivN (pv 2) pe_int) pe_int) (pv 1))) pa_nil)) pe_int)) (pss_one (ps_ret (pe_op op_modN (pe_callTy call_int1 (by rfl) T.z_int (by decide +kernel) (pa_cons (pe_op op_mul (pv 2) (pe_op op_add (pe_op op_fdivN (pv 2) pe_int) pe_int)) pa_nil)) pe_int)))))), ?_⟩
  refine ⟨_, rfl, .inl ⟨_, rfl, _, _, rfl, rfl, by show (2147483629 : Int) ≠ 0; decide, _, rfl, _, _, rfl, rfl, ⟨by decide, by decide +kernel⟩, _, _, rfl, rfl, .inr ⟨by decide, by decide⟩, _, _, rfl, rfl, ?_⟩⟩
  refine ⟨_, rfl, _, rfl, _, _, rfl, rfl, .inl ⟨by decide, by decide⟩, _, _, rfl, rfl, _, _, rfl, rfl, _, _, rfl, rfl, .inr ⟨by decide, by decide⟩, .inl ⟨_, rfl, _, _, rfl, rfl, by show (2147483629 : Int) ≠ 0; decide, ?_⟩⟩
  refine ⟨_, rfl, _, rfl, _, _, rfl, rfl, ⟨by decide, by decide⟩, _, _, rfl, rfl, _, rfl, _, _, rfl, rfl, _, _, rfl, rfl, .inl (fm_in (by decide) (by decide)), .inl ⟨_, rfl, _, _, rfl, rfl, by show (2147483587 : Int) ≠ 0; decide, ?_⟩⟩
  refine ⟨_, rfl, _, rfl, _, _, rfl, rfl, ⟨by decide, by decide⟩, _, _, rfl, rfl, _, _, rfl, rfl, .inl (fm_in (by decide) (by decide)), .inl ⟨_, rfl, _, _, rfl, rfl, by show (2147483563 : Int) ≠ 0; decide, ?_⟩⟩
  exact q _ (fm0 (by decide))

theorem ok_next {f g : Addr} {fd gd : FuncData} (F : Fun K "_law_next" "_law_next" sNext f fd) (T : TA mg) (cM : Cal P w K mg base "_law_mixed" ["_law_cell", "_law_k"] 1 spMixed g gd) : FnOk P w K mg base CX0 2 f fd ["_law_source_here", "_law_many"] spNext := by
  refine F.ok scNext (fun vs H Q E h => ?_) (fun cdv A outer s H vs Q E hr h => ?_)
  · obtain ⟨p, m, rfl, _⟩ := h
    rfl
  obtain ⟨p, m, rfl, ⟨x, y, z, hp⟩, h0, h1, q⟩ := h
  refine ⟨_, (pss_cons (ps_if (pt_cmpR op_ge (pe_ix ix_list (pv 0) pe_int (fun _ _ => rfl)) (pe_op op_pow pe_int pe_int) (nomark _)) (pss_cons (ps_set (i := 2) scNext.nd rfl (Or.inl rfl) (pe_op op_modN (pe_callTy call_int1 (by rfl) T.z_int (by decide +kernel) (pa_cons (pe_ix ix_list (pv 0) pe_int (fun _ _ => rfl)) pa_nil)) (pv 1))) (pss_cons (ps_asg (pe_op op_fdivN (pe_ix ix_list (pv 0) pe_int (fun _ _ => rfl)) (pv 1)) (pg_sub (pv 0) pe_int set_list)) (pss_one (ps_ret (pv 2))))) pss_nil) (pss_cons (ps_asg (pe_op op_add (pe_ix ix_list (pv 0) pe_int (fun _ _ => rfl)) pe_int) (pg_sub (pv 0) pe_int set_list)) (pss_one (ps_ret (pe_op op_modN (pe_callTy call_int1 (by rfl) T.z_int (by decide +kernel) (pa_cons (pe_call cM.ok (hr.mono (by decide)) rfl cM.mg cM.kp cM.bd .nil pass0 (pa_cons (pe_ix ix_list (pv 0) pe_int (fun _ _ => rfl)) (pa_cons (pe_ix ix_list (pv 0) pe_int (fun _ _ => rfl)) pa_nil))) pa_nil)) (pv 1)))))), ?_⟩
  refine ⟨_, rfl, p, _, _, _, rfl, rfl, SqL.of hp, rfl, _, _, rfl, rfl, ⟨by decide, by decide, by decide⟩, _, _, rfl, rfl, _, rfl, ?_⟩
  refine ite2 (fun c => ?_) (fun c => ?_)
  · obtain ⟨v, ev, hv⟩ := fm_nat (x := x) (m := m) h0
    refine ⟨_, rfl, p, _, _, _, rfl, rfl, SqL.of hp, rfl, .inl ⟨_, rfl, _, rfl, _, _, rfl, rfl, by show (m : Int) ≠ 0; omega, ?_⟩⟩
    refine ⟨_, rfl, p, _, _, _, rfl, rfl, SqL.of hp, rfl, _, rfl, _, _, rfl, rfl, ⟨by show (m : Int) ≠ 0; omega, by omega⟩, _, rfl, p, _, _, _, rfl, rfl, hp, rfl, ?_⟩
    refine ⟨_, rfl, ?_⟩
    show Q (.int (x.fmod (m : Int))) _
    rw [ev]
    exact q v _ hv ⟨_, _, _, upd_same⟩ ((Kept.refl p H).upd _)
  · refine ⟨_, rfl, p, _, _, _, rfl, rfl, SqL.of hp, rfl, _, _, rfl, rfl, _, rfl, p, _, _, _, rfl, rfl, hp, rfl, ?_⟩
    refine ⟨_, rfl, p, _, _, _, rfl, rfl, SqL.of upd_same, rfl, _, rfl, p, _, _, _, rfl, rfl, SqL.of upd_same, rfl, _, _, rfl, fun u hu => .inl ⟨_, rfl, _, rfl, _, _, rfl, rfl, by show (m : Int) ≠ 0; omega, ?_⟩⟩
    obtain ⟨v, ev, hv⟩ := fm_nat (x := u) (m := m) h0
    show Q (.int (u.fmod (m : Int))) _
    rw [ev]
    exact q v _ hv ⟨_, _, _, upd_same⟩ ((Kept.refl p H).upd _)

theorem ok_source {f g e : Addr} {fd gd ed : FuncData} (F : Fun K "_law_source" "_law_source" sSource f fd) (T : TA mg) (cM : Cal P w K mg base "_law_mixed" ["_law_cell", "_law_k"] 1 spMixed g gd) (cC : Cal P w K mg base "_law_cell_at" ["_law_script", "_law_k"] 1 (spCellAt K) e ed) : FnOk P w K mg base CX0 2 f fd ["_law_script", "_law_k"] (spSource K) := by
  refine F.ok scSource (fun vs H Q E h => ?_) (fun cdv A outer s H vs Q E hr h => ?_)
  · obtain ⟨a, ns, k, rfl, _⟩ := h
    rfl
  obtain ⟨a, ns, k, rfl, hS, q⟩ := h
  refine ⟨_, (pss_cons (ps_if (pt_cmpR op_lt (pv 1) (pe_callB call_len_seq (by rfl) T.z_len PySem.boot_len (pa_cons (pv 0) pa_nil)) (nomark _)) (pss_one (ps_ret (pe_lst (pa_cons (pe_ix ix_list (pv 0) (pv 1) (fun _ _ => rfl)) (pa_cons (pe_ix ix_list (pv 0) (pv 1) (fun _ _ => rfl)) (pa_cons pe_int pa_nil)))))) pss_nil) (pss_cons (ps_set (i := 2) scSource.nd rfl (Or.inl rfl) (pe_call cM.ok (hr.mono (by decide)) rfl cM.mg cM.kp cM.bd .nil pass0 (pa_cons (pe_call cC.ok (hr.mono (by decide)) rfl cC.mg cC.kp cC.bd .nil pass0 (pa_cons (pv 0) (pa_cons pe_int pa_nil))) (pa_cons (pe_op op_add pe_int (pv 1)) pa_nil)))) (pss_one (ps_ret (pe_lst (pa_cons (pv 2) (pa_cons (pv 2) (pa_cons pe_int pa_nil)))))))), ?_⟩
  refine ⟨_, rfl, _, rfl, a, _, rfl, .inl hS, _, _, rfl, rfl, _, rfl, ?_⟩
  refine ite2 (fun c => ?_) (fun c => ?_)
  · have c' := of_decide_eq_true c
    rw [List.length_map] at c'
    obtain ⟨v, hv⟩ := cell_at (ns := ns) (k := k) (by omega)
    refine ⟨_, rfl, _, rfl, a, _, _, _, rfl, rfl, hS, hv, _, rfl, _, rfl, a, _, _, _, rfl, rfl, hS, hv, by show 3 ≤ sizeLine; decide, fun p hp => ?_⟩
    exact q p _ hp (Same.new (Same.refl H) hp _) ⟨_, _, _, upd_same⟩
  · refine ⟨_, rfl, a, ns, 0, rfl, hS, fun v => ?_⟩
    refine ⟨_, rfl, _, _, rfl, rfl, _, _, rfl, fun u hu => ?_⟩
    refine ⟨_, rfl, _, rfl, by show 3 ≤ sizeLine; decide, fun p hp => ?_⟩
    exact q p _ hp (Same.new (Same.refl H) hp _) ⟨_, _, _, upd_same⟩

theorem ok_one {f g : Addr} {fd gd : FuncData} (F : Fun K "_law_one" "_law_one" sOne f fd) (T : TA mg) (cN : Cal P w K mg base "_law_next" ["_law_source_here", "_law_many"] 2 spNext g gd) : FnOk P w K mg base CX0 3 f fd ["_law_source_here", "_law_things"] (spOne K) := by
  refine F.ok scOne (fun vs H Q E h => ?_) (fun cdv A outer s H vs Q E hr h => ?_)
  · obtain ⟨p, a, xs, rfl, _⟩ := h
    rfl
  obtain ⟨p, a, xs, rfl, hp, hS, hne, h0, h1, q⟩ := h
  refine ⟨_, (pss_one (ps_ret (pe_ix ix_list (pv 1) (pe_call cN.ok (hr.mono (by decide)) rfl cN.mg cN.kp cN.bd .nil pass0 (pa_cons (pv 0) (pa_cons (pe_callB call_len_seq (by rfl) T.z_len PySem.boot_len (pa_cons (pv 1) pa_nil)) pa_nil))) (fun _ _ => rfl)))), ?_⟩
  refine ⟨_, rfl, _, rfl, _, rfl, a, _, rfl, .inl hS, p, xs.length, rfl, hp, List.length_pos_iff.mpr h0, by omega, fun v H1 hv hp1 k1 => ?_⟩
  refine ⟨a, _, _, _, rfl, rfl, k1.seq hne hS, atI_nat (List.getElem?_eq_getElem hv), ?_⟩
  exact q _ H1 (List.getElem_mem hv) hp1 k1

end
end Bd
end

section
namespace Bd
open PySem L2 PySem.Spec PyProof.Rows
section
variable {prog : Program} {w : World} {K : Type} [DecidableEq K] {knd : KeyKind prog w K} {A : Around} {E : Value → Shared → Prop} {s : Shared}
theorem put_pairs {d : Addr} {kvs : List (K × Value)} {k : K} {key v : Value} {Q : Unit → Shared → Prop} (hkey : knd.is k key = true) (hm : s.heap.DictOf knd d kvs) (hsz : kvs.length ≤ sizeLine)
    (hQ : ∀ h', h'.DictOf knd d (stored kvs k v) → Heap.SameBut d s.heap h' → Q () { s with heap := h' }) :
    wpAny (model prog w) A (dictPut d (knd.hash k) key v) Q E s := by
  obtain ⟨o, es, ep, ho, hc, hd, hk, hp, hn⟩ := hm
  have hes : es.size ≤ sizeLine := by
    have e1 := hp.length
    have e2 : es.toList.length = es.size := by simp
    omega
  unfold dictPut
  refine wpAny_bind (wpAny_dictFind_of hkey ho hd hk ?_)
  have hidx : (es.findIdx? fun e => knd.is k e.key) = kvs.findIdx? fun kv => decide (kv.1 = k) := by
    rw [← hp.findIdx k]; obtain ⟨l⟩ := es
    simp
  cases hi : es.findIdx? fun e => knd.is k e.key with
  | some i =>
    have ha := any_of_findIdx_some (hidx ▸ hi)
    refine wpAny_updateDict ho hd ?_
    refine hQ _ ⟨_, _, ep, Heap.get?_update_self _ ho (Obj.isFreed_of_dict (Obj.data_mapDict hd _)), hc.mapDict _, Obj.data_mapDict hd _, hk.modify _ _, ?_, ?_⟩ (Heap.SameBut.update ..)
    · rw [stored, if_pos ha]
      have hl : (es.toList.findIdx? fun e => knd.is k e.key) = some i := by
        rw [← hi]; obtain ⟨l⟩ := es
        simp
      have := hp.modify hn hl v
      obtain ⟨l⟩ := es
      simpa using this
    · rw [stored, if_pos ha, keys_map_store]; exact hn
  | none =>
    have hnot : k ∉ kvs.map (·.1) := not_mem_of_findIdx_none (hidx ▸ hi)
    have hany : ¬ (kvs.any fun kv => decide (kv.1 = k)) = true := by
      rw [List.any_eq_true]
      rintro ⟨kv, hkv, he⟩
      exact hnot (List.mem_map.mpr ⟨kv, hkv, of_decide_eq_true he⟩)
    refine wpAny_updateDictKeys (hz := hes) ho hd ?_
    refine hQ _ ⟨_, _, ep + 1, Heap.get?_update_self _ ho (Obj.isFreed_of_dict (Obj.data_mapDictKeys hd _)), hc.mapDictKeys _, Obj.data_mapDictKeys hd _, hk.push hkey _, ?_, ?_⟩ (Heap.SameBut.update ..)
    · rw [stored, if_neg hany]
      have := hp.append hkey (knd.hash k) v
      obtain ⟨l⟩ := es
      simpa using this
    · rw [stored, if_neg hany, List.map_append, List.nodup_append]
      refine ⟨hn, by simp, ?_⟩
      intro a ha b hb
      simp only [List.map_cons, List.map_nil, List.mem_singleton] at hb
      subst hb
      exact fun e => hnot (e ▸ ha)
theorem merge_dict {d o : Addr} {kvs more : List (K × Value)} {Q : Unit → Shared → Prop} (hdo : d ≠ o) (hoS : (o == sysModules) = false)
    (hd : s.heap.DictOf knd d kvs) (ho : s.heap.DictOf knd o more) (hstr : ∀ e : DictEntry, (∃ k, knd.is k e.key = true) → ∀ a, e.key ≠ .ref a)
    (hsz : kvs.length + more.length ≤ sizeLine)
    (hQ : ∀ h', h'.DictOf knd d (merged kvs more) → Heap.SameBut d s.heap h' → Q () { s with heap := h' }) :
    wpAny (model prog w) A (mergeMapping d (.ref o) false) Q E s := by
  obtain ⟨od, esd, epd, hod, hcd, hdd, hkd, hpd, hnd⟩ := id hd
  obtain ⟨oo, eso, epo, hoo, hco, hdo', hko, hpo, hno⟩ := id ho
  have hlen : more.length = eso.size := by rw [← hpo.length]; simp
  unfold mergeMapping
  refine wpAny_bind (wpAny_isInstance ho.typeIs isSubtype_dict_dict ?_)
  rw [if_pos rfl]
  refine wpAny_bind (wpAny_specialOf ho.typeIs PySem.F.slot_dict_iter.lookup (wpAny_bind (wpAny_pure ?_)))
  simp only [beq_self_eq_true]
  rw [if_neg (by rw [hoS]; exact Bool.false_ne_true)]
  have loop : wpAny (model prog w) A (do
      let __do_lift ← dictEntries o
      have size : Nat := __do_lift.size
      let epoch ← dictEpoch o
      forIn (List.range size) PUnit.unit fun i __s => do
        let __do_lift ← dictEntries o
        match __do_lift[i]? with
          | some e => do
            holding [e.key, e.val]
              (have __do_jp := fun (_ : Unit) => dictPut d e.hash e.key e.val;
              if false = true then do
                let __do_lift ← dictFind d e.key e.hash
                if __do_lift.isSome = true then do
                  rule "dict.merge.duplicate-key"
                  let __do_lift ← newExc (Value.type "KeyError") [e.key]
                  let __r ← raiseNew __do_lift
                  __do_jp __r
                else __do_jp ()
              else __do_jp ())
            let __do_lift ← dictEpoch o
            if (__do_lift != epoch) = true then do
              (unsupported "dict.changed-during-merge" : Sem PUnit)
              pure (ForInStep.yield PUnit.unit)
            else pure (ForInStep.yield PUnit.unit)
          | x => do
            (unsupported "dict.changed-during-merge" : Sem PUnit)
            pure (ForInStep.yield PUnit.unit)
      pure ()) Q E s := by
    refine wpAny_bind (wpAny_dictEntries hoo hdo' ?_)
    refine wpAny_bind (wpAny_dictEpoch hoo hdo' ?_)
    refine wpAny_bind ?_
    have er : List.range eso.size = List.range' 0 eso.size := List.range_eq_range'
    rw [er]
    refine wpAny_forIn_list _
      (fun rest _ s' => ∃ g i, s' = { s with heap := g } ∧ rest = List.range' i (eso.size - i) ∧ i ≤ eso.size ∧ g.DictOf knd d (merged kvs (more.take i)) ∧ g.get? o = some oo ∧ Heap.SameBut d s.heap g)
      _ ?_ ?_ _ _ ⟨s.heap, 0, rfl, by simp, Nat.zero_le _, by simpa [merged] using hd, hoo, Heap.SameBut.refl _ _⟩
    · rintro x rest b s' ⟨g, i, rfl, hr, hi, gd, goo, gs⟩
      have hlt : i < eso.size := by
        rcases Nat.lt_or_ge i eso.size with z | z
        · exact z
        · rw [Nat.sub_eq_zero_of_le z] at hr
          simp at hr
      obtain ⟨rfl, hrest⟩ : x = i ∧ rest = List.range' (i + 1) (eso.size - (i + 1)) := by
        have z : eso.size - i = (eso.size - (i + 1)) + 1 := by omega
        rw [z, List.range'_succ] at hr
        injection hr with z1 z2
        exact ⟨z1, z2⟩
      refine wpAny_bind (wpAny_dictEntries goo hdo' ?_)
      rw [Array.getElem?_eq_getElem hlt]
      obtain ⟨kv, hkv⟩ : ∃ kv, more[x]? = some kv := ⟨more[x]'(by omega), List.getElem?_eq_getElem _⟩
      obtain ⟨k, v⟩ := kv
      obtain ⟨hkey, hval⟩ := hpo.get? (e := eso[x]) (by simp [hlt]) hkv
      obtain ⟨k1, hkey1, hhash⟩ := hko eso[x] (Array.getElem_mem hlt)
      obtain rfl : k1 = k := knd.inj _ _ _ hkey1 hkey
      show wpAny _ _ (holding [eso[x].key, eso[x].val] (dictPut d eso[x].hash eso[x].key eso[x].val) >>= _) _ _ _
      rw [hhash, hval]
      have hmx : (merged kvs (more.take x)).length ≤ sizeLine := by
        have z1 := merged_length_le kvs (more.take x)
        have z2 : (more.take x).length ≤ more.length := by
          rw [List.length_take]; omega
        omega
      refine wpAny_bind (wpAny_holding (put_pairs hkey gd hmx fun g2 gd2 gs2 => ?_))
      have goo2 : g2.get? o = some oo := (gs2.2 o (Ne.symm hdo)).trans goo
      refine wpAny_bind (wpAny_dictEpoch goo2 hdo' ?_)
      rw [if_neg (by simp)]
      exact wpAny_pure ⟨g2, x + 1, rfl, hrest, hlt, by rw [merged_take_succ kvs more x (k1, v) hkv]; exact gd2, goo2, gs.trans gs2⟩
    · rintro b s' ⟨g, i, rfl, hr, hi, gd, goo, gs⟩
      have hin : i = eso.size := by
        rcases Nat.lt_or_ge i eso.size with z | z
        · have z1 : eso.size - i = (eso.size - (i + 1)) + 1 := by omega
          rw [z1, List.range'_succ] at hr
          exact nomatch hr
        · exact Nat.le_antisymm hi z
      refine wpAny_pure (hQ g ?_ gs)
      rw [hin, ← hlen, List.take_length] at gd
      exact gd
  refine wpAny_bind (wpAny_dictEntries hod hdd ?_)
  split
  · refine wpAny_bind (wpAny_dictEntries hoo hdo' ?_)
    refine wpAny_bind ?_
    refine wpAny_forIn_array' _ (fun rest _ s' => s' = s ∧ ∀ e ∈ rest, e ∈ eso) _ ?_ ?_ _ _ ⟨rfl, fun e he => Array.mem_toList_iff.mp he⟩
    · rintro x rest b s' ⟨rfl, hm⟩
      obtain ⟨k1, hkey1, _⟩ := hko x (hm x List.mem_cons_self)
      have hx := hstr x ⟨k1, hkey1⟩
      have hrest : ∀ e ∈ rest, e ∈ eso := fun e he => hm e (List.mem_cons_of_mem _ he)
      split
      · rename_i a ea
        exact absurd ea (hx a)
      · exact wpAny_pure ⟨rfl, hrest⟩
    · rintro b s' ⟨rfl, _⟩
      exact loop
  · exact loop
def MergeAt (knd : KeyKind prog w K) (p : Addr) (Z : Shared → Prop) : Value → Shared → Prop := fun u s1 => ∃ (o : Addr) (acc more : List (K × Value)), u = .ref o ∧ p ≠ o ∧ (o == sysModules) = false ∧
  s1.heap.DictOf knd p acc ∧ s1.heap.DictOf knd o more ∧ acc.length + more.length ≤ sizeLine ∧ ∀ g, g.DictOf knd p (merged acc more) → Heap.SameBut p s1.heap g → Z { s1 with heap := g }
theorem display_two {v1 v2 : Sem Value} {Q : Value → Shared → Prop} (hstr : ∀ e : DictEntry, (∃ k, knd.is k e.key = true) → ∀ a, e.key ≠ .ref a)
    (h : wpAny (model prog w) A v1 (MergeAt knd s.heap.objs.size fun s1 => wpAny (model prog w) A v2 (MergeAt knd s.heap.objs.size fun s2 => Q (.ref s.heap.objs.size) s2) E s1) E { s with heap := s.heap.push { cls := .type "dict", data := .dict #[] } }) :
    wpAny (model prog w) A (dictDisplay [(none, v1), (none, v2)]) Q E s := by
  unfold dictDisplay
  simp only [List.forIn_cons, List.forIn_nil, List.isEmpty_nil, if_true, pure_bind, bind_assoc]
  refine wpAny_bind (wpAny_alloc ?_)
  refine wpAny_bind (wpAny_holding (wpAny_mono h (fun u s1 h1 => ?_) fun _ _ e => e))
  obtain ⟨o, acc, more, rfl, ne, lo, da, db, hz, q⟩ := h1
  refine wpAny_bind (wpAny_onRaise (wpAny_tryCatch (wpAny_onRaise (wpAny_holding (merge_dict ne lo da db hstr hz fun g dg sg => ?_)))))
  refine wpAny_bind (wpAny_holding (wpAny_mono (q g dg sg) (fun u2 s2 h2 => ?_) fun _ _ e => e))
  obtain ⟨o2, acc2, more2, rfl, ne2, lo2, da2, db2, hz2, q2⟩ := h2
  refine wpAny_bind (wpAny_onRaise (wpAny_tryCatch (wpAny_onRaise (wpAny_holding (merge_dict ne2 lo2 da2 db2 hstr hz2 fun g2 dg2 sg2 => ?_)))))
  exact wpAny_pure (q2 g2 dg2 sg2)
end
/-- {**a, **b}, both dicts with keys ints and texts, each evaluated while the new dict holds what is ahead -/
def tBoth (ta tb : TE) : TE := fun σ H Q => ∀ p, H p = none → ta σ (upd H p (.dK [])) fun x H1 => ∃ a ka, x = .ref a ∧ H1 p = some (.dK []) ∧ H1 a = some (.dK ka) ∧ p ≠ a ∧
  tb σ (upd H1 p (.dK (mergeK [] ka))) fun y H2 => ∃ b kb, y = .ref b ∧ H2 p = some (.dK (mergeK [] ka)) ∧ H2 b = some (.dK kb) ∧ p ≠ b ∧ ka.length + kb.length ≤ 1000 ∧ Q (.ref p) (upd H2 p (.dK (mergeK (mergeK [] ka) kb)))
theorem mix_noref {P : Program} {w : World} (e : DictEntry) (h : ∃ k, (mixKind P w).is k e.key = true) (a : Addr) : e.key ≠ .ref a := by
  obtain ⟨k, hk⟩ := h
  intro z
  rcases keyIs_shape (show keyIs k e.key = true from hk) with ⟨i, t, _, e1⟩ | ⟨i, t, _, e1⟩
  · rw [z] at e1; cases e1
  · rw [z] at e1; cases e1
theorem pe_both {X : Cx} {pos : Pos} {e1 e2 : Expr} {ta tb : TE} (ha : PE X e1 ta) (hb : PE X e2 tb) : PE X (.Dict [none, none] [e1, e2] pos) (tBoth ta tb) := by
  refine ⟨fun pins s σ H Q I q => ?_⟩
  have hn := I.hok.fresh (Nat.le_refl s.heap.objs.size)
  rw [arm_eval_Dict]
  refine wpAny_bind (wpAny_standAt ?_)
  show wpAny _ _ (dictDisplay [(none, do let x ← eval e1 X.env; standAt pos; pure x), (none, do let x ← eval e2 X.env; standAt pos; pure x)]) _ _ _
  refine display_two (knd := mixKind X.prog X.w) (fun e h => mix_noref e h) ?_
  have I1 := I.laid (a := s.heap.objs.size) (o := .dK []) (h' := s.heap.push { cls := .type "dict", data := .dict #[] }) (t' := s.toks) (fun _ _ q => Heap.get?_push_of_some _ q) (Nat.le_refl _) (dk_empty s.heap I.big)
  refine wpAny_bind (thn (ha.run pins _ σ _ _ I1 (q _ hn)) fun u s1 ⟨x, H1, I2, rx, a, ka, ex, hp, hka, ne, q1⟩ => ?_)
  subst ex
  obtain rfl : u = Value.ref a := rx
  refine wpAny_bind (wpAny_standAt (wpAny_pure ?_))
  obtain ⟨z1, lo1, vs1, r1, d1⟩ := dk_of I2.hok hka
  obtain ⟨z0, lo0, vs0, r0, d0⟩ := dk_of I2.hok hp
  cases r0
  have hz1 : (mergeK [] ka).length ≤ sizeLine := by
    have := length_mergeK ka []
    rw [List.length_nil] at this
    omega
  refine ⟨a, [], vs1, rfl, ne, lo1, d0, d1, by rw [List.length_nil, Nat.zero_add, ← r1.length]; exact z1, fun g dg sg => ?_⟩
  have he : ∃ q, g.get? s.heap.objs.size = some q := let ⟨q, _, _, hq, _⟩ := dg; ⟨q, hq⟩
  have I3 := d_write (t' := s1.toks) I2 (by rw [hp]; exact True.intro) sg he (dk_new (H' := upd H1 s.heap.objs.size (.dK (mergeK [] ka))) hz1 lo0 (r1.merge .nil) dg)
  refine wpAny_bind (thn (hb.run pins _ σ _ _ I3 q1) fun u2 s2 ⟨y, H2, I4, ry, b, kb, ey, hp2, hkb, ne2, hsz, q2⟩ => ?_)
  subst ey
  obtain rfl : u2 = Value.ref b := ry
  refine wpAny_bind (wpAny_standAt (wpAny_pure ?_))
  obtain ⟨z2, lo2, vs2, r2, d2⟩ := dk_of I4.hok hkb
  obtain ⟨z3, lo3, vs3, r3, d3⟩ := dk_of I4.hok hp2
  have hm : (mergeK [] ka).length ≤ ka.length := by
    have := length_mergeK ka []
    rw [List.length_nil] at this
    omega
  have hz2 : (mergeK (mergeK [] ka) kb).length ≤ sizeLine := by
    have := length_mergeK kb (mergeK [] ka)
    exact small (by omega)
  refine ⟨b, vs3, vs2, rfl, ne2, lo2, d3, d2, small (by rw [← r3.length, ← r2.length]; omega), fun g2 dg2 sg2 => ?_⟩
  have he2 : ∃ q, g2.get? s.heap.objs.size = some q := let ⟨q, _, _, hq, _⟩ := dg2; ⟨q, hq⟩
  exact ⟨.ref s.heap.objs.size, _, d_write (t' := s2.toks) I4 (by rw [hp2]; exact True.intro) sg2 he2 (dk_new (H' := upd H2 s.heap.objs.size (.dK (mergeK (mergeK [] ka) kb))) hz2 lo0 (r2.merge r3) dg2), rfl, q2⟩

/-- a tuple whose object is known to have no dict of its own -/
def FrT (H : Hp) (a : Addr) (xs : List V) : Prop := ∃ o : Obj, o.dict = none ∧ H a = some (.frz o (.tup xs))
theorem FrT.seq {K : PySem.W.Frag} {H : Hp} {a : Addr} {xs : List V} (h : FrT H a xs) : SqT K H a xs := by
  obtain ⟨o, _, e⟩ := h
  exact .inl (.inr ⟨o, e⟩)
section
variable {X : Cx}
theorem call_tupleF : CallR X (.type "tuple") (fun xs H Q => ∃ p ys, xs = [.ref p] ∧ SqL X.K H p ys ∧ ∀ l o, H l = none → o.dict = none → Q (.ref l) (upd H l (.frz o (.tup ys)))) := by
  intro pins s σ H xs us Q I r h
  obtain ⟨p, ys, rfl, hq, q⟩ := h
  obtain ⟨u, rfl, rx⟩ := vals1 r
  cases rx
  obtain ⟨its, r', pl, hz⟩ := I.list hq
  have hlen := r'.length
  refine call_tuple_list pl.isList (fun g kp => ?_) (by simp only [List.size_toArray] <;> omega)
  have I1 : Inv X pins σ H { s with heap := g } := I.kept (t' := s.toks) kp
  have I2 : Inv X pins σ (upd H g.objs.size (.frz { cls := .type "tuple", data := .seq its.toArray } (.tup ys))) { s with heap := g.push { cls := .type "tuple", data := .seq its.toArray } } :=
    I1.laid (t' := s.toks) (fun b o e => Heap.get?_push_of_some _ e) (Nat.le_refl _) (show ObjOk X.prog X.w _ _ _ (.frz _ (.tup ys)) from ⟨Heap.get?_push_size _ rfl, hz, its, r', IsTup.new _ _⟩)
  exact ⟨.ref g.objs.size, _, I2, rfl, q _ _ (I1.hok.fresh (Nat.le_refl _)) rfl⟩
theorem pairs_vv {pins : List (Addr × Obj)} {σ : L2.St} {H : Hp} {s : Shared} (I : Inv X pins σ H s) : ∀ {ps : List Addr} {kvs : List (Key × V)}, Paired (fun p kv => SqT X.K H p [kV kv.1, kv.2]) ps kvs →
    ∃ (pr : List (Value × Value)) (prs : List (Key × Value)), KV kvs prs ∧ pr.length = ps.length ∧ prs.length = ps.length ∧ ∀ (j : Nat) (k v : Value), pr[j]? = some (k, v) → ∃ (b : Addr) (key : Key), ps[j]? = some b ∧ IsTup s.heap b #[k, v] ∧ prs[j]? = some (key, v) ∧ keyIs key k = true
  | _, _, .nil => ⟨[], [], .nil, rfl, rfl, fun j k v e => by simp at e⟩
  | _, _, .cons (a := p) (b := kv) h t => by
    obtain ⟨pr, prs, r, hl, hl2, hp⟩ := pairs_vv I t
    obtain ⟨its, rv, ht, _⟩ := I.tuple h
    obtain ⟨u, y, rfl, ru, ry⟩ := vals2 rv
    refine ⟨(u, y) :: pr, (kv.1, y) :: prs, .cons ⟨rfl, ry⟩ r, by rw [List.length_cons, List.length_cons, hl], by rw [List.length_cons, List.length_cons, hl2], fun j k v e => ?_⟩
    cases j with
    | zero =>
      have z : (u, y) = (k, v) := Option.some.inj e
      cases z
      exact ⟨p, kv.1, rfl, ht, rfl, kV_is (P := X.prog) (w := X.w) ru⟩
    | succ j =>
      obtain ⟨b, key, z1, z2, z3, z4⟩ := hp j k v (by simpa using e)
      exact ⟨b, key, by simpa using z1, z2, by simpa using z3, z4⟩
theorem call_dictT (hcalm : X.calm = true) : CallR X (.type "dict") (fun xs H Q => ∃ (a : Addr) (ps : List Addr) (kvs : List (Key × V)), xs = [.ref a] ∧ FrT H a (ps.map V.ref) ∧ Paired (fun p kv => SqT X.K H p [kV kv.1, kv.2]) ps kvs ∧
    ∀ p, H p = none → Q (.ref p) (upd H p (.dK (mergeK [] kvs)))) := by
  intro pins s σ H xs us Q I r q
  obtain ⟨a, ps, kvs, rfl, ⟨o, ho, hq⟩, hp, q⟩ := q
  obtain ⟨u, rfl, rx⟩ := vals1 r
  cases rx
  obtain ⟨og, hz, its, rv, ot, hot, hc, n, hd⟩ := I.hok a _ hq
  rw [og] at hot
  cases hot
  have ei := refs_at rv
  subst ei
  obtain ⟨pr, prs, rel, hl, hl2, hpr⟩ := pairs_vv I hp
  rw [List.length_map] at hz
  have hitem : PairItems s.heap (ps.map Value.ref).toArray (fun j => ps.getD j 0) pr := by
    refine ⟨by simp [hl], fun j k v e => ?_⟩
    obtain ⟨b, key, z1, z2, z3, z4⟩ := hpr j k v e
    have zb : ps.getD j 0 = b := by
      rw [List.getD_eq_getElem?_getD, z1]
      rfl
    refine ⟨?_, .inl ?_⟩
    · show (List.map Value.ref ps).toArray[j]? = some (Value.ref (ps.getD j 0))
      rw [zb]
      simp [z1]
    · show s.heap.IsTuple (ps.getD j 0) #[k, v]
      rw [zb]
      obtain ⟨ob, y1, y2, y3, y4⟩ := z2
      exact ⟨ob, y1, y2, y3, y4⟩
  refine PySem.call_dict_pairs (knd := mixKind X.prog X.w) (kvs := prs) (PairArg.tuple a (ps.map Value.ref).toArray (fun j => ps.getD j 0) pr) (I.ok.hd hcalm) ⟨⟨o, n, og, hc, ho, hd⟩, hitem⟩ ⟨by rw [hl2, hl], fun i key v e => ?_⟩ (by rw [hl]; exact hz) fun h' tk hd' k => ?_
  · obtain ⟨b, k2, z1, z2, z3, z4⟩ := hpr i key v e
    exact ⟨k2, z3, z4⟩
  · have hm : (s.heap.objs.size == sysModules) = false := beq_eq_false_iff_ne.mpr (Nat.ne_of_gt I.big)
    have hlen : (mergeK [] kvs).length ≤ sizeLine := by
      refine Nat.le_trans (length_mergeK kvs []) ?_
      rw [List.length_nil, Nat.zero_add, rel.length, hl2]
      exact hz
    exact ⟨.ref s.heap.objs.size, upd H s.heap.objs.size (.dK (mergeK [] kvs)), I.laid (t' := tk) (fun b u z => k b u (fun y => nomatch y) z) (Nat.le_refl _) (show ObjOk X.prog X.w _ _ _ (.dK (mergeK [] kvs)) from ⟨hlen, hm, merged [] prs, KV.merge rel .nil, hd'⟩), rfl, q _ (I.hok.fresh (Nat.le_refl _))⟩
/-- a dict of the module's top, as it stands in the written part -/
structure KTab (P : Program) (w : World) (K : PySem.W.Frag) (a : Addr) (kvs : List (Key × V)) : Prop where
  lo : (a == sysModules) = false
  dd : ∃ vs, KV kvs vs ∧ ∀ h : Heap, K.In h → h.DictOf (mixKind P w) a vs
  sz : kvs.length ≤ 1000
theorem call_dictK : CallR X (.type "dict") (fun xs H Q => ∃ (a : Addr) (kvs : List (Key × V)), xs = [.ref a] ∧ KTab X.prog X.w X.K a kvs ∧ ∀ p, H p = none → Q (.ref p) (upd H p (.dK kvs))) := by
  intro pins s σ H xs us Q I r q
  obtain ⟨a, kvs, rfl, ⟨lo, ⟨vs, rel, dd⟩, z⟩, q⟩ := q
  obtain ⟨u, rfl, rx⟩ := vals1 r
  cases rx
  refine kt_call_dict lo (dd _ I.kIn) (by rw [← rel.length]; exact small z) fun h' d' hs => ?_
  have hm : (s.heap.objs.size == sysModules) = false := beq_eq_false_iff_ne.mpr (Nat.ne_of_gt I.big)
  exact ⟨.ref s.heap.objs.size, upd H s.heap.objs.size (.dK kvs), I.laid (t' := s.toks) (fun b u e => (hs.2 b (Nat.ne_of_lt (Heap.lt_size e))).trans (Heap.get?_push_of_some _ e)) (Nat.le_refl _)
    (show ObjOk X.prog X.w _ _ _ (.dK kvs) from ⟨small z, hm, vs, rel, d'⟩), rfl, q _ (I.hok.fresh (Nat.le_refl _))⟩
theorem op_inT : OpR X (compareOp .In) (fun x y H Q => ∃ (a : Addr) (kvs : List (Key × V)) (k : Key), x = kV k ∧ y = .ref a ∧ KTab X.prog X.w X.K a kvs ∧ Q (.bl (valV kvs k).isSome) H) := by
  intro pins s σ H x y v u Q I rx ry h
  obtain ⟨a, kvs, k, rfl, rfl, ⟨lo, ⟨vs, rel, dd⟩, z⟩, q⟩ := h
  cases ry
  refine wpAny_in_of (kV_is (P := X.prog) (w := X.w) rx) lo (dd _ I.kIn).mapOf ?_
  rw [← (rel.val k).isSome_eq]
  exact ⟨.bl (valV kvs k).isSome, H, I.tok _, rfl, q⟩
end
end Bd
end

section
namespace Bd
open PySem L2 PySem.Spec PyProof.Rows
/-- the answer of looking up each pair of one dict in another, by the answers at the values -/
inductive HitsV (F : V → V → Bool → Prop) (ls : List (Key × V)) : List (Key × V) → Bool → Prop
  | nil : HitsV F ls [] true
  | miss {k : Key} {v : V} {r : List (Key × V)} : valV ls k = none → HitsV F ls ((k, v) :: r) false
  | hit {k : Key} {v y : V} {r : List (Key × V)} {e b : Bool} : valV ls k = some y → F v y e → HitsV F ls r b → HitsV F ls ((k, v) :: r) (e && b)
/-- x == y is r: data, or dicts of such, n deep -/
def EqF (K : PySem.W.Frag) (H : Hp) : Nat → V → V → Bool → Prop
  | 0 => fun x y r => ∃ d e, Dp K H x d ∧ Dp K H y e ∧ SeqAt.shaped d = true ∧ SeqAt.shaped e = true ∧ r = PyData.eqv d e
  | n + 1 => fun x y r => ∃ (a b : Addr), x = .ref a ∧ y = .ref b ∧ ((a = b ∧ r = true) ∨ (a ≠ b ∧ ∃ ks ls q, H a = some (.dK ks) ∧ H b = some (.dK ls) ∧ (ks.length = ls.length → HitsV (EqF K H n) ls ks q) ∧ r = (ks.length == ls.length && q)))
theorem hits_runV {P : Program} {w : World} {A : Around} {s : Shared} {F : V → V → Bool → Prop} (ih : ∀ x y v u r, F x y r → RelV x v → RelV y u → SeqAt.EqP P w A s v u r) {ls : List (Key × V)} {vb : List (Key × Value)} (rb : KV ls vb) {ks : List (Key × V)} {b : Bool} (h : HitsV F ls ks b) :
    ∀ {va : List (Key × Value)}, KV ks va → PySem.W.KeqHitsP P w A s vb va b := by
  induction h with
  | nil =>
    intro va ra
    cases ra
    exact .nil
  | @miss k v r hn =>
    intro va ra
    cases ra with
    | cons h1 t =>
      rename_i q qs
      obtain ⟨h1, h2⟩ := h1
      obtain ⟨k2, v2⟩ := q
      have h1 : k = k2 := h1
      subst h1
      have rr := rb.val k
      rw [hn] at rr
      refine .miss ?_
      cases z : valueAt vb k with
      | none => rfl
      | some y =>
        rw [z] at rr
        exact (show False from rr).elim
  | @hit k v y r e b hy hf hr k3 =>
    intro va ra
    cases ra with
    | cons h1 t =>
      rename_i q qs
      obtain ⟨h1, h2⟩ := h1
      obtain ⟨k2, v2⟩ := q
      have h1 : k = k2 := h1
      subst h1
      have rr := rb.val k
      rw [hy] at rr
      obtain ⟨z, hz, rz⟩ := rr.some_of
      exact .hit hz (ih _ _ _ _ _ hf h2 rz) (k3 t)
section
variable {X : Cx} {pins : List (Addr × Obj)} {σ : L2.St} {H : Hp} {s : Shared}
theorem eqF_run (I : Inv X pins σ H s) : ∀ (n : Nat) (A : Around), A.units + n + 65 < cLine → ∀ (x y : V) (v u : Value) (r : Bool), EqF X.K H n x y r → RelV x v → RelV y u → SeqAt.EqP X.prog X.w A s v u r
  | 0, A, hu, x, y, v, u, r, h, rx, ry => by
    obtain ⟨d, e, hd, he, sd, se, rfl⟩ := h
    obtain ⟨as, r1⟩ := Dp.reads I d x v hd rx
    obtain ⟨bs, r2⟩ := Dp.reads I e y u he ry
    exact (SeqAt.eqAt_reads d e A s v u as bs r1 r2 (SeqAt.canLay_of_shaped sd) (SeqAt.canLay_of_shaped se) (SeqAt.room_of_shaped sd (by omega))).eqP
  | n + 1, A, hu, x, y, v, u, r, h, rx, ry => by
    obtain ⟨a, b, rfl, rfl, h⟩ := h
    cases (show v = Value.ref a from rx)
    cases (show u = Value.ref b from ry)
    rcases h with ⟨rfl, rfl⟩ | ⟨hab, ks, ls, q, ha, hb, hits, rfl⟩
    · exact (SeqAt.EqAt.same _).eqP
    · refine SeqAt.eqP_refs hab fun E Q hq => ?_
      obtain ⟨_, ya, va, ra, da⟩ := (show ObjOk X.prog X.w H s.heap a (.dK ks) from I.hok a _ ha)
      obtain ⟨_, yb, vb, rb, db⟩ := (show ObjOk X.prog X.w H s.heap b (.dK ls) from I.hok b _ hb)
      refine PySem.W.rcP_dicts (knd := mixKind X.prog X.w) (r := q) ya yb da db (by omega) (fun hl => hits_runV (eqF_run I n A.in1 (by show A.units + 1 + n + 65 < cLine; omega)) rb (hits (by rw [ra.length, rb.length]; exact hl)) ra) E Q ?_
      rw [← ra.length, ← rb.length]
      exact hq
end
section
variable {X : Cx}
theorem op_eqF (hu : X.A.units + 100 < cLine) : OpR X (compareOp .Eq) (fun x y H Q => ∃ (a b : Addr) (ks ls : List (Key × V)) (q : Bool) (n : Nat), n ≤ 10 ∧ x = .ref a ∧ y = .ref b ∧ H a = some (.dK ks) ∧ H b = some (.dK ls) ∧ (ks.length = ls.length → HitsV (EqF X.K H n) ls ks q) ∧ Q (.bl (ks.length == ls.length && q)) H) := by
  intro pins s σ H x y v u Q I rx ry h
  obtain ⟨a, b, ks, ls, q, n, hn, rfl, rfl, ha, hb, hits, hq⟩ := h
  cases (show v = Value.ref a from rx)
  cases (show u = Value.ref b from ry)
  obtain ⟨_, ya, va, ra, da⟩ := (show ObjOk X.prog X.w H s.heap a (.dK ks) from I.hok a _ ha)
  obtain ⟨_, yb, vb, rb, db⟩ := (show ObjOk X.prog X.w H s.heap b (.dK ls) from I.hok b _ hb)
  refine PySem.W.rcP_dicts (knd := mixKind X.prog X.w) (r := q) ya yb da db (by omega) (fun hl => hits_runV (eqF_run I n X.A.in1 (by show X.A.units + 1 + n + 65 < cLine; omega)) rb (hits (by rw [ra.length, rb.length]; exact hl)) ra) _ _ ?_
  rw [← ra.length, ← rb.length]
  exact ⟨.bl _, H, I, rfl, hq⟩
end
end Bd
end

section
namespace Bd
open PySem L2 PySem.Spec PyProof.Rows
open Sem (wp)
/-! zip of three lists -/
theorem z3_type (a b c : Value) : checkTypeCall "zip" ⟨[a, b, c], []⟩ = pure () := by kernel_rfl
theorem z3_call (a b c : Value) : checkBuiltinCall "zip.__new__" ⟨[.type "zip", a, b, c], []⟩ = pure () := by kernel_rfl
theorem z3_init (a b c d : Value) : argsOk "object.__init__" ⟨[a, b, c, d], []⟩ := by
  unfold argsOk
  rw [signature?_of (id := "object.__init__") (n := ['_', '_', 't', 'i', 'n', 'i', '_', '_']) (o := ['t', 'c', 'e', 'j', 'b', 'o']) (by kernel_rfl) F.owner_object]
  kernel_rfl
abbrev Trip (h : Heap) (T : Addr) (a b c : Value) : Prop := h.get? T = some { cls := .type "tuple", data := .seq #[a, b, c] }
/-- how the things of a zip of three lists stand: the lists first, then the iterators, both tuples, the zip -/
def Z3 (z TI TO i1 i2 i3 l1 l2 l3 : Nat) : Prop := l1 < i1 ∧ l2 < i1 ∧ l3 < i1 ∧ i1 < i2 ∧ i2 < i3 ∧ i3 < TI ∧ TI < TO ∧ TO < z
section
variable {prog : Program} {w : World} {A : Around} {E : Value → Shared → Prop} {s : Shared}
theorem upd_trip {T : Addr} {a b c x : Value} {k : Nat} {Q : Unit → Shared → Prop} (hT : Trip s.heap T a b c)
    (h : ∀ h', h'.get? T = some { cls := .type "tuple", data := .seq ((#[a, b, c] : Array Value).setIfInBounds k x) } → Heap.SameBut T s.heap h' → Q () { s with heap := h' }) :
    wpAny (model prog w) A (updateSeq T (·.setIfInBounds k x)) Q E s := by
  refine wpAny_updateSeq hT rfl (h _ ?_ (Heap.SameBut.update ..))
  rw [Heap.get?_update_self _ hT rfl]
  simp [Obj.mapSeq]
theorem z3_next_item {z TI TO i1 i2 i3 l1 l2 l3 : Addr} {k1 k2 k3 : Nat} {xs ys zs : Array Value} {x y v a b c : Value} {Q : Value → Shared → Prop} (D : Z3 z TI TO i1 i2 i3 l1 l2 l3)
    (hz : IsZip s.heap z TI TO .none) (hTI : Trip s.heap TI (.ref i1) (.ref i2) (.ref i3)) (hTO : Trip s.heap TO a b c)
    (h1 : s.heap.IsListIter i1 l1 k1) (h2 : s.heap.IsListIter i2 l2 k2) (h3 : s.heap.IsListIter i3 l3 k3) (hl1 : s.heap.IsList l1 xs) (hl2 : s.heap.IsList l2 ys) (hl3 : s.heap.IsList l3 zs) (hx : xs[k1]? = some x) (hy : ys[k2]? = some y) (hv : zs[k3]? = some v)
    (hQ : ∀ h', IsZip h' z TI TO (rawInt s.heap.objs.size) → Trip h' TO x y v → h'.IsListIter i1 l1 (k1 + 1) → h'.IsListIter i2 l2 (k2 + 1) → h'.IsListIter i3 l3 (k3 + 1) → Trip h' s.heap.objs.size x y v → h'.objs.size = s.heap.objs.size + 1 →
      (∀ c o, c ≠ z → c ≠ TO → c ≠ i1 → c ≠ i2 → c ≠ i3 → s.heap.get? c = some o → h'.get? c = some o) → Q (.ref s.heap.objs.size) { s with heap := h' }) :
    wpAny (model prog w) A (Builtin.«zip.__next__» ⟨[.ref z], []⟩) (fun fin s' => ∃ v, fin = .done (.ret v) ∧ Q v s') E s := by
  obtain ⟨d1, d2, d3, d4, d5, d6, d7, d8⟩ := D
  show wpAny _ _ (field (.ref z) 2 >>= _) _ _ _
  refine wpAny_bind (wpAny_field hz rfl (x := .bool false) rfl ?_)
  show wpAny _ _ (field (.ref z) 3 >>= _) _ _ _
  refine wpAny_bind (wpAny_field hz rfl (x := .ref TI) rfl ?_)
  refine wpAny_bind (wpAny_seqItems hTI rfl ?_)
  show wpAny _ _ (Builtin.SmallTypes.ownedTupleIsFree (.ref z) >>= _) _ _ _
  refine wpAny_bind ?_
  unfold Builtin.SmallTypes.ownedTupleIsFree
  refine wpAny_bind (wpAny_field hz rfl (x := .none) rfl (wpAny_pure ?_))
  simp only [if_true]
  refine wpAny_bind (wpAny_rule ?_)
  refine wpAny_bind (wpAny_field hz rfl (x := .ref TO) rfl ?_)
  refine wpAny_bind (wpAny_setField_rec hz (by simp) fun g1 z1 s1 => ?_)
  replace z1 : IsZip g1 z TI TO .ellipsis := z1
  refine wpAny_bind ?_
  simp only [List.zipIdx_cons, List.zipIdx_nil, List.forIn_cons, List.forIn_nil]
  -- the first one
  refine wpAny_bind (wpAny_bind (wpAny_onRaise ?_))
  show wpAny _ _ (Builtin.SmallTypes.nextOf (.ref i1) >>= _) _ _ _
  refine wpAny_bind (wpAny_nextOf_list_item (h1.extBut s1.extBut (by show @Ne Nat _ _; omega)) (hl1.extBut s1.extBut (by show @Ne Nat _ _; omega)) hx fun g2 n1 s2 => wpAny_pure ?_)
  have t2 : Trip g2 TO a b c := s2.extBut _ _ (by show @Ne Nat _ _; omega) (s1.extBut _ _ (by show @Ne Nat _ _; omega) hTO)
  refine wpAny_bind (wpAny_seqItems t2 rfl ?_)
  refine wpAny_bind (upd_trip t2 fun g3 t3 s3 => ?_)
  replace t3 : Trip g3 TO x b c := t3
  refine wpAny_bind (wpAny_letGo (wpAny_pure ?_))
  -- the second one
  refine wpAny_bind (wpAny_bind (wpAny_onRaise ?_))
  show wpAny _ _ (Builtin.SmallTypes.nextOf (.ref i2) >>= _) _ _ _
  refine wpAny_bind (wpAny_nextOf_list_item (((h2.extBut s1.extBut (by show @Ne Nat _ _; omega)).extBut s2.extBut (by show @Ne Nat _ _; omega)).extBut s3.extBut (by show @Ne Nat _ _; omega)) (((hl2.extBut s1.extBut (by show @Ne Nat _ _; omega)).extBut s2.extBut (by show @Ne Nat _ _; omega)).extBut s3.extBut (by show @Ne Nat _ _; omega)) hy fun g4 n2 s4 => wpAny_pure ?_)
  have t4 : Trip g4 TO x b c := s4.extBut _ _ (by show @Ne Nat _ _; omega) t3
  refine wpAny_bind (wpAny_seqItems t4 rfl ?_)
  refine wpAny_bind (upd_trip t4 fun g5 t5 s5 => ?_)
  replace t5 : Trip g5 TO x y c := t5
  refine wpAny_bind (wpAny_letGo (wpAny_pure ?_))
  -- the third one
  refine wpAny_bind (wpAny_bind (wpAny_onRaise ?_))
  show wpAny _ _ (Builtin.SmallTypes.nextOf (.ref i3) >>= _) _ _ _
  refine wpAny_bind (wpAny_nextOf_list_item (((((h3.extBut s1.extBut (by show @Ne Nat _ _; omega)).extBut s2.extBut (by show @Ne Nat _ _; omega)).extBut s3.extBut (by show @Ne Nat _ _; omega)).extBut s4.extBut (by show @Ne Nat _ _; omega)).extBut s5.extBut (by show @Ne Nat _ _; omega)) (((((hl3.extBut s1.extBut (by show @Ne Nat _ _; omega)).extBut s2.extBut (by show @Ne Nat _ _; omega)).extBut s3.extBut (by show @Ne Nat _ _; omega)).extBut s4.extBut (by show @Ne Nat _ _; omega)).extBut s5.extBut (by show @Ne Nat _ _; omega)) hv fun g6 n3 s6 => wpAny_pure ?_)
  have t6 : Trip g6 TO x y c := s6.extBut _ _ (by show @Ne Nat _ _; omega) t5
  refine wpAny_bind (wpAny_seqItems t6 rfl ?_)
  refine wpAny_bind (upd_trip t6 fun g7 t7 s7 => ?_)
  replace t7 : Trip g7 TO x y v := t7
  refine wpAny_bind (wpAny_letGo (wpAny_pure (wpAny_pure ?_)))
  -- the tuple is handed out
  refine wpAny_bind (wpAny_seqItems t7 rfl ?_)
  refine wpAny_bind (wpAny_newTuple ?_)
  have hsz : g7.objs.size = s.heap.objs.size := by rw [s7.1, s6.1, s5.1, s4.1, s3.1, s2.1, s1.1]
  have keep : ∀ c o, c ≠ z → c ≠ TO → c ≠ i1 → c ≠ i2 → c ≠ i3 → s.heap.get? c = some o → g7.get? c = some o := fun c o c1 c2 c3 c4 c5 e =>
    s7.extBut _ _ c2 (s6.extBut _ _ c5 (s5.extBut _ _ c2 (s4.extBut _ _ c4 (s3.extBut _ _ c2 (s2.extBut _ _ c3 (s1.extBut _ _ c1 e))))))
  have z7 : IsZip g7 z TI TO .ellipsis := s7.extBut _ _ (by show @Ne Nat _ _; omega) (s6.extBut _ _ (by show @Ne Nat _ _; omega) (s5.extBut _ _ (by show @Ne Nat _ _; omega) (s4.extBut _ _ (by show @Ne Nat _ _; omega) (s3.extBut _ _ (by show @Ne Nat _ _; omega) (s2.extBut _ _ (by show @Ne Nat _ _; omega) z1)))))
  have m1 : g7.IsListIter i1 l1 (k1 + 1) := ((((n1.extBut s3.extBut (by show @Ne Nat _ _; omega)).extBut s4.extBut (by show @Ne Nat _ _; omega)).extBut s5.extBut (by show @Ne Nat _ _; omega)).extBut s6.extBut (by show @Ne Nat _ _; omega)).extBut s7.extBut (by show @Ne Nat _ _; omega)
  have m2 : g7.IsListIter i2 l2 (k2 + 1) := ((n2.extBut s5.extBut (by show @Ne Nat _ _; omega)).extBut s6.extBut (by show @Ne Nat _ _; omega)).extBut s7.extBut (by show @Ne Nat _ _; omega)
  have m3 : g7.IsListIter i3 l3 (k3 + 1) := n3.extBut s7.extBut (by show @Ne Nat _ _; omega)
  have zlt : z < g7.objs.size := Heap.lt_size z7
  show wpAny _ _ (Builtin.SmallTypes.ownedTupleHandOut (.ref z) (.ref g7.objs.size) >>= _) _ _ _
  refine wpAny_bind ?_
  unfold Builtin.SmallTypes.ownedTupleHandOut
  have z8 : IsZip (g7.push { cls := .type "tuple", data := .seq #[x, y, v] }) z TI TO .ellipsis := Heap.get?_push_of_some _ z7
  refine wpAny_bind (wpAny_setField_rec z8 (by simp) fun g9 z9 s9 => ?_)
  replace z9 : IsZip g9 z TI TO (rawInt g7.objs.size) := z9
  refine wpAny_setField_rec z9 (by simp) fun g10 z10 s10 => ?_
  replace z10 : IsZip g10 z TI TO (rawInt g7.objs.size) := z10
  have up : ∀ c o, c ≠ z → g7.get? c = some o → g10.get? c = some o := fun c o c1 e => s10.extBut _ _ c1 (s9.extBut _ _ c1 (Heap.get?_push_of_some _ e))
  have tT : Trip g10 g7.objs.size x y v := s10.extBut _ _ (Nat.ne_of_gt zlt) (s9.extBut _ _ (Nat.ne_of_gt zlt) (Heap.get?_push_size _ rfl))
  have hs10 : g10.objs.size = g7.objs.size + 1 := by rw [s10.1, s9.1, Heap.size_push]
  rw [hsz] at z10 tT hs10
  refine wpAny_pure ⟨_, rfl, ?_⟩
  show Q (.ref g7.objs.size) _
  rw [hsz]
  exact hQ g10 z10 (up _ _ (by show @Ne Nat _ _; omega) t7) (m1.at fun o e => up _ o (by show @Ne Nat _ _; omega) e) (m2.at fun o e => up _ o (by show @Ne Nat _ _; omega) e) (m3.at fun o e => up _ o (by show @Ne Nat _ _; omega) e) tT hs10 fun c o c1 c2 c3 c4 c5 e => up c o c1 (keep c o c1 c2 c3 c4 c5 e)
theorem z3_next_end {z TI TO i1 i2 i3 l1 l2 l3 : Addr} {k1 k2 k3 : Nat} {xs ys zs : Array Value} {a b c : Value} {Q : Fin → Shared → Prop} (hh : A.handled = none) (D : Z3 z TI TO i1 i2 i3 l1 l2 l3)
    (hz : IsZip s.heap z TI TO .none) (hTI : Trip s.heap TI (.ref i1) (.ref i2) (.ref i3)) (hTO : Trip s.heap TO a b c)
    (h1 : s.heap.IsListIter i1 l1 k1) (h2 : s.heap.IsListIter i2 l2 k2) (h3 : s.heap.IsListIter i3 l3 k3) (hl1 : s.heap.IsList l1 xs) (hl2 : s.heap.IsList l2 ys) (hl3 : s.heap.IsList l3 zs) (hend : xs[k1]? = none ∨ ys[k2]? = none ∨ zs[k3]? = none)
    (hE : ∀ h' e, (∀ c o, c ≠ z → c ≠ TO → c ≠ i1 → c ≠ i2 → c ≠ i3 → s.heap.get? c = some o → h'.get? c = some o) → (∃ o, h'.get? e = some o ∧ o.cls = .type "StopIteration") → E (.ref e) { s with heap := h' }) :
    wpAny (model prog w) A (Builtin.«zip.__next__» ⟨[.ref z], []⟩) Q E s := by
  obtain ⟨d1, d2, d3, d4, d5, d6, d7, d8⟩ := D
  show wpAny _ _ (field (.ref z) 2 >>= _) _ _ _
  refine wpAny_bind (wpAny_field hz rfl (x := .bool false) rfl ?_)
  show wpAny _ _ (field (.ref z) 3 >>= _) _ _ _
  refine wpAny_bind (wpAny_field hz rfl (x := .ref TI) rfl ?_)
  refine wpAny_bind (wpAny_seqItems hTI rfl ?_)
  show wpAny _ _ (Builtin.SmallTypes.ownedTupleIsFree (.ref z) >>= _) _ _ _
  refine wpAny_bind ?_
  unfold Builtin.SmallTypes.ownedTupleIsFree
  refine wpAny_bind (wpAny_field hz rfl (x := .none) rfl (wpAny_pure ?_))
  simp only [if_true]
  refine wpAny_bind (wpAny_rule ?_)
  refine wpAny_bind (wpAny_field hz rfl (x := .ref TO) rfl ?_)
  refine wpAny_bind (wpAny_setField_rec hz (by simp) fun g1 z1 s1 => ?_)
  replace z1 : IsZip g1 z TI TO .ellipsis := z1
  refine wpAny_bind ?_
  simp only [List.zipIdx_cons, List.zipIdx_nil, List.forIn_cons, List.forIn_nil]
  refine wpAny_bind (wpAny_bind (wpAny_onRaise ?_))
  show wpAny _ _ (Builtin.SmallTypes.nextOf (.ref i1) >>= _) _ _ _
  cases hx : xs[k1]? with
  | none =>
    refine wpAny_bind (wpAny_nextOf_list_end hh (h1.extBut s1.extBut (by show @Ne Nat _ _; omega)) (hl1.extBut s1.extBut (by show @Ne Nat _ _; omega)) hx fun g2 e s2 he => ?_)
    obtain ⟨oe, hoe, hce⟩ := he
    have z2 : IsZip g2 z TI TO .ellipsis := s2 _ _ (by show @Ne Nat _ _; omega) z1
    have hez : e ≠ z := fun q => by subst q; rw [z2] at hoe; cases hoe; simp at hce
    exact wpAny_setField_rec z2 (by simp) fun g3 _ s3 => hE g3 e (fun c o c1 _ c3 _ _ q => s3.extBut _ _ c1 (s2 _ _ c3 (s1.extBut _ _ c1 q))) ⟨oe, s3.extBut _ _ hez hoe, hce⟩
  | some x =>
    refine wpAny_bind (wpAny_nextOf_list_item (h1.extBut s1.extBut (by show @Ne Nat _ _; omega)) (hl1.extBut s1.extBut (by show @Ne Nat _ _; omega)) hx fun g2 n1 s2 => wpAny_pure ?_)
    have t2 : Trip g2 TO a b c := s2.extBut _ _ (by show @Ne Nat _ _; omega) (s1.extBut _ _ (by show @Ne Nat _ _; omega) hTO)
    refine wpAny_bind (wpAny_seqItems t2 rfl ?_)
    refine wpAny_bind (upd_trip t2 fun g3 t3 s3 => ?_)
    replace t3 : Trip g3 TO x b c := t3
    refine wpAny_bind (wpAny_letGo (wpAny_pure ?_))
    refine wpAny_bind (wpAny_bind (wpAny_onRaise ?_))
    show wpAny _ _ (Builtin.SmallTypes.nextOf (.ref i2) >>= _) _ _ _
    have m2 := ((h2.extBut s1.extBut (by show @Ne Nat _ _; omega)).extBut s2.extBut (by show @Ne Nat _ _; omega)).extBut s3.extBut (by show @Ne Nat _ _; omega)
    have q2 := ((hl2.extBut s1.extBut (by show @Ne Nat _ _; omega)).extBut s2.extBut (by show @Ne Nat _ _; omega)).extBut s3.extBut (by show @Ne Nat _ _; omega)
    have z3 : IsZip g3 z TI TO .ellipsis := s3.extBut _ _ (by show @Ne Nat _ _; omega) (s2.extBut _ _ (by show @Ne Nat _ _; omega) z1)
    cases hy : ys[k2]? with
    | none =>
      refine wpAny_bind (wpAny_nextOf_list_end hh m2 q2 hy fun g4 e s4 he => ?_)
      obtain ⟨oe, hoe, hce⟩ := he
      have z4 : IsZip g4 z TI TO .ellipsis := s4 _ _ (by show @Ne Nat _ _; omega) z3
      have hez : e ≠ z := fun q => by subst q; rw [z4] at hoe; cases hoe; simp at hce
      exact wpAny_setField_rec z4 (by simp) fun g5 _ s5 => hE g5 e (fun c o c1 c2 c3 c4 _ q => s5.extBut _ _ c1 (s4 _ _ c4 (s3.extBut _ _ c2 (s2.extBut _ _ c3 (s1.extBut _ _ c1 q))))) ⟨oe, s5.extBut _ _ hez hoe, hce⟩
    | some y =>
      have hv : zs[k3]? = none := by
        rcases hend with h | h | h
        · rw [hx] at h; cases h
        · rw [hy] at h; cases h
        · exact h
      refine wpAny_bind (wpAny_nextOf_list_item m2 q2 hy fun g4 n2 s4 => wpAny_pure ?_)
      have t4 : Trip g4 TO x b c := s4.extBut _ _ (by show @Ne Nat _ _; omega) t3
      refine wpAny_bind (wpAny_seqItems t4 rfl ?_)
      refine wpAny_bind (upd_trip t4 fun g5 t5 s5 => ?_)
      refine wpAny_bind (wpAny_letGo (wpAny_pure ?_))
      refine wpAny_bind (wpAny_bind (wpAny_onRaise ?_))
      show wpAny _ _ (Builtin.SmallTypes.nextOf (.ref i3) >>= _) _ _ _
      refine wpAny_bind (wpAny_nextOf_list_end hh (((((h3.extBut s1.extBut (by show @Ne Nat _ _; omega)).extBut s2.extBut (by show @Ne Nat _ _; omega)).extBut s3.extBut (by show @Ne Nat _ _; omega)).extBut s4.extBut (by show @Ne Nat _ _; omega)).extBut s5.extBut (by show @Ne Nat _ _; omega)) (((((hl3.extBut s1.extBut (by show @Ne Nat _ _; omega)).extBut s2.extBut (by show @Ne Nat _ _; omega)).extBut s3.extBut (by show @Ne Nat _ _; omega)).extBut s4.extBut (by show @Ne Nat _ _; omega)).extBut s5.extBut (by show @Ne Nat _ _; omega)) hv fun g6 e s6 he => ?_)
      obtain ⟨oe, hoe, hce⟩ := he
      have z6 : IsZip g6 z TI TO .ellipsis := s6 _ _ (by show @Ne Nat _ _; omega) (s5.extBut _ _ (by show @Ne Nat _ _; omega) (s4.extBut _ _ (by show @Ne Nat _ _; omega) z3))
      have hez : e ≠ z := fun q => by subst q; rw [z6] at hoe; cases hoe; simp at hce
      exact wpAny_setField_rec z6 (by simp) fun g7 _ s7 => hE g7 e (fun c o c1 c2 c3 c4 c5 q => s7.extBut _ _ c1 (s6 _ _ c5 (s5.extBut _ _ c2 (s4.extBut _ _ c4 (s3.extBut _ _ c2 (s2.extBut _ _ c3 (s1.extBut _ _ c1 q))))))) ⟨oe, s7.extBut _ _ hez hoe, hce⟩
theorem z3_pyNext {z TI TO i1 i2 i3 l1 l2 l3 : Addr} {k1 k2 k3 : Nat} {xs ys zs : Array Value} {x y v a b c : Value} {Q : Option Value → Shared → Prop} (D : Z3 z TI TO i1 i2 i3 l1 l2 l3)
    (hz : IsZip s.heap z TI TO .none) (hTI : Trip s.heap TI (.ref i1) (.ref i2) (.ref i3)) (hTO : Trip s.heap TO a b c)
    (h1 : s.heap.IsListIter i1 l1 k1) (h2 : s.heap.IsListIter i2 l2 k2) (h3 : s.heap.IsListIter i3 l3 k3) (hl1 : s.heap.IsList l1 xs) (hl2 : s.heap.IsList l2 ys) (hl3 : s.heap.IsList l3 zs) (hx : xs[k1]? = some x) (hy : ys[k2]? = some y) (hv : zs[k3]? = some v)
    (hQ : ∀ h', IsZip h' z TI TO (rawInt s.heap.objs.size) → Trip h' TO x y v → h'.IsListIter i1 l1 (k1 + 1) → h'.IsListIter i2 l2 (k2 + 1) → h'.IsListIter i3 l3 (k3 + 1) → Trip h' s.heap.objs.size x y v → h'.objs.size = s.heap.objs.size + 1 →
      (∀ c o, c ≠ z → c ≠ TO → c ≠ i1 → c ≠ i2 → c ≠ i3 → s.heap.get? c = some o → h'.get? c = some o) → Q (some (.ref s.heap.objs.size)) { s with heap := h' }) :
    wpAny (model prog w) A (pyNext (.ref z)) Q E s := by
  have hT : s.TypeIs (.ref z) "zip" := ⟨_, hz, rfl⟩
  unfold pyNext
  exact wpAny_bind (wpAny_attempt (wpAny_callSpecial?_slot (name := Str.ofString "__next__") hT F.slot_zip_next
    (wpAny_call_entry F.slot_zip_next hT F.entry_zip_next
      (z3_next_item D hz hTI hTO h1 h2 h3 hl1 hl2 hl3 hx hy hv fun h' a1 a2 a3 a4 a5 a6 a7 a8 => wpAny_pure (hQ h' a1 a2 a3 a4 a5 a6 a7 a8)) (F.args_zip_next_1 _))))
theorem z3_pyEnd {z TI TO i1 i2 i3 l1 l2 l3 : Addr} {k1 k2 k3 : Nat} {xs ys zs : Array Value} {a b c : Value} {Q : Option Value → Shared → Prop} (hh : A.handled = none) (D : Z3 z TI TO i1 i2 i3 l1 l2 l3)
    (hz : IsZip s.heap z TI TO .none) (hTI : Trip s.heap TI (.ref i1) (.ref i2) (.ref i3)) (hTO : Trip s.heap TO a b c)
    (h1 : s.heap.IsListIter i1 l1 k1) (h2 : s.heap.IsListIter i2 l2 k2) (h3 : s.heap.IsListIter i3 l3 k3) (hl1 : s.heap.IsList l1 xs) (hl2 : s.heap.IsList l2 ys) (hl3 : s.heap.IsList l3 zs) (hend : xs[k1]? = none ∨ ys[k2]? = none ∨ zs[k3]? = none)
    (hQ : ∀ h', (∀ c o, c ≠ z → c ≠ TO → c ≠ i1 → c ≠ i2 → c ≠ i3 → s.heap.get? c = some o → h'.get? c = some o) → Q none { s with heap := h' }) : wpAny (model prog w) A (pyNext (.ref z)) Q E s := by
  have hT : s.TypeIs (.ref z) "zip" := ⟨_, hz, rfl⟩
  unfold pyNext
  refine wpAny_bind (wpAny_attempt (wpAny_callSpecial?_slot (name := Str.ofString "__next__") hT F.slot_zip_next
    (wpAny_call_entry F.slot_zip_next hT F.entry_zip_next (z3_next_end hh D hz hTI hTO h1 h2 h3 hl1 hl2 hl3 hend fun h' e hk he => ?_) (F.args_zip_next_1 _))))
  obtain ⟨o, ho, hc⟩ := he
  exact wpAny_bind (wpAny_isInstance (T := "StopIteration") (b := true) ⟨o, ho, hc⟩ isSubtype_stop (wpAny_pure (hQ _ hk)))
end
/-- the heap after zip(l1, l2, l3) -/
def itObj (l : Addr) : Obj := { cls := .type "list_iterator", data := .fields #[.ref l, .int 0 0] }
def z3Heap (h : Heap) (l1 l2 l3 : Addr) : Heap :=
  (((((h.push (itObj l1)).push (itObj l2)).push (itObj l3)).push { cls := .type "tuple", data := .seq #[.ref h.objs.size, .ref (h.objs.size + 1), .ref (h.objs.size + 2)] }).push { cls := .type "tuple", data := .seq #[.none, .none, .none] }).push { cls := .type "zip", data := .fields #[.none, .bool false, .bool false, .ref (h.objs.size + 3), .ref (h.objs.size + 4)] }
theorem z3_new (l1 l2 l3 : Addr) (xs ys zs : Array Value) :
    Meets (Builtin.«zip.__new__» ⟨[.type "zip", .ref l1, .ref l2, .ref l3], []⟩) (fun _ R s => s.heap.IsList l1 xs ∧ s.heap.IsList l2 ys ∧ s.heap.IsList l3 zs ∧
      R (.ok (.ret (.ref (s.heap.objs.size + 5)))) { s with heap := z3Heap s.heap l1 l2 l3 }) :=
  .of_wp fun prog w A R s h => by
    obtain ⟨hp, g, d, tk, os⟩ := s
    obtain ⟨hl1, hl2, hl3, h⟩ := h
    have hsub := sub_zip
    have hL1 : Heap.IsList (Shared.heap ⟨hp, g, d, tk, os⟩) l1 xs := hl1
    have hL2 : Heap.IsList (Shared.heap ⟨hp.push { cls := .type "list_iterator", data := .fields #[.ref l1, .int 0 0] }, g, d, tk, os⟩) l2 ys := Heap.IsList.push hl2 _
    have hL3 : Heap.IsList (Shared.heap ⟨(hp.push { cls := .type "list_iterator", data := .fields #[.ref l1, .int 0 0] }).push { cls := .type "list_iterator", data := .fields #[.ref l2, .int 0 0] }, g, d, tk, os⟩) l3 zs := Heap.IsList.push (Heap.IsList.push hl3 _) _
    wp_walk using wpAny_pyIter_list hL1, wpAny_pyIter_list hL2, wpAny_pyIter_list hL3
    refine ⟨_, rfl, ?_⟩
    unfold z3Heap itObj at h
    simp only [Heap.size_push] at h ⊢
    exact h
end Bd
end

section
namespace Bd
open PySem L2 PySem.Spec PyProof.Rows
section
variable {prog : Program} {w : World} {A : Around} {E : Value → Shared → Prop} {s : Shared}
theorem z3_made {l1 l2 l3 : Addr} {xs ys zs : Array Value} {Q : Value → Shared → Prop} (hl1 : s.heap.IsList l1 xs) (hl2 : s.heap.IsList l2 ys) (hl3 : s.heap.IsList l3 zs)
    (h : ∀ h', IsZip h' (s.heap.objs.size + 5) (s.heap.objs.size + 3) (s.heap.objs.size + 4) .none → Trip h' (s.heap.objs.size + 3) (.ref s.heap.objs.size) (.ref (s.heap.objs.size + 1)) (.ref (s.heap.objs.size + 2)) →
      Trip h' (s.heap.objs.size + 4) .none .none .none → h'.IsListIter s.heap.objs.size l1 0 → h'.IsListIter (s.heap.objs.size + 1) l2 0 → h'.IsListIter (s.heap.objs.size + 2) l3 0 → h'.objs.size = s.heap.objs.size + 6 →
      (∀ c o, s.heap.get? c = some o → h'.get? c = some o) → Q (.ref (s.heap.objs.size + 5)) { s with heap := h' }) :
    wpAny (model prog w) A (call (.type "zip") [.ref l1, .ref l2, .ref l3]) Q E s := by
  refine callType_new F.called_zip (by decide) (z3_type _ _ _) (z3_call _ _ _) (fun obj => z3_init obj _ _ _) F.entry_zip_new (z3_new l1 l2 l3 xs ys zs) ⟨hl1, hl2, hl3, ?_⟩
  have e1 : (s.heap.push (itObj l1)).objs.size = s.heap.objs.size + 1 := Heap.size_push ..
  have e2 : ((s.heap.push (itObj l1)).push (itObj l2)).objs.size = s.heap.objs.size + 2 := by rw [Heap.size_push, e1]
  have e3 : (((s.heap.push (itObj l1)).push (itObj l2)).push (itObj l3)).objs.size = s.heap.objs.size + 3 := by rw [Heap.size_push, e2]
  have p0 : (s.heap.push (itObj l1)).get? s.heap.objs.size = some (itObj l1) := Heap.get?_push_size _ rfl
  have p1 : ((s.heap.push (itObj l1)).push (itObj l2)).get? (s.heap.objs.size + 1) = some (itObj l2) := by
    rw [← e1]
    exact Heap.get?_push_size _ rfl
  have p2 : (((s.heap.push (itObj l1)).push (itObj l2)).push (itObj l3)).get? (s.heap.objs.size + 2) = some (itObj l3) := by
    rw [← e2]
    exact Heap.get?_push_size _ rfl
  have up : ∀ (c : Addr) (o : Obj), (((s.heap.push (itObj l1)).push (itObj l2)).push (itObj l3)).get? c = some o → (z3Heap s.heap l1 l2 l3).get? c = some o := fun c o e => Heap.get?_push_of_some _ (Heap.get?_push_of_some _ (Heap.get?_push_of_some _ e))
  have e4 : ((((s.heap.push (itObj l1)).push (itObj l2)).push (itObj l3)).push { cls := .type "tuple", data := .seq #[.ref s.heap.objs.size, .ref (s.heap.objs.size + 1), .ref (s.heap.objs.size + 2)] }).objs.size = s.heap.objs.size + 4 := by rw [Heap.size_push, e3]
  have p3 : (z3Heap s.heap l1 l2 l3).get? (((s.heap.push (itObj l1)).push (itObj l2)).push (itObj l3)).objs.size = some _ := Heap.get?_push_of_some _ (Heap.get?_push_of_some _ (Heap.get?_push_size _ rfl))
  rw [e3] at p3
  have p4 : (z3Heap s.heap l1 l2 l3).get? ((((s.heap.push (itObj l1)).push (itObj l2)).push (itObj l3)).push { cls := .type "tuple", data := .seq #[.ref s.heap.objs.size, .ref (s.heap.objs.size + 1), .ref (s.heap.objs.size + 2)] }).objs.size = some _ := Heap.get?_push_of_some _ (Heap.get?_push_size _ rfl)
  rw [e4] at p4
  have e5 : (((((s.heap.push (itObj l1)).push (itObj l2)).push (itObj l3)).push { cls := .type "tuple", data := .seq #[.ref s.heap.objs.size, .ref (s.heap.objs.size + 1), .ref (s.heap.objs.size + 2)] }).push { cls := .type "tuple", data := .seq #[.none, .none, .none] }).objs.size = s.heap.objs.size + 5 := by rw [Heap.size_push, e4]
  have p5 : (z3Heap s.heap l1 l2 l3).get? (((((s.heap.push (itObj l1)).push (itObj l2)).push (itObj l3)).push { cls := .type "tuple", data := .seq #[.ref s.heap.objs.size, .ref (s.heap.objs.size + 1), .ref (s.heap.objs.size + 2)] }).push { cls := .type "tuple", data := .seq #[.none, .none, .none] }).objs.size = some _ := Heap.get?_push_size _ rfl
  rw [e5] at p5
  have e6 : (z3Heap s.heap l1 l2 l3).objs.size = s.heap.objs.size + 6 := by
    show (Heap.push _ _).objs.size = _
    rw [Heap.size_push, e5]
  exact ⟨⟨_, p5, rfl⟩, h _ p5 p3 p4 ⟨_, up _ _ (Heap.get?_push_of_some _ (Heap.get?_push_of_some _ p0)), rfl, rfl⟩ ⟨_, up _ _ (Heap.get?_push_of_some _ p1), rfl, rfl⟩ ⟨_, up _ _ p2, rfl, rfl⟩ e6 fun c o e => up c o (Heap.get?_push_of_some _ (Heap.get?_push_of_some _ (Heap.get?_push_of_some _ e)))⟩
end
/-- the lists at a, b and c as they stand at each turn, the items in new tuples -/
def It3 (K : PySem.W.Frag) (a b c : Addr) : It :=
  ⟨fun i H => ∃ (xs ys zs : List V) (x y z : V), SqL K H a xs ∧ SqL K H b ys ∧ SqL K H c zs ∧ xs[i]? = some x ∧ ys[i]? = some y ∧ zs[i]? = some z,
    fun i H v H' => ∃ T x y z, v = .ref T ∧ H T = none ∧ H' = upd H T (.tup [x, y, z]) ∧ (∀ xs, SqL K H a xs → xs[i]? = some x) ∧ (∀ ys, SqL K H b ys → ys[i]? = some y) ∧ ∀ zs, SqL K H c zs → zs[i]? = some z,
    fun i H => ∃ xs ys zs : List V, SqL K H a xs ∧ SqL K H b ys ∧ SqL K H c zs ∧ (xs.length ≤ i ∨ ys.length ≤ i ∨ zs.length ≤ i)⟩
theorem turn_zip3 {P : Program} {w : World} {K : PySem.W.Frag} {elts : List Expr} {kk : Nat} {tpos : Pos} {a b c z TI TO i1 i2 i3 : Addr} (D : Z3 z TI TO i1 i2 i3 a b c) :
    Turn P w K (.Tuple elts kk tpos) (It3 K a b c) [z, TI, TO, i1, i2, i3] z (fun i h => IsZip h z TI TO .none ∧ Trip h TI (.ref i1) (.ref i2) (.ref i3) ∧ (∃ x y v, Trip h TO x y v) ∧ h.IsListIter i1 a i ∧ h.IsListIter i2 b i ∧ h.IsListIter i3 c i) where
  mem := by simp
  obj := fun i h st e hc => by
    obtain ⟨hz, hTI, ⟨x, y, v, hTO⟩, ⟨o1, e1, _, d1⟩, ⟨o2, e2, _, d2⟩, ⟨o3, e3, _, d3⟩⟩ := st
    have e' : e = z ∨ e = TI ∨ e = TO ∨ e = i1 ∨ e = i2 ∨ e = i3 := by simpa using hc
    rcases e' with q | q | q | q | q | q
    · rw [q]; exact ⟨_, hz, fun v q => nomatch q⟩
    · rw [q]; exact ⟨_, hTI, fun v q => nomatch q⟩
    · rw [q]; exact ⟨_, hTO, fun v q => nomatch q⟩
    · rw [q]; exact ⟨o1, e1, fun v q => by rw [d1] at q; cases q⟩
    · rw [q]; exact ⟨o2, e2, fun v q => by rw [d2] at q; cases q⟩
    · rw [q]; exact ⟨o3, e3, fun v q => by rw [d3] at q; cases q⟩
  keep := fun i h h' st k => by
    obtain ⟨hz, hTI, ⟨x, y, v, hTO⟩, h1, h2, h3⟩ := st
    exact ⟨k z (by simp) _ hz, k TI (by simp) _ hTI, ⟨x, y, v, k TO (by simp) _ hTO⟩, h1.at fun o q => k i1 (by simp) o q, h2.at fun o q => k i2 (by simp) o q, h3.at fun o q => k i3 (by simp) o q⟩
  item := by
    intro X hP hw hK hc i pins s σ H E I hf st hg
    subst hP hw hK
    obtain ⟨hz, hTI, ⟨x0, y0, v0, hTO⟩, h1, h2, h3⟩ := st
    obtain ⟨xs, ys, zs, x, y, v, hqx, hqy, hqz, hx, hy, hv⟩ := hg
    obtain ⟨its, rv, p, _⟩ := I.list hqx
    obtain ⟨its2, rv2, p2, _⟩ := I.list hqy
    obtain ⟨its3, rv3, p3, _⟩ := I.list hqz
    obtain ⟨u, hu, ru⟩ := rv.get hx
    obtain ⟨u2, hu2, ru2⟩ := rv2.get hy
    obtain ⟨u3, hu3, ru3⟩ := rv3.get hv
    have hzl : z < s.heap.objs.size := Heap.lt_size hz
    refine z3_pyNext D hz hTI hTO h1 h2 h3 p.isList p2.isList p3.isList (x := u) (y := u2) (v := u3) (by simpa using hu) (by simpa using hu2) (by simpa using hu3) fun h' z' TO' h1' h2' h3' hT hsz hk => ?_
    refine ⟨_, rfl, wpAny_letOwnedTupleGo_zip (s := { s with heap := h' }) z' fun h'' z'' sb => ?_⟩
    have hT2 : h''.get? s.heap.objs.size = some { cls := .type "tuple", data := .seq #[u, u2, u3] } := (sb.2 _ (Nat.ne_of_gt hzl)).trans hT
    have new : ObjOk X.prog X.w (upd H s.heap.objs.size (.tup [x, y, v])) h'' s.heap.objs.size (.tup [x, y, v]) :=
      ⟨by show 3 ≤ sizeLine; decide, [u, u2, u3], .cons ru (.cons ru2 (.cons ru3 .nil)), ⟨_, hT2, rfl, _, rfl⟩⟩
    have I1 : Inv X pins σ (upd H s.heap.objs.size (.tup [x, y, v])) { s with heap := h'' } :=
      I.turnedNew (t' := s.toks) (ch := [z, TI, TO, i1, i2, i3]) (fun c o hb q => (sb.2 c (fun q' => hb (by simp [q']))).trans (hk c o (fun q' => hb (by simp [q'])) (fun q' => hb (by simp [q'])) (fun q' => hb (by simp [q'])) (fun q' => hb (by simp [q'])) (fun q' => hb (by simp [q'])) q)) hf (Nat.le_refl _) new
    obtain ⟨d1, d2, d3, d4, d5, d6, d7, d8⟩ := D
    have n1 : i1 ≠ z := by show @Ne Nat _ _; omega
    have n2 : i2 ≠ z := by show @Ne Nat _ _; omega
    have n3 : i3 ≠ z := by show @Ne Nat _ _; omega
    have n4 : TI ≠ z := by show @Ne Nat _ _; omega
    have n5 : TO ≠ z := by show @Ne Nat _ _; omega
    have n6 : TI ≠ TO := by show @Ne Nat _ _; omega
    have n7 : TI ≠ i1 := by show @Ne Nat _ _; omega
    have n8 : TI ≠ i2 := by show @Ne Nat _ _; omega
    have n9 : TI ≠ i3 := by show @Ne Nat _ _; omega
    refine ⟨.ref s.heap.objs.size, _, I1, rfl, ⟨_, x, y, v, rfl, I.hok.fresh (Nat.le_refl _), rfl, fun l hl => by rw [I.list_inj hl hqx]; exact hx, fun l hl => by rw [I.list_inj hl hqy]; exact hy, fun l hl => by rw [I.list_inj hl hqz]; exact hv⟩, ⟨z'', ?_, ⟨u, u2, u3, ?_⟩, ?_, ?_, ?_⟩, fun c hcm => ?_⟩
    · exact (sb.2 _ n4).trans (hk _ _ n4 n6 n7 n8 n9 hTI)
    · exact (sb.2 _ n5).trans TO'
    · exact h1'.at fun o q => (sb.2 _ n1).trans q
    · exact h2'.at fun o q => (sb.2 _ n2).trans q
    · exact h3'.at fun o q => (sb.2 _ n3).trans q
    · have hlt : c < s.heap.objs.size := by
        have e' : c = z ∨ c = TI ∨ c = TO ∨ c = i1 ∨ c = i2 ∨ c = i3 := by simpa using hcm
        rcases e' with q | q | q | q | q | q
        · rw [q]; exact hzl
        · rw [q]; exact Heap.lt_size hTI
        · rw [q]; exact Heap.lt_size hTO
        · rw [q]; obtain ⟨_, e1, _⟩ := h1; exact Heap.lt_size e1
        · rw [q]; obtain ⟨_, e1, _⟩ := h2; exact Heap.lt_size e1
        · rw [q]; obtain ⟨_, e1, _⟩ := h3; exact Heap.lt_size e1
      rw [upd_ne (Nat.ne_of_lt hlt)]
      exact (hf c hcm).1
  done := by
    intro X hP hw hK hc i pins s σ H E I hf st hg
    subst hP hw hK
    obtain ⟨hz, hTI, ⟨x0, y0, v0, hTO⟩, h1, h2, h3⟩ := st
    obtain ⟨xs, ys, zs, hqx, hqy, hqz, hend⟩ := hg
    obtain ⟨its, rv, p, _⟩ := I.list hqx
    obtain ⟨its2, rv2, p2, _⟩ := I.list hqy
    obtain ⟨its3, rv3, p3, _⟩ := I.list hqz
    have l1 := rv.length
    have l2 := rv2.length
    have l3 := rv3.length
    have he : its.toArray[i]? = none ∨ its2.toArray[i]? = none ∨ its3.toArray[i]? = none := by
      rcases hend with q | q | q
      · exact .inl (by simp; omega)
      · exact .inr (.inl (by simp; omega))
      · exact .inr (.inr (by simp; omega))
    exact z3_pyEnd (I.ok.hd hc) D hz hTI hTO h1 h2 h3 p.isList p2.isList p3.isList he fun h' hk => ⟨rfl, I.turnedL (t' := s.toks) (ch := [z, TI, TO, i1, i2, i3]) (fun c o hb q =>
      hk c o (fun q' => hb (by simp [q'])) (fun q' => hb (by simp [q'])) (fun q' => hb (by simp [q'])) (fun q' => hb (by simp [q'])) (fun q' => hb (by simp [q'])) q) hf⟩
  self := fun A i s Q E st h => wpAny_pyIter_zip st.1 h
def iZip3 (K : PySem.W.Frag) (ta : L2.TA) : L2.TI := fun σ H R => ta σ H fun vs H1 => ∃ a b c xs ys zs, vs = [.ref a, .ref b, .ref c] ∧ SqL K H1 a xs ∧ SqL K H1 b ys ∧ SqL K H1 c zs ∧ R (It3 K a b c) H1
theorem pi_zip3 {X : Cx} {e e2 e3 : Expr} {ta : L2.TA} {p pos tpos : Pos} {elts : List Expr} {kk : Nat} (hg : Gl X "zip") (hm : X.mg "zip" = none) (ha : PA X [e, e2, e3] ta)
    (hs : starEach [e, e2, e3] X.env = (false, eval e X.env) :: starEach [e2, e3] X.env := by rfl) (hpl : (backTo pos (starEach [e2, e3] X.env)).any (·.1) = false := by rfl) :
    PI X (.Tuple elts kk tpos) (.Call (.Name "zip" p) [e, e2, e3] [] pos) (iZip3 X.K ta) := by
  refine ⟨fun pins s σ H R I h => ?_⟩
  refine Call_ (ld_blt I hg hm PyProof.Rows.boot_zip (PyProof.Rows.callWith_type1 (thn (ha.run pos pins s σ H _ I h) fun us s1 ⟨vs, H1, I1, r1, q1⟩ => ?_) hs hpl))
  obtain ⟨a, b, c, xs, ys, zs, ex, hqx, hqy, hqz, q⟩ := q1
  subst ex
  cases r1 with
  | cons r rr =>
  cases rr with
  | cons r' rr =>
  cases rr with
  | cons r'' rr =>
    cases rr
    cases r
    cases r'
    cases r''
    obtain ⟨its, rv, p1, _⟩ := I1.list hqx
    obtain ⟨its2, rv2, p2, _⟩ := I1.list hqy
    obtain ⟨its3, rv3, p3, _⟩ := I1.list hqz
    have la : a < s1.heap.objs.size := p1.lt
    have lb : b < s1.heap.objs.size := p2.lt
    have lc : c < s1.heap.objs.size := p3.lt
    refine z3_made p1.isList p2.isList p3.isList fun h' hz hTI hTO h1 h2 h3 hsz hk => wpAny_pyIter_zip hz ?_
    have I2 : Inv X pins σ H1 { s1 with heap := h' } := I1.kept (t' := s1.toks) hk
    refine ⟨s1.heap.objs.size + 5, [s1.heap.objs.size + 5, s1.heap.objs.size + 3, s1.heap.objs.size + 4, s1.heap.objs.size, s1.heap.objs.size + 1, s1.heap.objs.size + 2], _, _, H1, rfl, I2, turn_zip3 ⟨la, lb, lc, by show @LT.lt Nat _ _ _; omega, by show @LT.lt Nat _ _ _; omega, by show @LT.lt Nat _ _ _; omega, by show @LT.lt Nat _ _ _; omega, by show @LT.lt Nat _ _ _; omega⟩, ⟨hz, hTI, ⟨_, _, _, hTO⟩, h1, h2, h3⟩, fun c hcm => ?_, q⟩
    have e' : c = s1.heap.objs.size + 5 ∨ c = s1.heap.objs.size + 3 ∨ c = s1.heap.objs.size + 4 ∨ c = s1.heap.objs.size ∨ c = s1.heap.objs.size + 1 ∨ c = s1.heap.objs.size + 2 := by simpa using hcm
    have hle : s1.heap.objs.size ≤ c := by
      rcases e' with z | z | z | z | z | z
      all_goals rw [z]
      all_goals first | exact Nat.le_refl _ | exact Nat.le_add_right _ _
    exact I1.fpOk hle (I1.hok.fresh hle)
/-- as the walk over zip of two lists, of three -/
def YTrip (f g h : Nat → Option V) : Nat → Hp → V → Hp → Prop := fun i H v H' => ∃ T x y z, v = V.ref T ∧ H T = none ∧ H' = upd H T (.tup [x, y, z]) ∧ f i = some x ∧ g i = some y ∧ h i = some z
theorem walk_zip3 {K : PySem.W.Frag} {a b c : Addr} {xs ys zs : List V} {n : Nat} (h1 : n = xs.length) (h2 : ys.length = n) (h3 : zs.length = n) : Walk (It3 K a b c) n (fun H => SqL K H a xs ∧ SqL K H b ys ∧ SqL K H c zs) (YTrip (fun i => xs[i]?) (fun i => ys[i]?) (fun i => zs[i]?)) := by
  subst h1
  refine ⟨fun i _ hi q => ?_, fun _ q => ⟨xs, ys, zs, q.1, q.2.1, q.2.2, .inl (Nat.le_refl _)⟩, fun i H v H' _ q y => ?_⟩
  · have l2 : i < ys.length := by omega
    have l3 : i < zs.length := by omega
    exact ⟨xs, ys, zs, xs[i], ys[i], zs[i], q.1, q.2.1, q.2.2, List.getElem?_eq_getElem hi, List.getElem?_eq_getElem l2, List.getElem?_eq_getElem l3⟩
  · obtain ⟨T, x, y, z, e1, e2, e3, e4, e5, e6⟩ := y
    exact ⟨T, x, y, z, e1, e2, e3, e4 xs q.1, e5 ys q.2.1, e6 zs q.2.2⟩
end Bd
end

section
namespace Bd
open PySem L2 PySem.Spec PyProof.Rows
open Sem (wp)
/-! zip(xs, zip(ys, zs)): a zip that walks over a zip -/
abbrev ZRec (h : Heap) (z TI TO : Addr) (f0 : Value) (f : Bool) : Prop :=
  h.get? z = some { cls := .type "zip", dict := none, data := .fields #[f0, .bool f, .bool false, .ref TI, .ref TO], slots := #[] }
/-- the inner zip after k items; its last tuple may be out or gone -/
structure ZIn (z TI TO i1 i2 l1 l2 : Addr) (k : Nat) (h : Heap) : Prop where
  zip : ∃ (f0 : Value) (f : Bool), (f0 = .none ∨ ∃ T : Addr, f0 = rawInt T) ∧ ZRec h z TI TO f0 f
  out : ∃ a b, IsPair h TO a b
  its : IsPair h TI (.ref i1) (.ref i2)
  one : h.IsListIter i1 l1 k
  two : h.IsListIter i2 l2 k
section
variable {prog : Program} {w : World} {A : Around} {E : Value → Shared → Prop} {s : Shared}
theorem zi_alive {a : Addr} {Q : Option Obj → Shared → Prop} (h : Q (s.heap.get? a) s) : wpAny (model prog w) A (loadIfAlive a) Q E s := fun _ _ _ => h
theorem zi_free {z TI TO : Addr} {f0 : Value} {f : Bool} {Q : Bool → Shared → Prop} (hz : ZRec s.heap z TI TO f0 f) (hf : f0 = .none ∨ ∃ T : Addr, f0 = rawInt T ∧ s.heap.get? T = none) (h : Q true s) : wpAny (model prog w) A (Builtin.SmallTypes.ownedTupleIsFree (.ref z)) Q E s := by
  unfold Builtin.SmallTypes.ownedTupleIsFree
  rcases hf with rfl | ⟨T, rfl, hT⟩
  · exact wpAny_bind (wpAny_field hz rfl (x := .none) rfl (wpAny_pure h))
  · refine wpAny_bind (wpAny_field hz rfl (x := rawInt T) rfl ?_)
    show wpAny _ _ (loadIfAlive ((T : Int).toNat) >>= _) _ _ _
    rw [Int.toNat_natCast]
    refine wpAny_bind (zi_alive ?_)
    rw [hT]
    simp only [Option.isNone_none, if_true]
    exact wpAny_pure h
theorem zi_free_item {z TI TO i1 i2 l1 l2 : Addr} {f0 : Value} {f : Bool} {k1 k2 : Nat} {xs ys : Array Value} {x y a b : Value} {Q : Value → Shared → Prop} (D : ZipApart z TI TO i1 i2 l1 l2)
    (hz : ZRec s.heap z TI TO f0 f) (hf : f0 = .none ∨ ∃ T : Addr, f0 = rawInt T ∧ s.heap.get? T = none) (hTI : IsPair s.heap TI (.ref i1) (.ref i2)) (hTO : IsPair s.heap TO a b)
    (h1 : s.heap.IsListIter i1 l1 k1) (h2 : s.heap.IsListIter i2 l2 k2) (hl1 : s.heap.IsList l1 xs) (hl2 : s.heap.IsList l2 ys) (hx : xs[k1]? = some x) (hy : ys[k2]? = some y)
    (hQ : ∀ h', ZRec h' z TI TO (rawInt s.heap.objs.size) false → IsPair h' TO x y → h'.IsListIter i1 l1 (k1 + 1) → h'.IsListIter i2 l2 (k2 + 1) → IsPair h' s.heap.objs.size x y → h'.objs.size = s.heap.objs.size + 1 →
      (∀ c o, c ≠ z → c ≠ TO → c ≠ i1 → c ≠ i2 → s.heap.get? c = some o → h'.get? c = some o) → Q (.ref s.heap.objs.size) { s with heap := h' }) :
    wpAny (model prog w) A (Builtin.«zip.__next__» ⟨[.ref z], []⟩) (fun fin s' => ∃ v, fin = .done (.ret v) ∧ Q v s') E s := by
  show wpAny _ _ (field (.ref z) 2 >>= _) _ _ _
  refine wpAny_bind (wpAny_field hz rfl (x := .bool false) rfl ?_)
  show wpAny _ _ (field (.ref z) 3 >>= _) _ _ _
  refine wpAny_bind (wpAny_field hz rfl (x := .ref TI) rfl ?_)
  refine wpAny_bind (wpAny_seqItems hTI rfl ?_)
  show wpAny _ _ (Builtin.SmallTypes.ownedTupleIsFree (.ref z) >>= _) _ _ _
  refine wpAny_bind (zi_free hz hf ?_)
  simp only [if_true]
  refine wpAny_bind (wpAny_rule ?_)
  refine wpAny_bind (wpAny_field hz rfl (x := .ref TO) rfl ?_)
  refine wpAny_bind (wpAny_setField_rec hz (by simp) fun h₁ hz₁ hs₁ => ?_)
  replace hz₁ : ZRec h₁ z TI TO .ellipsis f := hz₁
  refine wpAny_bind ?_
  simp only [List.zipIdx_cons, List.zipIdx_nil, List.forIn_cons, List.forIn_nil]
  refine wpAny_bind (wpAny_bind (wpAny_onRaise ?_))
  show wpAny _ _ (Builtin.SmallTypes.nextOf (.ref i1) >>= _) _ _ _
  refine wpAny_bind (wpAny_nextOf_list_item (h1.extBut hs₁.extBut D.i1z) (hl1.extBut hs₁.extBut D.l1z) hx fun h₂ h1₂ hs₂ => wpAny_pure ?_)
  have hTO₂ : IsPair h₂ TO a b := hs₂.extBut _ _ D.TOi1 (hs₁.extBut _ _ D.TOz hTO)
  refine wpAny_bind (wpAny_seqItems hTO₂ rfl ?_)
  refine wpAny_bind (wpAny_updateSeq_pair hTO₂ fun h₃ hTO₃ hs₃ => ?_)
  replace hTO₃ : IsPair h₃ TO x b := hTO₃
  refine wpAny_bind (wpAny_letGo (wpAny_pure ?_))
  refine wpAny_bind (wpAny_bind (wpAny_onRaise ?_))
  show wpAny _ _ (Builtin.SmallTypes.nextOf (.ref i2) >>= _) _ _ _
  refine wpAny_bind (wpAny_nextOf_list_item (((h2.extBut hs₁.extBut D.i2z).extBut hs₂.extBut D.i12.symm).extBut hs₃.extBut D.TOi2.symm)
    (((hl2.extBut hs₁.extBut D.l2z).extBut hs₂.extBut D.l2i1).extBut hs₃.extBut D.l2TO) hy fun h₄ h2₄ hs₄ => wpAny_pure ?_)
  have hTO₄ : IsPair h₄ TO x b := hs₄.extBut _ _ D.TOi2 hTO₃
  refine wpAny_bind (wpAny_seqItems hTO₄ rfl ?_)
  refine wpAny_bind (wpAny_updateSeq_pair hTO₄ fun h₅ hTO₅ hs₅ => ?_)
  replace hTO₅ : IsPair h₅ TO x y := hTO₅
  refine wpAny_bind (wpAny_letGo (wpAny_pure (wpAny_pure ?_)))
  refine wpAny_bind (wpAny_seqItems hTO₅ rfl ?_)
  refine wpAny_bind (wpAny_newTuple ?_)
  have hsz : h₅.objs.size = s.heap.objs.size := by rw [hs₅.1, hs₄.1, hs₃.1, hs₂.1, hs₁.1]
  have hz₅ : ZRec h₅ z TI TO .ellipsis f := hs₅.extBut _ _ D.TOz.symm (hs₄.extBut _ _ D.i2z.symm (hs₃.extBut _ _ D.TOz.symm (hs₂.extBut _ _ D.i1z.symm hz₁)))
  have hk₅ : ∀ c o, c ≠ z → c ≠ TO → c ≠ i1 → c ≠ i2 → s.heap.get? c = some o → h₅.get? c = some o := fun c o c1 c2 c3 c4 e =>
    hs₅.extBut _ _ c2 (hs₄.extBut _ _ c4 (hs₃.extBut _ _ c2 (hs₂.extBut _ _ c3 (hs₁.extBut _ _ c1 e))))
  have h1₅ : h₅.IsListIter i1 l1 (k1 + 1) := ((h1₂.extBut hs₃.extBut D.TOi1.symm).extBut hs₄.extBut D.i12).extBut hs₅.extBut D.TOi1.symm
  have h2₅ : h₅.IsListIter i2 l2 (k2 + 1) := h2₄.extBut hs₅.extBut D.TOi2.symm
  have hzlt : z < h₅.objs.size := Heap.lt_size hz₅
  show wpAny _ _ (Builtin.SmallTypes.ownedTupleHandOut (.ref z) (.ref h₅.objs.size) >>= _) _ _ _
  refine wpAny_bind ?_
  unfold Builtin.SmallTypes.ownedTupleHandOut
  have hz₆ : ZRec (h₅.push { cls := .type "tuple", data := .seq #[x, y] }) z TI TO .ellipsis f := Heap.get?_push_of_some _ hz₅
  refine wpAny_bind (wpAny_setField_rec hz₆ (by simp) fun h₇ hz₇ hs₇ => ?_)
  replace hz₇ : ZRec h₇ z TI TO (rawInt h₅.objs.size) f := hz₇
  refine wpAny_setField_rec hz₇ (by simp) fun h₈ hz₈ hs₈ => ?_
  replace hz₈ : ZRec h₈ z TI TO (rawInt h₅.objs.size) false := hz₈
  have up : ∀ c o, c ≠ z → h₅.get? c = some o → h₈.get? c = some o := fun c o c1 e => hs₈.extBut _ _ c1 (hs₇.extBut _ _ c1 (Heap.get?_push_of_some _ e))
  have hT₈ : IsPair h₈ h₅.objs.size x y := hs₈.extBut _ _ (Nat.ne_of_gt hzlt) (hs₇.extBut _ _ (Nat.ne_of_gt hzlt) (Heap.get?_push_size _ rfl))
  have hz8 : h₈.objs.size = h₅.objs.size + 1 := by rw [hs₈.1, hs₇.1, Heap.size_push]
  rw [hsz] at hz₈ hT₈ hz8
  refine wpAny_pure ⟨_, rfl, ?_⟩
  show Q (.ref h₅.objs.size) _
  rw [hsz]
  exact hQ h₈ hz₈ (up _ _ D.TOz hTO₅) (h1₅.at fun o e => up _ o D.i1z e) (h2₅.at fun o e => up _ o D.i2z e) hT₈ hz8 fun c o c1 c2 c3 c4 e => up c o c1 (hk₅ c o c1 c2 c3 c4 e)
/-- the inner zip's next item -/
theorem zi_item {z TI TO i1 i2 l1 l2 : Addr} {k : Nat} {xs ys : Array Value} {x y : Value} {Q : Value → Shared → Prop} (D : ZipApart z TI TO i1 i2 l1 l2) (st : ZIn z TI TO i1 i2 l1 l2 k s.heap)
    (hl1 : s.heap.IsList l1 xs) (hl2 : s.heap.IsList l2 ys) (hx : xs[k]? = some x) (hy : ys[k]? = some y)
    (hQ : ∀ h', ZIn z TI TO i1 i2 l1 l2 (k + 1) h' → IsPair h' s.heap.objs.size x y → h'.objs.size = s.heap.objs.size + 1 → (∀ c o, c ≠ z → c ≠ TO → c ≠ i1 → c ≠ i2 → s.heap.get? c = some o → h'.get? c = some o) → Q (.ref s.heap.objs.size) { s with heap := h' }) :
    wpAny (model prog w) A (Builtin.SmallTypes.nextOf (.ref z)) Q E s := by
  obtain ⟨⟨f0, f, hf0, hz⟩, ⟨a, b, hTO⟩, hTI, h1, h2⟩ := st
  have hTy : s.TypeIs (.ref z) "zip" := ⟨_, hz, rfl⟩
  have free : (f0 = .none ∨ ∃ T : Addr, f0 = rawInt T ∧ s.heap.get? T = none) → wpAny (model prog w) A (Builtin.SmallTypes.nextOf (.ref z)) Q E s := fun hf => by
    unfold Builtin.SmallTypes.nextOf
    exact wpAny_bind (wpAny_callSpecial?_slot (name := Str.ofString "__next__") hTy F.slot_zip_next (wpAny_call_entry F.slot_zip_next hTy F.entry_zip_next
      (zi_free_item D hz hf hTI hTO h1 h2 hl1 hl2 hx hy fun h' a1 a2 a3 a4 a5 a6 hk => wpAny_pure (hQ h' ⟨⟨_, _, .inr ⟨_, rfl⟩, a1⟩, ⟨_, _, a2⟩, hk _ _ D.TIz D.TITO D.TIi1 D.TIi2 hTI, a3, a4⟩ a5 a6 hk)) (F.args_zip_next_1 _)))
  rcases hf0 with e | ⟨T, e⟩
  · exact free (.inl e)
  · cases hT : s.heap.get? T with
    | none => exact free (.inr ⟨T, e, hT⟩)
    | some oT =>
      subst e
      unfold Builtin.SmallTypes.nextOf
      exact wpAny_bind (wpAny_callSpecial?_slot (name := Str.ofString "__next__") hTy F.slot_zip_next (wpAny_call_entry F.slot_zip_next hTy F.entry_zip_next
        (zip_next_item_held D hz hT hTI h1 h2 hl1 hl2 hx hy fun h' a1 a3 a4 a5 a6 hk => wpAny_pure (hQ h' ⟨⟨_, _, .inr ⟨_, rfl⟩, a1⟩, ⟨_, _, hk _ _ D.TOz D.TOi1 D.TOi2 hTO⟩, hk _ _ D.TIz D.TIi1 D.TIi2 hTI, a3, a4⟩ a5 a6 fun c o c1 _ c3 c4 e => hk c o c1 c3 c4 e)) (F.args_zip_next_1 _)))
/-- how the things stand: the lists, the inner zip's, the outer one's -/
def ZZ (z TI TO j m U V i1 i2 l0 l1 l2 : Nat) : Prop := l0 < i1 ∧ l1 < i1 ∧ l2 < i1 ∧ i1 < i2 ∧ i2 < U ∧ U < V ∧ V < m ∧ m < j ∧ j < TI ∧ TI < TO ∧ TO < z
theorem ZZ.inn {z TI TO j m U V i1 i2 l0 l1 l2 : Nat} (D : ZZ z TI TO j m U V i1 i2 l0 l1 l2) : ZipApart m U V i1 i2 l1 l2 := by
  obtain ⟨d1, d2, d3, d4, d5, d6, d7, d8, d9, d10, d11⟩ := D
  constructor <;> (show @Ne Nat _ _; omega)
theorem ZIn.keep {z TI TO i1 i2 l1 l2 : Addr} {k : Nat} {h h' : Heap} (st : ZIn z TI TO i1 i2 l1 l2 k h) (hz : ∀ o, h.get? z = some o → h'.get? z = some o) (ho : ∀ o, h.get? TO = some o → h'.get? TO = some o) (ht : ∀ o, h.get? TI = some o → h'.get? TI = some o) (h1 : ∀ o, h.get? i1 = some o → h'.get? i1 = some o) (h2 : ∀ o, h.get? i2 = some o → h'.get? i2 = some o) : ZIn z TI TO i1 i2 l1 l2 k h' := by
  obtain ⟨⟨f0, f, hf0, hr⟩, ⟨a, b, hTO⟩, hTI, a1, a2⟩ := st
  exact ⟨⟨f0, f, hf0, hz _ hr⟩, ⟨a, b, ho _ hTO⟩, ht _ hTI, a1.at fun o e => h1 o e, a2.at fun o e => h2 o e⟩
/-- the outer zip's next item -/
theorem zz_next_item {z TI TO j m U V i1 i2 l0 l1 l2 : Addr} {k : Nat} {ws xs ys : Array Value} {v x y a b : Value} {Q : Value → Shared → Prop} (D : ZZ z TI TO j m U V i1 i2 l0 l1 l2)
    (hz : IsZip s.heap z TI TO .none) (hTI : IsPair s.heap TI (.ref j) (.ref m)) (hTO : IsPair s.heap TO a b) (hj : s.heap.IsListIter j l0 k) (st : ZIn m U V i1 i2 l1 l2 k s.heap)
    (hl0 : s.heap.IsList l0 ws) (hl1 : s.heap.IsList l1 xs) (hl2 : s.heap.IsList l2 ys) (hv : ws[k]? = some v) (hx : xs[k]? = some x) (hy : ys[k]? = some y)
    (hQ : ∀ h', IsZip h' z TI TO (rawInt (s.heap.objs.size + 1)) → IsPair h' TI (.ref j) (.ref m) → (∃ a b, IsPair h' TO a b) → h'.IsListIter j l0 (k + 1) → ZIn m U V i1 i2 l1 l2 (k + 1) h' → IsPair h' s.heap.objs.size x y → IsPair h' (s.heap.objs.size + 1) v (.ref s.heap.objs.size) →
      (∀ c o, c ≠ z → c ≠ TO → c ≠ j → c ≠ m → c ≠ V → c ≠ i1 → c ≠ i2 → s.heap.get? c = some o → h'.get? c = some o) → Q (.ref (s.heap.objs.size + 1)) { s with heap := h' }) :
    wpAny (model prog w) A (Builtin.«zip.__next__» ⟨[.ref z], []⟩) (fun fin s' => ∃ v, fin = .done (.ret v) ∧ Q v s') E s := by
  have DI := D.inn
  obtain ⟨d1, d2, d3, d4, d5, d6, d7, d8, d9, d10, d11⟩ := D
  show wpAny _ _ (field (.ref z) 2 >>= _) _ _ _
  refine wpAny_bind (wpAny_field hz rfl (x := .bool false) rfl ?_)
  show wpAny _ _ (field (.ref z) 3 >>= _) _ _ _
  refine wpAny_bind (wpAny_field hz rfl (x := .ref TI) rfl ?_)
  refine wpAny_bind (wpAny_seqItems hTI rfl ?_)
  show wpAny _ _ (Builtin.SmallTypes.ownedTupleIsFree (.ref z) >>= _) _ _ _
  refine wpAny_bind ?_
  unfold Builtin.SmallTypes.ownedTupleIsFree
  refine wpAny_bind (wpAny_field hz rfl (x := .none) rfl (wpAny_pure ?_))
  simp only [if_true]
  refine wpAny_bind (wpAny_rule ?_)
  refine wpAny_bind (wpAny_field hz rfl (x := .ref TO) rfl ?_)
  refine wpAny_bind (wpAny_setField_rec hz (by simp) fun g1 z1 s1 => ?_)
  replace z1 : IsZip g1 z TI TO .ellipsis := z1
  refine wpAny_bind ?_
  simp only [List.zipIdx_cons, List.zipIdx_nil, List.forIn_cons, List.forIn_nil]
  refine wpAny_bind (wpAny_bind (wpAny_onRaise ?_))
  show wpAny _ _ (Builtin.SmallTypes.nextOf (.ref j) >>= _) _ _ _
  refine wpAny_bind (wpAny_nextOf_list_item (hj.extBut s1.extBut (by show @Ne Nat _ _; omega)) (hl0.extBut s1.extBut (by show @Ne Nat _ _; omega)) hv fun g2 n1 s2 => wpAny_pure ?_)
  have t2 : IsPair g2 TO a b := s2.extBut _ _ (by show @Ne Nat _ _; omega) (s1.extBut _ _ (by show @Ne Nat _ _; omega) hTO)
  refine wpAny_bind (wpAny_seqItems t2 rfl ?_)
  refine wpAny_bind (wpAny_updateSeq_pair t2 fun g3 t3 s3 => ?_)
  replace t3 : IsPair g3 TO v b := t3
  refine wpAny_bind (wpAny_letGo (wpAny_pure ?_))
  refine wpAny_bind (wpAny_bind (wpAny_onRaise ?_))
  show wpAny _ _ (Builtin.SmallTypes.nextOf (.ref m) >>= _) _ _ _
  have up3 : ∀ c o, c ≠ z → c ≠ TO → c ≠ j → s.heap.get? c = some o → g3.get? c = some o := fun c o c1 c2 c3 e => s3.extBut _ _ c2 (s2.extBut _ _ c3 (s1.extBut _ _ c1 e))
  have hs3 : g3.objs.size = s.heap.objs.size := by rw [s3.1, s2.1, s1.1]
  have stI : ZIn m U V i1 i2 l1 l2 k g3 := st.keep (fun o e => up3 _ o (by show @Ne Nat _ _; omega) (by show @Ne Nat _ _; omega) (by show @Ne Nat _ _; omega) e) (fun o e => up3 _ o (by show @Ne Nat _ _; omega) (by show @Ne Nat _ _; omega) (by show @Ne Nat _ _; omega) e) (fun o e => up3 _ o (by show @Ne Nat _ _; omega) (by show @Ne Nat _ _; omega) (by show @Ne Nat _ _; omega) e) (fun o e => up3 _ o (by show @Ne Nat _ _; omega) (by show @Ne Nat _ _; omega) (by show @Ne Nat _ _; omega) e) fun o e => up3 _ o (by show @Ne Nat _ _; omega) (by show @Ne Nat _ _; omega) (by show @Ne Nat _ _; omega) e
  refine wpAny_bind (zi_item (s := { s with heap := g3 }) DI stI (hl1.at fun o e => up3 _ o (by show @Ne Nat _ _; omega) (by show @Ne Nat _ _; omega) (by show @Ne Nat _ _; omega) e) (hl2.at fun o e => up3 _ o (by show @Ne Nat _ _; omega) (by show @Ne Nat _ _; omega) (by show @Ne Nat _ _; omega) e) hx hy fun g4 st4 p4 hs4 k4 => wpAny_pure ?_)
  dsimp only at p4 hs4 k4 ⊢
  have t4 : IsPair g4 TO v b := k4 _ _ (by show @Ne Nat _ _; omega) (by show @Ne Nat _ _; omega) (by show @Ne Nat _ _; omega) (by show @Ne Nat _ _; omega) t3
  refine wpAny_bind (wpAny_seqItems t4 rfl ?_)
  refine wpAny_bind (wpAny_updateSeq_pair t4 fun g5 t5 s5 => ?_)
  replace t5 : IsPair g5 TO v (.ref g3.objs.size) := t5
  refine wpAny_bind (wpAny_letGo (wpAny_pure (wpAny_pure ?_)))
  refine wpAny_bind (wpAny_seqItems t5 rfl ?_)
  refine wpAny_bind (wpAny_newTuple ?_)
  have hsz : g5.objs.size = s.heap.objs.size + 1 := by rw [s5.1, hs4, hs3]
  have z3 : IsZip g3 z TI TO .ellipsis := s3.extBut _ _ (by show @Ne Nat _ _; omega) (s2.extBut _ _ (by show @Ne Nat _ _; omega) z1)
  have z5 : IsZip g5 z TI TO .ellipsis := s5.extBut _ _ (by show @Ne Nat _ _; omega) (k4 _ _ (by show @Ne Nat _ _; omega) (by show @Ne Nat _ _; omega) (by show @Ne Nat _ _; omega) (by show @Ne Nat _ _; omega) z3)
  have zlt : z < s.heap.objs.size := Heap.lt_size hz
  have TOlt : TO < s.heap.objs.size := Heap.lt_size hTO
  show wpAny _ _ (Builtin.SmallTypes.ownedTupleHandOut (.ref z) (.ref g5.objs.size) >>= _) _ _ _
  refine wpAny_bind ?_
  unfold Builtin.SmallTypes.ownedTupleHandOut
  have z6 : IsZip (g5.push { cls := .type "tuple", data := .seq #[v, .ref g3.objs.size] }) z TI TO .ellipsis := Heap.get?_push_of_some _ z5
  refine wpAny_bind (wpAny_setField_rec z6 (by simp) fun g7 z7 s7 => ?_)
  replace z7 : IsZip g7 z TI TO (rawInt g5.objs.size) := z7
  refine wpAny_setField_rec z7 (by simp) fun g8 z8 s8 => ?_
  replace z8 : IsZip g8 z TI TO (rawInt g5.objs.size) := z8
  have up : ∀ c o, c ≠ z → g5.get? c = some o → g8.get? c = some o := fun c o c1 e => s8.extBut _ _ c1 (s7.extBut _ _ c1 (Heap.get?_push_of_some _ e))
  have zlt5 : z < g5.objs.size := Heap.lt_size z5
  have tT : IsPair g8 g5.objs.size v (.ref g3.objs.size) := s8.extBut _ _ (Nat.ne_of_gt zlt5) (s7.extBut _ _ (Nat.ne_of_gt zlt5) (Heap.get?_push_size _ rfl))
  have up4 : ∀ c o, c ≠ z → c ≠ TO → g4.get? c = some o → g8.get? c = some o := fun c o c1 c2 e => up c o c1 (s5.extBut _ _ c2 e)
  have keep : ∀ c o, c ≠ z → c ≠ TO → c ≠ j → c ≠ m → c ≠ V → c ≠ i1 → c ≠ i2 → s.heap.get? c = some o → g8.get? c = some o := fun c o c1 c2 c3 c4 c5 c6 c7 e => up4 c o c1 c2 (k4 c o c4 c5 c6 c7 (up3 c o c1 c2 c3 e))
  have st8 : ZIn m U V i1 i2 l1 l2 (k + 1) g8 := st4.keep (fun o e => up4 _ o (by show @Ne Nat _ _; omega) (by show @Ne Nat _ _; omega) e) (fun o e => up4 _ o (by show @Ne Nat _ _; omega) (by show @Ne Nat _ _; omega) e) (fun o e => up4 _ o (by show @Ne Nat _ _; omega) (by show @Ne Nat _ _; omega) e) (fun o e => up4 _ o (by show @Ne Nat _ _; omega) (by show @Ne Nat _ _; omega) e) fun o e => up4 _ o (by show @Ne Nat _ _; omega) (by show @Ne Nat _ _; omega) e
  have j3 : g3.IsListIter j l0 (k + 1) := n1.extBut s3.extBut (by show @Ne Nat _ _; omega)
  have j8 : g8.IsListIter j l0 (k + 1) := j3.at fun o e => up4 _ o (by show @Ne Nat _ _; omega) (by show @Ne Nat _ _; omega) (k4 _ o (by show @Ne Nat _ _; omega) (by show @Ne Nat _ _; omega) (by show @Ne Nat _ _; omega) (by show @Ne Nat _ _; omega) e)
  have TIp : IsPair g8 TI (.ref j) (.ref m) := keep _ _ (by show @Ne Nat _ _; omega) (by show @Ne Nat _ _; omega) (by show @Ne Nat _ _; omega) (by show @Ne Nat _ _; omega) (by show @Ne Nat _ _; omega) (by show @Ne Nat _ _; omega) (by show @Ne Nat _ _; omega) hTI
  have pIn : IsPair g8 g3.objs.size x y := up4 _ _ (by rw [hs3]; exact Nat.ne_of_gt zlt) (by rw [hs3]; exact Nat.ne_of_gt TOlt) p4
  rw [hs3] at tT pIn
  rw [hsz] at z8 tT
  refine wpAny_pure ⟨_, rfl, ?_⟩
  show Q (.ref g5.objs.size) _
  rw [hsz]
  exact hQ g8 z8 TIp ⟨_, _, up _ _ (by show @Ne Nat _ _; omega) t5⟩ j8 st8 pIn tT keep
theorem zz_next_end {z TI TO j m l0 : Addr} {k : Nat} {ws : Array Value} {a b : Value} {Q : Fin → Shared → Prop} (hh : A.handled = none) (n1 : j ≠ z) (n2 : l0 ≠ z)
    (hz : IsZip s.heap z TI TO .none) (hTI : IsPair s.heap TI (.ref j) (.ref m)) (hTO : IsPair s.heap TO a b) (hj : s.heap.IsListIter j l0 k) (hl0 : s.heap.IsList l0 ws) (hv : ws[k]? = none)
    (hE : ∀ h' e, (∀ c o, c ≠ z → c ≠ j → s.heap.get? c = some o → h'.get? c = some o) → (∃ o, h'.get? e = some o ∧ o.cls = .type "StopIteration") → E (.ref e) { s with heap := h' }) :
    wpAny (model prog w) A (Builtin.«zip.__next__» ⟨[.ref z], []⟩) Q E s := by
  show wpAny _ _ (field (.ref z) 2 >>= _) _ _ _
  refine wpAny_bind (wpAny_field hz rfl (x := .bool false) rfl ?_)
  show wpAny _ _ (field (.ref z) 3 >>= _) _ _ _
  refine wpAny_bind (wpAny_field hz rfl (x := .ref TI) rfl ?_)
  refine wpAny_bind (wpAny_seqItems hTI rfl ?_)
  show wpAny _ _ (Builtin.SmallTypes.ownedTupleIsFree (.ref z) >>= _) _ _ _
  refine wpAny_bind ?_
  unfold Builtin.SmallTypes.ownedTupleIsFree
  refine wpAny_bind (wpAny_field hz rfl (x := .none) rfl (wpAny_pure ?_))
  simp only [if_true]
  refine wpAny_bind (wpAny_rule ?_)
  refine wpAny_bind (wpAny_field hz rfl (x := .ref TO) rfl ?_)
  refine wpAny_bind (wpAny_setField_rec hz (by simp) fun g1 z1 s1 => ?_)
  replace z1 : IsZip g1 z TI TO .ellipsis := z1
  refine wpAny_bind ?_
  simp only [List.zipIdx_cons, List.zipIdx_nil, List.forIn_cons, List.forIn_nil]
  refine wpAny_bind (wpAny_bind (wpAny_onRaise ?_))
  show wpAny _ _ (Builtin.SmallTypes.nextOf (.ref j) >>= _) _ _ _
  refine wpAny_bind (wpAny_nextOf_list_end hh (hj.extBut s1.extBut n1) (hl0.extBut s1.extBut n2) hv fun g2 e s2 he => ?_)
  obtain ⟨oe, hoe, hce⟩ := he
  have z2 : IsZip g2 z TI TO .ellipsis := s2 _ _ n1.symm z1
  have hez : e ≠ z := fun q => by subst q; rw [z2] at hoe; cases hoe; simp at hce
  exact wpAny_setField_rec z2 (by simp) fun g3 _ s3 => hE g3 e (fun c o c1 c3 q => s3.extBut _ _ c1 (s2 _ _ c3 (s1.extBut _ _ c1 q))) ⟨oe, s3.extBut _ _ hez hoe, hce⟩
theorem zz_pyNext {z TI TO j m U V i1 i2 l0 l1 l2 : Addr} {k : Nat} {ws xs ys : Array Value} {v x y a b : Value} {Q : Option Value → Shared → Prop} (D : ZZ z TI TO j m U V i1 i2 l0 l1 l2)
    (hz : IsZip s.heap z TI TO .none) (hTI : IsPair s.heap TI (.ref j) (.ref m)) (hTO : IsPair s.heap TO a b) (hj : s.heap.IsListIter j l0 k) (st : ZIn m U V i1 i2 l1 l2 k s.heap)
    (hl0 : s.heap.IsList l0 ws) (hl1 : s.heap.IsList l1 xs) (hl2 : s.heap.IsList l2 ys) (hv : ws[k]? = some v) (hx : xs[k]? = some x) (hy : ys[k]? = some y)
    (hQ : ∀ h', IsZip h' z TI TO (rawInt (s.heap.objs.size + 1)) → IsPair h' TI (.ref j) (.ref m) → (∃ a b, IsPair h' TO a b) → h'.IsListIter j l0 (k + 1) → ZIn m U V i1 i2 l1 l2 (k + 1) h' → IsPair h' s.heap.objs.size x y → IsPair h' (s.heap.objs.size + 1) v (.ref s.heap.objs.size) →
      (∀ c o, c ≠ z → c ≠ TO → c ≠ j → c ≠ m → c ≠ V → c ≠ i1 → c ≠ i2 → s.heap.get? c = some o → h'.get? c = some o) → Q (some (.ref (s.heap.objs.size + 1))) { s with heap := h' }) :
    wpAny (model prog w) A (pyNext (.ref z)) Q E s := by
  have hT : s.TypeIs (.ref z) "zip" := ⟨_, hz, rfl⟩
  unfold pyNext
  exact wpAny_bind (wpAny_attempt (wpAny_callSpecial?_slot (name := Str.ofString "__next__") hT F.slot_zip_next
    (wpAny_call_entry F.slot_zip_next hT F.entry_zip_next
      (zz_next_item D hz hTI hTO hj st hl0 hl1 hl2 hv hx hy fun h' a1 a2 a3 a4 a5 a6 a7 a8 => wpAny_pure (hQ h' a1 a2 a3 a4 a5 a6 a7 a8)) (F.args_zip_next_1 _))))
theorem zz_pyEnd {z TI TO j m l0 : Addr} {k : Nat} {ws : Array Value} {a b : Value} {Q : Option Value → Shared → Prop} (hh : A.handled = none) (n1 : j ≠ z) (n2 : l0 ≠ z)
    (hz : IsZip s.heap z TI TO .none) (hTI : IsPair s.heap TI (.ref j) (.ref m)) (hTO : IsPair s.heap TO a b) (hj : s.heap.IsListIter j l0 k) (hl0 : s.heap.IsList l0 ws) (hv : ws[k]? = none)
    (hQ : ∀ h', (∀ c o, c ≠ z → c ≠ j → s.heap.get? c = some o → h'.get? c = some o) → Q none { s with heap := h' }) : wpAny (model prog w) A (pyNext (.ref z)) Q E s := by
  have hT : s.TypeIs (.ref z) "zip" := ⟨_, hz, rfl⟩
  unfold pyNext
  refine wpAny_bind (wpAny_attempt (wpAny_callSpecial?_slot (name := Str.ofString "__next__") hT F.slot_zip_next
    (wpAny_call_entry F.slot_zip_next hT F.entry_zip_next (zz_next_end hh n1 n2 hz hTI hTO hj hl0 hv fun h' e hk he => ?_) (F.args_zip_next_1 _))))
  obtain ⟨o, ho, hc⟩ := he
  exact wpAny_bind (wpAny_isInstance (T := "StopIteration") (b := true) ⟨o, ho, hc⟩ isSubtype_stop (wpAny_pure (hQ _ hk)))
end
end Bd
end

section
namespace Bd
open PySem L2 PySem.Spec PyProof.Rows
section
variable {X : Cx} {pins : List (Addr × Obj)} {σ : L2.St} {H : Hp} {s : Shared} {h' : Heap}
/-- two new objects are laid while a thing takes its turn -/
theorem turned_two {t' : Nat} {ch : List Addr} {T1 T2 : Addr} {o1 o2 : HO} (I : L2.Inv X pins σ H s) (k : ∀ b o, b ∉ ch → s.heap.get? b = some o → h'.get? b = some o) (hf : ∀ b ∈ ch, FpOk X pins H b) (h1 : s.heap.objs.size ≤ T1) (h2 : s.heap.objs.size ≤ T2) (ne : T1 ≠ T2)
    (n1 : ObjOk X.prog X.w (upd (upd H T1 o1) T2 o2) h' T1 o1) (n2 : ObjOk X.prog X.w (upd (upd H T1 o1) T2 o2) h' T2 o2) : L2.Inv X pins σ (upd (upd H T1 o1) T2 o2) { s with heap := h', toks := t' } := by
  have z1 : H T1 = none := I.hok.fresh h1
  have z2 : H T2 = none := I.hok.fresh h2
  have up : ∀ b u, H b = some u → (upd (upd H T1 o1) T2 o2) b = some u := fun b u e => by
    rw [upd_ne (ne_of_none e z2), upd_ne (ne_of_none e z1)]
    exact e
  have nit : ∀ b u, H b = some u → b ∉ ch := fun b u e z => by
    have q := (hf b z).1
    rw [q] at e; cases e
  refine I.step (g' := s.gens) (d' := s.drawn) (ch := ch) (fun b hb => ⟨(hf b hb).2.2.2.1, (hf b hb).2.1, (hf b hb).2.2.2.2.1, (hf b hb).2.2.2.2.2⟩) (fun b o _ _ hc e _ => k b o hc e) (fun b o _ _ hc e _ => ⟨o.slots, k b o hc e⟩)
    (fun b o _ e n => ?_) (fun b o hc e => ⟨o, k b o hc e⟩) (fun b xs e => up b _ e) (fun b o u e => up b _ e) (fun b ps e => ⟨#[], by rw [up b _ e]; simp⟩) (fun m hm => ?_) (fun b u e => ?_) I.bare
  · rw [upd_ne (Nat.ne_of_lt (Nat.lt_of_lt_of_le (Heap.lt_size e) h2)), upd_ne (Nat.ne_of_lt (Nat.lt_of_lt_of_le (Heap.lt_size e) h1))]
    exact n
  · obtain ⟨o, es, ep, ho, r⟩ := hm
    exact ⟨o, es, ep, k _ o (fun z => (hf _ z).2.1 rfl) ho, r⟩
  · by_cases hb : b = T2
    · subst hb
      rw [upd_same] at e
      cases e
      exact n2
    · rw [upd_ne hb] at e
      by_cases hb1 : b = T1
      · subst hb1
        rw [upd_same] at e
        cases e
        exact n1
      · rw [upd_ne hb1] at e
        refine (I.hok b u e).stay (fun c v hc q => k c v ?_ q) (fun c q => up c _ q) fun c xs q => up c _ q
        rcases hc with z | z
        · rw [z]; exact nit b u e
        · exact nit c _ z
end
/-- the lists at l0, l1 and l2 as they stand at each turn, the items in new pairs, one within the other -/
def Itzz (K : PySem.W.Frag) (l0 l1 l2 : Addr) : It :=
  ⟨fun i H => ∃ (ws xs ys : List V) (v x y : V), SqL K H l0 ws ∧ SqL K H l1 xs ∧ SqL K H l2 ys ∧ ws[i]? = some v ∧ xs[i]? = some x ∧ ys[i]? = some y,
    fun i H w H' => ∃ Ti T v x y, w = .ref T ∧ H Ti = none ∧ H T = none ∧ Ti ≠ T ∧ H' = upd (upd H Ti (.tup [x, y])) T (.tup [v, .ref Ti]) ∧ (∀ ws, SqL K H l0 ws → ws[i]? = some v) ∧ (∀ xs, SqL K H l1 xs → xs[i]? = some x) ∧ ∀ ys, SqL K H l2 ys → ys[i]? = some y,
    fun i H => ∃ ws : List V, SqL K H l0 ws ∧ ws.length ≤ i⟩
theorem turn_zz {P : Program} {w : World} {K : PySem.W.Frag} {elts : List Expr} {kk : Nat} {tpos : Pos} {z TI TO j m U W i1 i2 l0 l1 l2 : Addr} (D : ZZ z TI TO j m U W i1 i2 l0 l1 l2) :
    Turn P w K (.Tuple elts kk tpos) (Itzz K l0 l1 l2) [z, TI, TO, j, m, U, W, i1, i2] z (fun i h => IsZip h z TI TO .none ∧ IsPair h TI (.ref j) (.ref m) ∧ (∃ a b, IsPair h TO a b) ∧ h.IsListIter j l0 i ∧ ZIn m U W i1 i2 l1 l2 i h) where
  mem := by simp
  obj := fun i h st e hc => by
    obtain ⟨hz, hTI, ⟨x, y, hTO⟩, ⟨oj, ej, _, dj⟩, ⟨⟨f0, f, hf0, hm⟩, ⟨a, b, hW⟩, hU, ⟨o1, e1, _, d1⟩, ⟨o2, e2, _, d2⟩⟩⟩ := st
    have e' : e = z ∨ e = TI ∨ e = TO ∨ e = j ∨ e = m ∨ e = U ∨ e = W ∨ e = i1 ∨ e = i2 := by simpa using hc
    rcases e' with q | q | q | q | q | q | q | q | q
    · rw [q]; exact ⟨_, hz, fun v q => nomatch q⟩
    · rw [q]; exact ⟨_, hTI, fun v q => nomatch q⟩
    · rw [q]; exact ⟨_, hTO, fun v q => nomatch q⟩
    · rw [q]; exact ⟨oj, ej, fun v q => by rw [dj] at q; cases q⟩
    · rw [q]; exact ⟨_, hm, fun v q => nomatch q⟩
    · rw [q]; exact ⟨_, hU, fun v q => nomatch q⟩
    · rw [q]; exact ⟨_, hW, fun v q => nomatch q⟩
    · rw [q]; exact ⟨o1, e1, fun v q => by rw [d1] at q; cases q⟩
    · rw [q]; exact ⟨o2, e2, fun v q => by rw [d2] at q; cases q⟩
  keep := fun i h h' st k => by
    obtain ⟨hz, hTI, ⟨x, y, hTO⟩, hj, st⟩ := st
    exact ⟨k z (by simp) _ hz, k TI (by simp) _ hTI, ⟨x, y, k TO (by simp) _ hTO⟩, hj.at fun o q => k j (by simp) o q, st.keep (fun o q => k m (by simp) o q) (fun o q => k W (by simp) o q) (fun o q => k U (by simp) o q) (fun o q => k i1 (by simp) o q) fun o q => k i2 (by simp) o q⟩
  item := by
    intro X hP hw hK hc i pins s σ H E I hf st hg
    subst hP hw hK
    obtain ⟨hz, hTI, ⟨x0, y0, hTO⟩, hj, st⟩ := st
    obtain ⟨ws, xs, ys, v, x, y, hq0, hqx, hqy, hv, hx, hy⟩ := hg
    obtain ⟨its0, rv0, p0, _⟩ := I.list hq0
    obtain ⟨its1, rv1, p1, _⟩ := I.list hqx
    obtain ⟨its2, rv2, p2, _⟩ := I.list hqy
    obtain ⟨u0, hu0, ru0⟩ := rv0.get hv
    obtain ⟨u1, hu1, ru1⟩ := rv1.get hx
    obtain ⟨u2, hu2, ru2⟩ := rv2.get hy
    have hzl : z < s.heap.objs.size := Heap.lt_size hz
    have st0 := st
    refine zz_pyNext D hz hTI hTO hj st p0.isList p1.isList p2.isList (v := u0) (x := u1) (y := u2) (by simpa using hu0) (by simpa using hu1) (by simpa using hu2) fun h' z' TI' TO' hj' st' hp1 hp2 hk => ?_
    refine ⟨_, rfl, wpAny_letOwnedTupleGo_zip (s := { s with heap := h' }) z' fun h'' z'' sb => ?_⟩
    obtain ⟨d1, d2, d3, d4, d5, d6, d7, d8, d9, d10, d11⟩ := D
    have hT1 : h''.get? s.heap.objs.size = some { cls := .type "tuple", data := .seq #[u1, u2] } := (sb.2 _ (Nat.ne_of_gt hzl)).trans hp1
    have hT2 : h''.get? (s.heap.objs.size + 1) = some { cls := .type "tuple", data := .seq #[u0, .ref s.heap.objs.size] } := (sb.2 _ (Nat.ne_of_gt (Nat.lt_succ_of_lt hzl))).trans hp2
    have nT : s.heap.objs.size ≠ s.heap.objs.size + 1 := Nat.ne_of_lt (Nat.lt_succ_self _)
    have I1 : L2.Inv X pins σ (upd (upd H s.heap.objs.size (.tup [x, y])) (s.heap.objs.size + 1) (.tup [v, .ref s.heap.objs.size])) { s with heap := h'' } :=
      turned_two (t' := s.toks) (ch := [z, TI, TO, j, m, U, W, i1, i2]) I (fun c o hb q => (sb.2 c (fun q' => hb (by simp [q']))).trans (hk c o (fun q' => hb (by simp [q'])) (fun q' => hb (by simp [q'])) (fun q' => hb (by simp [q'])) (fun q' => hb (by simp [q'])) (fun q' => hb (by simp [q'])) (fun q' => hb (by simp [q'])) (fun q' => hb (by simp [q'])) q)) hf (Nat.le_refl _) (Nat.le_succ _) nT
        ⟨by show 2 ≤ sizeLine; decide, [u1, u2], .cons ru1 (.cons ru2 .nil), ⟨_, hT1, rfl, _, rfl⟩⟩ ⟨by show 2 ≤ sizeLine; decide, [u0, .ref s.heap.objs.size], .cons ru0 (.cons rfl .nil), ⟨_, hT2, rfl, _, rfl⟩⟩
    refine ⟨.ref (s.heap.objs.size + 1), _, I1, rfl, ⟨_, _, v, x, y, rfl, I.hok.fresh (Nat.le_refl _), I.hok.fresh (Nat.le_succ _), nT, rfl, fun l hl => by rw [I.list_inj hl hq0]; exact hv, fun l hl => by rw [I.list_inj hl hqx]; exact hx, fun l hl => by rw [I.list_inj hl hqy]; exact hy⟩, ⟨z'', ?_, ?_, ?_, ?_⟩, fun c hcm => ?_⟩
    · exact (sb.2 _ (by show @Ne Nat _ _; omega)).trans TI'
    · obtain ⟨a', b', hab⟩ := TO'
      exact ⟨a', b', (sb.2 _ (by show @Ne Nat _ _; omega)).trans hab⟩
    · exact hj'.at fun o q => (sb.2 _ (by show @Ne Nat _ _; omega)).trans q
    · exact st'.keep (fun o q => (sb.2 _ (by show @Ne Nat _ _; omega)).trans q) (fun o q => (sb.2 _ (by show @Ne Nat _ _; omega)).trans q) (fun o q => (sb.2 _ (by show @Ne Nat _ _; omega)).trans q) (fun o q => (sb.2 _ (by show @Ne Nat _ _; omega)).trans q) fun o q => (sb.2 _ (by show @Ne Nat _ _; omega)).trans q
    · have hlt : c < s.heap.objs.size := by
        have e' : c = z ∨ c = TI ∨ c = TO ∨ c = j ∨ c = m ∨ c = U ∨ c = W ∨ c = i1 ∨ c = i2 := by simpa using hcm
        have le : c ≤ z := by
          rcases e' with q | q | q | q | q | q | q | q | q <;> (rw [q]; show @LE.le Nat _ _ _; omega)
        exact Nat.lt_of_le_of_lt le hzl
      rw [upd_ne (Nat.ne_of_lt (Nat.lt_succ_of_lt hlt)), upd_ne (Nat.ne_of_lt hlt)]
      exact (hf c hcm).1
  done := by
    intro X hP hw hK hc i pins s σ H E I hf st hg
    subst hP hw hK
    obtain ⟨hz, hTI, ⟨x0, y0, hTO⟩, hj, st⟩ := st
    obtain ⟨ws, hq0, hend⟩ := hg
    obtain ⟨its, rv, p, _⟩ := I.list hq0
    have l1 := rv.length
    have he : its.toArray[i]? = none := by simp; omega
    obtain ⟨d1, d2, d3, d4, d5, d6, d7, d8, d9, d10, d11⟩ := D
    exact zz_pyEnd (I.ok.hd hc) (by show @Ne Nat _ _; omega) (by show @Ne Nat _ _; omega) hz hTI hTO hj p.isList he fun h' hk => ⟨rfl, I.turnedL (t' := s.toks) (ch := [z, TI, TO, j, m, U, W, i1, i2]) (fun c o hb q =>
      hk c o (fun q' => hb (by simp [q'])) (fun q' => hb (by simp [q'])) q) hf⟩
  self := fun A i s Q E st h => wpAny_pyIter_zip st.1 h
/-- the heap after zip(l0, m), m a zip -/
def zzHeap (h : Heap) (l0 m : Addr) : Heap :=
  (((h.push (itObj l0)).push { cls := .type "tuple", data := .seq #[.ref h.objs.size, .ref m] }).push { cls := .type "tuple", data := .seq #[.none, .none] }).push { cls := .type "zip", data := .fields #[.none, .bool false, .bool false, .ref (h.objs.size + 1), .ref (h.objs.size + 2)] }
theorem zz_new (l0 m U W : Addr) (xs : Array Value) :
    Meets (Builtin.«zip.__new__» ⟨[.type "zip", .ref l0, .ref m], []⟩) (fun _ R s => s.heap.IsList l0 xs ∧ IsZip s.heap m U W .none ∧
      R (.ok (.ret (.ref (s.heap.objs.size + 3)))) { s with heap := zzHeap s.heap l0 m }) :=
  .of_wp fun prog w A R s h => by
    obtain ⟨hp, g, d, tk, os⟩ := s
    obtain ⟨hl1, hl2, h⟩ := h
    have hsub := sub_zip
    have hL1 : Heap.IsList (Shared.heap ⟨hp, g, d, tk, os⟩) l0 xs := hl1
    have hL2 : IsZip (Shared.heap ⟨hp.push { cls := .type "list_iterator", data := .fields #[.ref l0, .int 0 0] }, g, d, tk, os⟩) m U W .none := Heap.get?_push_of_some _ hl2
    wp_walk using wpAny_pyIter_list hL1, wpAny_pyIter_zip hL2
    refine ⟨_, rfl, ?_⟩
    unfold zzHeap itObj at h
    simp only [Heap.size_push] at h ⊢
    exact h
section
variable {prog : Program} {w : World} {A : Around} {E : Value → Shared → Prop} {s : Shared}
theorem zz_made {l0 m U W : Addr} {xs : Array Value} {Q : Value → Shared → Prop} (hl1 : s.heap.IsList l0 xs) (hl2 : IsZip s.heap m U W .none)
    (h : ∀ h', IsZip h' (s.heap.objs.size + 3) (s.heap.objs.size + 1) (s.heap.objs.size + 2) .none → IsPair h' (s.heap.objs.size + 1) (.ref s.heap.objs.size) (.ref m) →
      IsPair h' (s.heap.objs.size + 2) .none .none → h'.IsListIter s.heap.objs.size l0 0 → h'.objs.size = s.heap.objs.size + 4 →
      (∀ c o, s.heap.get? c = some o → h'.get? c = some o) → Q (.ref (s.heap.objs.size + 3)) { s with heap := h' }) :
    wpAny (model prog w) A (call (.type "zip") [.ref l0, .ref m]) Q E s := by
  refine callType_new F.called_zip (by decide) (F.typeCall_zip_2 _ _) (F.newCall_zip_2 _ _) (fun obj => F.args_object_init_3 obj _ _) F.entry_zip_new (zz_new l0 m U W xs) ⟨hl1, hl2, ?_⟩
  have e1 : (s.heap.push (itObj l0)).objs.size = s.heap.objs.size + 1 := Heap.size_push ..
  have p0 : (s.heap.push (itObj l0)).get? s.heap.objs.size = some (itObj l0) := Heap.get?_push_size _ rfl
  have e2 : ((s.heap.push (itObj l0)).push { cls := .type "tuple", data := .seq #[.ref s.heap.objs.size, .ref m] }).objs.size = s.heap.objs.size + 2 := by rw [Heap.size_push, e1]
  have p1 : (zzHeap s.heap l0 m).get? (s.heap.push (itObj l0)).objs.size = some _ := Heap.get?_push_of_some _ (Heap.get?_push_of_some _ (Heap.get?_push_size _ rfl))
  rw [e1] at p1
  have p2 : (zzHeap s.heap l0 m).get? ((s.heap.push (itObj l0)).push { cls := .type "tuple", data := .seq #[.ref s.heap.objs.size, .ref m] }).objs.size = some _ := Heap.get?_push_of_some _ (Heap.get?_push_size _ rfl)
  rw [e2] at p2
  have e3 : (((s.heap.push (itObj l0)).push { cls := .type "tuple", data := .seq #[.ref s.heap.objs.size, .ref m] }).push { cls := .type "tuple", data := .seq #[.none, .none] }).objs.size = s.heap.objs.size + 3 := by rw [Heap.size_push, e2]
  have p3 : (zzHeap s.heap l0 m).get? (((s.heap.push (itObj l0)).push { cls := .type "tuple", data := .seq #[.ref s.heap.objs.size, .ref m] }).push { cls := .type "tuple", data := .seq #[.none, .none] }).objs.size = some _ := Heap.get?_push_size _ rfl
  rw [e3] at p3
  have e4 : (zzHeap s.heap l0 m).objs.size = s.heap.objs.size + 4 := by
    show (Heap.push _ _).objs.size = _
    rw [Heap.size_push, e3]
  have up : ∀ (c : Addr) (o : Obj), s.heap.get? c = some o → (zzHeap s.heap l0 m).get? c = some o := fun c o e => Heap.get?_push_of_some _ (Heap.get?_push_of_some _ (Heap.get?_push_of_some _ (Heap.get?_push_of_some _ e)))
  exact ⟨⟨_, p3, rfl⟩, h _ p3 p1 p2 ⟨_, Heap.get?_push_of_some _ (Heap.get?_push_of_some _ (Heap.get?_push_of_some _ p0)), rfl, rfl⟩ e4 up⟩
end
def iZz (K : PySem.W.Frag) (ta : L2.TE) (tb : L2.TA) : L2.TI := fun σ H R => ta σ H fun v0 H0 => tb σ H0 fun vs H1 => ∃ l0 l1 l2 ws xs ys, v0 = .ref l0 ∧ vs = [.ref l1, .ref l2] ∧ SqL K H1 l0 ws ∧ SqL K H1 l1 xs ∧ SqL K H1 l2 ys ∧ R (Itzz K l0 l1 l2) H1
theorem pi_zz {X : Cx} {e e1 e2 : Expr} {ta : L2.TE} {tb : L2.TA} {p p2 pos pos2 tpos : Pos} {elts : List Expr} {kk : Nat} (hg : Gl X "zip") (hm : X.mg "zip" = none) (ha : PE X e ta) (hb : PA X [e1, e2] tb)
    (hs : starEach [e, .Call (.Name "zip" p2) [e1, e2] [] pos2] X.env = (false, eval e X.env) :: (false, eval (.Call (.Name "zip" p2) [e1, e2] [] pos2) X.env) :: starEach [] X.env := by rfl)
    (hs1 : starEach [e, .Call (.Name "zip" p2) [e1, e2] [] pos2] X.env = (false, eval e X.env) :: starEach [.Call (.Name "zip" p2) [e1, e2] [] pos2] X.env := by rfl)
    (hpl1 : (backTo pos (starEach [.Call (.Name "zip" p2) [e1, e2] [] pos2] X.env)).any (·.1) = false := by rfl)
    (hs2 : starEach [e1, e2] X.env = (false, eval e1 X.env) :: starEach [e2] X.env := by rfl) (hpl : (backTo pos2 (starEach [e2] X.env)).any (·.1) = false := by rfl) :
    PI X (.Tuple elts kk tpos) (.Call (.Name "zip" p) [e, .Call (.Name "zip" p2) [e1, e2] [] pos2] [] pos) (iZz X.K ta tb) := by
  refine ⟨fun pins s σ H R I h => ?_⟩
  refine Call_ (ld_blt I hg hm PyProof.Rows.boot_zip (PyProof.Rows.callWith_type1 ?_ hs1 hpl1))
  rw [hs]
  show wpAny _ _ (spliced ((false, eval e X.env) :: (false, eval (.Call (.Name "zip" p2) [e1, e2] [] pos2) X.env) :: backTo pos (starEach [] X.env))) _ _ s
  refine Calls.spliced_cons (thn (ha.run pins s σ H _ I h) fun u s1 ⟨v0, H0, I0, r0, q0⟩ => ?_)
  refine Calls.spliced_cons ?_
  refine Call_ (ld_blt I0 hg hm PyProof.Rows.boot_zip (PyProof.Rows.callWith_type1 (thn (hb.run pos2 pins s1 σ H0 _ I0 q0) fun us s2 ⟨vs, H1, I1, r1, q1⟩ => ?_) hs2 hpl))
  obtain ⟨l0, l1, l2, ws, xs, ys, ev0, ex, hq0, hqx, hqy, q⟩ := q1
  subst ev0
  subst ex
  cases r0
  cases r1 with
  | cons r rr =>
  cases rr with
  | cons r' rr =>
    cases rr
    cases r
    cases r'
    obtain ⟨its0, rv0, p0, _⟩ := I1.list hq0
    obtain ⟨its, rv, p1, _⟩ := I1.list hqx
    obtain ⟨its2, rv2, p3, _⟩ := I1.list hqy
    have la : l0 < s2.heap.objs.size := p0.lt
    have lb : l1 < s2.heap.objs.size := p1.lt
    have lc : l2 < s2.heap.objs.size := p3.lt
    refine call_zip_2 p1.isList p3.isList fun h' hz hTI hTO h1 h2 hsz hk => ?_
    refine Calls.spliced_nil ?_
    refine zz_made (s := { s2 with heap := h' }) (p0.isList.at fun o e => hk _ o e) hz fun h'' gz gTI gTO gj gsz gk => ?_
    dsimp only at gz gTI gTO gj gsz gk ⊢
    rw [hsz] at gz gTI gTO gj gsz ⊢
    refine wpAny_pyIter_zip gz ?_
    have I2 : L2.Inv X pins σ H1 { s2 with heap := h'' } := I1.kept (t' := s2.toks) fun c o e => gk c o (hk c o e)
    refine ⟨s2.heap.objs.size + 5 + 3, [s2.heap.objs.size + 5 + 3, s2.heap.objs.size + 5 + 1, s2.heap.objs.size + 5 + 2, s2.heap.objs.size + 5, s2.heap.objs.size + 4, s2.heap.objs.size + 2, s2.heap.objs.size + 3, s2.heap.objs.size, s2.heap.objs.size + 1], _, _, H1, rfl, I2, turn_zz (i1 := s2.heap.objs.size) (i2 := s2.heap.objs.size + 1) (l0 := l0) (l1 := l1) (l2 := l2) ⟨la, lb, lc, by show @LT.lt Nat _ _ _; omega, by show @LT.lt Nat _ _ _; omega, by show @LT.lt Nat _ _ _; omega, by show @LT.lt Nat _ _ _; omega, by show @LT.lt Nat _ _ _; omega, by show @LT.lt Nat _ _ _; omega, by show @LT.lt Nat _ _ _; omega, by show @LT.lt Nat _ _ _; omega⟩, ⟨gz, gTI, ⟨_, _, gTO⟩, gj, ⟨⟨.none, false, .inl rfl, gk _ _ hz⟩, ⟨_, _, gk _ _ hTO⟩, gk _ _ hTI, h1.at fun o e => gk _ o e, h2.at fun o e => gk _ o e⟩⟩, fun c hcm => ?_, q⟩
    have hle : s2.heap.objs.size ≤ c := by
      have e' : c = s2.heap.objs.size + 5 + 3 ∨ c = s2.heap.objs.size + 5 + 1 ∨ c = s2.heap.objs.size + 5 + 2 ∨ c = s2.heap.objs.size + 5 ∨ c = s2.heap.objs.size + 4 ∨ c = s2.heap.objs.size + 2 ∨ c = s2.heap.objs.size + 3 ∨ c = s2.heap.objs.size ∨ c = s2.heap.objs.size + 1 := by simpa using hcm
      rcases e' with z | z | z | z | z | z | z | z | z <;> (rw [z]; show @LE.le Nat _ _ _; omega)
    exact I1.fpOk hle (I1.hok.fresh hle)
def YZz (f g h : Nat → Option V) : Nat → Hp → V → Hp → Prop := fun i H w H' => ∃ Ti T v x y, w = V.ref T ∧ H Ti = none ∧ H T = none ∧ Ti ≠ T ∧ H' = upd (upd H Ti (.tup [x, y])) T (.tup [v, .ref Ti]) ∧ f i = some v ∧ g i = some x ∧ h i = some y
theorem walk_zz {K : PySem.W.Frag} {l0 l1 l2 : Addr} {ws xs ys : List V} {n : Nat} (h1 : ws.length = n) (h2 : xs.length = n) (h3 : ys.length = n) : Walk (Itzz K l0 l1 l2) n (fun H => SqL K H l0 ws ∧ SqL K H l1 xs ∧ SqL K H l2 ys) (YZz (fun i => ws[i]?) (fun i => xs[i]?) (fun i => ys[i]?)) := by
  subst h1
  refine ⟨fun i _ hi q => ?_, fun _ q => ⟨ws, q.1, Nat.le_refl _⟩, fun i H v H' _ q y => ?_⟩
  · have l2 : i < xs.length := by omega
    have l3 : i < ys.length := by omega
    exact ⟨ws, xs, ys, ws[i], xs[i], ys[i], q.1, q.2.1, q.2.2, List.getElem?_eq_getElem hi, List.getElem?_eq_getElem l2, List.getElem?_eq_getElem l3⟩
  · obtain ⟨Ti, T, x, y, z, e1, e2, e3, e4, e5, e6, e7, e8⟩ := y
    exact ⟨Ti, T, x, y, z, e1, e2, e3, e4, e5, e6 ws q.1, e7 xs q.2.1, e8 ys q.2.2⟩
end Bd
end

section
namespace Bd
open PySem L2 PySem.Spec PyProof.Rows
open Sem (wp)
/-! list(zip(xs, ys)) -/
theorem zl_no_len : typeLookup (.type "zip") "__len__" = pure none := am_miss_of_fast (by decide +kernel)
theorem zl_no_hint : typeLookup (.type "zip") "__length_hint__" = pure none := am_miss_of_fast (by decide +kernel)
/-- the tuples that were made, one by one -/
structure ZG (xs ys : Array Value) (lo : Addr) (h : Heap) (as : List Addr) : Prop where
  rise : as.Pairwise (· < ·)
  above : ∀ a ∈ as, lo < a
  pairs : ∀ (j : Nat) (a : Addr), as[j]? = some a → ∃ x y, xs[j]? = some x ∧ ys[j]? = some y ∧ IsPair h a x y
/-- the zip after i items; its last tuple stands in the list at S -/
structure ZSt (S z TI TO i1 i2 l1 l2 : Addr) (xs ys : Array Value) (i : Nat) (h : Heap) : Prop where
  zip : ((∃ a b, IsPair h TO a b) ∧ IsZip h z TI TO .none) ∨ ∃ (T : Addr) (f : Bool) (oT : Obj), IsZipHeld h z TI TO T f ∧ S < T ∧ h.get? T = some oT
  its : IsPair h TI (.ref i1) (.ref i2)
  one : h.IsListIter i1 l1 i
  two : h.IsListIter i2 l2 i
  xs : h.IsList l1 xs
  ys : h.IsList l2 ys
section
variable {prog : Program} {w : World} {A : Around} {E : Value → Shared → Prop} {s : Shared} {S z TI TO i1 i2 l1 l2 : Addr} {xs ys : Array Value} {i : Nat}
theorem ZSt.keep {h h' : Heap} (st : ZSt S z TI TO i1 i2 l1 l2 xs ys i h) (hk : ∀ b o, b ≠ S → h.get? b = some o → h'.get? b = some o) (D : z < S ∧ TI < S ∧ TO < S ∧ i1 < S ∧ i2 < S ∧ l1 < S ∧ l2 < S) : ZSt S z TI TO i1 i2 l1 l2 xs ys i h' := by
  obtain ⟨d1, d2, d3, d4, d5, d6, d7⟩ := D
  have ne : ∀ {b : Addr}, b < S → b ≠ S := fun h => Nat.ne_of_lt h
  refine ⟨?_, hk _ _ (ne d2) st.its, st.one.at fun o e => hk _ o (ne d4) e, st.two.at fun o e => hk _ o (ne d5) e, st.xs.at fun o e => hk _ o (ne d6) e, st.ys.at fun o e => hk _ o (ne d7) e⟩
  rcases st.zip with ⟨⟨a, b, h1⟩, h2⟩ | ⟨T, f, oT, h1, h2, h3⟩
  · exact .inl ⟨⟨a, b, hk _ _ (ne d3) h1⟩, hk _ _ (ne d1) h2⟩
  · exact .inr ⟨T, f, oT, hk _ _ (ne d1) h1, h2, hk _ _ (Nat.ne_of_gt h2) h3⟩
theorem zl_item {Q : Option Value → Shared → Prop} (D : ZipApart z TI TO i1 i2 l1 l2) (hS0 : z < S ∧ TI < S ∧ TO < S ∧ i1 < S ∧ i2 < S ∧ l1 < S ∧ l2 < S) (st : ZSt S z TI TO i1 i2 l1 l2 xs ys i s.heap) {x y : Value} (hx : xs[i]? = some x) (hy : ys[i]? = some y) (hS : S < s.heap.objs.size)
    (hQ : ∀ h', ZSt S z TI TO i1 i2 l1 l2 xs ys (i + 1) h' → IsPair h' s.heap.objs.size x y → h'.objs.size = s.heap.objs.size + 1 → (∀ c o, c ≠ z → c ≠ TO → c ≠ i1 → c ≠ i2 → s.heap.get? c = some o → h'.get? c = some o) → Q (some (.ref s.heap.objs.size)) { s with heap := h' }) :
    wpAny (model prog w) A (pyNext (.ref z)) Q E s := by
  rcases st.zip with ⟨⟨a, b, h1⟩, h2⟩ | ⟨T, f, oT, h1, h2, h3⟩
  · refine wpAny_pyNext_zip_item D h2 st.its h1 st.one st.two st.xs st.ys hx hy fun h' a1 a2 a3 a4 a5 a6 hk => hQ h' ⟨.inr ⟨s.heap.objs.size, false, _, a1, hS, a5⟩, hk _ _ D.TIz D.TITO D.TIi1 D.TIi2 st.its, a3, a4, st.xs.at fun o e => hk _ o D.l1z D.l1TO D.l1i1 D.l1i2 e, st.ys.at fun o e => hk _ o D.l2z D.l2TO D.l2i1 D.l2i2 e⟩ a5 a6 hk
  · refine wpAny_pyNext_zip_item_held D h1 h3 st.its st.one st.two st.xs st.ys hx hy fun h' a1 a3 a4 a5 a6 hk => ?_
    have n1 : T ≠ z := Nat.ne_of_gt (Nat.lt_trans hS0.1 h2)
    have n2 : T ≠ i1 := Nat.ne_of_gt (Nat.lt_trans hS0.2.2.2.1 h2)
    have n3 : T ≠ i2 := Nat.ne_of_gt (Nat.lt_trans hS0.2.2.2.2.1 h2)
    exact hQ h' ⟨.inr ⟨T, true, oT, a1, h2, hk _ _ n1 n2 n3 h3⟩, hk _ _ D.TIz D.TIi1 D.TIi2 st.its, a3, a4, st.xs.at fun o e => hk _ o D.l1z D.l1i1 D.l1i2 e, st.ys.at fun o e => hk _ o D.l2z D.l2i1 D.l2i2 e⟩ a5 a6 fun c o c1 _ c3 c4 e => hk c o c1 c3 c4 e
theorem zl_end {Q : Option Value → Shared → Prop} (hh : A.handled = none) (D : ZipApart z TI TO i1 i2 l1 l2) (st : ZSt S z TI TO i1 i2 l1 l2 xs ys i s.heap) (hend : xs[i]? = none)
    (hQ : ∀ h', (∀ c o, c ≠ z → c ≠ TO → c ≠ i1 → c ≠ i2 → s.heap.get? c = some o → h'.get? c = some o) → Q none { s with heap := h' }) : wpAny (model prog w) A (pyNext (.ref z)) Q E s := by
  rcases st.zip with ⟨⟨a, b, h1⟩, h2⟩ | ⟨T, f, oT, h1, h2, h3⟩
  · exact wpAny_pyNext_zip_end hh D h2 st.its h1 st.one st.two st.xs st.ys (.inl hend) hQ
  · exact wpAny_pyNext_zip_end_held hh D h1 h3 st.its st.one st.two st.xs st.ys (.inl hend) fun h' hk => hQ h' fun c o c1 _ c3 c4 e => hk c o c1 c3 c4 e
theorem zl_loop {R : Result → Shared → Prop} {n : Nat} (hh : A.handled = none) (D : ZipApart z TI TO i1 i2 l1 l2) (hS0 : z < S ∧ TI < S ∧ TO < S ∧ i1 < S ∧ i2 < S ∧ l1 < S ∧ l2 < S) (hx : xs.size = n) (hy : ys.size = n) (hn : n ≤ 1000) (res : Value) {h0 : Heap}
    (hR : ∀ h' tk acc c as, (∀ b o, b ≠ S → b ≠ z → b ≠ TO → b ≠ i1 → b ≠ i2 → h0.get? b = some o → h'.get? b = some o) → h'.get? S = some { cls := .type "list", dict := none, data := .seq acc c, slots := #[] } → as.length = n → ZG xs ys S h' as → acc.toList = as.map Value.ref → R (.ok (.ret res)) { s with heap := h', toks := tk }) :
    ∀ (k i : Nat) (h : Heap) (tk c : Nat) (acc : Array Value) (as : List Addr), n - i = k → i ≤ n → ZSt S z TI TO i1 i2 l1 l2 xs ys i h → (∀ b o, b ≠ S → b ≠ z → b ≠ TO → b ≠ i1 → b ≠ i2 → h0.get? b = some o → h.get? b = some o) →
    h.get? S = some { cls := .type "list", dict := none, data := .seq acc c, slots := #[] } → acc.toList = as.map Value.ref → as.length = i → ZG xs ys S h as → (∀ a ∈ as, a < h.objs.size) →
    codeAny (model prog w) A (.builtin "list.extend.loop" ⟨[.ref S, .ref z, res], []⟩) R { s with heap := h, toks := tk } := by
  have nz : S ≠ z ∧ S ≠ TO ∧ S ≠ i1 ∧ S ≠ i2 := ⟨Nat.ne_of_gt hS0.1, Nat.ne_of_gt hS0.2.2.1, Nat.ne_of_gt hS0.2.2.2.1, Nat.ne_of_gt hS0.2.2.2.2.1⟩
  intro k
  induction k with
  | zero =>
    intro i h tk c acc as hk hi hst hkeep hS hacc hal hG hlt
    have e : i = n := by omega
    subst e
    refine codeAny_builtin PySem.F.entry_extend_loop ?_
    rw [Around.under_plainId PySem.F.plain_extend_loop _]
    show wpAny _ A.in1 (pyNext (.ref z) >>= _) _ _ _
    refine wpAny_bind (zl_end (s := { s with heap := h, toks := tk }) (A := A.in1) hh D hst (Array.getElem?_eq_none (by omega)) fun h' hk' => ?_)
    refine wpAny_pure (hR h' tk acc c as (fun b o b0 b1 b2 b3 b4 e => hk' b o b1 b2 b3 b4 (hkeep b o b0 b1 b2 b3 b4 e)) (hk' _ _ nz.1 nz.2.1 nz.2.2.1 nz.2.2.2 hS) hal ⟨hG.rise, hG.above, fun j a hj => ?_⟩ hacc)
    obtain ⟨x, y, e1, e2, e3⟩ := hG.pairs j a hj
    have hb := hG.above a (List.mem_of_getElem? hj)
    exact ⟨x, y, e1, e2, hk' _ _ (Nat.ne_of_gt (Nat.lt_trans hS0.1 hb)) (Nat.ne_of_gt (Nat.lt_trans hS0.2.2.1 hb)) (Nat.ne_of_gt (Nat.lt_trans hS0.2.2.2.1 hb)) (Nat.ne_of_gt (Nat.lt_trans hS0.2.2.2.2.1 hb)) e3⟩
  | succ k ih =>
    intro i h tk c acc as hk hi hst hkeep hS hacc hal hG hlt
    have lt : i < n := by omega
    have hsz : acc.size = i := by rw [← Array.length_toList, hacc, List.length_map, hal]
    have ex := Array.getElem?_eq_getElem (xs := xs) (i := i) (by omega)
    have ey := Array.getElem?_eq_getElem (xs := ys) (i := i) (by omega)
    refine codeAny_builtin PySem.F.entry_extend_loop ?_
    rw [Around.under_plainId PySem.F.plain_extend_loop _]
    show wpAny _ A.in1 (pyNext (.ref z) >>= _) _ _ _
    refine wpAny_bind (zl_item (s := { s with heap := h, toks := tk }) D hS0 hst ex ey (Heap.lt_size hS) fun h' hst' ht hz' hkp => ?_)
    dsimp only at ht hz' hkp ⊢
    have hS' := hkp S _ nz.1 nz.2.1 nz.2.2.1 nz.2.2.2 hS
    have hSl : S < h.objs.size := Heap.lt_size hS
    have big : (1000 : Nat) < sizeLine := by decide
    have b1 : acc.size ≤ sizeLine := by rw [hsz]; omega
    have b2 : (acc.push (Value.ref h.objs.size)).size ≤ sizeLine + 1 := by rw [Array.size_push, hsz]; omega
    have up : ∀ b o, b ≠ S → h'.get? b = some o → (h'.update S (Obj.mapSeq (·.push (Value.ref h.objs.size)))).get? b = some o := fun b o hb e => (Heap.get?_update_other _ _ (Ne.symm hb)).trans e
    show wpAny _ A.in1 (updateSeq S (·.push (Value.ref h.objs.size)) >>= _) _ _ _
    refine wpAny_bind ?_
    refine wpAny_updateSeq hS' rfl (wpAny_pure ⟨plainId_quiet PySem.F.plain_extend_loop _, ih (i + 1) _ tk _ (acc.push (Value.ref h.objs.size)) (as ++ [h.objs.size]) (by omega) lt (hst'.keep up hS0)
      (fun b o b0 b1 b2 b3 b4 e => up b o b0 (hkp b o b1 b2 b3 b4 (hkeep b o b0 b1 b2 b3 b4 e))) (Heap.get?_update_self _ hS' rfl) (by rw [Array.toList_push, hacc, List.map_append]; rfl) (by rw [List.length_append, hal]; rfl) ⟨?_, ?_, ?_⟩ ?_⟩) b1 b2
    · refine List.pairwise_append.mpr ⟨hG.rise, List.pairwise_singleton _ _, fun a ha b hb => ?_⟩
      rw [List.mem_singleton.mp hb]
      exact hlt a ha
    · intro a ha
      rcases List.mem_append.mp ha with ha | ha
      · exact hG.above a ha
      · rw [List.mem_singleton.mp ha]; exact hSl
    · intro j b hj
      rcases Nat.lt_trichotomy j as.length with h1 | h1 | h1
      · rw [List.getElem?_append_left h1] at hj
        obtain ⟨x', y', e1, e2, e3⟩ := hG.pairs j b hj
        have hb := hG.above b (List.mem_of_getElem? hj)
        exact ⟨x', y', e1, e2, up b _ (Nat.ne_of_gt hb) (hkp b _ (Nat.ne_of_gt (Nat.lt_trans hS0.1 hb)) (Nat.ne_of_gt (Nat.lt_trans hS0.2.2.1 hb)) (Nat.ne_of_gt (Nat.lt_trans hS0.2.2.2.1 hb)) (Nat.ne_of_gt (Nat.lt_trans hS0.2.2.2.2.1 hb)) e3)⟩
      · subst h1
        have hb : h.objs.size = b := by simpa using hj
        subst hb
        exact ⟨_, _, by rw [hal]; exact ex, by rw [hal]; exact ey, up _ _ (Nat.ne_of_gt hSl) ht⟩
      · rw [List.getElem?_eq_none (by rw [List.length_append, List.length_singleton]; omega)] at hj
        cases hj
    · intro a ha
      have e : (h'.update S (Obj.mapSeq (·.push (Value.ref h.objs.size)))).get? h.objs.size = _ := up _ _ (Nat.ne_of_gt hSl) ht
      have e2 := Heap.lt_size e
      rcases List.mem_append.mp ha with ha | ha
      · exact Nat.lt_trans (hlt a ha) e2
      · rw [List.mem_singleton.mp ha]
        exact e2
end
end Bd
end

section
namespace Bd
open PySem L2 PySem.Spec PyProof.Rows
open Sem (wp)
section
variable {prog : Program} {w : World} {A : Around} {E : Value → Shared → Prop} {s : Shared} {S z TI TO i1 i2 l1 l2 : Addr} {xs ys : Array Value} {n : Nat}
theorem zl_extend {R : Result → Shared → Prop} (hh : A.handled = none) (D : ZipApart z TI TO i1 i2 l1 l2) (hS0 : z < S ∧ TI < S ∧ TO < S ∧ i1 < S ∧ i2 < S ∧ l1 < S ∧ l2 < S) (hx : xs.size = n) (hy : ys.size = n) (hn : n ≤ 1000) (res : Value)
    (hz : IsZip s.heap z TI TO .none) (st : ZSt S z TI TO i1 i2 l1 l2 xs ys 0 s.heap) (c0 : Nat) (hS : s.heap.get? S = some { cls := .type "list", data := .seq #[] c0 })
    (hR : ∀ h' tk acc c as, (∀ b o, b ≠ S → b ≠ z → b ≠ TO → b ≠ i1 → b ≠ i2 → s.heap.get? b = some o → h'.get? b = some o) → h'.get? S = some { cls := .type "list", dict := none, data := .seq acc c, slots := #[] } → as.length = n → ZG xs ys S h' as → acc.toList = as.map Value.ref → R (.ok (.ret res)) { s with heap := h', toks := tk }) :
    wpAny (model prog w) A.in1 (Builtin.List.listExtendWith (.ref S) (.ref z) res)
      (fun fin s' => match fin with | .done f => R (.ok f) s' | .again c' => c'.quiet = true ∧ codeAny (model prog w) A c' R s') (fun e s' => R (.error e) s') s := by
  have hTy : s.TypeIs (.ref z) "zip" := ⟨_, hz, rfl⟩
  have hSz : S ≠ z := Nat.ne_of_gt hS0.1
  unfold Builtin.List.listExtendWith
  refine wpAny_bind (wpAny_typeOf (T := "zip") hTy ?_)
  have h1 : Builtin.List.listSameRef (.ref S) (.ref z) = false := by simp [Builtin.List.listSameRef, hSz]
  have h2 : (Value.type "zip" == Value.type "list") = false := by decide
  have h3 : (Value.type "zip" == Value.type "tuple") = false := by decide
  simp only [h1, h2, h3, Bool.or_false, Bool.false_eq_true, if_false]
  refine wpAny_bind (wpAny_pyIter_zip hz ?_)
  refine wpAny_bind (wpAny_holding ?_)
  unfold Builtin.List.listLengthHint
  refine wpAny_bind (wpAny_specialOf hTy zl_no_len ?_)
  show wpAny _ A.in1 (specialOf (Value.ref z) (Str.ofString "__length_hint__") >>= _) _ _ _
  refine wpAny_bind (wpAny_specialOf hTy zl_no_hint ?_)
  refine wpAny_pure ?_
  show wpAny _ A.in1 (rule "list.extend.makes-room" >>= fun _ => Builtin.List.listTouch (.ref S) >>= fun _ =>
    again (.builtin "list.extend.loop" ⟨[.ref S, .ref z, res], []⟩)) _ _ _
  refine wpAny_bind (wpAny_rule ?_)
  refine wpAny_bind ?_
  show wpAny _ A.in1 (updateSeq S (·.push .none) >>= fun _ => updateSeq S (·.pop)) _ _ _
  refine wpAny_bind (wpAny_updateSeq hS rfl ?_)
  have hS₂ := Heap.get?_update_self (Obj.mapSeq (·.push Value.none)) hS rfl
  refine wpAny_updateSeq (hz := by seq_fits) hS₂ rfl ?_
  have hS₃ := Heap.get?_update_self (Obj.mapSeq (·.pop)) hS₂ rfl
  have oth : ∀ b o, b ≠ S → s.heap.get? b = some o → ((s.heap.update S (Obj.mapSeq (·.push Value.none))).update S (Obj.mapSeq (·.pop))).get? b = some o :=
    fun b o hb e => (Heap.get?_update_other _ _ (Ne.symm hb)).trans ((Heap.get?_update_other _ _ (Ne.symm hb)).trans e)
  exact wpAny_pure ⟨plainId_quiet PySem.F.plain_extend_loop _, zl_loop (s := s) (S := S) hh D hS0 hx hy hn res (h0 := s.heap) hR n 0 _ _ _ #[] [] rfl (Nat.zero_le _) (st.keep oth hS0) (fun b o b0 _ _ _ _ e => oth b o b0 e) hS₃ rfl rfl ⟨List.Pairwise.nil, (fun _ ha => nomatch ha), fun j a hj => by simp at hj⟩ fun a ha => nomatch ha⟩
theorem zl_init {R : Result → Shared → Prop} (hh : A.handled = none) (D : ZipApart z TI TO i1 i2 l1 l2) (hS0 : z < S ∧ TI < S ∧ TO < S ∧ i1 < S ∧ i2 < S ∧ l1 < S ∧ l2 < S) (hx : xs.size = n) (hy : ys.size = n) (hn : n ≤ 1000)
    (hz : IsZip s.heap z TI TO .none) (st : ZSt S z TI TO i1 i2 l1 l2 xs ys 0 s.heap) (hS : s.heap.get? S = some { cls := .type "list", data := .seq #[] })
    (hR : ∀ h' tk acc c as, (∀ b o, b ≠ S → b ≠ z → b ≠ TO → b ≠ i1 → b ≠ i2 → s.heap.get? b = some o → h'.get? b = some o) → h'.get? S = some { cls := .type "list", dict := none, data := .seq acc c, slots := #[] } → as.length = n → ZG xs ys S h' as → acc.toList = as.map Value.ref → R (.ok (.ret .none)) { s with heap := h', toks := tk }) :
    wpAny (model prog w) A.in1 (Builtin.«list.__init__» ⟨[.ref S, .ref z], []⟩)
      (fun fin s' => match fin with | .done f => R (.ok f) s' | .again c' => c'.quiet = true ∧ codeAny (model prog w) A c' R s') (fun e s' => R (.error e) s') s := by
  show wpAny _ _ (do let old ← Builtin.List.listItems (.ref S); Builtin.List.listUpdate (.ref S) (fun _ => #[]); letGo old.toList.reverse; Builtin.List.listExtendWith (.ref S) (.ref z) .none) _ _ s
  refine wpAny_bind ?_
  unfold Builtin.List.listItems
  refine wpAny_bind (wpAny_seqItems hS rfl (wpAny_pure ?_))
  show wpAny _ _ (updateSeq S (fun _ => #[]) >>= fun _ => letGo (#[] : Array Value).toList.reverse >>= fun _ => Builtin.List.listExtendWith (.ref S) (.ref z) .none) _ _ s
  refine wpAny_bind (wpAny_updateSeq hS rfl ?_)
  have hS₂ := Heap.get?_update_self (Obj.mapSeq (fun _ => (#[] : Array Value))) hS rfl
  have oth : ∀ b o, b ≠ S → s.heap.get? b = some o → (s.heap.update S (Obj.mapSeq (fun _ => (#[] : Array Value)))).get? b = some o :=
    fun b o hb e => (Heap.get?_update_other _ _ (Ne.symm hb)).trans e
  refine wpAny_bind (wpAny_letGo ?_)
  exact zl_extend hh D hS0 hx hy hn .none (oth _ _ (Nat.ne_of_lt hS0.1) hz) (st.keep oth hS0) _ hS₂ fun h' tk acc c as hk hS' hl hG hacc => hR h' tk acc c as (fun b o b0 b1 b2 b3 b4 e => hk b o b0 b1 b2 b3 b4 (oth b o b0 e)) hS' hl hG hacc
theorem zl_call {Q : Value → Shared → Prop} (hh : A.handled = none) (D : ZipApart z TI TO i1 i2 l1 l2) (hlt : z < s.heap.objs.size ∧ TI < s.heap.objs.size ∧ TO < s.heap.objs.size ∧ i1 < s.heap.objs.size ∧ i2 < s.heap.objs.size ∧ l1 < s.heap.objs.size ∧ l2 < s.heap.objs.size) (hx : xs.size = n) (hy : ys.size = n) (hn : n ≤ 1000)
    (hz : IsZip s.heap z TI TO .none) (hTO : ∃ a b, IsPair s.heap TO a b) (hTI : IsPair s.heap TI (.ref i1) (.ref i2)) (h1 : s.heap.IsListIter i1 l1 0) (h2 : s.heap.IsListIter i2 l2 0) (hl1 : s.heap.IsList l1 xs) (hl2 : s.heap.IsList l2 ys)
    (hQ : ∀ h' tk acc c as, (∀ b o, b ≠ z → b ≠ TO → b ≠ i1 → b ≠ i2 → s.heap.get? b = some o → h'.get? b = some o) → h'.get? s.heap.objs.size = some { cls := .type "list", dict := none, data := .seq acc c, slots := #[] } → as.length = n → ZG xs ys s.heap.objs.size h' as → acc.toList = as.map Value.ref → Q (.ref s.heap.objs.size) { s with heap := h', toks := tk }) :
    wpAny (model prog w) A (call (.type "list") [.ref z]) Q E s := by
  refine callType_codes (Q₁ := fun obj s₁ => obj = .ref s.heap.objs.size ∧ s₁ = { s with heap := s.heap.push { cls := .type "list", data := .seq #[] } }) PySem.F.called_list (PySem.F.typeCall_list_1 _) PySem.F.entry_list_init
    (code_list_new _ ⟨rfl, rfl⟩) fun obj s₁ h₁ => ?_
  obtain ⟨rfl, rfl⟩ := h₁
  have hS : (s.heap.push { cls := .type "list", data := .seq #[] }).get? s.heap.objs.size = some { cls := .type "list", data := .seq #[] } := Heap.get?_push_size _ rfl
  have up : ∀ b o, s.heap.get? b = some o → (s.heap.push { cls := .type "list", data := .seq #[] }).get? b = some o := fun b o e => Heap.get?_push_of_some _ e
  have st : ZSt s.heap.objs.size z TI TO i1 i2 l1 l2 xs ys 0 (s.heap.push { cls := .type "list", data := .seq #[] }) := ⟨.inl ⟨hTO.elim fun a h => h.elim fun b h => ⟨a, b, up _ _ h⟩, up _ _ hz⟩, up _ _ hTI, h1.at fun o e => up _ o e, h2.at fun o e => up _ o e, hl1.at fun o e => up _ o e, hl2.at fun o e => up _ o e⟩
  refine ⟨⟨_, hS, rfl⟩, PySem.F.args_list_init_2 _ _, zl_init (A := A.in1) hh D hlt hx hy hn (up _ _ hz) st hS fun h' tk acc c as hk hS' hl hG hacc => ?_⟩
  exact ⟨rfl, hQ h' tk acc c as (fun b o b1 b2 b3 b4 e => hk b o (Nat.ne_of_lt (Heap.lt_size e)) b1 b2 b3 b4 (up b o e)) hS' hl hG hacc⟩
end
end Bd
end

section
namespace Bd
open PySem L2 PySem.Spec PyProof.Rows
/-- the new tuples at their places -/
def layP : Hp → List Addr → List (V × V) → Hp
  | H, a :: as, p :: ps => layP (upd H a (.tup [p.1, p.2])) as ps
  | H, _, _ => H
theorem layP_off {b : Addr} : ∀ (as : List Addr) (ps : List (V × V)) (H : Hp), b ∉ as → layP H as ps b = H b
  | [], _, _, _ => rfl
  | _ :: _, [], _, _ => rfl
  | a :: as, p :: ps, H, h => by
    show layP (upd H a (.tup [p.1, p.2])) as ps b = H b
    rw [layP_off as ps _ (fun z => h (List.mem_cons_of_mem _ z)), upd_ne (fun z => h (by rw [z]; exact List.mem_cons_self))]
theorem layP_at : ∀ (as : List Addr) (ps : List (V × V)) (H : Hp), as.length = ps.length → as.Nodup → Paired (fun (t : Addr) (p : V × V) => layP H as ps t = some (.tup [p.1, p.2])) as ps
  | [], [], _, _, _ => .nil
  | [], _ :: _, _, h, _ => by cases h
  | _ :: _, [], _, h, _ => by cases h
  | a :: as, p :: ps, H, h, hn => by
    have hn' := List.nodup_cons.mp hn
    refine .cons ?_ (layP_at as ps (upd H a (.tup [p.1, p.2])) (Nat.succ.inj h) hn'.2)
    show layP (upd H a (.tup [p.1, p.2])) as ps a = some (.tup [p.1, p.2])
    rw [layP_off as ps _ hn'.1, upd_same]
section
variable {X : Cx}
theorem zl_laid {pins : List (Addr × Obj)} {σ : L2.St} {H : Hp} {s : Shared} {h' : Heap} {tk : Nat} {xs ys : List V} {us vs : List Value} {S : Addr} {acc : Array Value} {c : Nat} {as : List Addr} (I : Inv X pins σ H s) (hz : xs.length ≤ 1000) (ll : ys.length = xs.length) (rx : Vals xs us) (ry : Vals ys vs) (hS0 : s.heap.objs.size ≤ S)
    (hk : ∀ b o, s.heap.get? b = some o → h'.get? b = some o) (hS : h'.get? S = some { cls := .type "list", dict := none, data := .seq acc c, slots := #[] }) (hl : as.length = xs.length) (hG : ZG us.toArray vs.toArray S h' as) (hacc : acc.toList = as.map Value.ref) :
    ∃ H' : Hp, (∀ b o, H b = some o → H' b = some o) ∧ H S = none ∧ (∀ t ∈ as, H t = none) ∧ S ∉ as ∧ H' S = some (.lst (as.map V.ref)) ∧ Paired (fun (t : Addr) (q : V × V) => H' t = some (.tup [q.1, q.2])) as (xs.zip ys) ∧ Inv X pins σ H' { s with heap := h', toks := tk } := by
  have lz : (xs.zip ys).length = xs.length := by rw [List.length_zip, ll, Nat.min_self]
  have hSn : S ∉ as := fun z => Nat.lt_irrefl _ (hG.above _ z)
  have nd : as.Nodup := List.Pairwise.imp (fun {a b} (h : a < b) => Nat.ne_of_lt h) hG.rise
  have new : ∀ t ∈ as, H t = none := fun t ht => I.hok.fresh (Nat.le_of_lt (Nat.lt_of_le_of_lt hS0 (hG.above t ht)))
  have newS : H S = none := I.hok.fresh hS0
  have atP := layP_at as (xs.zip ys) (upd H S (.lst (as.map V.ref))) (by omega) nd
  have off : ∀ b, b ∉ as → b ≠ S → layP (upd H S (.lst (as.map V.ref))) as (xs.zip ys) b = H b := fun b h1 h2 => by rw [layP_off as _ _ h1, upd_ne h2]
  have low : ∀ b o, s.heap.get? b = some o → b ∉ as ∧ b ≠ S := fun b o e => by
    have l := Nat.lt_of_lt_of_le (Heap.lt_size e) hS0
    exact ⟨fun z => absurd l (Nat.not_lt.mpr (Nat.le_of_lt (hG.above b z))), Nat.ne_of_lt l⟩
  have kp : ∀ b u, H b = some u → (layP (upd H S (.lst (as.map V.ref))) as (xs.zip ys)) b = some u := fun b u e => by
    rw [off b (fun z => by rw [new b z] at e; cases e) (fun z => by rw [z, newS] at e; cases e)]
    exact e
  have eS : layP (upd H S (.lst (as.map V.ref))) as (xs.zip ys) S = some (.lst (as.map V.ref)) := by rw [layP_off as _ _ hSn, upd_same]
  refine ⟨layP (upd H S (.lst (as.map V.ref))) as (xs.zip ys), kp, newS, new, hSn, eS, atP, ?_⟩
  refine I.call' (ch := []) rfl ⟨fun b o q _ _ _ => hk b o q, fun b o q _ _ _ => ⟨o.slots, hk b o q⟩, fun b o q n _ => ?_, fun b o q _ => ⟨o, hk b o q⟩, fun b xs q => kp b _ q, fun b o u q => kp b _ q, fun b ps q => ⟨#[], by rw [kp b _ q]; simp⟩⟩ (fun b u q => ?_) I.bare fun b z => by simp at z
  · obtain ⟨z1, z2⟩ := low b o q
    rw [off b z1 z2]
    exact n
  · by_cases hb : b ∈ as
    · obtain ⟨j, pk, e1, e2, e3⟩ := LiI.paired_ix atP hb
      rw [e3] at q
      cases q
      obtain ⟨x, y, f1, f2, f3⟩ := hG.pairs j b e1
      rw [List.getElem?_zip_eq_some] at e2
      obtain ⟨u, g1, g2⟩ := rx.get e2.1
      obtain ⟨v, g3, g4⟩ := ry.get e2.2
      rw [List.getElem?_toArray, g1] at f1
      rw [List.getElem?_toArray, g3] at f2
      cases f1
      cases f2
      exact ⟨by show 2 ≤ sizeLine; decide, [_, _], .cons g2 (.cons g4 .nil), ⟨_, f3, rfl, _, rfl⟩⟩
    · by_cases hb2 : b = S
      · rw [hb2] at q ⊢
        rw [eS] at q
        cases q
        refine ⟨by rw [List.length_map]; have : (1000 : Nat) < sizeLine := by decide
                   omega, acc.toList, c, by rw [hacc]; exact LiI.vals_refs as, ?_⟩
        rw [Array.toArray_toList]
        exact hS
      · rw [off b hb hb2] at q
        exact (I.hok b u q).stay (fun d v _ y => hk d v y) (fun d y => kp d _ y) fun d xs y => kp d _ y
def tListZip (K : PySem.W.Frag) (ta : L2.TA) : TE := fun σ H Q => ta σ H fun ws H1 => ∃ (a b : Addr) (xs ys : List V), ws = [.ref a, .ref b] ∧ SqL K H1 a xs ∧ SqL K H1 b ys ∧ ys.length = xs.length ∧ xs.length ≤ 1000 ∧
  ∀ (H' : Hp) (p : Addr) (ts : List Addr), (∀ b o, H1 b = some o → H' b = some o) → H1 p = none → (∀ t ∈ ts, H1 t = none) → p ∉ ts → H' p = some (.lst (ts.map V.ref)) → Paired (fun (t : Addr) (q : V × V) => H' t = some (.tup [q.1, q.2])) ts (xs.zip ys) → Q (.ref p) H'
theorem pe_listZip {e e2 : Expr} {ta : L2.TA} {p p2 pos pos2 : Pos} (hc : X.calm = true) (hgl : Gl X "list") (hml : X.mg "list" = none) (hvl : bootBuiltins "list" = some (.type "list")) (hg : Gl X "zip") (hm : X.mg "zip" = none) (ha : PA X [e, e2] ta)
    (hs2 : starEach [e, e2] X.env = (false, eval e X.env) :: starEach [e2] X.env := by rfl) (hpl : (backTo pos2 (starEach [e2] X.env)).any (·.1) = false := by rfl)
    (hs : starEach [.Call (.Name "zip" p2) [e, e2] [] pos2] X.env = (false, eval (.Call (.Name "zip" p2) [e, e2] [] pos2) X.env) :: starEach [] X.env := by rfl) :
    PE X (.Call (.Name "list" p) [.Call (.Name "zip" p2) [e, e2] [] pos2] [] pos) (tListZip X.K ta) := by
  refine ⟨fun pins s σ H Q I hq => ?_⟩
  refine wpAny_Call_Name_kw (ld_blt I hgl hml hvl ?_)
  refine PyProof.Rows.callWith_type1 ?_ hs rfl
  rw [hs]
  show wpAny _ _ (spliced ((false, eval (.Call (.Name "zip" p2) [e, e2] [] pos2) X.env) :: backTo pos (starEach [] X.env))) _ _ s
  refine Calls.spliced_cons ?_
  refine Call_ (ld_blt I hg hm PyProof.Rows.boot_zip (PyProof.Rows.callWith_type1 (thn (ha.run pos2 pins s σ H _ I hq) fun us s1 ⟨vs, H1, I1, r1, q1⟩ => ?_) hs2 hpl))
  obtain ⟨a, b, xs, ys, ex, hqx, hqy, ll, lx, q⟩ := q1
  subst ex
  cases r1 with
  | cons r rr =>
  cases rr with
  | cons r' rr =>
    cases rr
    cases r
    cases r'
    obtain ⟨its, rv, p1, _⟩ := I1.list hqx
    obtain ⟨its2, rv2, p3, _⟩ := I1.list hqy
    have la : a < s1.heap.objs.size := p1.lt
    have lb : b < s1.heap.objs.size := p3.lt
    have n1 := rv.length
    have n2 := rv2.length
    refine call_zip_2 p1.isList p3.isList fun h' hz hTI hTO h1 h2 hsz hk => ?_
    refine Calls.spliced_nil ?_
    refine zl_call (n := xs.length) (xs := its.toArray) (ys := its2.toArray) (s := { s1 with heap := h' }) (I1.ok.hd hc) (PySem.W.ktu_apart s1.heap.objs.size a b la lb) ?_ (by simp; omega) (by simp; omega) lx hz ⟨_, _, hTO⟩ hTI h1 h2 (p1.isList.at fun o e => hk _ o e) (p3.isList.at fun o e => hk _ o e) fun h'' tk acc c as hk2 hS hl hG hacc => ?_
    · show _ < h'.objs.size ∧ _ < h'.objs.size ∧ _ < h'.objs.size ∧ _ < h'.objs.size ∧ _ < h'.objs.size ∧ _ < h'.objs.size ∧ _ < h'.objs.size
      rw [hsz]
      exact ⟨by show @LT.lt Nat _ _ _; omega, by show @LT.lt Nat _ _ _; omega, by show @LT.lt Nat _ _ _; omega, by show @LT.lt Nat _ _ _; omega, by show @LT.lt Nat _ _ _; omega, Nat.lt_of_lt_of_le la (Nat.le_add_right _ _), Nat.lt_of_lt_of_le lb (Nat.le_add_right _ _)⟩
    · have hk3 : ∀ b o, s1.heap.get? b = some o → h''.get? b = some o := fun b o e => by
        have l := Heap.lt_size e
        have ne : ∀ k : Nat, b ≠ s1.heap.objs.size + k := fun k z => by
          have : b < s1.heap.objs.size := l
          rw [z] at this
          exact absurd this (Nat.not_lt.mpr (Nat.le_add_right _ _))
        exact hk2 b o (ne 4) (ne 3) (ne 0) (ne 1) (hk b o e)
      obtain ⟨H', k1, k2, k3, k4, k5, k6, J⟩ := zl_laid (tk := tk) (S := h'.objs.size) I1 lx ll rv rv2 (by rw [hsz]; exact Nat.le_add_right _ _) hk3 hS hl hG hacc
      exact ⟨.ref _, H', J, rfl, q H' _ as k1 k2 k3 k4 k5 k6⟩
end
end Bd
end

section
namespace Bd
open PySem L2
abbrev sIsInteger : Stmt := (top 5)
theorem scIsInteger : FnScope ["thing"] ["thing"] (defScope sIsInteger) := ⟨rfl, rfl, rfl, by decide +kernel, rfl, by decide +kernel, by decide +kernel⟩
abbrev sIsAmount : Stmt := (top 6)
theorem scIsAmount : FnScope ["thing", "top", "bottom"] ["thing"] (defScope sIsAmount) := ⟨rfl, rfl, rfl, by decide +kernel, rfl, by decide +kernel, by decide +kernel⟩
abbrev sDivisor : Stmt := (top 7)
theorem scDivisor : FnScope ["one", "other"] ["one", "other"] (defScope sDivisor) := ⟨rfl, rfl, rfl, by decide +kernel, rfl, by decide +kernel, by decide +kernel⟩
abbrev sIsEndless : Stmt := (top 34)
theorem scIsEndless : FnScope ["thing"] ["thing"] (defScope sIsEndless) := ⟨rfl, rfl, rfl, by decide +kernel, rfl, by decide +kernel, by decide +kernel⟩
abbrev sIsWord : Stmt := (top 33)
theorem scIsWord : FnScope ["thing"] ["thing"] (defScope sIsWord) := ⟨rfl, rfl, rfl, by decide +kernel, rfl, by decide +kernel, by decide +kernel⟩
abbrev sIsSet : Stmt := (top 35)
theorem scIsSet : FnScope ["thing", "ahead", "number"] ["thing"] (defScope sIsSet) := ⟨rfl, rfl, rfl, by decide +kernel, rfl, by decide +kernel, by decide +kernel⟩
abbrev sMayHave : Stmt := (top 36)
theorem scMayHave : FnScope ["word", "value"] ["word", "value"] (defScope sMayHave) := ⟨rfl, rfl, rfl, by decide +kernel, rfl, by decide +kernel, by decide +kernel⟩

def leftW : List Str := ["min", "low", "max", "quota", "burst", "tops", "sets", "alone"]
structure TP (P : Program) (w : World) (K : PySem.W.Frag) (mg : Str → Option Value) (aL : Addr) (left : List (Key × V)) : Prop where
  z_len : mg "len" = none
  z_int : mg "int" = none
  z_bool : mg "bool" = none
  z_str : mg "str" = none
  z_tuple : mg "tuple" = none
  z_list : mg "list" = none
  z_dict : mg "dict" = none
  z_all : mg "all" = none
  z_enumerate : mg "enumerate" = none
  z_isinstance : mg "isinstance" = none
  g_LONG : ∃ t, mg "LONG" = some (.int 3000 t)
  g_ENDLESS : ∃ t, mg "ENDLESS" = some (.str "endless" t)
  g_GREATEST_PROCESSOR : ∃ t, mg "GREATEST_PROCESSOR" = some (.int 63 t)
  g_LEFT_OUT : mg "LEFT_OUT" = some (.ref aL)
  tab : KTab P w K aL left
  keys : left.map (·.1) = leftW.map Sum.inr
def spIsInteger : Sp := fun vs H Q _ => ∃ i : Int, vs = [.int i] ∧ Q (.bl true) H
def spDivisor : Sp := fun vs H Q _ => ∃ a b : Nat, vs = [.int (a : Int), .int (b : Int)] ∧ a < 2 ^ 3000 ∧ b < 2 ^ 3000 ∧ Q (.int (Nat.gcd a b : Nat)) H
def spIsAmount (K : PySem.W.Frag) : Sp := fun vs H Q _ => ∃ (v : V) (n d : Nat), vs = [v] ∧ Dp K H v (.tuple [.int n, .int d]) ∧ n < 2 ^ 3000 ∧ 0 < d ∧ d < 2 ^ 3000 ∧ Nat.gcd n d = 1 ∧ Q (.bl true) H
def spIsEndless (K : PySem.W.Frag) : Sp := fun vs H Q _ => ∃ v : V, vs = [v] ∧ ((v = .str "endless" ∧ Q (.bl true) H) ∨ ∃ a xs, v = .ref a ∧ SqT K H a xs ∧ Q (.bl false) H)
def spIsWord : Sp := fun vs H Q _ => ∃ x : Str, vs = [.str x] ∧ x ∈ leftW ∧ Q (.bl true) H
/-- rising numbers above p, up to 63 -/
def RiseOk : Int → List Int → Prop
  | _, [] => True
  | p, x :: r => p < x ∧ x ≤ 63 ∧ RiseOk x r
def spIsSet (K : PySem.W.Frag) : Sp := fun vs H Q _ => ∃ (v : V) (xs : List Int), vs = [v] ∧ Dp K H v (.tuple (xs.map .int)) ∧ RiseOk (-1) xs ∧ xs.length ≤ 64 ∧ Q (.bl true) H
inductive ValOk : Str → PyData → Prop
  | amt {x : Str} {n d : Nat} : x ∈ (["min", "low", "burst", "max", "quota", "tops"] : List Str) → n < 2 ^ 3000 → 0 < d → d < 2 ^ 3000 → Nat.gcd n d = 1 → ValOk x (.tuple [.int n, .int d])
  | endl {x : Str} : x ∈ (["max", "quota", "tops"] : List Str) → ValOk x (.str "endless")
  | none : ValOk "sets" .none
  | set {xs : List Int} : RiseOk (-1) xs → xs.length ≤ 64 → ValOk "sets" (.tuple (xs.map .int))
  | alone {i : Int} : i = 0 ∨ i = 1 → ValOk "alone" (.int i)
def spMayHave (K : PySem.W.Frag) : Sp := fun vs H Q _ => ∃ (x : Str) (v : V) (d : PyData), vs = [.str x, v] ∧ Dp K H v d ∧ ValOk x d ∧ ∀ H', Same H H' → Q (.bl true) H'
section
variable {P : Program} {w : World} {K : PySem.W.Frag} {mg : Str → Option Value} {base : Heap} {aL : Addr} {left : List (Key × V)}
theorem ok_isInteger {f : Addr} {fd : FuncData} (F : Fun K "is_integer" "is_integer" sIsInteger f fd) (T : TP P w K mg aL left) : FnOk P w K mg base CX0 1 f fd ["thing"] spIsInteger := by
  refine F.ok scIsInteger (fun vs H Q E h => ?_) (fun cdv A outer s H vs Q E hr h => ?_)
  · obtain ⟨i, rfl, _⟩ := h
    rfl
  obtain ⟨i, rfl, q⟩ := h
  refine ⟨_, (pss_one (ps_ret (pe_and (pe_callB call_isi (by rfl) T.z_isinstance (by decide +kernel) (pa_cons (pv 0) (pa_cons (pe_bltn (v := .ty "int") (u := .type "int") (by rfl) T.z_int (by decide +kernel) rfl) pa_nil))) (pe_one (pe_not (pe_callB call_isi (by rfl) T.z_isinstance (by decide +kernel) (pa_cons (pv 0) (pa_cons (pe_bltn (v := .ty "bool") (u := .type "bool") (by rfl) T.z_bool (by decide +kernel) rfl) pa_nil)))))))), ?_⟩
  refine ⟨_, rfl, _, _, _, _, true, rfl, .ty _, .base (.int i), kit_ty (by decide +kernel), true, rfl, ?_⟩
  refine ⟨_, rfl, _, _, _, _, false, rfl, .ty _, .base (.int i), kit_ty (by decide +kernel), false, rfl, ?_⟩
  exact q

theorem bits_le {a : Nat} (h : a < 2 ^ 3000) : ((Builtin.Int.intBits (a : Int) : Nat) : Int) ≤ 3000 := by
  unfold Builtin.Int.intBits
  split
  · decide
  · have := PySem.Flt.log2_lt_of (by decide : 0 < 3000) h
    show (((a : Int).natAbs.log2 + 1 : Nat) : Int) ≤ 3000
    rw [Int.natAbs_natCast]
    omega
def mu2 : St → Hp → Nat := fun σ _ => match σ[1]? with
  | some (some (V.int b)) => b.toNat
  | _ => 0
theorem ok_divisor {f : Addr} {fd : FuncData} (F : Fun K "divisor" "divisor" sDivisor f fd) (T : TP P w K mg aL left) : FnOk P w K mg base CX0 1 f fd ["one", "other"] spDivisor := by
  refine F.ok scDivisor (fun vs H Q E h => ?_) (fun cdv A outer s H vs Q E hr h => ?_)
  · obtain ⟨a, b, rfl, _⟩ := h
    rfl
  obtain ⟨a, b, rfl, ha, hb, q⟩ := h
  obtain ⟨tl, hL⟩ := T.g_LONG
  have rest : ∀ x y : Nat, x < 2 ^ 3000 → y < 2 ^ 3000 → Nat.gcd x y = Nat.gcd a b → ∀ D : Ends, D.rt (.int (Nat.gcd a b : Nat)) H →
      tSeq (tWhile (tTest (tOp (rI0 fun i j => V.bl (decide (j < i))) (tBits (tVar 1)) (tC (V.int 3000)))) tNever)
        (tSeq (tWhile (fun σ H Q => tVar 1 σ H fun x H1 => ∃ k, TruV K x H1 k ∧ Q k H1) (tPar 0 1 (tCons (tVar 1) (tCons (tOp (rI (fun _ j => j ≠ 0) fun i j => V.int (i.fmod j)) (tVar 0) (tVar 1)) tNil)))) (tRet (tVar 0)))
        D [some (.int (x : Int)), some (.int (y : Int))] H := by
    intro x y hx hy e D q
    refine while_by (fun σ H' => H' = H ∧ σ = [some (.int (x : Int)), some (.int (y : Int))]) mu2 ⟨rfl, rfl⟩ ?_ ?_
    · rintro σ H' ⟨rfl, rfl⟩
      refine ⟨_, rfl, _, rfl, _, _, rfl, rfl, _, rfl, ?_⟩
      have hd : decide (3000 < ((Builtin.Int.intBits (y : Int) : Nat) : Int)) = false := decide_eq_false (by have := bits_le hy; omega)
      rw [hd]
      refine iteF ?_
      dsimp only
      unfold tSeq
      refine while_by (fun σ H2 => H2 = H' ∧ ∃ x y : Nat, σ = [some (.int (x : Int)), some (.int (y : Int))] ∧ Nat.gcd x y = Nat.gcd a b) mu2 ⟨rfl, x, y, rfl, e⟩ ?_ ?_
      · rintro σ H2 ⟨rfl, x, y, rfl, e⟩
        refine ⟨_, rfl, _, rfl, ?_⟩
        by_cases y0 : y = 0
        · subst y0
          refine iteF ?_
          refine ⟨_, rfl, ?_⟩
          rw [Nat.gcd_zero_right] at e
          rw [e]
          exact q
        · have hk : (((y : Nat) : Int) != 0) = true := by
            rw [bne_iff_ne]
            omega
          rw [hk]
          refine iteT ?_
          refine ⟨_, rfl, _, rfl, _, rfl, _, _, rfl, rfl, by show (y : Int) ≠ 0; omega, _, _, rfl, ?_⟩
          have em : (x : Int).fmod (y : Int) = ((x % y : Nat) : Int) := by
            rw [Int.fmod_eq_emod_of_nonneg _ (by omega)]
            exact (Int.natCast_emod x y).symm
          refine ⟨⟨rfl, y, x % y, ?_, ?_⟩, ?_⟩
          · show [some (V.int (y : Int)), some (V.int ((x : Int).fmod (y : Int)))] = _
            rw [em]
          · rw [← e, Nat.gcd_comm x y, Nat.gcd_rec y x, Nat.gcd_comm]
          · show ((x : Int).fmod (y : Int)).toNat < (y : Int).toNat
            rw [em]
            have := Nat.mod_lt x (show 0 < y by omega)
            omega
      · rintro σ H2 Q1 Q2 f ⟨v, h1, k, h2, q⟩
        exact ⟨v, h1, k, h2, f _ _ q⟩
    · rintro σ H' Q1 Q2 f h
      obtain ⟨v, h1, i, h2, i2, j2, h3, h4, k, h5, q⟩ := h
      exact ⟨v, h1, i, h2, i2, j2, h3, h4, k, h5, f _ _ q⟩
  refine ⟨_, (pss_cons (ps_if (pt_cmpR op_lt (pv 0) (pv 1) (nomark _)) (pss_one (ps_par (i := 0) (j := 1) (by rfl) scDivisor.nd rfl rfl (by decide) rfl rfl (pa_cons (pv 1) (pa_cons (pv 0) pa_nil)) (by rfl))) pss_nil) (pss_cons (ps_while PassesOwn.never (pt_cmpR op_gt (pe_bits (pv 1)) (pe_glob (v := .int 3000) rfl hL ⟨_, rfl⟩) (nomark _)) (pss_one ps_never)) (pss_cons (ps_while PassesOwn.never (pt_truth (pv 1) (by intro _; rfl)) (pss_one (ps_par (i := 0) (j := 1) (by rfl) scDivisor.nd rfl rfl (by decide) rfl rfl (pa_cons (pv 1) (pa_cons (pe_op op_modN (pv 0) (pv 1)) pa_nil)) (by rfl)))) (pss_one (ps_ret (pv 0)))))), ?_⟩
  refine ⟨_, rfl, _, rfl, _, _, rfl, rfl, _, rfl, ?_⟩
  refine ite2 (fun c => ?_) (fun c => ?_)
  · refine ⟨_, rfl, _, rfl, _, _, rfl, ?_⟩
    exact rest b a hb ha (Nat.gcd_comm _ _) _ q
  · exact rest a b ha hb rfl _ q

theorem bl_t {p : Prop} [Decidable p] (h : p) : V.bl (decide p) = V.bl true := congrArg V.bl (decide_eq_true h)
theorem dp_tup {H : Hp} {v : V} {ds : List PyData} (h : Dp K H v (.tuple ds)) : ∃ a xs, v = .ref a ∧ SqT K H a xs ∧ DpAll K H xs ds := by
  cases h with
  | tup h1 h2 => exact ⟨_, _, rfl, h1, h2⟩
theorem dpall_nil {H : Hp} {xs : List V} (h : DpAll K H xs []) : xs = [] := by
  cases h
  rfl
theorem dpall_cons {H : Hp} {xs : List V} {d : PyData} {ds : List PyData} (h : DpAll K H xs (d :: ds)) : ∃ v vs, xs = v :: vs ∧ Dp K H v d ∧ DpAll K H vs ds := by
  cases h with
  | cons h1 h2 => exact ⟨_, _, rfl, h1, h2⟩
theorem dp_int {H : Hp} {v : V} {i : Int} (h : Dp K H v (.int i)) : v = .int i := by
  cases h
  rfl
theorem dp_str {H : Hp} {v : V} {x : Str} (h : Dp K H v (.str x)) : v = .str x := by
  cases h
  rfl
theorem dp_none {H : Hp} {v : V} (h : Dp K H v .none) : v = .non := by
  cases h
  rfl
theorem dp_two {H : Hp} {v : V} {i j : Int} (h : Dp K H v (.tuple [.int i, .int j])) : ∃ a, v = .ref a ∧ SqT K H a [.int i, .int j] := by
  obtain ⟨a, xs, rfl, h1, h2⟩ := dp_tup h
  obtain ⟨x, xs, rfl, e1, h2⟩ := dpall_cons h2
  obtain ⟨y, xs, rfl, e2, h2⟩ := dpall_cons h2
  cases dpall_nil h2
  cases dp_int e1
  cases dp_int e2
  exact ⟨a, rfl, h1⟩
theorem sqt_ty {H : Hp} {a : Addr} {xs : List V} (h : SqT K H a xs) : TyX K H (.ref a) (.type "tuple") := by
  rcases h with (h | ⟨o, h⟩) | ⟨o, its, n, h, c, _⟩
  · exact .base (.tup h)
  · exact .fTuple h
  · exact .kTuple h c
theorem ok_isAmount {f g e : Addr} {fd gd ed : FuncData} (F : Fun K "is_amount" "is_amount" sIsAmount f fd) (T : TP P w K mg aL left) (cI : Cal P w K mg base "is_integer" ["thing"] 1 spIsInteger g gd) (cD : Cal P w K mg base "divisor" ["one", "other"] 1 spDivisor e ed) : FnOk P w K mg base CX0 2 f fd ["thing"] (spIsAmount K) := by
  refine F.ok scIsAmount (fun vs H Q E h => ?_) (fun cdv A outer s H vs Q E hr h => ?_)
  · obtain ⟨i, n, d, rfl, _⟩ := h
    rfl
  obtain ⟨v, n, d, rfl, hv, h1, h2, h3, h4, q⟩ := h
  obtain ⟨a, rfl, ha⟩ := dp_two hv
  refine ⟨_, (pss_cons (ps_if (PW.pt (pw_or (pt_not (pt_val (pe_callB call_isi (by rfl) T.z_isinstance (by decide +kernel) (pa_cons (pv 0) (pa_cons (pe_bltn (v := .ty "tuple") (u := .type "tuple") (by rfl) T.z_tuple (by decide +kernel) rfl) pa_nil))))) (pw_or1 (pt_cmpR op_ne (pe_callB call_len_seq (by rfl) T.z_len PySem.boot_len (pa_cons (pv 0) pa_nil)) pe_int (nomark _))))) (pss_one (ps_ret pe_bl)) pss_nil) (pss_cons (ps_asg (pv 0) (pg_tup (by rfl) (pgs_cons (pg_name (i := 1) scIsAmount.nd rfl (Or.inl rfl)) (pgs_cons (pg_name (i := 2) scIsAmount.nd rfl (Or.inl rfl)) pgs_nil)))) (pss_cons (ps_if (PW.pt (pw_or (pt_not (pt_val (pe_call cI.ok (hr.mono (by decide)) rfl cI.mg cI.kp cI.bd .nil pass0 (pa_cons (pv 1) pa_nil)))) (pw_or1 (pt_not (pt_val (pe_call cI.ok (hr.mono (by decide)) rfl cI.mg cI.kp cI.bd .nil pass0 (pa_cons (pv 2) pa_nil))))))) (pss_one (ps_ret pe_bl)) pss_nil) (pss_one (ps_ret (pe_and (pe_cmpR op_ge (pv 1) pe_int (nomark _)) (pe_and (pe_cmpR op_ge (pv 2) pe_int (nomark _)) (pe_one (pe_cmpR op_eq (pe_call cD.ok (hr.mono (by decide)) rfl cD.mg cD.kp cD.bd .nil pass0 (pa_cons (pv 1) (pa_cons (pv 2) pa_nil))) pe_int (nomark _)))))))))), ?_⟩
  refine ⟨_, rfl, _, _, _, _, true, rfl, .ty _, sqt_ty ha, kit_ty (by decide +kernel), true, rfl, ?_⟩
  refine iteF ?_
  refine ⟨_, rfl, a, _, rfl, .inr ha, rfl, _, rfl, ?_⟩
  refine iteNS rfl ?_
  refine ⟨_, rfl, a, _, rfl, ha, rfl, ?_⟩
  refine ⟨_, _, rfl, _, _, rfl, rfl, ?_⟩
  refine ⟨_, rfl, _, rfl, true, rfl, ?_⟩
  refine iteF ?_
  refine ⟨_, rfl, _, rfl, true, rfl, ?_⟩
  refine iteF ?_
  refine ⟨_, rfl, _, _, rfl, rfl, true, bl_t (by omega), ?_⟩
  refine ⟨_, rfl, _, _, rfl, rfl, true, bl_t (by omega), ?_⟩
  refine ⟨_, rfl, _, rfl, n, d, rfl, h1, h3, ?_⟩
  rw [h4]
  exact ⟨rfl, q⟩

theorem Same.seqT {H H' : Hp} {a : Addr} {xs : List V} (e : Same H H') (h : SqT K H a xs) : SqT K H' a xs := by
  rcases h with (h | ⟨o, h⟩) | h
  · exact .inl (.inl (e _ _ h))
  · exact .inl (.inr ⟨o, e _ _ h⟩)
  · exact .inr h
mutual
theorem dp_same {H H' : Hp} (e : Same H H') : ∀ (d : PyData) (v : V), Dp K H v d → Dp K H' v d
  | .none, _, h => by
    cases h
    exact .non
  | .bool b, _, h => by
    cases h
    exact .bl b
  | .int i, _, h => by
    cases h
    exact .int i
  | .str x, _, h => by
    cases h
    exact .str x
  | .list ds, _, h => by
    cases h with
    | lst h1 h2 => exact .lst (e.seq h1) (dp_sameAll e ds _ h2)
  | .tuple ds, _, h => by
    cases h with
    | tup h1 h2 => exact .tup (Same.seqT e h1) (dp_sameAll e ds _ h2)
  | .dict _, _, h => nomatch h
theorem dp_sameAll {H H' : Hp} (e : Same H H') : ∀ (ds : List PyData) (vs : List V), DpAll K H vs ds → DpAll K H' vs ds
  | [], _, h => by
    cases h
    exact .nil
  | d :: ds, _, h => by
    cases h with
    | cons h1 h2 => exact .cons (dp_same e d _ h1) (dp_sameAll e ds _ h2)
end
theorem ok_isEndless {f : Addr} {fd : FuncData} (F : Fun K "is_endless" "is_endless" sIsEndless f fd) (T : TP P w K mg aL left) : FnOk P w K mg base CX0 1 f fd ["thing"] (spIsEndless K) := by
  refine F.ok scIsEndless (fun vs H Q E h => ?_) (fun cdv A outer s H vs Q E hr h => ?_)
  · obtain ⟨v, rfl, _⟩ := h
    rfl
  obtain ⟨v, rfl, h⟩ := h
  obtain ⟨tl, hL⟩ := T.g_ENDLESS
  refine ⟨_, (pss_one (ps_ret (pe_and (pe_callB call_isi (by rfl) T.z_isinstance (by decide +kernel) (pa_cons (pv 0) (pa_cons (pe_bltn (v := .ty "str") (u := .type "str") (by rfl) T.z_str (by decide +kernel) rfl) pa_nil))) (pe_one (pe_cmpR op_eq (pv 0) (pe_glob (v := .str "endless") rfl hL ⟨_, rfl⟩) (nomark _)))))), ?_⟩
  rcases h with ⟨rfl, q⟩ | ⟨a, xs, rfl, ha, q⟩
  · refine ⟨_, rfl, _, _, _, _, true, rfl, .ty _, .base (.str _), kit_ty (by decide +kernel), true, rfl, ?_⟩
    refine ⟨_, rfl, rfl, ?_⟩
    show Q (.bl (decide (V.str "endless" = V.str "endless"))) H
    rw [decide_eq_true rfl]
    exact q
  · refine ⟨_, rfl, _, _, _, _, false, rfl, .ty _, sqt_ty ha, kit_ty (by decide +kernel), false, rfl, ?_⟩
    exact q

theorem val_some {kvs : List (Key × V)} {k : Key} (h : k ∈ kvs.map (·.1)) : (valV kvs k).isSome = true := by
  obtain ⟨p, hp, e⟩ := List.mem_map.mp h
  rw [← valV_any]
  exact List.any_eq_true.mpr ⟨p, hp, decide_eq_true e⟩
theorem ok_isWord {f : Addr} {fd : FuncData} (F : Fun K "is_word" "is_word" sIsWord f fd) (T : TP P w K mg aL left) : FnOk P w K mg base CX0 1 f fd ["thing"] spIsWord := by
  refine F.ok scIsWord (fun vs H Q E h => ?_) (fun cdv A outer s H vs Q E hr h => ?_)
  · obtain ⟨v, rfl, _⟩ := h
    rfl
  obtain ⟨x, rfl, hx, q⟩ := h
  refine ⟨_, (pss_one (ps_ret (pe_and (pe_callB call_isi (by rfl) T.z_isinstance (by decide +kernel) (pa_cons (pv 0) (pa_cons (pe_bltn (v := .ty "str") (u := .type "str") (by rfl) T.z_str (by decide +kernel) rfl) pa_nil))) (pe_one (pe_cmpR op_inT (pv 0) (pe_glob (v := .ref aL) rfl T.g_LEFT_OUT rfl) (by first | exact nomark _ | rfl)))))), ?_⟩
  refine ⟨_, rfl, _, _, _, _, true, rfl, .ty _, .base (.str _), kit_ty (by decide +kernel), true, rfl, ?_⟩
  refine ⟨_, rfl, aL, left, Sum.inr x, rfl, rfl, T.tab, ?_⟩
  rw [val_some (k := (Sum.inr x : Key)) (by rw [T.keys]; exact List.mem_map.mpr ⟨x, hx, rfl⟩)]
  exact q

theorem map_int_get {xs : List Int} {i : Nat} {x : V} (h : (xs.map V.int)[i]? = some x) : ∃ z, x = .int z ∧ xs[i]? = some z := by
  rw [List.getElem?_map] at h
  cases e : xs[i]? with
  | none =>
    rw [e] at h
    cases h
  | some z =>
    rw [e] at h
    exact ⟨z, (Option.some.inj h).symm, rfl⟩
theorem dp_ints {H : Hp} : ∀ {vs : List V} {xs : List Int}, DpAll K H vs (xs.map .int) → vs = xs.map V.int
  | vs, [], h => dpall_nil h
  | vs, x :: xs, h => by
    obtain ⟨v, r, rfl, h1, h2⟩ := dpall_cons h
    rw [dp_int h1, dp_ints h2]
    rfl
theorem drop_at {α : Type} {xs : List α} {i : Nat} {z : α} (h : xs[i]? = some z) : xs.drop i = z :: xs.drop (i + 1) := by
  obtain ⟨hi, e⟩ := List.getElem?_eq_some_iff.mp h
  rw [List.drop_eq_getElem_cons hi, e]
theorem ok_isSet {f g : Addr} {fd gd : FuncData} (F : Fun K "is_set" "is_set" sIsSet f fd) (T : TP P w K mg aL left) (cI : Cal P w K mg base "is_integer" ["thing"] 1 spIsInteger g gd) : FnOk P w K mg base CX0 2 f fd ["thing"] (spIsSet K) := by
  refine F.ok scIsSet (fun vs H Q E h => ?_) (fun cdv A outer s H vs Q E hr h => ?_)
  · obtain ⟨v, xs, rfl, _⟩ := h
    rfl
  obtain ⟨v, xs, rfl, hv, hrise, hlen, q⟩ := h
  obtain ⟨a, ys, rfl, ha, hys⟩ := dp_tup hv
  cases dp_ints hys
  obtain ⟨tl, hL⟩ := T.g_GREATEST_PROCESSOR
  refine ⟨_, (pss_cons (ps_if (pt_not (pt_val (pe_callB call_isi (by rfl) T.z_isinstance (by decide +kernel) (pa_cons (pv 0) (pa_cons (pe_bltn (v := .ty "tuple") (u := .type "tuple") (by rfl) T.z_tuple (by decide +kernel) rfl) pa_nil))))) (pss_one (ps_ret pe_bl)) pss_nil) (pss_cons (ps_set (i := 1) scIsSet.nd rfl (Or.inl rfl) (pe_un un_neg pe_int)) (pss_cons (ps_for PassesOwn.never rfl (pi_tup (pv 0)) (pg_name (i := 2) scIsSet.nd rfl (Or.inl rfl)) (pss_cons (ps_if (PW.pt (pw_or (pt_not (pt_val (pe_call cI.ok (hr.mono (by decide)) rfl cI.mg cI.kp cI.bd .nil pass0 (pa_cons (pv 2) pa_nil)))) (pw_or1 (pt_not (pt_chain op_lt op_le (pv 1) (pv 2) (pe_glob (v := .int 63) rfl hL ⟨_, rfl⟩)))))) (pss_one (ps_ret pe_bl)) pss_nil) (pss_one (ps_set (i := 1) scIsSet.nd rfl (Or.inl rfl) (pv 2))))) (pss_one (ps_ret pe_bl))))), ?_⟩
  refine ⟨_, rfl, _, _, _, _, true, rfl, .ty _, sqt_ty ha, kit_ty (by decide +kernel), true, rfl, ?_⟩
  refine iteF ?_
  refine ⟨_, rfl, ?_⟩
  refine ⟨_, rfl, a, rfl, ⟨_, ha⟩, for_tup (xs := xs.map V.int) (fun i σ H' => H' = H ∧ ∃ (p : Int) (o : Option V), σ = [some (.ref a), some (.int p), o] ∧ RiseOk p (xs.drop i)) ⟨rfl, -1, none, rfl, hrise⟩ ?_ ?_ ?_⟩
  · rintro i σ H' _ ⟨rfl, _⟩
    exact ha
  · rintro i x σ H' hi ⟨rfl, p, o, rfl, hp⟩
    obtain ⟨z, rfl, hz⟩ := map_int_get hi
    rw [drop_at hz] at hp
    obtain ⟨h1, h2, h3⟩ := hp
    refine ⟨_, rfl, z, rfl, true, rfl, ?_⟩
    refine iteF ?_
    refine ⟨_, rfl, _, rfl, _, _, rfl, rfl, true, bl_t h1, ?_⟩
    refine iteT ?_
    refine ⟨_, _, rfl, rfl, true, bl_t h2, ?_⟩
    refine iteF ?_
    refine ⟨_, rfl, ?_⟩
    exact ⟨rfl, z, _, rfl, h3⟩
  · rintro σ H' ⟨rfl, _⟩
    exact q

theorem ifF {b : Bool} {A B : Prop} (h : b = false) (k : B) : if b = true then A else B := by
  rw [h]
  exact iteF k
theorem ifT {b : Bool} {A B : Prop} (h : b = true) (k : A) : if b = true then A else B := by
  rw [h]
  exact iteT k
theorem in_yes {x : V} {xs : List V} (h : inV x xs = true) : (if (false : Bool) = true then !inV x xs else inV x xs) = true := by
  rw [if_neg (by decide)]
  exact h
theorem ok_mayHave {f g e c d : Addr} {fd gd ed cd dd : FuncData} (F : Fun K "may_have" "may_have" sMayHave f fd) (T : TP P w K mg aL left) (cA : Cal P w K mg base "is_amount" ["thing"] 2 (spIsAmount K) g gd) (cI : Cal P w K mg base "is_integer" ["thing"] 1 spIsInteger e ed)
    (cS : Cal P w K mg base "is_set" ["thing"] 2 (spIsSet K) c cd) (cE : Cal P w K mg base "is_endless" ["thing"] 1 (spIsEndless K) d dd) : FnOk P w K mg base CX0 3 f fd ["word", "value"] (spMayHave K) := by
  refine F.ok scMayHave (fun vs H Q E h => ?_) (fun cdv A outer s H vs Q E hr h => ?_)
  · obtain ⟨x, v, d, rfl, _⟩ := h
    rfl
  obtain ⟨x, v, d, rfl, hv, hok, q⟩ := h
  refine ⟨_, (pss_cons (ps_if (pt_cmpR op_in_seq (pv 0) (pe_tup (pa_cons pe_str (pa_cons pe_str (pa_cons pe_str pa_nil)))) (by first | exact nomark _ | rfl)) (pss_one (ps_ret (pe_call cA.ok (hr.mono (by decide)) rfl cA.mg cA.kp cA.bd .nil pass0 (pa_cons (pv 1) pa_nil)))) pss_nil) (pss_cons (ps_if (pt_cmpR op_eq (pv 0) pe_str (nomark _)) (pss_one (ps_ret (pe_or (pe_cmpR op_isN (pv 1) pe_non (nomark _)) (pe_one (pe_call cS.ok (hr.mono (by decide)) rfl cS.mg cS.kp cS.bd .nil pass0 (pa_cons (pv 1) pa_nil)))))) pss_nil) (pss_cons (ps_if (pt_cmpR op_eq (pv 0) pe_str (nomark _)) (pss_one (ps_ret (pe_and (pe_call cI.ok (hr.mono (by decide)) rfl cI.mg cI.kp cI.bd .nil pass0 (pa_cons (pv 1) pa_nil)) (pe_one (pe_cmpR op_in_seq (pv 1) (pe_tup (pa_cons pe_int (pa_cons pe_int pa_nil))) (by first | exact nomark _ | rfl)))))) pss_nil) (pss_one (ps_ret (pe_or (pe_call cE.ok (hr.mono (by decide)) rfl cE.mg cE.kp cE.bd .nil pass0 (pa_cons (pv 1) pa_nil)) (pe_one (pe_call cA.ok (hr.mono (by decide)) rfl cA.mg cA.kp cA.bd .nil pass0 (pa_cons (pv 1) pa_nil))))))))), ?_⟩
  refine ⟨_, rfl, by show 3 ≤ sizeLine; decide, fun p hp => ⟨p, _, rfl, .inr (SqT.of upd_same), rfl, rfl, ?_⟩⟩
  have s1 := Same.new (Same.refl H) hp (.tup [.str "min", .str "low", .str "burst"])
  have hv1 := dp_same s1 d v hv
  cases hok with
  | @amt _ n m hw h1 h2 h3 h4 =>
    obtain ⟨a, rfl, ha⟩ := dp_two hv1
    simp only [List.mem_cons, List.not_mem_nil, or_false] at hw
    rcases hw with rfl | rfl | rfl | rfl | rfl | rfl
    iterate 3
      · refine ⟨true, congrArg V.bl (by decide +kernel), iteT ?_⟩
        exact ⟨_, rfl, _, n, m, rfl, hv1, h1, h2, h3, h4, q _ s1⟩
    iterate 3
      · refine ⟨false, congrArg V.bl (by decide +kernel), iteF ?_⟩
        refine ⟨_, rfl, rfl, _, rfl, ifF (by decide +kernel) ?_⟩
        refine ⟨_, rfl, rfl, _, rfl, ifF (by decide +kernel) ?_⟩
        refine ⟨_, rfl, _, rfl, .inr ⟨a, _, rfl, ha, ?_⟩⟩
        refine ⟨false, rfl, ?_⟩
        refine iteF ?_
        exact ⟨_, rfl, _, n, m, rfl, hv1, h1, h2, h3, h4, q _ s1⟩
  | endl hw =>
    cases dp_str hv
    simp only [List.mem_cons, List.not_mem_nil, or_false] at hw
    rcases hw with rfl | rfl | rfl
    all_goals
      refine ⟨false, congrArg V.bl (by decide +kernel), iteF ?_⟩
      refine ⟨_, rfl, rfl, _, rfl, ifF (by decide +kernel) ?_⟩
      refine ⟨_, rfl, rfl, _, rfl, ifF (by decide +kernel) ?_⟩
      refine ⟨_, rfl, _, rfl, .inl ⟨rfl, ?_⟩⟩
      refine ⟨true, rfl, ?_⟩
      refine iteT ?_
      exact q _ s1
  | none =>
    cases dp_none hv
    refine ⟨false, congrArg V.bl (by decide +kernel), iteF ?_⟩
    refine ⟨_, rfl, rfl, _, rfl, ifT (by decide +kernel) ?_⟩
    refine ⟨_, rfl, rfl, true, rfl, iteT ?_⟩
    exact q _ s1
  | @set xs hx hl =>
    obtain ⟨a, ys, rfl, ha, hys⟩ := dp_tup hv1
    refine ⟨false, congrArg V.bl (by decide +kernel), iteF ?_⟩
    refine ⟨_, rfl, rfl, _, rfl, ifT (by decide +kernel) ?_⟩
    refine ⟨_, rfl, rfl, false, rfl, iteF ?_⟩
    exact ⟨_, rfl, _, xs, rfl, hv1, hx, hl, q _ s1⟩
  | @alone i hi =>
    cases dp_int hv
    refine ⟨false, congrArg V.bl (by decide +kernel), iteF ?_⟩
    refine ⟨_, rfl, rfl, _, rfl, ifF (by decide +kernel) ?_⟩
    refine ⟨_, rfl, rfl, _, rfl, ifT (by decide +kernel) ?_⟩
    refine ⟨_, rfl, i, rfl, true, rfl, iteT ?_⟩
    refine ⟨_, rfl, by show 2 ≤ sizeLine; decide, fun p2 hp2 => ⟨p2, _, rfl, .inr (SqT.of upd_same), rfl, rfl, ?_⟩⟩
    have e : inV (.int i) [.int 0, .int 1] = true := by
      rcases hi with rfl | rfl <;> decide +kernel
    show Q (.bl (inV (.int i) [.int 0, .int 1])) _
    rw [e]
    exact q _ (Same.new s1 hp2 _)

end
end Bd
end

section
namespace Bd
open PySem L2
abbrev sIsName : Stmt := (top 32)
theorem scIsName : FnScope ["thing", "letter"] ["thing"] (defScope sIsName) := ⟨rfl, rfl, rfl, by decide +kernel, rfl, by decide +kernel, by decide +kernel⟩
abbrev sIsDue : Stmt := (top 37)
theorem scIsDue : FnScope ["thing", "word", "value"] ["thing"] (defScope sIsDue) := ⟨rfl, rfl, rfl, by decide +kernel, rfl, by decide +kernel, by decide +kernel⟩
abbrev sIsDues : Stmt := (top 38)
theorem scIsDues : FnScope ["thing", "words", "due"] ["thing"] (defScope sIsDues) := ⟨rfl, rfl, rfl, by decide +kernel, rfl, by decide +kernel, by decide +kernel⟩
abbrev sIsGroupRow : Stmt := (top 39)
theorem scIsGroupRow : FnScope ["thing", "name", "above", "dues"] ["thing"] (defScope sIsGroupRow) := ⟨rfl, rfl, rfl, by decide +kernel, rfl, by decide +kernel, by decide +kernel⟩
abbrev sMayStand : Stmt := (top 41)
theorem scMayStand : FnScope ["tree", "row", "name", "above", "dues"] ["tree", "row"] (defScope sMayStand) := ⟨rfl, rfl, rfl, by decide +kernel, rfl, by decide +kernel, by decide +kernel⟩

def NameOk (x : Str) : Prop := 1 ≤ x.length ∧ x.length ≤ 10 ∧ ∀ c ∈ x.cps.toList, 97 ≤ c ∧ c ≤ 122
structure RowM where
  name : Str
  above : Str
  dues : List (Str × PyData)
/-- a pair of a word and a value at p -/
def DueAt (K : PySem.W.Frag) (H : Hp) (p : Addr) (du : Str × PyData) : Prop := ∃ u, SqT K H p [.str du.1, u] ∧ Dp K H u du.2
/-- dues at t -/
def DuesAt (K : PySem.W.Frag) (H : Hp) (t : Addr) (dues : List (Str × PyData)) : Prop := ∃ ps : List Addr, FrT H t (ps.map V.ref) ∧ Paired (DueAt K H) ps dues
def RowAt (K : PySem.W.Frag) (H : Hp) (v : V) (r : RowM) : Prop := ∃ a t, v = .ref a ∧ SqT K H a [.str r.name, .str r.above, .ref t] ∧ DuesAt K H t r.dues
def DuesOk (dues : List (Str × PyData)) : Prop := (dues.map (·.1)).Nodup ∧ ∀ du ∈ dues, du.1 ∈ leftW ∧ ValOk du.1 du.2
theorem paired_mono {α β : Type} {F G : α → β → Prop} (h : ∀ a b, F a b → G a b) : ∀ {xs : List α} {ys : List β}, Paired F xs ys → Paired G xs ys
  | _, _, .nil => .nil
  | _, _, .cons a b => .cons (h _ _ a) (paired_mono h b)
theorem paired_get {α β : Type} {F : α → β → Prop} : ∀ {xs : List α} {ys : List β}, Paired F xs ys → ∀ {i : Nat} {x : α}, xs[i]? = some x → ∃ y, ys[i]? = some y ∧ F x y
  | _, _, .nil, i, x, h => by simp at h
  | _, _, .cons a b, 0, x, h => by
    cases Option.some.inj h
    exact ⟨_, rfl, a⟩
  | _, _, .cons a b, i + 1, x, h => by
    obtain ⟨y, h1, h2⟩ := paired_get b (i := i) (x := x) (by simpa using h)
    exact ⟨y, by simpa using h1, h2⟩
theorem DueAt.same {K : PySem.W.Frag} {H H' : Hp} (e : Same H H') {p : Addr} {du : Str × PyData} (h : DueAt K H p du) : DueAt K H' p du := by
  obtain ⟨u, h1, h2⟩ := h
  exact ⟨u, Same.seqT e h1, dp_same e _ _ h2⟩
theorem FrT.same {H H' : Hp} (e : Same H H') {a : Addr} {xs : List V} (h : FrT H a xs) : FrT H' a xs := by
  obtain ⟨o, h1, h2⟩ := h
  exact ⟨o, h1, e _ _ h2⟩
theorem DuesAt.same {K : PySem.W.Frag} {H H' : Hp} (e : Same H H') {t : Addr} {dues : List (Str × PyData)} (h : DuesAt K H t dues) : DuesAt K H' t dues := by
  obtain ⟨ps, h1, h2⟩ := h
  exact ⟨ps, FrT.same e h1, paired_mono (fun _ _ z => DueAt.same e z) h2⟩
theorem RowAt.same {K : PySem.W.Frag} {H H' : Hp} (e : Same H H') {v : V} {r : RowM} (h : RowAt K H v r) : RowAt K H' v r := by
  obtain ⟨a, t, rfl, h1, h2⟩ := h
  exact ⟨a, t, rfl, Same.seqT e h1, DuesAt.same e h2⟩
def spIsName : Sp := fun vs H Q _ => ∃ x : Str, vs = [.str x] ∧ NameOk x ∧ ∀ H', Same H H' → Q (.bl true) H'
def spIsDue (K : PySem.W.Frag) : Sp := fun vs H Q _ => ∃ (p : Addr) (du : Str × PyData), vs = [.ref p] ∧ DueAt K H p du ∧ du.1 ∈ leftW ∧ ValOk du.1 du.2 ∧ ∀ H', Same H H' → Q (.bl true) H'
def spIsDues (K : PySem.W.Frag) : Sp := fun vs H Q _ => ∃ (t : Addr) (dues : List (Str × PyData)), vs = [.ref t] ∧ DuesAt K H t dues ∧ DuesOk dues ∧ ∀ H', Same H H' → Q (.bl true) H'
def spIsGroupRow (K : PySem.W.Frag) : Sp := fun vs H Q _ => ∃ (v : V) (r : RowM), vs = [v] ∧ RowAt K H v r ∧ NameOk r.name ∧ DuesOk r.dues ∧ ∀ H', Same H H' → Q (.bl true) H'
section
variable {P : Program} {w : World} {K : PySem.W.Frag} {mg : Str → Option Value} {base : Heap} {aL : Addr} {left : List (Key × V)}
theorem ok_isDue {f g e : Addr} {fd gd ed : FuncData} (F : Fun K "is_due" "is_due" sIsDue f fd) (T : TP P w K mg aL left) (cW : Cal P w K mg base "is_word" ["thing"] 1 spIsWord g gd) (cM : Cal P w K mg base "may_have" ["word", "value"] 3 (spMayHave K) e ed) :
    FnOk P w K mg base CX0 4 f fd ["thing"] (spIsDue K) := by
  refine F.ok scIsDue (fun vs H Q E h => ?_) (fun cdv A outer s H vs Q E hr h => ?_)
  · obtain ⟨p, du, rfl, _⟩ := h
    rfl
  obtain ⟨p, du, rfl, ⟨u, ha, hu⟩, hw, hv, q⟩ := h
  refine ⟨_, (pss_cons (ps_if (PW.pt (pw_or (pt_not (pt_val (pe_callB call_isi (by rfl) T.z_isinstance (by decide +kernel) (pa_cons (pv 0) (pa_cons (pe_bltn (v := .ty "tuple") (u := .type "tuple") (by rfl) T.z_tuple (by decide +kernel) rfl) pa_nil))))) (pw_or1 (pt_cmpR op_ne (pe_callB call_len_seq (by rfl) T.z_len PySem.boot_len (pa_cons (pv 0) pa_nil)) pe_int (nomark _))))) (pss_one (ps_ret pe_bl)) pss_nil) (pss_cons (ps_asg (pv 0) (pg_tup (by rfl) (pgs_cons (pg_name (i := 1) scIsDue.nd rfl (Or.inl rfl)) (pgs_cons (pg_name (i := 2) scIsDue.nd rfl (Or.inl rfl)) pgs_nil)))) (pss_one (ps_ret (pe_and (pe_call cW.ok (hr.mono (by decide)) rfl cW.mg cW.kp cW.bd .nil pass0 (pa_cons (pv 1) pa_nil)) (pe_one (pe_call cM.ok (hr.mono (by decide)) rfl cM.mg cM.kp cM.bd .nil pass0 (pa_cons (pv 1) (pa_cons (pv 2) pa_nil))))))))), ?_⟩
  refine ⟨_, rfl, _, _, _, _, true, rfl, .ty _, sqt_ty ha, kit_ty (by decide +kernel), true, rfl, ?_⟩
  refine iteF ?_
  refine ⟨_, rfl, p, _, rfl, .inr ha, rfl, _, rfl, ?_⟩
  refine iteNS rfl ?_
  refine ⟨_, rfl, p, _, rfl, ha, rfl, ?_⟩
  refine ⟨_, _, rfl, _, _, rfl, rfl, ?_⟩
  refine ⟨_, rfl, du.1, rfl, hw, true, rfl, iteT ?_⟩
  exact ⟨_, rfl, _, rfl, du.1, u, du.2, rfl, hu, hv, q⟩

theorem letter_ok : ∀ c < 123, 97 ≤ c → (!decide ((⟨#[c]⟩ : Str).cps.toList < ("a" : Str).cps.toList)) = true ∧ (!decide (("z" : Str).cps.toList < (⟨#[c]⟩ : Str).cps.toList)) = true := by decide +kernel
theorem ok_isName {f : Addr} {fd : FuncData} (F : Fun K "is_name" "is_name" sIsName f fd) (T : TP P w K mg aL left) : FnOk P w K mg base CX0 1 f fd ["thing"] spIsName := by
  refine F.ok scIsName (fun vs H Q E h => ?_) (fun cdv A outer s H vs Q E hr h => ?_)
  · obtain ⟨x, rfl, _⟩ := h
    rfl
  obtain ⟨x, rfl, ⟨h1, h2, h3⟩, q⟩ := h
  have hx : x.length ≤ sizeLine := small (by omega)
  refine ⟨_, (pss_cons (ps_if (PW.pt (pw_or (pt_not (pt_val (pe_callB call_isi (by rfl) T.z_isinstance (by decide +kernel) (pa_cons (pv 0) (pa_cons (pe_bltn (v := .ty "str") (u := .type "str") (by rfl) T.z_str (by decide +kernel) rfl) pa_nil))))) (pw_or1 (pt_not (pt_chain op_le op_le pe_int (pe_callB call_len_str (by rfl) T.z_len PySem.boot_len (pa_cons (pv 0) pa_nil)) pe_int))))) (pss_one (ps_ret pe_bl)) pss_nil) (pss_one (ps_ret (pe_callB (cr_all rfl) (by rfl) T.z_all (by decide +kernel) (pa_cons (pe_lc (own := [("letter", 1)]) (g := gName 1) (tt := tYes) rfl scIsName.nd (pi_str (pv 0)) (blkOk_by (own := [("letter", 1)]) (N := ["thing", "letter"]) (sc := defScope sIsName) (by decide +kernel)) (fun _ _ _ _ _ => (pg_name (i := 1) scIsName.nd rfl (Or.inl rfl))) (fun _ _ _ _ _ => pts_nil) (fun _ _ _ _ _ => (pe_chain op_le_str op_le_str pe_str (pv 1) pe_str))) pa_nil))))), ?_⟩
  refine ⟨_, rfl, _, _, _, _, true, rfl, .ty _, .base (.str _), kit_ty (by decide +kernel), true, rfl, ?_⟩
  refine iteF ?_
  refine ⟨_, rfl, x, rfl, hx, _, _, rfl, rfl, true, bl_t (by omega), ?_⟩
  refine iteT ?_
  refine ⟨_, _, rfl, rfl, true, bl_t (by omega), ?_⟩
  refine iteF ?_
  refine ⟨_, rfl, x, rfl, fun D hD => lc_it walk_str (fun i H' => H' = upd H D (.lst ((List.replicate i true).map V.bl))) rfl (fun _ _ _ _ => trivial) ?_ ?_⟩
  · rintro i v H1 H2 hi rfl ⟨rfl, c, hc, rfl⟩
    have hm : c ∈ x.cps.toList := by
      rw [← Array.getElem?_toList] at hc
      exact List.mem_of_getElem? hc
    obtain ⟨l1, l2⟩ := h3 c hm
    obtain ⟨e1, e2⟩ := letter_ok c (by omega) l1
    refine ⟨rfl, ?_⟩
    unfold tYes
    refine iteT ?_
    refine ⟨_, rfl, _, _, rfl, rfl, true, congrArg V.bl e1, ?_⟩
    refine iteT ?_
    refine ⟨_, _, rfl, rfl, ?_⟩
    rw [e2]
    refine ⟨_, upd_same, ?_, ?_⟩
    · rw [List.length_map, List.length_replicate]
      have : x.cps.size = x.length := rfl
      exact small1000 (by omega)
    · rw [upd_upd, List.replicate_succ', List.map_append]
      rfl
  · rintro H1 rfl
    refine ⟨D, List.replicate x.cps.size true, rfl, SqL.of upd_same, ?_⟩
    have e : (List.replicate x.cps.size true).all id = true := by simp
    rw [e]
    exact q _ (Same.new (Same.refl H) hD _)

theorem map_ref_get {ps : List Addr} {i : Nat} {x : V} (h : (ps.map V.ref)[i]? = some x) : ∃ p, x = .ref p ∧ ps[i]? = some p := by
  rw [List.getElem?_map] at h
  cases e : ps[i]? with
  | none =>
    rw [e] at h
    cases h
  | some z =>
    rw [e] at h
    exact ⟨z, (Option.some.inj h).symm, rfl⟩
theorem fresh_at {α β : Type} {f : α → β} : ∀ {xs : List α} {i : Nat} {x : α}, (xs.map f).Nodup → xs[i]? = some x → ∀ y ∈ xs.take i, f y ≠ f x
  | [], i, x, _, h => by simp at h
  | a :: r, 0, x, _, h => by
    intro y hy
    simp at hy
  | a :: r, i + 1, x, hn, h => by
    intro y hy
    have hn : (f a :: r.map f).Nodup := hn
    obtain ⟨h1, h2⟩ := List.nodup_cons.mp hn
    have h' : r[i]? = some x := by simpa using h
    rw [List.take_succ_cons] at hy
    rcases List.mem_cons.mp hy with rfl | hy
    · intro e
      exact h1 (by rw [e]; exact List.mem_map.mpr ⟨x, List.mem_of_getElem? h', rfl⟩)
    · exact fresh_at h2 h' y hy
theorem nodup_few {α : Type} [DecidableEq α] : ∀ {xs ys : List α}, xs.Nodup → (∀ x ∈ xs, x ∈ ys) → xs.length ≤ ys.length
  | [], ys, _, _ => Nat.zero_le _
  | x :: xs, ys, hn, h => by
    obtain ⟨h1, h2⟩ := List.nodup_cons.mp hn
    have hx := h x List.mem_cons_self
    have := nodup_few (xs := xs) (ys := ys.erase x) h2 (fun z hz => by
      have hzx : z ≠ x := fun e => h1 (e ▸ hz)
      exact (List.mem_erase_of_ne hzx).mpr (h z (List.mem_cons_of_mem _ hz)))
    rw [List.length_erase_of_mem hx] at this
    have hp : 0 < ys.length := List.length_pos_of_mem hx
    rw [List.length_cons]
    omega
theorem words_few {dues : List (Str × PyData)} (hn : (dues.map (·.1)).Nodup) (h : ∀ du ∈ dues, du.1 ∈ leftW) : dues.length ≤ 8 := by
  have := nodup_few (ys := leftW) hn (fun x hx => by
    obtain ⟨du, hdu, rfl⟩ := List.mem_map.mp hx
    exact h du hdu)
  rw [List.length_map] at this
  exact this
theorem ok_isDues {f g : Addr} {fd gd : FuncData} (F : Fun K "is_dues" "is_dues" sIsDues f fd) (T : TP P w K mg aL left) (cD : Cal P w K mg base "is_due" ["thing"] 4 (spIsDue K) g gd) :
    FnOk P w K mg base CX0 5 f fd ["thing"] (spIsDues K) := by
  refine F.ok scIsDues (fun vs H Q E h => ?_) (fun cdv A outer s H vs Q E hr h => ?_)
  · obtain ⟨p, du, rfl, _⟩ := h
    rfl
  obtain ⟨t, dues, rfl, hd, ⟨hn, hok⟩, q⟩ := h
  have hu := hu_of hr
  obtain ⟨ps, hF, hp⟩ := id hd
  refine ⟨_, (pss_cons (ps_if (pt_not (pt_val (pe_callB call_isi (by rfl) T.z_isinstance (by decide +kernel) (pa_cons (pv 0) (pa_cons (pe_bltn (v := .ty "tuple") (u := .type "tuple") (by rfl) T.z_tuple (by decide +kernel) rfl) pa_nil))))) (pss_one (ps_ret pe_bl)) pss_nil) (pss_cons (ps_set (i := 1) scIsDues.nd rfl (Or.inl rfl) pe_dnewK) (pss_cons (ps_for PassesOwn.never rfl (pi_tup (pv 0)) (pg_name (i := 2) scIsDues.nd rfl (Or.inl rfl)) (pss_cons (ps_if (PW.pt (pw_or (pt_not (pt_val (pe_call cD.ok (hr.mono (by decide)) rfl cD.mg cD.kp cD.bd .nil pass0 (pa_cons (pv 2) pa_nil)))) (pw_or1 (pt_cmp (pc_din hu (pe_ix ix_tup (pv 2) pe_int (fun _ _ => rfl)) (pv 1)))))) (pss_one (ps_ret pe_bl)) pss_nil) (pss_one (ps_dput hu (pv 1) (pe_ix ix_tup (pv 2) pe_int (fun _ _ => rfl)) pe_bl rfl)))) (pss_one (ps_ret pe_bl))))), ?_⟩
  refine ⟨_, rfl, _, _, _, _, true, rfl, .ty _, sqt_ty hF.seq, kit_ty (by decide +kernel), true, rfl, ?_⟩
  refine iteF ?_
  intro d hd0
  refine ⟨_, rfl, t, rfl, ⟨_, Same.seqT (Same.new (Same.refl H) hd0 _) hF.seq⟩, for_tup (xs := ps.map V.ref) (fun i σ H' => Same H H' ∧ ∃ (kvs : List (Key × V)) (o : Option V), σ = [some (.ref t), some (.ref d), o] ∧ H' d = some (.dK kvs) ∧ kvs.map (·.1) = (dues.take i).map (fun du => Sum.inr du.1)) ⟨Same.new (Same.refl H) hd0 _, [], none, rfl, upd_same, rfl⟩ ?_ ?_ ?_⟩
  · rintro i σ H' _ ⟨s1, _⟩
    exact Same.seqT s1 hF.seq
  · rintro i x σ H' hi ⟨s1, kvs, o, rfl, hk, he⟩
    obtain ⟨p, rfl, hpi⟩ := map_ref_get hi
    obtain ⟨du, hdu, hat⟩ := paired_get hp hpi
    have hmem := List.mem_of_getElem? hdu
    obtain ⟨hw, hv⟩ := hok du hmem
    obtain ⟨u, hpu, hu2⟩ := id hat
    refine ⟨_, rfl, p, du, rfl, DueAt.same s1 hat, hw, hv, fun H2 s2 => ?_⟩
    refine ⟨true, rfl, ?_⟩
    refine iteF ?_
    have hk2 := s2 _ _ hk
    have hpu2 := Same.seqT s2 (Same.seqT s1 hpu)
    have hnone : valV kvs (Sum.inr du.1 : Key) = none := by
      cases hv0 : valV kvs (Sum.inr du.1 : Key) with
      | none => rfl
      | some v =>
        have hin := valV_in hv0
        rw [he] at hin
        obtain ⟨du2, hd2, ed2⟩ := List.mem_map.mp hin
        exact absurd (Sum.inr.inj ed2) (fresh_at hn hdu du2 hd2)
    refine ⟨_, rfl, p, _, _, _, rfl, rfl, hpu2, rfl, _, rfl, d, _, rfl, DGet.k (k := Sum.inr du.1) hk2, ?_⟩
    rw [hnone]
    refine ⟨false, rfl, iteF ?_⟩
    refine ⟨_, rfl, _, rfl, p, _, _, _, rfl, rfl, hpu2, rfl, d, _, rfl, DPut.k (k := Sum.inr du.1) hk2 ?_, ?_⟩
    · have e : kvs.length = (dues.take i).length := by
        have := congrArg List.length he
        simpa using this
      rw [List.length_take] at e
      have : dues.length ≤ 8 := words_few hn fun du hdu => (hok du hdu).1
      exact small1000 (by omega)
    · refine ⟨fun b o hb => ?_, _, _, rfl, upd_same, ?_⟩
      · have n : b ≠ d := ne_of_none hb hd0
        rw [upd_ne n]
        exact s2 _ _ (s1 _ _ hb)
      · rw [putK_new _ hnone, List.map_append, he, List.take_add_one, hdu, Option.toList_some, List.map_append]
        rfl
  · rintro σ H' ⟨s1, _⟩
    exact q _ s1

end
end Bd
end

section
namespace Bd
open PySem L2
abbrev sInit : Stmt := (inClass (top 40) 0)
theorem scInit : FnScope ["self", "rows", "handing", "at", "row", "name", "above", "dues"] ["self", "rows", "handing"] (defScope sInit) := ⟨rfl, rfl, rfl, by decide +kernel, rfl, by decide +kernel, by decide +kernel⟩
abbrev sNames : Stmt := (inClass (top 40) 2)
theorem scNames : FnScope ["self"] ["self"] (defScope sNames) := ⟨rfl, rfl, rfl, by decide +kernel, rfl, by decide +kernel, by decide +kernel⟩

/-- tuples stay -/
def TK (H H' : Hp) : Prop := (∀ b xs, H b = some (.tup xs) → H' b = some (.tup xs)) ∧ ∀ b o u, H b = some (.frz o u) → H' b = some (.frz o u)
theorem TK.refl (H : Hp) : TK H H := ⟨fun _ _ h => h, fun _ _ _ h => h⟩
theorem TK.trans {H H1 H2 : Hp} (a : TK H H1) (b : TK H1 H2) : TK H H2 := ⟨fun c xs h => b.1 c xs (a.1 c xs h), fun c o u h => b.2 c o u (a.2 c o u h)⟩
theorem TK.of {H H1 : Hp} (a : Same H H1) : TK H H1 := ⟨fun c xs h => a _ _ h, fun c o u h => a _ _ h⟩
theorem TK.kept {H H1 : Hp} {p : Addr} {xs : List V} (h : H p = some (.lst xs)) (a : Kept p H H1) : TK H H1 :=
  ⟨fun c ys e => a c _ (ne_of e h (by intro z; cases z)) e, fun c o u e => a c _ (ne_of e h (by intro z; cases z)) e⟩
theorem TK.lst {H : Hp} {p : Addr} {xs : List V} (h : H p = some (.lst xs)) (o : HO) : TK H (upd H p o) :=
  ⟨fun c ys e => by rw [upd_ne (ne_of e h (by intro z; cases z))]; exact e, fun c v u e => by rw [upd_ne (ne_of e h (by intro z; cases z))]; exact e⟩
theorem TK.dk {H : Hp} {p : Addr} {xs : List (Key × V)} (h : H p = some (.dK xs)) (o : HO) : TK H (upd H p o) :=
  ⟨fun c ys e => by rw [upd_ne (ne_of e h (by intro z; cases z))]; exact e, fun c v u e => by rw [upd_ne (ne_of e h (by intro z; cases z))]; exact e⟩
theorem TK.ins {H : Hp} {p C dx : Addr} {xs : List (Str × V)} (h : H p = some (.ins C dx xs)) (o : HO) : TK H (upd H p o) :=
  ⟨fun c ys e => by rw [upd_ne (ne_of e h (by intro z; cases z))]; exact e, fun c v u e => by rw [upd_ne (ne_of e h (by intro z; cases z))]; exact e⟩
theorem TK.new {H : Hp} {p : Addr} (h : H p = none) (o : HO) : TK H (upd H p o) := TK.of (Same.new (Same.refl H) h o)
section
variable {K : PySem.W.Frag}
theorem TK.seqT {H H' : Hp} (e : TK H H') {a : Addr} {xs : List V} (h : SqT K H a xs) : SqT K H' a xs := by
  rcases h with (h | ⟨o, h⟩) | h
  · exact .inl (.inl (e.1 _ _ h))
  · exact .inl (.inr ⟨o, e.2 _ _ _ h⟩)
  · exact .inr h
theorem TK.frT {H H' : Hp} (e : TK H H') {a : Addr} {xs : List V} (h : FrT H a xs) : FrT H' a xs := by
  obtain ⟨o, h1, h2⟩ := h
  exact ⟨o, h1, e.2 _ _ _ h2⟩
theorem dp_ofints {H : Hp} : ∀ xs : List Int, DpAll K H (xs.map V.int) (xs.map .int)
  | [] => .nil
  | x :: xs => .cons (.int x) (dp_ofints xs)
theorem TK.val {H H' : Hp} (e : TK H H') {x : Str} {v : V} {d : PyData} (hv : ValOk x d) (h : Dp K H v d) : Dp K H' v d := by
  cases hv with
  | amt =>
    obtain ⟨a, rfl, ha⟩ := dp_two h
    exact .tup (e.seqT ha) (.cons (.int _) (.cons (.int _) .nil))
  | endl =>
    cases h
    exact .str _
  | none =>
    cases h
    exact .non
  | set =>
    obtain ⟨a, ys, rfl, ha, hys⟩ := dp_tup h
    cases dp_ints hys
    exact .tup (e.seqT ha) (dp_ofints _)
  | alone =>
    cases h
    exact .int _
theorem paired_monoM {α β : Type} {F G : α → β → Prop} : ∀ {xs : List α} {ys : List β}, (∀ a b, b ∈ ys → F a b → G a b) → Paired F xs ys → Paired G xs ys
  | _, _, _, .nil => .nil
  | _, _, h, .cons a b => .cons (h _ _ List.mem_cons_self a) (paired_monoM (fun x y hy z => h x y (List.mem_cons_of_mem _ hy) z) b)
theorem TK.dues {H H' : Hp} (e : TK H H') {t : Addr} {dues : List (Str × PyData)} (ok : DuesOk dues) (h : DuesAt K H t dues) : DuesAt K H' t dues := by
  obtain ⟨ps, h1, h2⟩ := h
  refine ⟨ps, e.frT h1, paired_monoM (fun p du hm z => ?_) h2⟩
  obtain ⟨u, h3, h4⟩ := z
  exact ⟨u, e.seqT h3, e.val (ok.2 du hm).2 h4⟩
theorem TK.row {H H' : Hp} (e : TK H H') {v : V} {r : RowM} (ok : DuesOk r.dues) (h : RowAt K H v r) : RowAt K H' v r := by
  obtain ⟨a, t, rfl, h1, h2⟩ := h
  exact ⟨a, t, rfl, e.seqT h1, e.dues ok h2⟩
end
def leftD : List (Str × PyData) := [("min", .tuple [.int 0, .int 1]), ("low", .tuple [.int 0, .int 1]), ("max", .str "endless"), ("quota", .str "endless"), ("burst", .tuple [.int 0, .int 1]), ("tops", .str "endless"), ("sets", .none), ("alone", .int 0)]
def dueOf (dues : List (Str × PyData)) (x : Str) : Option PyData := (dues.find? fun du => decide (du.1 = x)).map (·.2)
def fullD (dues : List (Str × PyData)) : List (Str × PyData) := leftD.map fun wd => (wd.1, (dueOf dues wd.1).getD wd.2)
def FullAt (K : PySem.W.Frag) (H : Hp) (d : Addr) (dues : List (Str × PyData)) : Prop := ∃ kvs : List (Key × V), H d = some (.dK kvs) ∧ Paired (fun kv (wd : Str × PyData) => kv.1 = (Sum.inr wd.1 : Key) ∧ Dp K H kv.2 wd.2) kvs (fullD dues)
theorem leftD_ok : ∀ wd ∈ leftD, wd.1 ∈ leftW ∧ ValOk wd.1 wd.2 := by
  intro wd h
  have z1 : ValOk "min" (.tuple [.int ((0 : Nat) : Int), .int ((1 : Nat) : Int)]) := .amt (by decide +kernel) (Nat.pow_pos (by decide)) (by decide) (Nat.one_lt_two_pow (by decide)) (by decide)
  have z2 : ValOk "low" (.tuple [.int ((0 : Nat) : Int), .int ((1 : Nat) : Int)]) := .amt (by decide +kernel) (Nat.pow_pos (by decide)) (by decide) (Nat.one_lt_two_pow (by decide)) (by decide)
  have z3 : ValOk "burst" (.tuple [.int ((0 : Nat) : Int), .int ((1 : Nat) : Int)]) := .amt (by decide +kernel) (Nat.pow_pos (by decide)) (by decide) (Nat.one_lt_two_pow (by decide)) (by decide)
  simp only [leftD, List.mem_cons, List.not_mem_nil, or_false] at h
  rcases h with rfl | rfl | rfl | rfl | rfl | rfl | rfl | rfl
  · exact ⟨by decide +kernel, z1⟩
  · exact ⟨by decide +kernel, z2⟩
  · exact ⟨by decide +kernel, .endl (by decide +kernel)⟩
  · exact ⟨by decide +kernel, .endl (by decide +kernel)⟩
  · exact ⟨by decide +kernel, z3⟩
  · exact ⟨by decide +kernel, .endl (by decide +kernel)⟩
  · exact ⟨by decide +kernel, .none⟩
  · exact ⟨by decide +kernel, .alone (.inl rfl)⟩
theorem dueOf_mem {dues : List (Str × PyData)} {x : Str} {d : PyData} (h : dueOf dues x = some d) : (x, d) ∈ dues := by
  unfold dueOf at h
  cases e : dues.find? fun du => decide (du.1 = x) with
  | none =>
    rw [e] at h
    cases h
  | some du =>
    rw [e] at h
    have h1 := List.mem_of_find?_eq_some e
    have h2 : du.1 = x := by
      have z := List.find?_some e
      simpa using z
    cases h
    rw [← h2]
    exact h1
theorem fullD_ok {dues : List (Str × PyData)} (ok : DuesOk dues) : ∀ wd ∈ fullD dues, ValOk wd.1 wd.2 := by
  intro wd h
  obtain ⟨ld, hl, rfl⟩ := List.mem_map.mp h
  show ValOk ld.1 ((dueOf dues ld.1).getD ld.2)
  cases e : dueOf dues ld.1 with
  | none => exact (leftD_ok ld hl).2
  | some d => exact (ok.2 _ (dueOf_mem e)).2
theorem TK.full {K : PySem.W.Frag} {H H' : Hp} (e : TK H H') {d : Addr} {dues : List (Str × PyData)} (ok : DuesOk dues) (hd : H' d = H d) (h : FullAt K H d dues) : FullAt K H' d dues := by
  obtain ⟨kvs, h1, h2⟩ := h
  exact ⟨kvs, hd.trans h1, paired_monoM (fun kv wd hm z => ⟨z.1, e.val (fullD_ok ok wd hm) z.2⟩) h2⟩
/-! ### what merging makes -/
theorem mergeK_app : ∀ (more acc : List (Key × V)), ((acc ++ more).map (·.1)).Nodup → mergeK acc more = acc ++ more
  | [], acc, _ => by simp [mergeK]
  | p :: r, acc, h => by
    have hn : valV acc p.1 = none := by
      cases e : valV acc p.1 with
      | none => rfl
      | some v =>
        have h1 := valV_in e
        rw [List.map_append, List.nodup_append] at h
        exact absurd rfl (h.2.2 p.1 h1 p.1 (by simp))
    have h2 : mergeK acc (p :: r) = mergeK (putK acc p.1 p.2) r := rfl
    rw [h2, putK_new _ hn, mergeK_app r (acc ++ [(p.1, p.2)]) (by simpa using h)]
    simp
theorem mergeK_over : ∀ (more kvs : List (Key × V)), (more.map (·.1)).Nodup → (∀ p ∈ more, p.1 ∈ kvs.map (·.1)) → mergeK kvs more = kvs.map fun kv => (kv.1, (valV more kv.1).getD kv.2)
  | [], kvs, _, _ => by simp [mergeK, valV]
  | p :: r, kvs, hn, hm => by
    have hn : (p.1 :: r.map (·.1)).Nodup := hn
    obtain ⟨h1, h2⟩ := List.nodup_cons.mp hn
    have hp : (kvs.any fun kv => decide (kv.1 = p.1)) = true := by
      obtain ⟨q, hq, e⟩ := List.mem_map.mp (hm p List.mem_cons_self)
      exact List.any_eq_true.mpr ⟨q, hq, decide_eq_true e⟩
    have hput : putK kvs p.1 p.2 = kvs.map (fun kv => if kv.1 = p.1 then (kv.1, p.2) else kv) := by
      unfold putK
      rw [if_pos hp]
    have hkeys : (putK kvs p.1 p.2).map (·.1) = kvs.map (·.1) := by
      rw [hput, List.map_map]
      refine List.map_congr_left fun kv _ => ?_
      show (if kv.1 = p.1 then (kv.1, p.2) else kv).1 = kv.1
      split <;> rfl
    have e : mergeK kvs (p :: r) = mergeK (putK kvs p.1 p.2) r := rfl
    rw [e, mergeK_over r (putK kvs p.1 p.2) h2 (fun q hq => by rw [hkeys]; exact hm q (List.mem_cons_of_mem _ hq)), hput, List.map_map]
    refine List.map_congr_left fun kv _ => ?_
    show ((if kv.1 = p.1 then (kv.1, p.2) else kv).1, (valV r (if kv.1 = p.1 then (kv.1, p.2) else kv).1).getD (if kv.1 = p.1 then (kv.1, p.2) else kv).2) = (kv.1, (valV (p :: r) kv.1).getD kv.2)
    by_cases c : kv.1 = p.1
    · rw [if_pos c]
      have hv : valV r kv.1 = none := by
        cases z : valV r kv.1 with
        | none => rfl
        | some v =>
          have z2 := valV_in z
          rw [c] at z2
          exact absurd z2 h1
      show (kv.1, (valV r kv.1).getD p.2) = (kv.1, (valV (p :: r) kv.1).getD kv.2)
      rw [hv, valV_pos c.symm]
      rfl
    · rw [if_neg c, valV_neg (fun z => c z.symm)]
def PV (K : PySem.W.Frag) (H : Hp) (kv : Key × V) (wd : Str × PyData) : Prop := kv.1 = (Sum.inr wd.1 : Key) ∧ Dp K H kv.2 wd.2
theorem val_due {K : PySem.W.Frag} {H : Hp} (x : Str) : ∀ {dk : List (Key × V)} {dues : List (Str × PyData)}, Paired (PV K H) dk dues →
    (valV dk (Sum.inr x : Key) = none ∧ dueOf dues x = none) ∨ ∃ v d, valV dk (Sum.inr x : Key) = some v ∧ dueOf dues x = some d ∧ Dp K H v d
  | _, _, .nil => .inl ⟨rfl, rfl⟩
  | _, _, .cons (a := kv) (b := du) h t => by
    by_cases e : du.1 = x
    · refine .inr ⟨kv.2, du.2, valV_pos (by rw [h.1, e]), ?_, h.2⟩
      unfold dueOf
      rw [List.find?_cons_of_pos (by simpa using e)]
      rfl
    · have e1 : ¬ kv.1 = (Sum.inr x : Key) := fun z => e (Sum.inr.inj (h.1.symm.trans z))
      have e2 : ∀ ds, dueOf (du :: ds) x = dueOf ds x := fun ds => by
        unfold dueOf
        rw [List.find?_cons_of_neg (by simpa using e)]
      rw [valV_neg e1, e2]
      exact val_due x t
theorem paired_map {α β γ δ : Type} {F : α → β → Prop} {G : γ → δ → Prop} {f : α → γ} {g : β → δ} (h : ∀ a b, F a b → G (f a) (g b)) : ∀ {xs : List α} {ys : List β}, Paired F xs ys → Paired G (xs.map f) (ys.map g)
  | _, _, .nil => .nil
  | _, _, .cons a b => .cons (h _ _ a) (paired_map h b)
theorem pv_keys {K : PySem.W.Frag} {H : Hp} : ∀ {dk : List (Key × V)} {dues : List (Str × PyData)}, Paired (PV K H) dk dues → dk.map (·.1) = dues.map fun du => (Sum.inr du.1 : Key)
  | _, _, .nil => rfl
  | _, _, .cons a b => by
    rw [List.map_cons, List.map_cons, a.1, pv_keys b]
theorem nodup_inr {xs : List Str} (h : xs.Nodup) : (xs.map fun x => (Sum.inr x : Key)).Nodup := by
  induction xs with
  | nil => exact List.nodup_nil
  | cons x r ih =>
    obtain ⟨h1, h2⟩ := List.nodup_cons.mp h
    rw [List.map_cons]
    refine List.nodup_cons.mpr ⟨fun m => ?_, ih h2⟩
    obtain ⟨y, hy, e⟩ := List.mem_map.mp m
    exact h1 (Sum.inr.inj e ▸ hy)
theorem leftD_words : leftD.map (·.1) = leftW := by decide +kernel
theorem leftW_nd : leftW.Nodup := by decide +kernel
theorem full_of {K : PySem.W.Frag} {H : Hp} {left dk : List (Key × V)} {dues : List (Str × PyData)} (hl : Paired (PV K H) left leftD) (hd : Paired (PV K H) dk dues) (ok : DuesOk dues) :
    Paired (PV K H) (mergeK (mergeK [] left) (mergeK [] dk)) (fullD dues) := by
  have kl : left.map (·.1) = leftW.map fun x => (Sum.inr x : Key) := by
    rw [pv_keys hl, ← leftD_words, List.map_map]
    rfl
  have kd : dk.map (·.1) = (dues.map (·.1)).map fun x => (Sum.inr x : Key) := by
    rw [pv_keys hd, List.map_map]
    rfl
  have nl : (left.map (·.1)).Nodup := by
    rw [kl]
    exact nodup_inr leftW_nd
  have nd : (dk.map (·.1)).Nodup := by
    rw [kd]
    exact nodup_inr ok.1
  rw [mergeK_app left [] (by simpa using nl), mergeK_app dk [] (by simpa using nd), List.nil_append, List.nil_append, mergeK_over dk left nd ?_]
  · unfold fullD
    refine paired_map (fun kv wd h => ?_) hl
    refine ⟨h.1, ?_⟩
    show Dp K H ((valV dk kv.1).getD kv.2) ((dueOf dues wd.1).getD wd.2)
    rw [h.1]
    rcases val_due wd.1 hd with ⟨e1, e2⟩ | ⟨v, d, e1, e2, e3⟩
    · rw [e1, e2]
      exact h.2
    · rw [e1, e2]
      exact e3
  · intro p hp
    have hm : p.1 ∈ dk.map (·.1) := List.mem_map.mpr ⟨p, hp, rfl⟩
    rw [kd] at hm
    obtain ⟨x, hx, e⟩ := List.mem_map.mp hm
    obtain ⟨du, hdu, rfl⟩ := List.mem_map.mp hx
    rw [kl, ← e]
    exact List.mem_map.mpr ⟨du.1, (ok.2 du hdu).1, rfl⟩
theorem dk_of_dues {K : PySem.W.Frag} {H : Hp} : ∀ {ps : List Addr} {dues : List (Str × PyData)}, Paired (DueAt K H) ps dues → ∃ dk : List (Key × V), Paired (fun p kv => SqT K H p [kV kv.1, kv.2]) ps dk ∧ Paired (PV K H) dk dues
  | _, _, .nil => ⟨[], .nil, .nil⟩
  | _, _, .cons (b := du) ⟨u, h1, h2⟩ t => by
    obtain ⟨dk, h3, h4⟩ := dk_of_dues t
    exact ⟨(Sum.inr du.1, u) :: dk, .cons h1 h3, .cons ⟨rfl, h2⟩ h4⟩
/-- the class as the top has made it -/
structure TC (K : PySem.W.Frag) (mg : Str → Option Value) (C : Addr) : Prop where
  cl : Cls K C
  n_order : NoAttr K C "order"
  n_parents : NoAttr K C "parents"
  n_kids : NoAttr K C "kids"
  n_table : NoAttr K C "table"
  n_hands : NoAttr K C "hands"
  g_Tree : mg "Tree" = some (.ref C)
def tf4 (po pp pk pt : Addr) : List (Str × V) := [("order", .ref po), ("parents", .ref pp), ("kids", .ref pk), ("table", .ref pt)]
def tf5 (po pp pk pt : Addr) (b : Bool) : List (Str × V) := [("order", .ref po), ("parents", .ref pp), ("kids", .ref pk), ("table", .ref pt), ("hands", .bl b)]
def kidsOf (rows : List RowM) (k : Key) : List Str := (rows.filter fun r => decide ((Sum.inr r.above : Key) = k)).map (·.name)
theorem kids_le (rows : List RowM) (k : Key) : (kidsOf rows k).length ≤ rows.length := by
  unfold kidsOf
  rw [List.length_map]
  exact List.length_filter_le _ _
theorem kids_snoc (rows : List RowM) (r : RowM) (k : Key) : kidsOf (rows ++ [r]) k = kidsOf rows k ++ (if (Sum.inr r.above : Key) = k then [r.name] else []) := by
  unfold kidsOf
  rw [List.filter_append, List.map_append]
  by_cases c : (Sum.inr r.above : Key) = k
  · rw [if_pos c, List.filter_cons_of_pos (by simpa using c)]
    rfl
  · rw [if_neg c, List.filter_cons_of_neg (by simpa using c)]
    rfl
theorem kids_none {rows : List RowM} {x : Str} (h : ∀ q ∈ rows, q.above ≠ x) : kidsOf rows (Sum.inr x) = [] := by
  unfold kidsOf
  rw [List.filter_eq_nil_iff.mpr fun q hq => by
    have := h q hq
    simpa using this]
  rfl
def leafB (rows : List RowM) (r : RowM) : Bool := !(rows.any fun q => decide (q.above = r.name))
def leavesOf (rows : List RowM) : List Str := (rows.filter (leafB rows)).map (·.name)
/-- the children of each group -/
def KidsAt (H : Hp) (pk : Addr) (rows : List RowM) : Prop := ∃ ks : List (Key × V), H pk = some (.dK ks) ∧ ks.map (·.1) = (Sum.inr "" : Key) :: rows.map (fun r => (Sum.inr r.name : Key)) ∧ ∀ kv ∈ ks, ∃ l, kv.2 = .ref l ∧ H l = some (.lst ((kidsOf rows kv.1).map .str))
/-- a tree that is being made, behind what stood in H0 -/
structure PartAt (K : PySem.W.Frag) (H0 H : Hp) (C p dx po pp pk pt : Addr) (rows : List RowM) (tk : List (Key × V)) : Prop where
  same : Same H0 H
  n0 : H0 p = none ∧ H0 po = none ∧ H0 pp = none ∧ H0 pk = none ∧ H0 pt = none
  ob : H p = some (.ins C dx (tf4 po pp pk pt))
  or_ : H po = some (.lst (rows.map fun r => .str r.name))
  pa : H pp = some (.dK (rows.map fun r => ((Sum.inr r.name : Key), V.str r.above)))
  kd : ∃ ks, H pk = some (.dK ks) ∧ ks.map (·.1) = (Sum.inr "" : Key) :: rows.map (fun r => (Sum.inr r.name : Key)) ∧ (∀ kv ∈ ks, ∃ l, kv.2 = .ref l ∧ H l = some (.lst ((kidsOf rows kv.1).map .str)) ∧ l ≠ po ∧ H0 l = none) ∧ ∀ kv ∈ ks, ∀ kv2 ∈ ks, (kv.1 = kv2.1 ↔ kv.2 = kv2.2)
  tb : H pt = some (.dK tk)
  td : Paired (fun (kv : Key × V) (r : RowM) => kv.1 = (Sum.inr r.name : Key) ∧ ∃ d, kv.2 = .ref d ∧ H0 d = none ∧ d ≠ pp ∧ d ≠ pk ∧ d ≠ pt ∧ FullAt K H d r.dues) tk rows
  ne : pp ≠ pk ∧ pp ≠ pt ∧ pk ≠ pt
theorem FullAt.same {K : PySem.W.Frag} {H H' : Hp} (e : Same H H') {d : Addr} {dues : List (Str × PyData)} (h : FullAt K H d dues) : FullAt K H' d dues := by
  obtain ⟨kvs, h1, h2⟩ := h
  exact ⟨kvs, e _ _ h1, paired_mono (fun kv wd z => ⟨z.1, dp_same e _ _ z.2⟩) h2⟩
theorem PartAt.grow {K : PySem.W.Frag} {H0 H H' : Hp} {C p dx po pp pk pt : Addr} {rows : List RowM} {tk : List (Key × V)} (h : PartAt K H0 H C p dx po pp pk pt rows tk) (e : Same H H') : PartAt K H0 H' C p dx po pp pk pt rows tk where
  same := h.same.trans e
  n0 := h.n0
  ob := e _ _ h.ob
  or_ := e _ _ h.or_
  pa := e _ _ h.pa
  kd := by
    obtain ⟨ks, h1, h2, h3, h4⟩ := h.kd
    exact ⟨ks, e _ _ h1, h2, fun kv hk => let ⟨l, a, b, c, d⟩ := h3 kv hk; ⟨l, a, e _ _ b, c, d⟩, h4⟩
  tb := e _ _ h.tb
  td := paired_mono (fun kv r z => let ⟨a, d, b, c, d1, d2, d3, f⟩ := z; ⟨a, d, b, c, d1, d2, d3, FullAt.same e f⟩) h.td
  ne := h.ne
/-- a row that may stand behind others -/
def StandOk (rows : List RowM) (r : RowM) : Prop := (∀ q ∈ rows, q.name ≠ r.name) ∧ (r.above = "" ∨ ∃ q ∈ rows, q.name = r.above ∧ dueOf (fullD q.dues) "tops" = some (.str "endless"))
def spMayStand (K : PySem.W.Frag) (C : Addr) : Sp := fun vs H Q _ => ∃ (H0 : Hp) (p dx po pp pk pt : Addr) (rows : List RowM) (tk : List (Key × V)) (v : V) (r : RowM), vs = [.ref p, v] ∧ PartAt K H0 H C p dx po pp pk pt rows tk ∧ RowAt K H v r ∧
  StandOk rows r ∧ (rows.map (·.name)).Nodup ∧ (∀ q ∈ rows, q.name ≠ "") ∧ ∀ H', Same H H' → Q (.bl true) H'
end Bd
end

section
namespace Bd
open PySem L2
section
variable {P : Program} {w : World} {K : PySem.W.Frag} {mg : Str → Option Value} {base : Heap} {aL C : Addr} {left : List (Key × V)}
theorem ok_isGroupRow {f g e : Addr} {fd gd ed : FuncData} (F : Fun K "is_group_row" "is_group_row" sIsGroupRow f fd) (T : TP P w K mg aL left) (cN : Cal P w K mg base "is_name" ["thing"] 1 spIsName g gd) (cD : Cal P w K mg base "is_dues" ["thing"] 5 (spIsDues K) e ed) :
    FnOk P w K mg base CX0 6 f fd ["thing"] (spIsGroupRow K) := by
  refine F.ok scIsGroupRow (fun vs H Q E h => ?_) (fun cdv A outer s H vs Q E hr h => ?_)
  · obtain ⟨p, du, rfl, _⟩ := h
    rfl
  obtain ⟨v, r, rfl, hrow, hn, hd, q⟩ := h
  obtain ⟨a, t, rfl, ha, ht⟩ := id hrow
  refine ⟨_, (pss_cons (ps_if (PW.pt (pw_or (pt_not (pt_val (pe_callB call_isi (by rfl) T.z_isinstance (by decide +kernel) (pa_cons (pv 0) (pa_cons (pe_bltn (v := .ty "tuple") (u := .type "tuple") (by rfl) T.z_tuple (by decide +kernel) rfl) pa_nil))))) (pw_or1 (pt_cmpR op_ne (pe_callB call_len_seq (by rfl) T.z_len PySem.boot_len (pa_cons (pv 0) pa_nil)) pe_int (nomark _))))) (pss_one (ps_ret pe_bl)) pss_nil) (pss_cons (ps_asg (pv 0) (pg_tup (by rfl) (pgs_cons (pg_name (i := 1) scIsGroupRow.nd rfl (Or.inl rfl)) (pgs_cons (pg_name (i := 2) scIsGroupRow.nd rfl (Or.inl rfl)) (pgs_cons (pg_name (i := 3) scIsGroupRow.nd rfl (Or.inl rfl)) pgs_nil))))) (pss_one (ps_ret (pe_and (pe_call cN.ok (hr.mono (by decide)) rfl cN.mg cN.kp cN.bd .nil pass0 (pa_cons (pv 1) pa_nil)) (pe_and (pe_callB call_isi (by rfl) T.z_isinstance (by decide +kernel) (pa_cons (pv 2) (pa_cons (pe_bltn (v := .ty "str") (u := .type "str") (by rfl) T.z_str (by decide +kernel) rfl) pa_nil))) (pe_one (pe_call cD.ok (hr.mono (by decide)) rfl cD.mg cD.kp cD.bd .nil pass0 (pa_cons (pv 3) pa_nil))))))))), ?_⟩
  refine ⟨_, rfl, _, _, _, _, true, rfl, .ty _, sqt_ty ha, kit_ty (by decide +kernel), true, rfl, ?_⟩
  refine iteF ?_
  refine ⟨_, rfl, a, _, rfl, .inr ha, rfl, _, rfl, ?_⟩
  refine iteNS rfl ?_
  refine ⟨_, rfl, a, _, rfl, ha, rfl, ?_⟩
  refine ⟨_, _, rfl, _, _, rfl, _, _, rfl, rfl, ?_⟩
  refine ⟨_, rfl, r.name, rfl, hn, fun H1 s1 => ?_⟩
  refine ⟨true, rfl, iteT ?_⟩
  refine ⟨_, rfl, _, _, _, _, true, rfl, .ty _, .base (.str _), kit_ty (by decide +kernel), true, rfl, ?_⟩
  refine iteT ?_
  exact ⟨_, rfl, t, r.dues, rfl, DuesAt.same s1 ht, hd, fun H2 s2 => q _ (s1.trans s2)⟩

theorem keys_none {kvs : List (Key × V)} {k : Key} (h : ¬ k ∈ kvs.map (·.1)) : valV kvs k = none := by
  cases e : valV kvs k with
  | none => rfl
  | some v => exact absurd (valV_in e) h
theorem td_keys {F : Key × V → RowM → Prop} (hF : ∀ kv r, F kv r → kv.1 = (Sum.inr r.name : Key)) : ∀ {tk : List (Key × V)} {rows : List RowM}, Paired F tk rows → tk.map (·.1) = rows.map fun r => (Sum.inr r.name : Key)
  | _, _, .nil => rfl
  | _, _, .cons a b => by
    rw [List.map_cons, List.map_cons, hF _ _ a, td_keys hF b]
theorem paired_of {α β : Type} {F : α → β → Prop} : ∀ {xs : List α} {ys : List β}, Paired F xs ys → ∀ y ∈ ys, ∃ x ∈ xs, F x y
  | _, _, .nil, y, h => by cases h
  | _, _, .cons a b, y, h => by
    rcases List.mem_cons.mp h with rfl | h
    · exact ⟨_, List.mem_cons_self, a⟩
    · obtain ⟨x, h1, h2⟩ := paired_of b y h
      exact ⟨x, List.mem_cons_of_mem _ h1, h2⟩
theorem val_nd : ∀ {kvs : List (Key × V)}, (kvs.map (·.1)).Nodup → ∀ p ∈ kvs, valV kvs p.1 = some p.2
  | [], _, p, h => by cases h
  | a :: r, hn, p, h => by
    have hn : (a.1 :: r.map (·.1)).Nodup := hn
    obtain ⟨h1, h2⟩ := List.nodup_cons.mp hn
    rcases List.mem_cons.mp h with rfl | h
    · exact valV_pos rfl
    · have e : ¬ a.1 = p.1 := fun z => h1 (by rw [z]; exact List.mem_map.mpr ⟨p, h, rfl⟩)
      rw [valV_neg e]
      exact val_nd h2 p h
theorem tf4_order {po pp pk pt : Addr} : (tf4 po pp pk pt).lookup ("order" : Str) = some (.ref po) := by
  simp only [tf4, List.lookup]
  rfl
theorem tf4_parents {po pp pk pt : Addr} : (tf4 po pp pk pt).lookup ("parents" : Str) = some (.ref pp) := by
  simp only [tf4, List.lookup]
  rfl
theorem tf4_kids {po pp pk pt : Addr} : (tf4 po pp pk pt).lookup ("kids" : Str) = some (.ref pk) := by
  simp only [tf4, List.lookup]
  rfl
theorem tf4_table {po pp pk pt : Addr} : (tf4 po pp pk pt).lookup ("table" : Str) = some (.ref pt) := by
  simp only [tf4, List.lookup]
  rfl
theorem tf5_order {po pp pk pt : Addr} {b : Bool} : (tf5 po pp pk pt b).lookup ("order" : Str) = some (.ref po) := by
  simp only [tf5, List.lookup]
  rfl
theorem tf5_parents {po pp pk pt : Addr} {b : Bool} : (tf5 po pp pk pt b).lookup ("parents" : Str) = some (.ref pp) := by
  simp only [tf5, List.lookup]
  rfl
theorem tf5_kids {po pp pk pt : Addr} {b : Bool} : (tf5 po pp pk pt b).lookup ("kids" : Str) = some (.ref pk) := by
  simp only [tf5, List.lookup]
  rfl
theorem tf5_table {po pp pk pt : Addr} {b : Bool} : (tf5 po pp pk pt b).lookup ("table" : Str) = some (.ref pt) := by
  simp only [tf5, List.lookup]
  rfl
theorem tf5_hands {po pp pk pt : Addr} {b : Bool} : (tf5 po pp pk pt b).lookup ("hands" : Str) = some (.bl b) := by
  simp only [tf5, List.lookup]
  rfl
theorem ok_mayStand {f g : Addr} {fd gd : FuncData} (F : Fun K "may_stand" "may_stand" sMayStand f fd) (T : TP P w K mg aL left) (TCl : TC K mg C) (cE : Cal P w K mg base "is_endless" ["thing"] 1 (spIsEndless K) g gd) :
    FnOk P w K mg base CX0 2 f fd ["tree", "row"] (spMayStand K C) := by
  refine F.ok scMayStand (fun vs H Q E h => ?_) (fun cdv A outer s H vs Q E hr h => ?_)
  · obtain ⟨H0, p, dx, po, pp, pk, pt, rows, tk, v, r, rfl, _⟩ := h
    rfl
  obtain ⟨H0, p, dx, po, pp, pk, pt, rows, tk, v, r, rfl, hp, hrow, hst, hnd, hne, q⟩ := h
  have hu := hu_of hr
  obtain ⟨a, t, rfl, ha, ht⟩ := id hrow
  refine ⟨_, (pss_cons (ps_asg (pv 1) (pg_tup (by rfl) (pgs_cons (pg_name (i := 2) scMayStand.nd rfl (Or.inl rfl)) (pgs_cons (pg_name (i := 3) scMayStand.nd rfl (Or.inl rfl)) (pgs_cons (pg_name (i := 4) scMayStand.nd rfl (Or.inl rfl)) pgs_nil))))) (pss_cons (ps_if (PW.pt (pw_or (pt_cmp (pc_din hu (pv 2) (pe_fld (pv 0) rfl))) (pw_or1 (pt_cmp (pc_dnotin hu (pv 3) (pe_fld (pv 0) rfl)))))) (pss_one (ps_ret pe_bl)) pss_nil) (pss_one (ps_ret (pe_or (pe_cmpR op_eq (pv 3) pe_str (nomark _)) (pe_one (pe_call cE.ok (hr.mono (by decide)) rfl cE.mg cE.kp cE.bd .nil pass0 (pa_cons (pe_dget hu (pe_dget hu (pe_fld (pv 0) rfl) (pv 3) (fun _ _ => rfl)) pe_str (fun _ _ => rfl)) pa_nil)))))))), ?_⟩
  refine ⟨_, rfl, a, _, rfl, ha, rfl, ?_⟩
  refine ⟨_, _, rfl, _, _, rfl, _, _, rfl, rfl, ?_⟩
  have e1 : valV (rows.map fun q => ((Sum.inr q.name : Key), V.str q.above)) (Sum.inr r.name) = none := by
    refine keys_none fun m => ?_
    rw [List.map_map] at m
    obtain ⟨q, hq, e⟩ := List.mem_map.mp m
    exact hst.1 q hq (Sum.inr.inj e)
  obtain ⟨ks, k1, k2, k3⟩ := hp.kd
  have e2 : (valV ks (Sum.inr r.above : Key)).isSome = true := by
    refine val_some ?_
    rw [k2]
    rcases hst.2 with e | ⟨q, hq, e, _⟩
    · rw [e]
      exact List.mem_cons_self
    · exact List.mem_cons_of_mem _ (List.mem_map.mpr ⟨q, hq, by rw [e]⟩)
  refine ⟨_, rfl, _, rfl, p, C, dx, _, _, rfl, hp.ob, TCl.cl, TCl.n_parents, tf4_parents, pp, _, rfl, DGet.k (k := Sum.inr r.name) hp.pa, ?_⟩
  rw [e1]
  refine ⟨false, rfl, iteF ?_⟩
  refine ⟨_, rfl, _, rfl, p, C, dx, _, _, rfl, hp.ob, TCl.cl, TCl.n_kids, tf4_kids, pk, _, rfl, DGet.k (k := Sum.inr r.above) k1, ?_⟩
  rw [e2]
  refine ⟨false, rfl, iteF ?_⟩
  refine ⟨_, rfl, rfl, ?_⟩
  by_cases c : r.above = ""
  · refine ⟨true, congrArg V.bl (decide_eq_true (congrArg V.str c)), iteT ?_⟩
    exact q _ (Same.refl H)
  · refine ⟨false, congrArg V.bl (decide_eq_false fun z => c (V.str.inj z)), iteF ?_⟩
    obtain ⟨qr, hq, hqn, hq2⟩ := hst.2.resolve_left c
    obtain ⟨kv, hkv, hk1, d, hk2, hd0, _, _, _, fk, fk1, fk2⟩ := paired_of hp.td qr hq
    have nt : (tk.map (·.1)).Nodup := by
      rw [td_keys (fun _ _ z => z.1) hp.td]
      have := nodup_inr hnd
      rw [List.map_map] at this
      exact this
    have g1 : valV tk (Sum.inr r.above : Key) = some (.ref d) := by
      have := val_nd nt kv hkv
      rw [hk1, hqn, hk2] at this
      exact this
    have g2 : valV fk (Sum.inr "tops" : Key) = some (.str "endless") := by
      rcases val_due "tops" fk2 with ⟨_, z⟩ | ⟨v, d2, z1, z2, z3⟩
      · rw [z] at hq2
        cases hq2
      · rw [hq2] at z2
        cases z2
        rw [dp_str z3] at z1
        exact z1
    refine ⟨_, rfl, p, C, dx, _, _, rfl, hp.ob, TCl.cl, TCl.n_table, tf4_table, _, rfl, pt, _, rfl, ?_, d, _, rfl, ?_, _, rfl, .inl ⟨rfl, q _ (Same.refl H)⟩⟩
    · have := DGet.k (k := Sum.inr r.above) hp.tb
      rw [g1] at this
      exact this
    · have := DGet.k (k := Sum.inr ("tops" : Str)) fk1
      rw [g2] at this
      exact this

end
end Bd
end

section
namespace Bd
open PySem L2
/-- a tree: its table at tk -/
def TreeAt (K : PySem.W.Frag) (H : Hp) (C p : Addr) (rows : List RowM) (hands : Bool) (tk : List (Key × V)) : Prop := ∃ dx po pp pk pt, H p = some (.ins C dx (tf5 po pp pk pt hands)) ∧ H po = some (.lst (rows.map fun r => .str r.name)) ∧
  H pp = some (.dK (rows.map fun r => ((Sum.inr r.name : Key), V.str r.above))) ∧ H pt = some (.dK tk) ∧ Paired (fun (kv : Key × V) (r : RowM) => kv.1 = (Sum.inr r.name : Key) ∧ ∃ d, kv.2 = .ref d ∧ FullAt K H d r.dues) tk rows ∧ KidsAt H pk rows
/-- rows that make a tree -/
def RowsOk (rows : List RowM) : Prop := ∀ i r, rows[i]? = some r → NameOk r.name ∧ DuesOk r.dues ∧ StandOk (rows.take i) r
def spInit (K : PySem.W.Frag) (C : Addr) : Sp := fun vs H Q _ => ∃ (H0 : Hp) (p dx a : Addr) (xs : List V) (rows : List RowM) (b : Bool), vs = [.ref p, .ref a, .bl b] ∧ Same H0 H ∧ H0 p = none ∧ H p = some (.ins C dx []) ∧ H0 a = some (.lst xs) ∧ Paired (RowAt K H0) xs rows ∧ RowsOk rows ∧ rows.length ≤ 200 ∧
  ∀ H' tk, Same H0 H' → TreeAt K H' C p rows b tk → (∀ kv ∈ tk, ∃ d, kv.2 = .ref d ∧ H0 d = none) → Q .non H'
theorem dget_of {H : Hp} {a : Addr} {kvs : List (Key × V)} {k : Key} {v : V} (h : H a = some (.dK kvs)) (e : valV kvs k = some v) : DGet H a (kV k) (some v) := by
  have := DGet.k (k := k) h
  rw [e] at this
  exact this
theorem none_upd {H : Hp} {a x : Addr} {o : HO} (h : upd H a o x = none) : x ≠ a ∧ H x = none := by
  have n : x ≠ a := fun e => by
    rw [e, upd_same] at h
    cases h
  rw [upd_ne n] at h
  exact ⟨n, h⟩
theorem putF_two (a b : V) : putF "parents" b (putF "order" a []) = ([("order", a), ("parents", b)] : List (Str × V)) := by
  simp only [putF]
  rw [if_neg (by decide +kernel)]
  all_goals rfl
theorem putF_three (a b c : V) : putF "kids" c ([("order", a), ("parents", b)] : List (Str × V)) = ([("order", a), ("parents", b), ("kids", c)] : List (Str × V)) := by
  simp only [putF]
  rw [if_neg (by decide +kernel), if_neg (by decide +kernel)]
theorem putF_four (a b c d : V) : putF "table" d ([("order", a), ("parents", b), ("kids", c)] : List (Str × V)) = ([("order", a), ("parents", b), ("kids", c), ("table", d)] : List (Str × V)) := by
  simp only [putF]
  rw [if_neg (by decide +kernel), if_neg (by decide +kernel), if_neg (by decide +kernel)]
theorem putF_five (a b c d e : V) : putF "hands" e ([("order", a), ("parents", b), ("kids", c), ("table", d)] : List (Str × V)) = ([("order", a), ("parents", b), ("kids", c), ("table", d), ("hands", e)] : List (Str × V)) := by
  simp only [putF]
  rw [if_neg (by decide +kernel), if_neg (by decide +kernel), if_neg (by decide +kernel), if_neg (by decide +kernel)]
theorem paired_snoc {α β : Type} {F : α → β → Prop} {x : α} {y : β} (h : F x y) : ∀ {xs : List α} {ys : List β}, Paired F xs ys → Paired F (xs ++ [x]) (ys ++ [y])
  | _, _, .nil => .cons h .nil
  | _, _, .cons a b => .cons a (paired_snoc h b)
/-- one row more -/
theorem part_step {K : PySem.W.Frag} {H0 H Hz : Hp} {C p dx po pp pk pt l l' D : Addr} {rows : List RowM} {tk : List (Key × V)} {r : RowM} (h : PartAt K H0 H C p dx po pp pk pt rows tk) (ok : ∀ q ∈ rows, DuesOk q.dues) (tkk : TK H Hz)
    (hz : ∀ b o, H b = some o → b ≠ po → b ≠ pp → b ≠ pk → b ≠ pt → b ≠ l' → Hz b = some o) (hl0 : H0 l' = none) (hlo : l' ≠ po) (hl : H l' = some (.lst ((kidsOf rows (Sum.inr r.above)).map .str))) (hn0 : r.name ≠ "") (hst : ∀ q ∈ rows, q.name ≠ r.name) (hk0 : ∀ q ∈ rows, q.above ≠ r.name) (hab : r.above ≠ r.name) (hln : H l = none)
    (zo : Hz po = some (.lst (rows.map (fun r => .str r.name) ++ [.str r.name]))) (zp : Hz pp = some (.dK (rows.map (fun r => ((Sum.inr r.name : Key), V.str r.above)) ++ [(Sum.inr r.name, .str r.above)])))
    (zk : ∃ ks, Hz pk = some (.dK (ks ++ [(Sum.inr r.name, .ref l)])) ∧ H pk = some (.dK ks) ∧ ∃ kv ∈ ks, kv.1 = (Sum.inr r.above : Key) ∧ kv.2 = .ref l') (zl : Hz l = some (.lst [])) (hll : l ≠ po ∧ H0 l = none) (zl' : Hz l' = some (.lst ((kidsOf rows (Sum.inr r.above)).map .str ++ [.str r.name])))
    (zt : Hz pt = some (.dK (tk ++ [(Sum.inr r.name, .ref D)]))) (hD : H0 D = none ∧ D ≠ pp ∧ D ≠ pk ∧ D ≠ pt ∧ FullAt K Hz D r.dues) : PartAt K H0 Hz C p dx po pp pk pt (rows ++ [r]) (tk ++ [(Sum.inr r.name, .ref D)]) where
  same := fun b o hb => hz b o (h.same _ _ hb) (ne_of_none hb h.n0.2.1) (ne_of_none hb h.n0.2.2.1) (ne_of_none hb h.n0.2.2.2.1) (ne_of_none hb h.n0.2.2.2.2) (ne_of_none hb hl0)
  n0 := h.n0
  ob := hz _ _ h.ob (ne_of h.ob h.or_ (by intro z; cases z)) (ne_of h.ob h.pa (by intro z; cases z)) (by
    obtain ⟨ks, k1, _⟩ := h.kd
    exact ne_of h.ob k1 (by intro z; cases z)) (ne_of h.ob h.tb (by intro z; cases z)) (ne_of h.ob hl (by intro z; cases z))
  or_ := by rw [List.map_append]; exact zo
  pa := by rw [List.map_append]; exact zp
  kd := by
    obtain ⟨ks, k1, k2, k3, k4⟩ := h.kd
    obtain ⟨ks', z1, z2, kv0, m0, e0, e0'⟩ := zk
    rw [k1] at z2
    cases z2
    have nk : (Sum.inr r.name : Key) ∉ ks.map (·.1) := fun m => by
      rw [k2] at m
      rcases List.mem_cons.mp m with e | m
      · exact hn0 (Sum.inr.inj e)
      · obtain ⟨q, hq, e⟩ := List.mem_map.mp m
        exact hst q hq (Sum.inr.inj e)
    have nl : ∀ kv ∈ ks, kv.2 ≠ .ref l := fun kv m e => by
      obtain ⟨c, e1, e2, _⟩ := k3 kv m
      rw [e1] at e
      injection e with e
      rw [e, hln] at e2
      cases e2
    refine ⟨_, z1, by rw [List.map_append, k2, List.map_append]; rfl, fun kv hkv => ?_, fun kv hkv kv2 hkv2 => ?_⟩
    · rcases List.mem_append.mp hkv with m | m
      · obtain ⟨c, e1, e2, e3, e4⟩ := k3 kv m
        rw [kids_snoc, List.map_append]
        by_cases c1 : c = l'
        · have ek : kv.1 = kv0.1 := (k4 kv m kv0 m0).mpr (by rw [e1, c1, e0'])
          refine ⟨c, e1, ?_, e3, e4⟩
          rw [c1, zl', ek, e0, if_pos rfl]
          rfl
        · have ek : ¬ (Sum.inr r.above : Key) = kv.1 := fun z => by
            have := (k4 kv m kv0 m0).mp (by rw [← z, e0])
            rw [e1, e0'] at this
            injection this with this
            exact c1 this
          refine ⟨c, e1, ?_, e3, e4⟩
          rw [if_neg ek]
          simpa using hz _ _ e2 e3 (ne_of e2 h.pa (by intro z; cases z)) (ne_of e2 k1 (by intro z; cases z)) (ne_of e2 h.tb (by intro z; cases z)) c1
      · cases List.mem_singleton.mp m
        refine ⟨l, rfl, ?_, hll.1, hll.2⟩
        show Hz l = some (.lst ((kidsOf (rows ++ [r]) (Sum.inr r.name)).map .str))
        rw [kids_none (fun q hq => by
          rcases List.mem_append.mp hq with q1 | q1
          · exact hk0 q q1
          · rw [List.mem_singleton.mp q1]
            exact hab)]
        exact zl
    · rcases List.mem_append.mp hkv with m | m <;> rcases List.mem_append.mp hkv2 with m2 | m2
      · exact k4 kv m kv2 m2
      · rw [List.mem_singleton.mp m2]
        exact ⟨fun e => absurd (List.mem_map.mpr ⟨kv, m, e⟩) nk, fun e => absurd e (nl kv m)⟩
      · rw [List.mem_singleton.mp m]
        exact ⟨fun e => absurd (List.mem_map.mpr ⟨kv2, m2, e.symm⟩) nk, fun e => absurd e.symm (nl kv2 m2)⟩
      · rw [List.mem_singleton.mp m, List.mem_singleton.mp m2]
        exact ⟨fun _ => rfl, fun _ => rfl⟩
  tb := zt
  td := paired_snoc ⟨rfl, D, rfl, hD⟩ (paired_monoM (fun kv q hq z => by
    obtain ⟨e1, d, e2, e3, e4, e5, e6, e7⟩ := z
    refine ⟨e1, d, e2, e3, e4, e5, e6, tkk.full (ok q hq) ?_ e7⟩
    obtain ⟨fk, f1, f2⟩ := e7
    rw [f1]
    exact hz _ _ f1 (ne_of f1 h.or_ (by intro z; cases z)) e4 e5 e6 (ne_of f1 hl (by intro z; cases z))) h.td)
  ne := h.ne
theorem names_nd {rows : List RowM} (h : RowsOk rows) : ∀ i, ((rows.take i).map (·.name)).Nodup
  | 0 => List.nodup_nil
  | i + 1 => by
    have ih := names_nd h i
    rw [List.take_add_one]
    cases e : rows[i]? with
    | none => simpa using ih
    | some r =>
      rw [Option.toList_some, List.map_append]
      refine List.nodup_append.mpr ⟨ih, by simp, fun a ha b hb => ?_⟩
      obtain ⟨q, hq, rfl⟩ := List.mem_map.mp ha
      cases List.mem_singleton.mp hb
      exact (h i r e).2.2.1 q hq
section
variable {P : Program} {w : World} {K : PySem.W.Frag} {mg : Str → Option Value} {base : Heap} {aL C : Addr} {left : List (Key × V)}
/-- the rule for a def with defaults that lets nothing out -/
theorem fund_ok {x qual : Str} {params : Arguments} {body : List Stmt} {scope : Scope} {dvs : List V} {kws : List (Str × V)} {f : Addr} {fd : FuncData} {N ps : List Str} {k : Nat} {sp : Sp} (F : FunD K x qual params body scope dvs kws f fd) (S : FnScope N ps scope) (len : ∀ vs H Q E, sp vs H Q E → vs.length = ps.length)
    (hbody : ∀ (cdv : Value) (A : Around) (outer : List Env) (s : Shared) (H : Hp) (vs : List V) (Q : VK) (E : XK), Room k (A.deeper (PyProof.Rows.envOfC qual scope s.heap.objs.size f cdv)) → sp vs H Q E →
      ∃ t, PSs (cxOf CX0 P w K mg base N qual scope f cdv A outer s H E).nox body t ∧ t { nx := fun _ H' => Q .non H', rt := Q } (start N vs) H) : FnOk P w K mg base CX0 (k + 1) f fd ps sp :=
  F.ok S len fun cdv A outer s H vs Q E hr h => let ⟨t, h1, h2⟩ := hbody cdv A outer s H vs Q E hr h; ⟨t, h1.nox, h2⟩
theorem ok_init {f g e : Addr} {fd gd ed : FuncData} (F : FunD K "__init__" "Tree.__init__" (defArgs sInit) (defBody sInit) (defScope sInit) [.bl false] [] f fd) (T : TP P w K mg aL left) (TCl : TC K mg C) (hLV : ∀ H, Paired (PV K H) left leftD) (cG : Cal P w K mg base "is_group_row" ["thing"] 6 (spIsGroupRow K) g gd) (cM : Cal P w K mg base "may_stand" ["tree", "row"] 2 (spMayStand K C) e ed) :
    FnOk P w K mg base CX0 7 f fd ["self", "rows", "handing"] (spInit K C) := by
  refine fund_ok F scInit (fun vs H Q E h => ?_) (fun cdv A outer s H vs Q E hr h => ?_)
  · obtain ⟨H0, p, dx, a, xs, rows, b, rfl, _⟩ := h
    rfl
  obtain ⟨H0, p, dx, a, xs, rows, b, rfl, s0, p0, hp, ha, hrows, hok, hlen, q⟩ := h
  have hu := hu_of hr
  refine ⟨_, (pss_cons (ps_if (pt_not (pt_val (pe_callB call_isi (by rfl) T.z_isinstance (by decide +kernel) (pa_cons (pv 1) (pa_cons (pe_bltn (v := .ty "list") (u := .type "list") (by rfl) T.z_list (by decide +kernel) rfl) pa_nil))))) (pss_one ps_never) pss_nil) (pss_cons (ps_fld (pv 0) (pe_lst pa_nil) rfl) (pss_cons (ps_fld (pv 0) pe_dnewK rfl) (pss_cons (ps_fld (pv 0) (pe_disp (pps_cons pe_str (pe_lst pa_nil) pps_nil) (by rfl) (by rfl) (fun z => by cases z) (by decide)) rfl) (pss_cons (ps_fld (pv 0) pe_dnewK rfl) (pss_cons (ps_for PassesOwn.never rfl (pi_enum (by rfl) T.z_enumerate (pa_cons (pv 1) pa_nil)) (pg_tup (by rfl) (pgs_cons (pg_name (i := 3) scInit.nd rfl (Or.inl rfl)) (pgs_cons (pg_name (i := 4) scInit.nd rfl (Or.inl rfl)) pgs_nil))) (pss_cons (ps_if (PW.pt (pw_or (pt_not (pt_val (pe_call cG.ok (hr.mono (by decide)) rfl cG.mg cG.kp cG.bd .nil pass0 (pa_cons (pv 4) pa_nil)))) (pw_or1 (pt_not (pt_val (pe_call cM.ok (hr.mono (by decide)) rfl cM.mg cM.kp cM.bd .nil pass0 (pa_cons (pv 0) (pa_cons (pv 4) pa_nil)))))))) (pss_one ps_never) pss_nil) (pss_cons (ps_asg (pv 4) (pg_tup (by rfl) (pgs_cons (pg_name (i := 5) scInit.nd rfl (Or.inl rfl)) (pgs_cons (pg_name (i := 6) scInit.nd rfl (Or.inl rfl)) (pgs_cons (pg_name (i := 7) scInit.nd rfl (Or.inl rfl)) pgs_nil))))) (pss_cons (ps_expr (pe_bm PySem.F.plainAttrs_list PySem.F.slot_list_append PySem.F.type_list_append mt_append (pe_fld (pv 0) rfl) (pa_cons (pv 5) pa_nil))) (pss_cons (ps_dput hu (pe_fld (pv 0) rfl) (pv 5) (pv 6) rfl) (pss_cons (ps_dput hu (pe_fld (pv 0) rfl) (pv 5) (pe_lst pa_nil) rfl) (pss_cons (ps_expr (pe_bm PySem.F.plainAttrs_list PySem.F.slot_list_append PySem.F.type_list_append mt_append (pe_dget hu (pe_fld (pv 0) rfl) (pv 6) (fun _ _ => rfl)) (pa_cons (pv 5) pa_nil))) (pss_one (ps_dput hu (pe_fld (pv 0) rfl) (pv 5) (pe_both (pe_callTy call_dictK (by rfl) T.z_dict (by decide +kernel) (pa_cons (pe_glob (v := .ref aL) rfl T.g_LEFT_OUT rfl) pa_nil)) (pe_callTy (call_dictT rfl) (by rfl) T.z_dict (by decide +kernel) (pa_cons (pv 7) pa_nil))) rfl))))))))) (pss_cons (ps_if (pt_not (pt_val (pe_callB call_isi (by rfl) T.z_isinstance (by decide +kernel) (pa_cons (pv 2) (pa_cons (pe_bltn (v := .ty "bool") (u := .type "bool") (by rfl) T.z_bool (by decide +kernel) rfl) pa_nil))))) (pss_one ps_never) pss_nil) (pss_one (ps_fld (pv 0) (pv 2) rfl))))))))), ?_⟩
  refine ⟨_, rfl, _, _, _, _, true, rfl, .ty _, (.base (.lst (s0 _ _ ha))), kit_ty (by decide +kernel), true, rfl, ?_⟩
  refine iteF ?_
  -- the empty tables
  refine ⟨Nat.zero_le _, fun po hpo => ?_⟩
  have npo : p ≠ po := ne_of_none hp hpo
  refine ⟨_, rfl, p, C, dx, [], rfl, (by rw [upd_ne npo]; exact hp), TCl.cl, TCl.n_order, (by show 0 < 1000; decide), ?_⟩
  intro pp hpp
  obtain ⟨npp1, hpp1⟩ := none_upd hpp
  obtain ⟨npp2, hpp2⟩ := none_upd hpp1
  refine ⟨_, rfl, p, C, dx, _, rfl, (by rw [upd_ne npp1.symm]; exact upd_same), TCl.cl, TCl.n_parents, (by show 1 < 1000; decide), ?_⟩
  rw [putF_two]
  intro pk hpk
  obtain ⟨npk1, hpk1⟩ := none_upd hpk
  obtain ⟨npk2, hpk2⟩ := none_upd hpk1
  obtain ⟨npk3, hpk3⟩ := none_upd hpk2
  obtain ⟨npk4, hpk4⟩ := none_upd hpk3
  refine ⟨Nat.zero_le _, fun l0 hl0 => ?_⟩
  obtain ⟨nl1, hl1⟩ := none_upd hl0
  obtain ⟨nl2, hl2⟩ := none_upd hl1
  obtain ⟨nl3, hl3⟩ := none_upd hl2
  obtain ⟨nl4, hl4⟩ := none_upd hl3
  obtain ⟨nl5, hl5⟩ := none_upd hl4
  refine ⟨by rw [upd_ne nl1.symm]; exact upd_same, [(Sum.inr "", .ref l0)], rfl, by show 1 ≤ 15; decide, ?_⟩
  refine ⟨_, rfl, p, C, dx, _, rfl, (by rw [upd_ne npk1.symm, upd_ne nl2.symm, upd_ne npk1.symm]; exact upd_same), TCl.cl, TCl.n_kids, (by show 2 < 1000; decide), ?_⟩
  rw [putF_three]
  intro pt hpt
  obtain ⟨npt1, hpt1⟩ := none_upd hpt
  obtain ⟨npt2, hpt2⟩ := none_upd hpt1
  obtain ⟨npt3, hpt3⟩ := none_upd hpt2
  obtain ⟨npt4, hpt4⟩ := none_upd hpt3
  obtain ⟨npt5, hpt5⟩ := none_upd hpt4
  obtain ⟨npt6, hpt6⟩ := none_upd hpt5
  obtain ⟨npt7, hpt7⟩ := none_upd hpt6
  refine ⟨_, rfl, p, C, dx, _, rfl, (by rw [upd_ne npt1.symm]; exact upd_same), TCl.cl, TCl.n_table, (by show 3 < 1000; decide), ?_⟩
  rw [putF_four]
  have xl : xs.length = rows.length := Paired.length hrows
  refine ⟨_, rfl, a, xs, rfl, ?_, for_it walk_enum (fun i σ H' => ∃ (tk : List (Key × V)) (o3 o4 o5 o6 o7 : Option V), σ = [some (.ref p), some (.ref a), some (.bl b), o3, o4, o5, o6, o7] ∧ PartAt K H0 H' C p dx po pp pk pt (rows.take i) tk)
    ⟨[], none, none, none, none, none, rfl, ?_⟩ (fun i σ H' _ ⟨_, _, _, _, _, _, _, h⟩ => SqL.of (h.same _ _ ha)) ?_ ?_⟩
  · have := s0 _ _ ha
    have z1 := ne_of_none this hpo
    have z2 := ne_of this hp (by intro z; cases z)
    have z3 := ne_of_none this hpp2
    have z4 := ne_of_none this hpk4
    have z5 := ne_of_none this hl5
    have z6 := ne_of_none this (none_upd hpt7).2
    refine SqL.of ?_
    simp only [upd, if_neg z1, if_neg z2, if_neg z3, if_neg z4, if_neg z5, if_neg z6]
    exact this
  · have npt8 := (none_upd hpt7).1
    have hpt8 := (none_upd hpt7).2
    refine ⟨fun b2 o2 hb => ?_, ⟨p0, s0.free hpo, s0.free hpp2, s0.free hpk4, s0.free hpt8⟩, upd_same, ?_, ?_, ⟨[(Sum.inr "", .ref l0)], ?_, rfl, fun kv hkv => ?_, fun kv hkv kv2 hkv2 => ?_⟩, ?_, .nil, npk2.symm, npt6.symm, npt2.symm⟩
    · have hb' := s0 _ _ hb
      have a1 := ne_of_none hb p0
      have a2 := ne_of_none hb' hpt8
      have a3 := ne_of_none hb' hpk4
      have a4 := ne_of_none hb' hl5
      have a5 := ne_of_none hb' hpp2
      have a6 := ne_of_none hb' hpo
      rw [upd_ne a1, upd_ne a2, upd_ne a1, upd_ne a3, upd_ne a4, upd_ne a3, upd_ne a1, upd_ne a5, upd_ne a1, upd_ne a6]
      exact hb'
    · rw [upd_ne npo.symm, upd_ne npt8.symm, upd_ne npo.symm, upd_ne npk4.symm, upd_ne nl5.symm, upd_ne npk4.symm, upd_ne npo.symm, upd_ne npp2.symm, upd_ne npo.symm]
      exact upd_same
    · rw [upd_ne npp1, upd_ne npt6.symm, upd_ne npp1, upd_ne npk2.symm, upd_ne nl3.symm, upd_ne npk2.symm, upd_ne npp1]
      exact upd_same
    · rw [upd_ne npk1, upd_ne npt2.symm, upd_ne npk1]
      exact upd_same
    · cases List.mem_singleton.mp hkv
      refine ⟨l0, rfl, ?_, nl5, s0.free hl5⟩
      rw [upd_ne nl2, upd_ne npt3.symm, upd_ne nl2, upd_ne nl1]
      exact upd_same
    · cases List.mem_singleton.mp hkv
      cases List.mem_singleton.mp hkv2
      exact ⟨fun _ => rfl, fun _ => rfl⟩
    · rw [upd_ne npt1]
      exact upd_same
  · rintro i v σ H1 H2 hi ⟨tk, o3, o4, o5, o6, o7, rfl, hP⟩ ⟨TT, x, y, rfl, hTT, rfl, hx, hy⟩
    have P1 := hP.grow (Same.new (Same.refl H1) hTT (.tup [x, y]))
    obtain ⟨r, hr1, hrow⟩ := paired_get hrows hy
    obtain ⟨hn, hd, hst⟩ := hok i r hr1
    refine ⟨TT, _, rfl, SqT.of upd_same, rfl, _, _, rfl, _, _, rfl, rfl, ?_⟩
    refine ⟨_, rfl, y, r, rfl, RowAt.same P1.same hrow, hn, hd, fun H3 s3 => ?_⟩
    refine ⟨true, rfl, ?_⟩
    refine iteF ?_
    have P2 := P1.grow s3
    refine ⟨_, rfl, _, rfl, H0, p, dx, po, pp, pk, pt, rows.take i, tk, y, r, rfl, P2, RowAt.same P2.same hrow, hst, ?_, ?_, fun H4 s4 => ?_⟩
    · exact names_nd hok i
    · intro q2 hq2 e
      obtain ⟨m, hm⟩ := List.mem_iff_getElem?.mp (List.mem_of_mem_take hq2)
      have := (hok m q2 hm).1.1
      rw [e] at this
      exact absurd this (by decide +kernel)
    refine ⟨true, rfl, ?_⟩
    refine iteF ?_
    have P3 := P2.grow s4
    obtain ⟨ra, t, rfl, hra, hdues⟩ := RowAt.same P3.same hrow
    refine ⟨_, rfl, ra, _, rfl, hra, rfl, _, _, rfl, _, _, rfl, _, _, rfl, rfl, ?_⟩
    -- self.order.append(name)
    refine ⟨_, rfl, p, C, dx, _, _, rfl, P3.ob, TCl.cl, TCl.n_order, tf4_order, .inl ⟨rfl, _, SqL.of P3.or_⟩, _, rfl, po, _, _, rfl, rfl, P3.or_, ?_, ?_⟩
    · rw [List.length_map, List.length_take]
      exact small1000 (by omega)
    obtain ⟨ks, k1, k2, k3, k4⟩ := P3.kd
    have n_p_o := ne_of P3.ob P3.or_ (by intro z; cases z)
    have n_pp_o := ne_of P3.pa P3.or_ (by intro z; cases z)
    have n_pk_o := ne_of k1 P3.or_ (by intro z; cases z)
    have n_pt_o := ne_of P3.tb P3.or_ (by intro z; cases z)
    have n_p_pp := ne_of P3.ob P3.pa (by intro z; cases z)
    have n_p_pk := ne_of P3.ob k1 (by intro z; cases z)
    have n_p_pt := ne_of P3.ob P3.tb (by intro z; cases z)
    have n_pp_pk := P3.ne.1
    have n_pp_pt := P3.ne.2.1
    have n_pk_pt := P3.ne.2.2
    have lt : (rows.take i).length ≤ 200 := by
      rw [List.length_take]
      omega
    have tkl : tk.length = (rows.take i).length := Paired.length P3.td
    have ksl : ks.length = (rows.take i).length + 1 := by
      have := congrArg List.length k2
      simpa using this
    -- self.parents[name] = above
    refine ⟨_, rfl, _, rfl, p, C, dx, _, _, rfl, (upd_ne n_p_o).trans P3.ob, TCl.cl, TCl.n_parents, tf4_parents, _, rfl, pp, _, rfl, DPut.k (k := Sum.inr r.name) ((upd_ne n_pp_o).trans P3.pa) ?_, ?_⟩
    · rw [List.length_map]
      exact small1000 (by omega)
    -- self.kids[name] = []
    refine ⟨Nat.zero_le _, fun l hl => ?_⟩
    obtain ⟨nl_pp, hlA⟩ := none_upd hl
    obtain ⟨nl_o, hlB⟩ := none_upd hlA
    have nl_p : l ≠ p := (ne_of_none P3.ob hlB).symm
    have nl_pk : l ≠ pk := (ne_of_none k1 hlB).symm
    have nl_pt : l ≠ pt := (ne_of_none P3.tb hlB).symm
    refine ⟨_, rfl, p, C, dx, _, _, rfl, (upd_ne nl_p.symm).trans ((upd_ne n_p_pp).trans ((upd_ne n_p_o).trans P3.ob)), TCl.cl, TCl.n_kids, tf4_kids, _, rfl, pk, _, rfl,
      DPut.k (k := Sum.inr r.name) ((upd_ne nl_pk.symm).trans ((upd_ne n_pp_pk.symm).trans ((upd_ne n_pk_o).trans k1))) (small1000 (by omega)), ?_⟩
    -- self.kids[above].append(name)
    have hab : r.above ≠ r.name := by
      rcases hst.2 with e | ⟨q2, hq2, e, _⟩
      · intro z
        have := hn.1
        rw [← z, e] at this
        exact absurd this (by decide +kernel)
      · intro z
        exact hst.1 q2 hq2 (e.trans z)
    obtain ⟨l2, lx, hkv, hl2, hl2o, hl20, hlx, hlxe, hkvm⟩ : ∃ l2 lx, valV ks (Sum.inr r.above : Key) = some (.ref l2) ∧ H4 l2 = some (.lst lx) ∧ l2 ≠ po ∧ H0 l2 = none ∧ lx.length ≤ (rows.take i).length ∧ lx = (kidsOf (rows.take i) (Sum.inr r.above)).map .str ∧ ∃ kv ∈ ks, kv.1 = (Sum.inr r.above : Key) ∧ kv.2 = .ref l2 := by
      have hin : (Sum.inr r.above : Key) ∈ ks.map (·.1) := by
        rw [k2]
        rcases hst.2 with e | ⟨q, hq, e, _⟩
        · rw [e]
          exact List.mem_cons_self
        · exact List.mem_cons_of_mem _ (List.mem_map.mpr ⟨q, hq, by rw [e]⟩)
      cases hv : valV ks (Sum.inr r.above : Key) with
      | none => exact absurd hin (valV_not hv)
      | some v =>
        unfold valV at hv
        obtain ⟨kv, hf, he⟩ := Option.map_eq_some_iff.mp hv
        obtain ⟨c, e1, e2, e3, e4⟩ := k3 kv (List.mem_of_find?_eq_some hf)
        have ek : kv.1 = (Sum.inr r.above : Key) := by
          have := List.find?_some hf
          simpa using this
        rw [ek] at e2
        refine ⟨c, _, by rw [← he, e1], e2, e3, e4, ?_, rfl, kv, List.mem_of_find?_eq_some hf, ek, e1⟩
        rw [List.length_map]
        exact kids_le _ _
    have hkv2 : valV (putK ks (Sum.inr r.name : Key) (.ref l)) (Sum.inr r.above : Key) = some (.ref l2) := by
      rw [valV_put, if_neg (fun z => hab (Sum.inr.inj z))]
      exact hkv
    have n_l2_l : l2 ≠ l := ne_of_none hl2 hlB
    have n_l2_pp := ne_of hl2 P3.pa (by intro z; cases z)
    have n_l2_pk := ne_of hl2 k1 (by intro z; cases z)
    have n_l2_p := ne_of hl2 P3.ob (by intro z; cases z)
    have n_l2_pt := ne_of hl2 P3.tb (by intro z; cases z)
    have c_l2 : ∀ o1 o2 o3 o4, upd (upd (upd (upd H4 po o1) pp o2) l o3) pk o4 l2 = some (.lst lx) := fun o1 o2 o3 o4 => by
      rw [upd_ne n_l2_pk, upd_ne n_l2_l, upd_ne n_l2_pp, upd_ne hl2o]
      exact hl2
    refine ⟨_, rfl, p, C, dx, _, _, rfl, (upd_ne n_p_pk).trans ((upd_ne nl_p.symm).trans ((upd_ne n_p_pp).trans ((upd_ne n_p_o).trans P3.ob))), TCl.cl, TCl.n_kids, tf4_kids, _, rfl, pk, _, rfl,
      dget_of upd_same hkv2, .inl ⟨rfl, _, SqL.of (c_l2 _ _ _ _)⟩, _, rfl, l2, _, _, rfl, rfl, c_l2 _ _ _ _, small1000 (by omega), ?_⟩
    -- self.table[name] = both
    refine fun D hD => ⟨aL, left, rfl, T.tab, fun d1 h1 => ?_⟩
    obtain ⟨nD_l2, hD1⟩ := none_upd hD
    obtain ⟨nD_pk, hD2⟩ := none_upd hD1
    obtain ⟨nD_l, hD3⟩ := none_upd hD2
    obtain ⟨nD_pp, hD4⟩ := none_upd hD3
    obtain ⟨nD_o, hD5⟩ := none_upd hD4
    have nD_p : D ≠ p := (ne_of_none P3.ob hD5).symm
    have nD_pt : D ≠ pt := (ne_of_none P3.tb hD5).symm
    obtain ⟨n1_D, h11⟩ := none_upd h1
    obtain ⟨n1_l2, h12⟩ := none_upd h11
    obtain ⟨n1_pk, h13⟩ := none_upd h12
    obtain ⟨n1_l, h14⟩ := none_upd h13
    obtain ⟨n1_pp, h15⟩ := none_upd h14
    obtain ⟨n1_o, h16⟩ := none_upd h15
    have n1_p : d1 ≠ p := (ne_of_none P3.ob h16).symm
    have n1_pt : d1 ≠ pt := (ne_of_none P3.tb h16).symm
    have t8 := ((((((TK.lst P3.or_ (.lst (List.map (fun r => V.str r.name) (List.take i rows) ++ [V.str r.name]))).trans (TK.dk ((upd_ne n_pp_o).trans P3.pa) _)).trans (TK.new hl _)).trans (TK.dk ((upd_ne nl_pk.symm).trans ((upd_ne n_pp_pk.symm).trans ((upd_ne n_pk_o).trans k1))) _)).trans (TK.lst (c_l2 _ _ _ _) _)).trans (TK.new hD _)).trans (TK.new h1 (.dK left))
    have t9 := t8.trans (TK.dk ((upd_ne n1_D.symm).trans upd_same) (.dK (mergeK [] left)))
    obtain ⟨ps, f1, f2⟩ := t9.dues hd hdues
    obtain ⟨dk, g1, g2⟩ := dk_of_dues f2
    have dkl : dk.length ≤ 8 := by
      have e := Paired.length g2
      have := words_few hd.1 fun du hdu => (hd.2 du hdu).1
      omega
    have lefl : left.length = 8 := by
      have := congrArg List.length T.keys
      rw [List.length_map, List.length_map] at this
      exact this
    have mdl : (mergeK [] dk).length ≤ 8 := by
      have := length_mergeK dk []
      rw [List.length_nil] at this
      omega
    refine ⟨d1, left, rfl, (upd_ne n1_D.symm).trans upd_same, upd_same, n1_D.symm, ?_⟩
    refine ⟨_, rfl, t, ps, dk, rfl, f1, g1, fun d2 h2 => ?_⟩
    obtain ⟨n2_D, h21⟩ := none_upd h2
    obtain ⟨n2_1, h22⟩ := none_upd h21
    obtain ⟨_, h23⟩ := none_upd h22
    obtain ⟨n2_l2, h24⟩ := none_upd h23
    obtain ⟨n2_pk, h25⟩ := none_upd h24
    obtain ⟨n2_l, h26⟩ := none_upd h25
    obtain ⟨n2_pp, h27⟩ := none_upd h26
    obtain ⟨n2_o, h28⟩ := none_upd h27
    have n2_p : d2 ≠ p := (ne_of_none P3.ob h28).symm
    have n2_pt : d2 ≠ pt := (ne_of_none P3.tb h28).symm
    refine ⟨d2, mergeK [] dk, rfl, (upd_ne n2_D.symm).trans upd_same, upd_same, n2_D.symm, by omega, ?_⟩
    have t10 := (t9.trans (TK.new h2 (.dK (mergeK [] dk)))).trans (TK.dk ((upd_ne n2_D.symm).trans upd_same) (.dK (mergeK (mergeK [] left) (mergeK [] dk))))
    have e_p : ∀ o1 o2 o3 o4 o5 o6 o7 o8 o9 o10, upd (upd (upd (upd (upd (upd (upd (upd (upd (upd H4 po o1) pp o2) l o3) pk o4) l2 o5) D o6) d1 o7) D o8) d2 o9) D o10 p = some (.ins C dx (tf4 po pp pk pt)) := fun o1 o2 o3 o4 o5 o6 o7 o8 o9 o10 => by
      rw [upd_ne nD_p.symm, upd_ne n2_p.symm, upd_ne nD_p.symm, upd_ne n1_p.symm, upd_ne nD_p.symm, upd_ne n_l2_p.symm, upd_ne n_p_pk, upd_ne nl_p.symm, upd_ne n_p_pp, upd_ne n_p_o]
      exact P3.ob
    have e_pt : ∀ o1 o2 o3 o4 o5 o6 o7 o8 o9 o10, upd (upd (upd (upd (upd (upd (upd (upd (upd (upd H4 po o1) pp o2) l o3) pk o4) l2 o5) D o6) d1 o7) D o8) d2 o9) D o10 pt = some (.dK tk) := fun o1 o2 o3 o4 o5 o6 o7 o8 o9 o10 => by
      rw [upd_ne nD_pt.symm, upd_ne n2_pt.symm, upd_ne nD_pt.symm, upd_ne n1_pt.symm, upd_ne nD_pt.symm, upd_ne n_l2_pt.symm, upd_ne n_pk_pt.symm, upd_ne nl_pt.symm, upd_ne n_pp_pt.symm, upd_ne n_pt_o]
      exact P3.tb
    refine ⟨_, rfl, p, C, dx, _, _, rfl, e_p _ _ _ _ _ _ _ _ _ _, TCl.cl, TCl.n_table, tf4_table, _, rfl, pt, _, rfl, DPut.k (k := Sum.inr r.name) (e_pt _ _ _ _ _ _ _ _ _ _) (small1000 (by omega)), ?_⟩
    have nm : ∀ q ∈ rows.take i, q.name ≠ r.name := hst.1
    have tknew : putK tk (Sum.inr r.name : Key) (V.ref D) = tk ++ [(Sum.inr r.name, .ref D)] := by
      refine putK_new _ (keys_none fun m => ?_)
      rw [td_keys (fun _ _ z => z.1) P3.td] at m
      obtain ⟨q, hq, e⟩ := List.mem_map.mp m
      exact nm q hq (Sum.inr.inj e)
    have ksnew : putK ks (Sum.inr r.name : Key) (V.ref l) = ks ++ [(Sum.inr r.name, .ref l)] := by
      refine putK_new _ (keys_none fun m => ?_)
      rw [k2] at m
      rcases List.mem_cons.mp m with e | m
      · have := hn.1
        rw [Sum.inr.inj e] at this
        exact absurd this (by decide +kernel)
      · obtain ⟨q, hq, e⟩ := List.mem_map.mp m
        exact nm q hq (Sum.inr.inj e)
    have panew : putK (List.map (fun r => ((Sum.inr r.name : Key), V.str r.above)) (rows.take i)) (Sum.inr r.name : Key) (V.str r.above) = List.map (fun r => ((Sum.inr r.name : Key), V.str r.above)) (rows.take i) ++ [(Sum.inr r.name, .str r.above)] := by
      refine putK_new _ (keys_none fun m => ?_)
      rw [List.map_map] at m
      obtain ⟨q, hq, e⟩ := List.mem_map.mp m
      exact nm q hq (Sum.inr.inj e)
    have t11 := t10.trans (TK.dk (e_pt _ _ _ _ _ _ _ _ _ _) (.dK (tk ++ [(Sum.inr r.name, .ref D)])))
    refine ⟨tk ++ [(Sum.inr r.name, .ref D)], _, _, _, _, _, rfl, ?_⟩
    rw [List.take_add_one, hr1, Option.toList_some, tknew, ksnew, panew]
    rw [ksnew, panew] at t11
    subst hlxe
    have hn0 : r.name ≠ "" := fun z => by
      have := hn.1
      rw [z] at this
      exact absurd this (by decide +kernel)
    have hk0 : ∀ q ∈ rows.take i, q.above ≠ r.name := fun q hq z => by
      obtain ⟨m, hm⟩ := List.mem_iff_getElem?.mp hq
      have hmi : m < i := by
        have := (List.getElem?_eq_some_iff.mp hm).1
        rw [List.length_take] at this
        omega
      rw [List.getElem?_take_of_lt hmi] at hm
      rcases (hok m q hm).2.2.2 with e | ⟨q2, hq2, e, _⟩
      · exact hn0 (z.symm.trans e)
      · refine hst.1 q2 ?_ (e.trans z)
        obtain ⟨m2, hm2⟩ := List.mem_iff_getElem?.mp hq2
        have hmi2 : m2 < m := by
          have := (List.getElem?_eq_some_iff.mp hm2).1
          rw [List.length_take] at this
          omega
        rw [List.getElem?_take_of_lt hmi2] at hm2
        exact List.mem_iff_getElem?.mpr ⟨m2, by rw [List.getElem?_take_of_lt (by omega)]; exact hm2⟩
    refine part_step (l := l) (l' := l2) (D := D) P3 (fun q hq => ?_) t11 (fun b2 o2 hb b1 b2' b3 b4 b5 => ?_) hl20 hl2o hl2 hn0 hst.1 hk0 hab hlB ?_ ?_ ⟨ks, ?_, k1, hkvm⟩ ?_ ⟨nl_o, P3.same.free hlB⟩ ?_ upd_same ⟨P3.same.free hD5, nD_pp, nD_pk, nD_pt, ?_⟩
    · obtain ⟨m, hm⟩ := List.mem_iff_getElem?.mp (List.mem_of_mem_take hq)
      exact (hok m q hm).2.1
    · rw [upd_ne b4, upd_ne (ne_of_none hb hD5), upd_ne (ne_of_none hb h28), upd_ne (ne_of_none hb hD5), upd_ne (ne_of_none hb h16), upd_ne (ne_of_none hb hD5), upd_ne b5, upd_ne b3, upd_ne (ne_of_none hb hlB), upd_ne b2', upd_ne b1]
      exact hb
    · rw [upd_ne n_pt_o.symm, upd_ne nD_o.symm, upd_ne n2_o.symm, upd_ne nD_o.symm, upd_ne n1_o.symm, upd_ne nD_o.symm, upd_ne hl2o.symm, upd_ne n_pk_o.symm, upd_ne nl_o.symm, upd_ne n_pp_o.symm]
      exact upd_same
    · rw [upd_ne n_pp_pt, upd_ne nD_pp.symm, upd_ne n2_pp.symm, upd_ne nD_pp.symm, upd_ne n1_pp.symm, upd_ne nD_pp.symm, upd_ne n_l2_pp.symm, upd_ne n_pp_pk, upd_ne nl_pp.symm]
      exact upd_same
    · rw [upd_ne n_pk_pt, upd_ne nD_pk.symm, upd_ne n2_pk.symm, upd_ne nD_pk.symm, upd_ne n1_pk.symm, upd_ne nD_pk.symm, upd_ne n_l2_pk.symm]
      exact upd_same
    · rw [upd_ne nl_pt, upd_ne nD_l.symm, upd_ne n2_l.symm, upd_ne nD_l.symm, upd_ne n1_l.symm, upd_ne nD_l.symm, upd_ne n_l2_l.symm, upd_ne nl_pk]
      exact upd_same
    · rw [upd_ne n_l2_pt, upd_ne nD_l2.symm, upd_ne n2_l2.symm, upd_ne nD_l2.symm, upd_ne n1_l2.symm, upd_ne nD_l2.symm]
      exact upd_same
    · have t12 := ((TK.new h2 (.dK (mergeK [] dk))).trans (TK.dk ((upd_ne n2_D.symm).trans upd_same) (.dK (mergeK (mergeK [] left) (mergeK [] dk))))).trans (TK.dk (e_pt _ _ _ _ _ _ _ _ _ _) (.dK (tk ++ [(Sum.inr r.name, .ref D)])))
      have g3 := g2
      rw [ksnew, panew] at t12 g3
      exact ⟨_, (upd_ne nD_pt).trans upd_same, full_of (hLV _) (paired_monoM (fun kv du hm z => ⟨z.1, t12.val (hd.2 du hm).2 z.2⟩) g3) hd⟩
  · rintro σ H1 ⟨tk, o3, o4, o5, o6, o7, rfl, hP⟩
    rw [xl, List.take_length] at hP
    refine ⟨_, rfl, _, _, _, _, true, rfl, .ty _, .base (.bl b), kit_ty (by decide +kernel), true, rfl, ?_⟩
    refine iteF ?_
    refine ⟨_, rfl, _, rfl, p, C, dx, _, rfl, hP.ob, TCl.cl, TCl.n_hands, (by show 4 < 1000; decide), ?_⟩
    show Q .non (upd H1 p (.ins C dx (putF "hands" (.bl b) [("order", V.ref po), ("parents", .ref pp), ("kids", .ref pk), ("table", .ref pt)])))
    rw [putF_five]
    have tkk : TK H1 (upd H1 p (.ins C dx (tf5 po pp pk pt b))) := TK.ins hP.ob _
    refine q _ tk (fun b2 o2 hb => ?_) ⟨dx, po, pp, pk, pt, upd_same, ?_, ?_, ?_, ?_, ?_⟩ ?_
    · rw [upd_ne (ne_of_none hb p0)]
      exact hP.same _ _ hb
    · rw [upd_ne (ne_of hP.or_ hP.ob (by intro z; cases z))]
      exact hP.or_
    · rw [upd_ne (ne_of hP.pa hP.ob (by intro z; cases z))]
      exact hP.pa
    · rw [upd_ne (ne_of hP.tb hP.ob (by intro z; cases z))]
      exact hP.tb
    · refine paired_monoM (fun kv r hr z => ?_) hP.td
      obtain ⟨e1, d, e2, e3, e4, e5, e6, e7⟩ := z
      refine ⟨e1, d, e2, tkk.full ?_ ?_ e7⟩
      · obtain ⟨m, hm⟩ := List.mem_iff_getElem?.mp hr
        exact (hok m r hm).2.1
      · obtain ⟨fk, f1, _⟩ := e7
        rw [upd_ne (ne_of f1 hP.ob (by intro z; cases z))]
    · obtain ⟨ks, k1, k2, k3, _⟩ := hP.kd
      refine ⟨ks, (upd_ne (ne_of k1 hP.ob (by intro z; cases z))).trans k1, k2, fun kv hkv => ?_⟩
      obtain ⟨l, e1, e2, _⟩ := k3 kv hkv
      exact ⟨l, e1, (upd_ne (ne_of e2 hP.ob (by intro z; cases z))).trans e2⟩
    · intro kv hkv
      obtain ⟨m, hm⟩ := List.mem_iff_getElem?.mp hkv
      obtain ⟨r, _, _, d, e2, e3, _⟩ := paired_get hP.td hm
      exact ⟨d, e2, e3⟩

end
end Bd
end

section
namespace Bd
open PySem L2
abbrev sCheckGroup : Stmt := (top 43)
theorem scCheckGroup : FnScope ["tree", "name"] ["tree", "name"] (defScope sCheckGroup) := ⟨rfl, rfl, rfl, by decide +kernel, rfl, by decide +kernel, by decide +kernel⟩
abbrev sTNames : Stmt := (inClass (top 40) 2)
theorem scTNames : FnScope ["self"] ["self"] (defScope sTNames) := ⟨rfl, rfl, rfl, by decide +kernel, rfl, by decide +kernel, by decide +kernel⟩
abbrev sTAbove : Stmt := (inClass (top 40) 3)
theorem scTAbove : FnScope ["self", "name"] ["self", "name"] (defScope sTAbove) := ⟨rfl, rfl, rfl, by decide +kernel, rfl, by decide +kernel, by decide +kernel⟩
abbrev sTKids : Stmt := (inClass (top 40) 4)
theorem scTKids : FnScope ["self", "name"] ["self", "name"] (defScope sTKids) := ⟨rfl, rfl, rfl, by decide +kernel, rfl, by decide +kernel, by decide +kernel⟩
abbrev sTLeaves : Stmt := (inClass (top 40) 5)
theorem scTLeaves : FnScope ["self", "name"] ["self"] (defScope sTLeaves) := ⟨rfl, rfl, rfl, by decide +kernel, rfl, by decide +kernel, by decide +kernel⟩
abbrev sTPath : Stmt := (inClass (top 40) 6)
theorem scTPath : FnScope ["self", "name", "groups"] ["self", "name"] (defScope sTPath) := ⟨rfl, rfl, rfl, by decide +kernel, rfl, by decide +kernel, by decide +kernel⟩
abbrev sTDue : Stmt := (inClass (top 40) 7)
theorem scTDue : FnScope ["self", "name", "word"] ["self", "name", "word"] (defScope sTDue) := ⟨rfl, rfl, rfl, by decide +kernel, rfl, by decide +kernel, by decide +kernel⟩
abbrev sTHanding : Stmt := (inClass (top 40) 8)
theorem scTHanding : FnScope ["self"] ["self"] (defScope sTHanding) := ⟨rfl, rfl, rfl, by decide +kernel, rfl, by decide +kernel, by decide +kernel⟩

/-- a def that may raise, as its callers see it -/
structure CalX (P : Program) (w : World) (K : PySem.W.Frag) (mg : Str → Option Value) (base : Heap) (x : Str) (ps : List Str) (k : Nat) (sp : Sp) (f : Addr) (fd : FuncData) : Prop where
  ok : FnOk P w K mg base (L2.CX P w) k f fd ps sp
  mg : mg x = some (.ref f)
  kp : PySem.W.keepIn K (.ref f) = true
  bd : Binds K fd ps []
/-- an own error without a maker of its own -/
structure XN (K : PySem.W.Frag) (mg : Str → Option Value) (x : Str) (C : Addr) : Prop where
  q : PySem.W.excIn K C [.type "ValueError", .type "Exception", .type "BaseException", .type "object"] "ValueError.__new__" = true
  g : mg x = some (.ref C)
  k : PySem.W.keepIn K (.ref C) = true
  r1 : PySem.W.subIn K (.ref C) (.type "BaseException") = some true
  r2 : PySem.W.typeIn K (.ref C) = some (.type "type")
/-- no text of these -/
def OddN (K : PySem.W.Frag) (H : Hp) (xs : List Str) (v : V) : Prop := (∃ t : String, TyX K H v (.type t) ∧ kitB t "str" = some false) ∨ ∃ x, v = .str x ∧ x ∉ xs
def nms (rows : List RowM) : List Str := rows.map (·.name)
def spCG (K : PySem.W.Frag) (C CN : Addr) : Sp := fun vs H Q E => ∃ (p : Addr) (v : V) (rows : List RowM) (h : Bool) (tk : List (Key × V)), vs = [.ref p, v] ∧ TreeAt K H C p rows h tk ∧
  ((∃ x, v = .str x ∧ x ∈ nms rows ∧ Q .non H) ∨ (OddN K H (nms rows) v ∧ E (.ref CN) none H))
def spTNames (K : PySem.W.Frag) (C : Addr) : Sp := fun vs H Q _ => ∃ (p : Addr) (rows : List RowM) (h : Bool) (tk : List (Key × V)), vs = [.ref p] ∧ TreeAt K H C p rows h tk ∧ ∀ l, H l = none → Q (.ref l) (upd H l (.lst ((nms rows).map .str)))
def spTHanding (K : PySem.W.Frag) (C : Addr) : Sp := fun vs H Q _ => ∃ (p : Addr) (rows : List RowM) (h : Bool) (tk : List (Key × V)), vs = [.ref p] ∧ TreeAt K H C p rows h tk ∧ Q (.bl h) H
def spTAbove (K : PySem.W.Frag) (C CN : Addr) : Sp := fun vs H Q E => ∃ (p : Addr) (v : V) (rows : List RowM) (h : Bool) (tk : List (Key × V)), vs = [.ref p, v] ∧ TreeAt K H C p rows h tk ∧ (nms rows).Nodup ∧
  ((∃ r ∈ rows, v = .str r.name ∧ Q (.str r.above) H) ∨ (OddN K H (nms rows) v ∧ E (.ref CN) none H))
def spTKids (K : PySem.W.Frag) (C CN : Addr) : Sp := fun vs H Q E => ∃ (p : Addr) (v : V) (rows : List RowM) (h : Bool) (tk : List (Key × V)), vs = [.ref p, v] ∧ TreeAt K H C p rows h tk ∧ RowsOk rows ∧
  ((∃ x, v = .str x ∧ x ∈ ("" : Str) :: nms rows ∧ ∀ l, H l = none → Q (.ref l) (upd H l (.lst ((kidsOf rows (Sum.inr x)).map .str)))) ∨ (OddN K H (("" : Str) :: nms rows) v ∧ E (.ref CN) none H))
def spTLeaves (K : PySem.W.Frag) (C : Addr) : Sp := fun vs H Q _ => ∃ (p : Addr) (rows : List RowM) (h : Bool) (tk : List (Key × V)), vs = [.ref p] ∧ TreeAt K H C p rows h tk ∧ RowsOk rows ∧ rows.length ≤ 200 ∧ ∀ l, H l = none → Q (.ref l) (upd H l (.lst ((leavesOf rows).map .str)))
def upOf (rows : List RowM) (x : Str) : Str := ((rows.find? fun r => decide (r.name = x)).map (·.above)).getD ""
def upN (rows : List RowM) : Nat → Str → Str
  | 0, x => x
  | n + 1, x => upOf rows (upN rows n x)
def pathL (rows : List RowM) (x : Str) (m : Nat) : List Str := (List.range m).map fun j => upN rows j x
/-- m steps up to the root, and no fewer -/
def UpM (rows : List RowM) (x : Str) (m : Nat) : Prop := (∀ j < m, upN rows j x ∈ nms rows) ∧ upN rows m x = ""
def spTPath (K : PySem.W.Frag) (C CN : Addr) : Sp := fun vs H Q E => ∃ (p : Addr) (v : V) (rows : List RowM) (h : Bool) (tk : List (Key × V)), vs = [.ref p, v] ∧ TreeAt K H C p rows h tk ∧ (nms rows).Nodup ∧ ("" : Str) ∉ nms rows ∧
  ((∃ x m, v = .str x ∧ x ∈ nms rows ∧ UpM rows x m ∧ m ≤ 200 ∧ ∀ l, H l = none → Q (.ref l) (upd H l (.lst ((pathL rows x m).map .str)))) ∨ (OddN K H (nms rows) v ∧ E (.ref CN) none H))
def spTDue (K : PySem.W.Frag) (C CN CW : Addr) : Sp := fun vs H Q E => ∃ (p : Addr) (v wv : V) (rows : List RowM) (h : Bool) (tk : List (Key × V)), vs = [.ref p, v, wv] ∧ TreeAt K H C p rows h tk ∧ (nms rows).Nodup ∧
  ((∃ r ∈ rows, v = .str r.name ∧ ((∃ x ∈ leftW, wv = .str x ∧ ∀ u d, dueOf (fullD r.dues) x = some d → Dp K H u d → Q u H) ∨ (OddN K H leftW wv ∧ E (.ref CW) none H))) ∨ (OddN K H (nms rows) v ∧ E (.ref CN) none H))
def spIsWord2 (K : PySem.W.Frag) : Sp := fun vs H Q _ => ∃ v : V, vs = [v] ∧ ((∃ x ∈ leftW, v = .str x ∧ Q (.bl true) H) ∨ (OddN K H leftW v ∧ Q (.bl false) H))
section
variable {P : Program} {w : World} {K : PySem.W.Frag} {mg : Str → Option Value} {base : Heap} {aL C CN CW : Addr} {left : List (Key × V)}
theorem par_val (rows : List RowM) (x : Str) : (valV (rows.map fun r => ((Sum.inr r.name : Key), V.str r.above)) (Sum.inr x)).isSome = decide (x ∈ nms rows) := by
  by_cases c : x ∈ nms rows
  · rw [decide_eq_true c]
    refine val_some ?_
    rw [List.map_map]
    obtain ⟨r, hr, e⟩ := List.mem_map.mp c
    exact List.mem_map.mpr ⟨r, hr, by rw [← e]; rfl⟩
  · rw [decide_eq_false c]
    rw [keys_none fun m => c ?_]
    · rfl
    · rw [List.map_map] at m
      obtain ⟨r, hr, e⟩ := List.mem_map.mp m
      exact List.mem_map.mpr ⟨r, hr, Sum.inr.inj e⟩
theorem ok_isWord2 {f : Addr} {fd : FuncData} (F : Fun K "is_word" "is_word" sIsWord f fd) (T : TP P w K mg aL left) : FnOk P w K mg base CX0 1 f fd ["thing"] (spIsWord2 K) := by
  refine F.ok scIsWord (fun vs H Q E h => ?_) (fun cdv A outer s H vs Q E hr h => ?_)
  · obtain ⟨v, rfl, _⟩ := h
    rfl
  obtain ⟨v, rfl, h⟩ := h
  refine ⟨_, (pss_one (ps_ret (pe_and (pe_callB call_isi (by rfl) T.z_isinstance (by decide +kernel) (pa_cons (pv 0) (pa_cons (pe_bltn (v := .ty "str") (u := .type "str") (by rfl) T.z_str (by decide +kernel) rfl) pa_nil))) (pe_one (pe_cmpR op_inT (pv 0) (pe_glob (v := .ref aL) rfl T.g_LEFT_OUT rfl) (by first | exact nomark _ | rfl)))))), ?_⟩
  rcases h with ⟨x, hx, rfl, q⟩ | ⟨⟨t, ty, kt⟩ | ⟨x, rfl, hx⟩, q⟩
  · refine ⟨_, rfl, _, _, _, _, true, rfl, .ty _, .base (.str _), kit_ty (by decide +kernel), true, rfl, ?_⟩
    refine ⟨_, rfl, aL, left, Sum.inr x, rfl, rfl, T.tab, ?_⟩
    rw [val_some (k := (Sum.inr x : Key)) (by rw [T.keys]; exact List.mem_map.mpr ⟨x, hx, rfl⟩)]
    exact q
  · exact ⟨_, rfl, _, _, _, _, false, rfl, .ty _, ty, kit_ty kt, false, rfl, iteF q⟩
  · refine ⟨_, rfl, _, _, _, _, true, rfl, .ty _, .base (.str _), kit_ty (by decide +kernel), true, rfl, ?_⟩
    refine ⟨_, rfl, aL, left, Sum.inr x, rfl, rfl, T.tab, ?_⟩
    rw [keys_none (k := (Sum.inr x : Key)) (by
      rw [T.keys]
      intro m
      obtain ⟨y, hy, e⟩ := List.mem_map.mp m
      exact hx (Sum.inr.inj e ▸ hy))]
    exact q
theorem ok_checkGroup {f : Addr} {fd : FuncData} (F : Fun K "check_group" "check_group" sCheckGroup f fd) (T : TP P w K mg aL left) (TCl : TC K mg C) (XN : XN K mg "NoName" CN) : FnOk P w K mg base (L2.CX P w) 1 f fd ["tree", "name"] (spCG K C CN) := by
  refine F.okX scCheckGroup (fun vs H Q E h => ?_) (fun cdv A outer s H vs Q E hr h => ?_)
  · obtain ⟨p, v, rows, h, tk, rfl, _⟩ := h
    rfl
  obtain ⟨p, v, rows, h, tk, rfl, ⟨dx, po, pp, pk, pt, o1, o2, o3, o4, o5, o6⟩, q⟩ := h
  have hu := hu_of hr
  refine ⟨_, (pss_one (ps_if (PW.pt (pw_or (pt_not (pt_val (pe_callB call_isi (by rfl) T.z_isinstance (by decide +kernel) (pa_cons (pv 1) (pa_cons (pe_bltn (v := .ty "str") (u := .type "str") (by rfl) T.z_str (by decide +kernel) rfl) pa_nil))))) (pw_or1 (pt_cmp (pc_dnotin hu (pv 1) (pe_fld (pv 0) rfl)))))) (pss_one (ps_raise rfl (takes_of rfl rfl rfl rfl) (pmk_own PySem.F.excBase_ValueError XN.q XN.g XN.k (raises_own XN.r1 XN.r2) rfl))) pss_nil)), ?_⟩
  rcases q with ⟨x, rfl, hx, q⟩ | ⟨⟨t, ty, kt⟩ | ⟨x, rfl, hx⟩, q⟩
  · refine ⟨_, rfl, _, _, _, _, true, rfl, .ty _, .base (.str _), kit_ty (by decide +kernel), true, rfl, ?_⟩
    refine iteF ?_
    refine ⟨_, rfl, _, rfl, p, C, dx, _, _, rfl, o1, TCl.cl, TCl.n_parents, tf5_parents, pp, _, rfl, DGet.k (k := Sum.inr x) o3, ?_⟩
    rw [par_val, decide_eq_true hx]
    exact ⟨false, rfl, iteF q⟩
  · exact ⟨_, rfl, _, _, _, _, false, rfl, .ty _, ty, kit_ty kt, false, rfl, iteT q⟩
  · refine ⟨_, rfl, _, _, _, _, true, rfl, .ty _, .base (.str _), kit_ty (by decide +kernel), true, rfl, ?_⟩
    refine iteF ?_
    refine ⟨_, rfl, _, rfl, p, C, dx, _, _, rfl, o1, TCl.cl, TCl.n_parents, tf5_parents, pp, _, rfl, DGet.k (k := Sum.inr x) o3, ?_⟩
    rw [par_val, decide_eq_false hx]
    exact ⟨true, rfl, iteT q⟩
theorem ok_tnames {f : Addr} {fd : FuncData} (F : Fun K "names" "Tree.names" sTNames f fd) (T : TP P w K mg aL left) (TCl : TC K mg C) : FnOk P w K mg base CX0 1 f fd ["self"] (spTNames K C) := by
  refine F.ok scTNames (fun vs H Q E h => ?_) (fun cdv A outer s H vs Q E hr h => ?_)
  · obtain ⟨p, rows, h, tk, rfl, _⟩ := h
    rfl
  obtain ⟨p, rows, h, tk, rfl, ⟨dx, po, pp, pk, pt, o1, o2, o3, o4, o5, o6⟩, q⟩ := h
  refine ⟨_, (pss_one (ps_ret (pe_callTy call_list_of (by rfl) T.z_list (by decide +kernel) (pa_cons (pe_fld (pv 0) rfl) pa_nil)))), ?_⟩
  refine ⟨_, rfl, p, C, dx, _, _, rfl, o1, TCl.cl, TCl.n_order, tf5_order, po, _, rfl, .inl (SqL.of o2), fun l hl => ?_⟩
  have := q l hl
  unfold nms at this
  rw [List.map_map] at this
  exact this
theorem ok_thanding {f : Addr} {fd : FuncData} (F : Fun K "handing" "Tree.handing" sTHanding f fd) (TCl : TC K mg C) : FnOk P w K mg base CX0 1 f fd ["self"] (spTHanding K C) := by
  refine F.ok scTHanding (fun vs H Q E h => ?_) (fun cdv A outer s H vs Q E hr h => ?_)
  · obtain ⟨p, rows, h, tk, rfl, _⟩ := h
    rfl
  obtain ⟨p, rows, h, tk, rfl, ⟨dx, po, pp, pk, pt, o1, o2, o3, o4, o5, o6⟩, q⟩ := h
  refine ⟨_, (pss_one (ps_ret (pe_fld (pv 0) rfl))), ?_⟩
  exact ⟨_, rfl, p, C, dx, _, _, rfl, o1, TCl.cl, TCl.n_hands, tf5_hands, q⟩
theorem par_get {rows : List RowM} (nd : (nms rows).Nodup) {r : RowM} (hr : r ∈ rows) : valV (rows.map fun r => ((Sum.inr r.name : Key), V.str r.above)) (Sum.inr r.name) = some (.str r.above) := by
  have nk : ((rows.map fun r => ((Sum.inr r.name : Key), V.str r.above)).map (·.1)).Nodup := by
    have := nodup_inr nd
    unfold nms at this
    rw [List.map_map] at this ⊢
    exact this
  exact val_nd nk ((Sum.inr r.name : Key), V.str r.above) (List.mem_map.mpr ⟨r, hr, rfl⟩)
theorem ok_tabove {f g : Addr} {fd gd : FuncData} (F : Fun K "above" "Tree.above" sTAbove f fd) (TCl : TC K mg C) (cG : CalX P w K mg base "check_group" ["tree", "name"] 1 (spCG K C CN) g gd) : FnOk P w K mg base (L2.CX P w) 2 f fd ["self", "name"] (spTAbove K C CN) := by
  refine F.okX scTAbove (fun vs H Q E h => ?_) (fun cdv A outer s H vs Q E hr h => ?_)
  · obtain ⟨p, v, rows, h, tk, rfl, _⟩ := h
    rfl
  obtain ⟨p, v, rows, h, tk, rfl, ht, nd, q⟩ := h
  have hu := hu_of hr
  refine ⟨_, (pss_cons (ps_expr (pe_call cG.ok (hr.mono (by decide)) rfl cG.mg cG.kp cG.bd .nil (passes_call (takes_of rfl rfl rfl rfl) fun _ _ _ _ h => h) (pa_cons (pv 0) (pa_cons (pv 1) pa_nil)))) (pss_one (ps_ret (pe_dget hu (pe_fld (pv 0) rfl) (pv 1) (fun _ _ => rfl))))), ?_⟩
  rcases q with ⟨r, hrm, rfl, q⟩ | ⟨odd, q⟩
  · refine ⟨_, rfl, _, rfl, p, _, rows, h, tk, rfl, ht, .inl ⟨_, rfl, List.mem_map.mpr ⟨r, hrm, rfl⟩, ?_⟩⟩
    obtain ⟨dx, po, pp, pk, pt, o1, o2, o3, o4, o5, o6⟩ := ht
    exact ⟨_, rfl, p, C, dx, _, _, rfl, o1, TCl.cl, TCl.n_parents, tf5_parents, _, rfl, pp, _, rfl, dget_of o3 (par_get nd hrm), q⟩
  · exact ⟨_, rfl, _, rfl, p, _, rows, h, tk, rfl, ht, .inr ⟨odd, q⟩⟩
theorem kid_get {H : Hp} {pk : Addr} {rows : List RowM} (h : KidsAt H pk rows) (nd : (nms rows).Nodup) (ne : ("" : Str) ∉ nms rows) {x : Str} (hx : x ∈ ("" : Str) :: nms rows) : ∃ l ks, H pk = some (.dK ks) ∧ valV ks (Sum.inr x) = some (.ref l) ∧ H l = some (.lst ((kidsOf rows (Sum.inr x)).map .str)) := by
  obtain ⟨ks, k1, k2, k3⟩ := h
  have hk : (Sum.inr x : Key) ∈ ks.map (·.1) := by
    rw [k2]
    rcases List.mem_cons.mp hx with rfl | m
    · exact List.mem_cons_self
    · obtain ⟨r, hr, rfl⟩ := List.mem_map.mp m
      exact List.mem_cons_of_mem _ (List.mem_map.mpr ⟨r, hr, rfl⟩)
  obtain ⟨kv, hkv, e⟩ := List.mem_map.mp hk
  have nk : (ks.map (·.1)).Nodup := by
    rw [k2]
    refine List.nodup_cons.mpr ⟨fun m => ?_, ?_⟩
    · obtain ⟨r, hr, e⟩ := List.mem_map.mp m
      exact ne (List.mem_map.mpr ⟨r, hr, Sum.inr.inj e⟩)
    · have := nodup_inr nd
      unfold nms at this
      rw [List.map_map] at this
      exact this
  obtain ⟨l, e1, e2⟩ := k3 kv hkv
  have := val_nd nk kv hkv
  rw [e, e1] at this
  rw [e] at e2
  exact ⟨l, ks, k1, this, e2⟩
theorem kid_val {ks : List (Key × V)} {rows : List RowM} (k2 : ks.map (·.1) = (Sum.inr "" : Key) :: rows.map (fun r => (Sum.inr r.name : Key))) (x : Str) : (valV ks (Sum.inr x)).isSome = decide (x ∈ ("" : Str) :: nms rows) := by
  have e : (Sum.inr x : Key) ∈ ks.map (·.1) ↔ x ∈ ("" : Str) :: nms rows := by
    rw [k2, List.mem_cons, List.mem_cons]
    constructor
    · rintro (z | m)
      · exact .inl (Sum.inr.inj z)
      · obtain ⟨r, hr, z⟩ := List.mem_map.mp m
        exact .inr (List.mem_map.mpr ⟨r, hr, Sum.inr.inj z⟩)
    · rintro (rfl | m)
      · exact .inl rfl
      · obtain ⟨r, hr, rfl⟩ := List.mem_map.mp m
        exact .inr (List.mem_map.mpr ⟨r, hr, rfl⟩)
  by_cases c : x ∈ ("" : Str) :: nms rows
  · rw [decide_eq_true c]
    exact val_some (e.mpr c)
  · rw [decide_eq_false c, keys_none fun m => c (e.mp m)]
    rfl
theorem nms_nd {rows : List RowM} (h : RowsOk rows) : (nms rows).Nodup := by
  have := names_nd h rows.length
  rw [List.take_length] at this
  exact this
theorem nms_ne {rows : List RowM} (h : RowsOk rows) : ("" : Str) ∉ nms rows := fun m => by
  obtain ⟨r, hr, e⟩ := List.mem_map.mp m
  obtain ⟨i, hi⟩ := List.mem_iff_getElem?.mp hr
  have := (h i r hi).1.1
  rw [e] at this
  exact absurd this (by decide +kernel)
theorem ok_tkids {f : Addr} {fd : FuncData} (F : Fun K "children" "Tree.children" sTKids f fd) (T : TP P w K mg aL left) (TCl : TC K mg C) (XN : XN K mg "NoName" CN) : FnOk P w K mg base (L2.CX P w) 1 f fd ["self", "name"] (spTKids K C CN) := by
  refine F.okX scTKids (fun vs H Q E h => ?_) (fun cdv A outer s H vs Q E hr h => ?_)
  · obtain ⟨p, v, rows, h, tk, rfl, _⟩ := h
    rfl
  obtain ⟨p, v, rows, h, tk, rfl, ⟨dx, po, pp, pk, pt, o1, o2, o3, o4, o5, o6⟩, ok, q⟩ := h
  have hu := hu_of hr
  refine ⟨_, (pss_cons (ps_if (PW.pt (pw_or (pt_not (pt_val (pe_callB call_isi (by rfl) T.z_isinstance (by decide +kernel) (pa_cons (pv 1) (pa_cons (pe_bltn (v := .ty "str") (u := .type "str") (by rfl) T.z_str (by decide +kernel) rfl) pa_nil))))) (pw_or1 (pt_cmp (pc_dnotin hu (pv 1) (pe_fld (pv 0) rfl)))))) (pss_one (ps_raise rfl (takes_of rfl rfl rfl rfl) (pmk_own PySem.F.excBase_ValueError XN.q XN.g XN.k (raises_own XN.r1 XN.r2) rfl))) pss_nil) (pss_one (ps_ret (pe_callTy call_list_of (by rfl) T.z_list (by decide +kernel) (pa_cons (pe_dget hu (pe_fld (pv 0) rfl) (pv 1) (fun _ _ => rfl)) pa_nil))))), ?_⟩
  obtain ⟨ks, k1, k2, k3⟩ := id o6
  rcases q with ⟨x, rfl, hx, q⟩ | ⟨⟨t, ty, kt⟩ | ⟨x, rfl, hx⟩, q⟩
  · refine ⟨_, rfl, _, _, _, _, true, rfl, .ty _, .base (.str _), kit_ty (by decide +kernel), true, rfl, ?_⟩
    refine iteF ?_
    refine ⟨_, rfl, _, rfl, p, C, dx, _, _, rfl, o1, TCl.cl, TCl.n_kids, tf5_kids, pk, _, rfl, DGet.k (k := Sum.inr x) k1, ?_⟩
    rw [kid_val k2, decide_eq_true hx]
    refine ⟨false, rfl, iteF ?_⟩
    obtain ⟨l, ks', e1, e2, e3⟩ := kid_get o6 (nms_nd ok) (nms_ne ok) hx
    exact ⟨_, rfl, p, C, dx, _, _, rfl, o1, TCl.cl, TCl.n_kids, tf5_kids, _, rfl, pk, _, rfl, dget_of e1 e2, l, _, rfl, .inl (SqL.of e3), q⟩
  · exact ⟨_, rfl, _, _, _, _, false, rfl, .ty _, ty, kit_ty kt, false, rfl, iteT q⟩
  · refine ⟨_, rfl, _, _, _, _, true, rfl, .ty _, .base (.str _), kit_ty (by decide +kernel), true, rfl, ?_⟩
    refine iteF ?_
    refine ⟨_, rfl, _, rfl, p, C, dx, _, _, rfl, o1, TCl.cl, TCl.n_kids, tf5_kids, pk, _, rfl, DGet.k (k := Sum.inr x) k1, ?_⟩
    rw [kid_val k2, decide_eq_false hx]
    exact ⟨true, rfl, iteT q⟩

end
end Bd
end

section
namespace Bd
open PySem L2
section
variable {P : Program} {w : World} {K : PySem.W.Frag} {mg : Str → Option Value} {base : Heap} {aL C CN CW : Addr} {left : List (Key × V)}
theorem kids_empty (rows : List RowM) (x : Str) : ((kidsOf rows (Sum.inr x)).map V.str).isEmpty = !(rows.any fun q => decide (q.above = x)) := by
  have e : ((kidsOf rows (Sum.inr x)).map V.str).isEmpty = (kidsOf rows (Sum.inr x)).isEmpty := by
    cases kidsOf rows (Sum.inr x) <;> rfl
  rw [e]
  unfold kidsOf
  cases z : rows.any fun q => decide (q.above = x) with
  | true =>
    obtain ⟨q, hq, e⟩ := List.any_eq_true.mp z
    have : q ∈ rows.filter fun r => decide ((Sum.inr r.above : Key) = Sum.inr x) := List.mem_filter.mpr ⟨hq, by simpa using e⟩
    cases w : rows.filter fun r => decide ((Sum.inr r.above : Key) = Sum.inr x) with
    | nil =>
      rw [w] at this
      cases this
    | cons a b => rfl
  | false =>
    have : rows.filter (fun r => decide ((Sum.inr r.above : Key) = Sum.inr x)) = [] := List.filter_eq_nil_iff.mpr fun q hq => by
      have := List.any_eq_false.mp z q hq
      simpa using this
    rw [this]
    rfl
theorem ok_tleaves {f : Addr} {fd : FuncData} (F : Fun K "leaves" "Tree.leaves" sTLeaves f fd) (TCl : TC K mg C) : FnOk P w K mg base CX0 1 f fd ["self"] (spTLeaves K C) := by
  refine F.ok scTLeaves (fun vs H Q E h => ?_) (fun cdv A outer s H vs Q E hr h => ?_)
  · obtain ⟨p, rows, h, tk, rfl, _⟩ := h
    rfl
  obtain ⟨p, rows, h, tk, rfl, ⟨dx, po, pp, pk, pt, o1, o2, o3, o4, o5, o6⟩, ok, len, q⟩ := h
  have hu := hu_of hr
  refine ⟨_, (pss_one (ps_ret (pe_lc (own := [("name", 1)]) (g := gName 1) (tt := tNot (fun σ H Q => tDGet (tFld K (tVar 0) "kids") (tVar 1) σ H fun x H1 => ∃ k, TruV K x H1 k ∧ Q k H1)) (te := tVar 1) rfl scTLeaves.nd (pi_list (pe_fld (pv 0) rfl)) (blkOk_by (own := [("name", 1)]) (N := ["self", "name"]) (sc := defScope sTLeaves) (by decide +kernel)) (fun _ _ _ _ _ => (pg_name (i := 1) scTLeaves.nd rfl (Or.inl rfl))) (fun _ _ _ _ _ => (pts_one (pt_not (pt_truth (pe_dget hu (pe_fld (pv 0) rfl) (pv 1) (fun _ _ => rfl)) (by intro _; rfl))))) (fun _ _ _ _ _ => (pv 1))))), ?_⟩
  refine ⟨_, rfl, p, C, dx, _, _, rfl, o1, TCl.cl, TCl.n_order, tf5_order, po, rfl, ⟨_, SqL.of o2⟩, fun D hD => lc_list (K := K) (a := po) (xs := rows.map fun r => .str r.name) (fun i H' => H' = upd H D (.lst ((((rows.take i).filter (leafB rows)).map (·.name)).map V.str))) rfl ?_ ?_ ?_⟩
  · rintro i _ _ rfl
    exact SqL.of (by rw [upd_ne (ne_of_none o2 hD)]; exact o2)
  · rintro i x _ hx rfl
    obtain ⟨r, hr1, rfl⟩ : ∃ r, rows[i]? = some r ∧ x = .str r.name := by
      rw [List.getElem?_map] at hx
      obtain ⟨a, b, c⟩ := Option.map_eq_some_iff.mp hx
      exact ⟨a, b, c.symm⟩
    have hmem : r.name ∈ ("" : Str) :: nms rows := List.mem_cons_of_mem _ (List.mem_map.mpr ⟨r, List.mem_of_getElem? hr1, rfl⟩)
    obtain ⟨l, ks, e1, e2, e3⟩ := kid_get o6 (nms_nd ok) (nms_ne ok) hmem
    have il : i < rows.length := (List.getElem?_eq_some_iff.mp hr1).1
    have et : (((rows.take (i + 1)).filter (leafB rows)).map (·.name)).map V.str = (((rows.take i).filter (leafB rows)).map (·.name)).map V.str ++ (if leafB rows r = true then [V.str r.name] else []) := by
      rw [List.take_add_one, hr1, Option.toList_some, List.filter_append, List.map_append, List.map_append]
      cases z : leafB rows r with
      | true =>
        rw [List.filter_cons_of_pos z]
        rfl
      | false =>
        rw [List.filter_cons_of_neg (by rw [z]; decide)]
        rfl
    have eb : (!!((kidsOf rows (Sum.inr r.name)).map V.str).isEmpty) = leafB rows r := by
      rw [kids_empty]
      unfold leafB
      simp
    refine ⟨rfl, ?_⟩
    refine ⟨_, rfl, p, C, dx, _, _, rfl, (upd_ne (ne_of_none o1 hD)).trans o1, TCl.cl, TCl.n_kids, tf5_kids, _, rfl, pk, _, rfl, dget_of ((upd_ne (ne_of_none e1 hD)).trans e1) e2, _, .inl ⟨_, SqL.of ((upd_ne (ne_of_none e3 hD)).trans e3), rfl⟩, ?_⟩
    dsimp only
    rw [eb, et]
    cases z : leafB rows r with
    | true =>
      refine iteT ⟨_, rfl, _, upd_same, ?_, ?_⟩
      · rw [List.length_map, List.length_map]
        have := List.length_filter_le (leafB rows) (rows.take i)
        rw [List.length_take] at this
        exact small1000 (by omega)
      · rw [upd_upd]
        rfl
    | false =>
      refine iteF ?_
      rw [if_neg (by decide), List.append_nil]
  · rintro _ rfl
    rw [List.length_map, List.take_length]
    exact q D hD
theorem up_of {rows : List RowM} (nd : (nms rows).Nodup) {r : RowM} (hr : r ∈ rows) : upOf rows r.name = r.above := by
  unfold upOf
  cases e : rows.find? fun q => decide (q.name = r.name) with
  | none =>
    have := List.find?_eq_none.mp e r hr
    simp at this
  | some q =>
    have h1 := List.mem_of_find?_eq_some e
    have h2 : q.name = r.name := by
      have := List.find?_some e
      simpa using this
    have : q = r := by
      obtain ⟨i, hi⟩ := List.mem_iff_getElem?.mp h1
      obtain ⟨j, hj⟩ := List.mem_iff_getElem?.mp hr
      have li := (List.getElem?_eq_some_iff.mp hi)
      have lj := (List.getElem?_eq_some_iff.mp hj)
      obtain ⟨li, ei⟩ := li
      obtain ⟨lj, ej⟩ := lj
      have : i = j := (List.getElem_inj nd (h₀ := by unfold nms; rw [List.length_map]; exact li) (h₁ := by unfold nms; rw [List.length_map]; exact lj)).mp (by
        unfold nms
        rw [List.getElem_map, List.getElem_map, ei, ej, h2])
      subst this
      rw [← ei, ej]
    rw [this]
    rfl
theorem ok_tdue {f g e : Addr} {fd gd ed : FuncData} (F : Fun K "due" "Tree.due" sTDue f fd) (TCl : TC K mg C) (XW : XN K mg "NoWord" CW) (cG : CalX P w K mg base "check_group" ["tree", "name"] 1 (spCG K C CN) g gd) (cW : Cal P w K mg base "is_word" ["thing"] 1 (spIsWord2 K) e ed) :
    FnOk P w K mg base (L2.CX P w) 2 f fd ["self", "name", "word"] (spTDue K C CN CW) := by
  refine F.okX scTDue (fun vs H Q E h => ?_) (fun cdv A outer s H vs Q E hr h => ?_)
  · obtain ⟨p, v, wv, rows, h, tk, rfl, _⟩ := h
    rfl
  obtain ⟨p, v, wv, rows, h, tk, rfl, ht, nd, q⟩ := h
  have hu := hu_of hr
  refine ⟨_, (pss_cons (ps_expr (pe_call cG.ok (hr.mono (by decide)) rfl cG.mg cG.kp cG.bd .nil (passes_call (takes_of rfl rfl rfl rfl) fun _ _ _ _ h => h) (pa_cons (pv 0) (pa_cons (pv 1) pa_nil)))) (pss_cons (ps_if (pt_not (pt_val (pe_call cW.ok (hr.mono (by decide)) rfl cW.mg cW.kp cW.bd .nil pass0 (pa_cons (pv 2) pa_nil)))) (pss_one (ps_raise rfl (takes_of rfl rfl rfl rfl) (pmk_own PySem.F.excBase_ValueError XW.q XW.g XW.k (raises_own XW.r1 XW.r2) rfl))) pss_nil) (pss_one (ps_ret (pe_dget hu (pe_dget hu (pe_fld (pv 0) rfl) (pv 1) (fun _ _ => rfl)) (pv 2) (fun _ _ => rfl)))))), ?_⟩
  rcases q with ⟨r, hrm, rfl, q⟩ | ⟨odd, q⟩
  · refine ⟨_, rfl, _, rfl, p, _, rows, h, tk, rfl, ht, .inl ⟨_, rfl, List.mem_map.mpr ⟨r, hrm, rfl⟩, ?_⟩⟩
    obtain ⟨dx, po, pp, pk, pt, o1, o2, o3, o4, o5, o6⟩ := ht
    rcases q with ⟨x, hx, rfl, q⟩ | ⟨odd, q⟩
    · refine ⟨_, rfl, _, rfl, .inl ⟨x, hx, rfl, true, rfl, iteF ?_⟩⟩
      obtain ⟨kv, hkv, hk1, d, hk2, fk, fk1, fk2⟩ := paired_of o5 r hrm
      have nt : (tk.map (·.1)).Nodup := by
        rw [td_keys (fun _ _ z => z.1) o5]
        have := nodup_inr nd
        unfold nms at this
        rw [List.map_map] at this
        exact this
      have g1 : valV tk (Sum.inr r.name : Key) = some (.ref d) := by
        have := val_nd nt kv hkv
        rw [hk1, hk2] at this
        exact this
      obtain ⟨u, du, g2, g3, g4⟩ : ∃ u du, valV fk (Sum.inr x : Key) = some u ∧ dueOf (fullD r.dues) x = some du ∧ Dp K H u du := by
        rcases val_due x fk2 with ⟨_, z⟩ | ⟨u, d2, z1, z2, z3⟩
        · exfalso
          unfold fullD at z
          unfold dueOf at z
          rw [Option.map_eq_none_iff, List.find?_eq_none] at z
          rw [← leftD_words] at hx
          obtain ⟨wd, h1, h2⟩ := List.mem_map.mp hx
          exact z _ (List.mem_map.mpr ⟨wd, h1, rfl⟩) (by simpa using h2)
        · exact ⟨u, d2, z1, z2, z3⟩
      exact ⟨_, rfl, p, C, dx, _, _, rfl, o1, TCl.cl, TCl.n_table, tf5_table, _, rfl, pt, _, rfl, dget_of o4 g1, _, rfl, d, _, rfl, dget_of fk1 g2, q u du g3 g4⟩
    · exact ⟨_, rfl, _, rfl, .inr ⟨odd, false, rfl, iteT q⟩⟩
  · exact ⟨_, rfl, _, rfl, p, _, rows, h, tk, rfl, ht, .inr ⟨odd, q⟩⟩
end
end Bd
end

section
namespace Bd
open PySem L2 PySem.Spec PyProof.Rows
section
variable {prog : Program} {w : World} {A : Around} {E : Value → Shared → Prop} {s : Shared} {K : PySem.W.Frag} {x C f : Addr} {ox : Obj} {od : Option Obj} {b tb : Value}
theorem ne_bound {M : Model} {Q : Option Value → Shared → Prop} (X : K.In s.heap) (I : PySem.W.InstAt s.heap x ox C od) (hne : PySem.W.findIn K (.ref C) "__ne__" = some (some (.builtin "object.__ne__")))
    (h : wpAny M A (call (.builtin "object.__ne__") [.ref x, b]) (fun v => Q (some v)) E s) : wpAny M A (callSpecialIfBound? (.ref x) "__ne__" [b]) Q E s := by
  simp only [callSpecialIfBound?, bindSpecialIfBound?]
  refine wpAny_holding (wpAny_bind (wpAny_bind (wpAny_bind (I.type.here ((PySem.W.looks_findIn X hne).here ?_)))))
  simp only [PySem.F.cmp_object.ne.bind]
  refine wpAny_bind (wpAny_askSetting (wpAny_ite ?_))
  have fin : wpAny M A (call (.builtin "object.__ne__") ([.ref x] ++ [b]) >>= fun v => pure (some v)) Q E s := wpAny_bind (wpAny_mono h (fun v s' h' => wpAny_pure h') fun _ _ h' => h')
  split
  · exact wpAny_bind (wpAny_pure (wpAny_pure fin))
  · exact wpAny_tryCatch (wpAny_bind (wpAny_pure (wpAny_pure fin)))
theorem ne_check {M : Model} {Q : Unit → Shared → Prop} (X : K.In s.heap) (I : PySem.W.InstAt s.heap x ox C od) (hob : PySem.W.subIn K (.ref C) (.type "object") = some true) (q : Q () s) :
    wpAny M A (checkBuiltinCall "object.__ne__" ⟨[.ref x, b], []⟩) Q E s := by
  simp only [checkBuiltinCall, PySem.F.cmpKind_ne, PySem.F.cmpSplit_ne]
  refine wpAny_bind ?_
  unfold isInstance
  refine wpAny_bind (I.type.here ((PySem.W.looks_subIn X hob).here ?_))
  have ha : argsOk "object.__ne__" ⟨[.ref x, b], []⟩ := PySem.F.cmpArgs_ne _ _
  rw [if_neg (by decide)]
  cases hsig : Manifest.signature? "object.__ne__" with
  | none => exact wpAny_pure q
  | some sig =>
    simp only [argsOk, hsig] at ha
    have h2 : Bind.checkArgs "object.__ne__" sig ⟨[.ref x, b], []⟩ = pure () := ha
    show wpAny M A (Bind.checkArgs "object.__ne__" sig ⟨[.ref x, b], []⟩) Q E _
    rw [h2]
    exact wpAny_pure q
theorem ne_run {Q : Fin → Shared → Prop} (hu : A.units < cLine) (X : K.In s.heap) (I : PySem.W.InstAt s.heap x ox C od) (hs : PySem.W.findIn K (.ref C) "__eq__" = some (some (.ref f))) (hf : PySem.W.isFn K (.ref f) = true)
    (h : wpAny (model prog w) A (call (.ref f) [.ref x, b]) (fun v s' => ∃ r, v = .bool r ∧ Q (.done (.ret (.bool (!r)))) s') E s) :
    wpAny (model prog w) A (Builtin.«object.__ne__» ⟨[.ref x, b], []⟩) Q E s := by
  obtain ⟨hp, g, d, t, os⟩ := s
  unfold Builtin.«object.__ne__»
  repeat (first
    | with_reducible refine wpAny_cRoomFor hu ?_
    | (refine wpAny_bind (m := callSpecialIfBound? (.ref x) (Str.ofString "__eq__") [b])
        (PySem.W.ifBound_K X I hs hf (wpAny_mono h (fun v s' hr => by
          obtain ⟨r, rfl, hq⟩ := hr
          repeat (first | exact hq | exact wpAny_pure hq | exact wpAny_truthy_bool hq | (refine wpAny_bind (m := truthy (.bool _)) (wpAny_truthy_bool ?_)) | wp_step)) fun _ _ e => e)))
    | wp_step)
theorem ne_K {Q : Value → Shared → Prop} (hu : A.units + 1 < cLine) (X : K.In s.heap) (I : PySem.W.InstAt s.heap x ox C od) (hb : PySem.W.Looks (model prog w) s.heap (typeOf b) tb) (hn : PySem.W.notFirst K C tb = true)
    (hne : PySem.W.findIn K (.ref C) "__ne__" = some (some (.builtin "object.__ne__"))) (hob : PySem.W.subIn K (.ref C) (.type "object") = some true)
    (hs : PySem.W.findIn K (.ref C) "__eq__" = some (some (.ref f))) (hf : PySem.W.isFn K (.ref f) = true)
    (h : wpAny (model prog w) A.in1 (call (.ref f) [.ref x, b]) (fun v s' => ∃ r, v = .bool r ∧ Q (.bool (!r)) s') E s) : wpAny (model prog w) A (richCompare .NotEq (.ref x) b) Q E s := by
  have one : wpAny (model prog w) A (tryCompare (.ref x) "__ne__" b) (fun r s' => ∃ v, r = some v ∧ Q v s') E s := by
    simp only [tryCompare]
    refine wpAny_bind (ne_bound X I hne (wpAny_call (codeAny_call_builtin PySem.F.cmp_object.ne.plain PySem.F.cmpEntry_ne (ne_check X I hob (ne_run (A := A.in1) (by show A.units + 1 < cLine; exact hu) X I hs hf (wpAny_mono h (fun v s' hv => ?_) fun _ _ e => e))))))
    obtain ⟨r, rfl, hq⟩ := hv
    first | exact ⟨r, rfl, wpAny_pure ⟨_, rfl, hq⟩⟩ | exact ⟨r, rfl, wpAny_pure (wpAny_pure ⟨_, rfl, hq⟩)⟩ | exact ⟨r, rfl, _, rfl, hq⟩
  unfold richCompare
  simp only [oneThing_ref]
  refine wpAny_holding (wpAny_bind (wpAny_cRoomFor (Nat.lt_of_succ_lt hu) ?_))
  rw [cmpInfo_NotEq]
  dsimp only
  refine wpAny_bind (I.type.here (wpAny_bind (hb.here ?_)))
  split
  · rename_i q
    have e : PySem.W.subIn K tb (.ref C) = some false := by
      rcases Bool.or_eq_true_iff.mp hn with e | e
      · rw [beq_iff_eq.mp e] at q
        simp at q
      · exact beq_iff_eq.mp e
    refine wpAny_bind ((PySem.W.looks_subIn X e).here ?_)
    simp only [Bool.false_eq_true, if_false]
    refine wpAny_bind (wpAny_mono one (fun r s' z => ?_) fun _ _ e => e)
    obtain ⟨v, rfl, hq⟩ := z
    exact wpAny_pure hq
  · refine wpAny_bind (wpAny_pure ?_)
    simp only [Bool.false_eq_true, if_false]
    refine wpAny_bind (wpAny_mono one (fun r s' z => ?_) fun _ _ e => e)
    obtain ⟨v, rfl, hq⟩ := z
    exact wpAny_pure hq
end
end Bd
end

section
namespace Bd
open PySem L2 PySem.Spec PyProof.Rows
section
variable {prog : Program} {w : World} {A : Around} {E : Value → Shared → Prop} {s : Shared} {K : PySem.W.Frag} {x C dx f : Addr} {ox : Obj} {od : Option Obj} {b tb : Value}
theorem dec_none : wpAny (model prog w) A (call (.builtin "NoneType.__eq__") [.none, .ref x]) (fun v s1 => v = .notImplemented ∧ s1 = s) E s := by
  refine wpAny_call_entry PySem.F.slot_NoneType_eq rfl PySem.F.entry_NoneType_eq ?_ (PySem.F.args_NoneType_eq_2 _ _)
  obtain ⟨hp, g, d, tk, os⟩ := s
  wp_walk
  exact ⟨_, rfl, rfl, rfl⟩
theorem dec_int {i : Int} {t : Tok} (hx : s.heap.get? x = some (PySem.W.instObj C dx)) : wpAny (model prog w) A (call (.builtin "int.__eq__") [.int i t, .ref x]) (fun v s1 => v = .notImplemented ∧ s1 = s) E s := by
  refine wpAny_call_entry PySem.F.slot_int_eq (typeIs_int s i t) PySem.F.entry_int_eq ?_ (PySem.F.args_int_eq_2 _ _)
  obtain ⟨hp, g, d, tk, os⟩ := s
  wp_walk using AutoSeq1.wpAny_loadPart' hx
  exact ⟨_, rfl, rfl, rfl⟩
theorem dec_str {i : Str} {t : Tok} (hx : s.heap.get? x = some (PySem.W.instObj C dx)) : wpAny (model prog w) A (call (.builtin "str.__eq__") [.str i t, .ref x]) (fun v s1 => v = .notImplemented ∧ s1 = s) E s := by
  refine wpAny_call_entry PySem.F.slot_str_eq (typeIs_str s i t) PySem.F.entry_str_eq ?_ (PySem.F.args_str_eq_2 _ _)
  obtain ⟨hp, g, d, tk, os⟩ := s
  wp_walk using AutoSeq1.wpAny_loadPart' hx
  exact ⟨_, rfl, rfl, rfl⟩
theorem not_inst {M : Model} {T : String} {Q : Bool → Shared → Prop} (X : K.In s.heap) (I : PySem.W.InstAt s.heap x ox C od) (hsub : PySem.W.subIn K (.ref C) (.type T) = some false) (q : Q false s) : wpAny M A (isInstance (.ref x) (.type T)) Q E s := by
  unfold isInstance
  exact wpAny_bind (I.type.here ((PySem.W.looks_subIn X hsub).here q))
theorem dec_list {l : Addr} (hl : s.TypeIs (.ref l) "list") (X : K.In s.heap) (I : PySem.W.InstAt s.heap x ox C od) (hsub : PySem.W.subIn K (.ref C) (.type "list") = some false) :
    wpAny (model prog w) A (call (.builtin "list.__eq__") [.ref l, .ref x]) (fun v s1 => v = .notImplemented ∧ s1 = s) E s := by
  refine wpAny_call_entry PySem.F.slot_list_eq hl PySem.F.entry_list_eq ?_ (PySem.F.args_list_eq_2 _ _)
  obtain ⟨hp, g, d, tk, os⟩ := s
  unfold Builtin.«list.__eq__»
  repeat (first
    | (refine wpAny_bind (m := isInstance (.ref x) (.type "list")) (not_inst X I hsub ?_))
    | wp_step)
  exact ⟨_, rfl, rfl, rfl⟩
theorem dec_tup {l : Addr} (hl : s.TypeIs (.ref l) "tuple") (X : K.In s.heap) (I : PySem.W.InstAt s.heap x ox C od) (hsub : PySem.W.subIn K (.ref C) (.type "tuple") = some false) :
    wpAny (model prog w) A (call (.builtin "tuple.__eq__") [.ref l, .ref x]) (fun v s1 => v = .notImplemented ∧ s1 = s) E s := by
  refine wpAny_call_entry PySem.F.slot_tuple_eq hl PySem.F.entry_tuple_eq ?_ (PySem.F.args_tuple_eq_2 _ _)
  obtain ⟨hp, g, d, tk, os⟩ := s
  unfold Builtin.«tuple.__eq__»
  repeat (first
    | (refine wpAny_bind (m := isInstance (.ref x) (.type "tuple")) (not_inst X I hsub ?_))
    | wp_step)
  exact ⟨_, rfl, rfl, rfl⟩
theorem eq_right {v : Value} {T id : String} {Q : Value → Shared → Prop} (hu : A.units < cLine) (X : K.In s.heap) (I : PySem.W.InstAt s.heap x ox C od) (hv : s.TypeIs v T) (h1 : Slot T (cmpInfo .Eq).2.1 id) (hone : oneThing? .Eq v (.ref x) = none)
    (hsub : PySem.W.subIn K (.ref C) (.type T) = some false) (hdec : wpAny (model prog w) A (call (.builtin id) [v, .ref x]) (fun r s1 => r = .notImplemented ∧ s1 = s) E s)
    (hs : PySem.W.findIn K (.ref C) "__eq__" = some (some (.ref f))) (hf : PySem.W.isFn K (.ref f) = true)
    (h : wpAny (model prog w) A (call (.ref f) [.ref x, v]) (PySem.W.CmpBack Q) E s) : wpAny (model prog w) A (richCompare .Eq v (.ref x)) Q E s := by
  have two : wpAny (model prog w) A (tryCompare (.ref x) "__eq__" v) (fun r s' => ∃ z, r = some z ∧ Q z s') E s := by
    unfold tryCompare
    refine wpAny_bind (PySem.W.ifBound_K X I hs hf (wpAny_mono h (fun z s' hz => ?_) fun _ _ e => e))
    cases z <;> first | exact hz.elim | exact wpAny_pure ⟨_, rfl, hz⟩
  unfold richCompare
  rw [hone]
  refine wpAny_holding (wpAny_bind (wpAny_cRoomFor hu ?_))
  have hi : cmpInfo CmpOp.Eq = (("==" : String), ("__eq__" : Str), ("__eq__" : Str)) := rfl
  rw [hi] at h1 ⊢
  dsimp only at h1 ⊢
  refine wpAny_bind (wpAny_typeOf hv (wpAny_bind (I.type.here ?_)))
  rw [show (Value.type T != Value.ref C) = true from rfl]
  rw [if_pos rfl]
  refine wpAny_bind ((PySem.W.looks_subIn X hsub).here ?_)
  simp only [Bool.false_eq_true, if_false, Bool.not_false, if_true]
  refine wpAny_bind (m := tryCompare v _ (.ref x)) (wpAny_tryCompare_declines hv h1 (wpAny_mono hdec (fun r s1 hr => ⟨hr.1, ?_⟩) fun _ _ e => e))
  obtain ⟨rfl, rfl⟩ := hr
  refine wpAny_bind (wpAny_mono two (fun r s' z => ?_) fun _ _ e => e)
  obtain ⟨z, rfl, hq⟩ := z
  exact wpAny_pure hq
end
/-- what of the class the comparisons ask -/
structure OwnCmp (K : PySem.W.Frag) (C f : Addr) : Prop where
  eq : PySem.W.findIn K (.ref C) "__eq__" = some (some (.ref f))
  fn : PySem.W.isFn K (.ref f) = true
  ne : PySem.W.findIn K (.ref C) "__ne__" = some (some (.builtin "object.__ne__"))
  ob : PySem.W.subIn K (.ref C) (.type "object") = some true
  li : PySem.W.subIn K (.ref C) (.type "list") = some false
  tu : PySem.W.subIn K (.ref C) (.type "tuple") = some false
  st : PySem.W.subIn K (.ref C) (.type "str") = some false
  it : PySem.W.subIn K (.ref C) (.type "int") = some false
  nt : PySem.W.subIn K (.ref C) (.type "NoneType") = some false
  li' : PySem.W.subIn K (.type "list") (.ref C) = some false
  tu' : PySem.W.subIn K (.type "tuple") (.ref C) = some false
  st' : PySem.W.subIn K (.type "str") (.ref C) = some false
  it' : PySem.W.subIn K (.type "int") (.ref C) = some false
  nt' : PySem.W.subIn K (.type "NoneType") (.ref C) = some false
/-- things an instance is compared with -/
inductive YTy (K : PySem.W.Frag) (H : Hp) (C : Addr) : V → Prop
  | non : YTy K H C .non
  | int (i : Int) : YTy K H C (.int i)
  | str (i : Str) : YTy K H C (.str i)
  | lst {a : Addr} {xs : List V} : SqL K H a xs → YTy K H C (.ref a)
  | tup {a : Addr} {xs : List V} : SqT K H a xs → YTy K H C (.ref a)
  | ins {a dx : Addr} {fs : List (Str × V)} : H a = some (.ins C dx fs) → YTy K H C (.ref a)
section
variable {X : Cx} {pins : List (Addr × Obj)} {σ : L2.St} {H : Hp} {s : Shared} {C f : Addr}
theorem looks_ty {M : Model} {h : Heap} {a : Addr} {T : String} {o : Obj} (ho : h.get? a = some o) (hc : o.cls = .type T) : PySem.W.Looks M h (typeOf (.ref a)) (.type T) := fun _ _ _ s k q => wpAny_typeOf (s := s) ⟨o, k _ _ ho, hc⟩ q
theorem yty_look (O : OwnCmp X.K C f) (I : Inv X pins σ H s) {y : V} {u : Value} (t : YTy X.K H C y) (r : RelV y u) : ∃ tb, PySem.W.Looks (model X.prog X.w) s.heap (typeOf u) tb ∧ PySem.W.notFirst X.K C tb = true := by
  have nf : ∀ {tb : Value}, PySem.W.subIn X.K tb (.ref C) = some false → PySem.W.notFirst X.K C tb = true := fun {tb} e => by
    unfold PySem.W.notFirst
    rw [e]
    simp
  cases t with
  | non =>
    cases r
    exact ⟨.type "NoneType", .of_pure rfl, nf O.nt'⟩
  | int i =>
    obtain ⟨t, rfl⟩ := r
    exact ⟨.type "int", .of_pure rfl, nf O.it'⟩
  | str i =>
    obtain ⟨t, rfl⟩ := r
    exact ⟨.type "str", .of_pure rfl, nf O.st'⟩
  | lst h =>
    cases r
    obtain ⟨its, _, ⟨o, n, ho, hc, _⟩, _⟩ := I.list h
    exact ⟨.type "list", looks_ty ho hc, nf O.li'⟩
  | tup h =>
    cases r
    obtain ⟨its, _, ⟨o, ho, hc, _⟩, _⟩ := I.tuple h
    exact ⟨.type "tuple", looks_ty ho hc, nf O.tu'⟩
  | ins h =>
    cases r
    obtain ⟨mA, J, _⟩ := ins_get I.hok h
    obtain ⟨od, J, _⟩ := J.look
    exact ⟨.ref C, J.type, by simp [PySem.W.notFirst]⟩
/-- tree == y -/
theorem op_eqL {CX : CXT} {n : Nat} {fd : FuncData} {ps : List Str} {sp : Sp} {E : XK} (O : OwnCmp X.K C f) (F : FnOk X.prog X.w X.K X.mg X.base CX n f fd ps sp) (hb : Binds X.K fd ps []) (hr : Room n X.A) (hx : Passes CX X E) :
    OpR X (compareOp .Eq) (fun x y H Q => ∃ a dx fs, x = .ref a ∧ H a = some (.ins C dx fs) ∧ YTy X.K H C y ∧ sp [x, y] H (fun v H' => ∃ b, v = .bl b ∧ Q (.bl b) H') E) := by
  intro pins s σ H x y v u Q I rx ry h
  obtain ⟨a, dx, fs, rfl, ha, ty, q⟩ := h
  cases (show v = Value.ref a from rx)
  obtain ⟨mA, J, _⟩ := ins_get I.hok ha
  obtain ⟨od, J, _⟩ := J.look
  obtain ⟨tb, lk, nf⟩ := yty_look O I ty ry
  obtain ⟨m, hF⟩ := I.fr
  show wpAny _ _ (richCompare .Eq _ _) _ _ _
  refine PySem.W.cmp_K (op := .Eq) (tb := tb) hr.units0 hF I.ok.mod.kin J lk nf O.eq O.fn ?_
  refine wpAny_mono (wpAny_call (run_fnR (us := [.ref a, u]) (vs := [.ref a, y]) (FnOk.raw F hb .nil) hr hx I (.cons rfl (.cons ry .nil)) q)) (fun w s' z => ?_) fun _ _ x => x
  obtain ⟨z', H', I', rz, b, rfl, qz⟩ := z
  exact SlX.cmpback rz ⟨.bl b, H', I', rz, qz⟩
/-- tree != y -/
theorem op_neL {CX : CXT} {n : Nat} {fd : FuncData} {ps : List Str} {sp : Sp} {E : XK} (O : OwnCmp X.K C f) (F : FnOk X.prog X.w X.K X.mg X.base CX n f fd ps sp) (hb : Binds X.K fd ps []) (hr : Room (n + 1) X.A) (hx : Passes CX X E) :
    OpR X (compareOp .NotEq) (fun x y H Q => ∃ a dx fs, x = .ref a ∧ H a = some (.ins C dx fs) ∧ YTy X.K H C y ∧ sp [x, y] H (fun v H' => ∃ b, v = .bl b ∧ Q (.bl (!b)) H') E) := by
  intro pins s σ H x y v u Q I rx ry h
  obtain ⟨a, dx, fs, rfl, ha, ty, q⟩ := h
  cases (show v = Value.ref a from rx)
  obtain ⟨mA, J, _⟩ := ins_get I.hok ha
  obtain ⟨od, J, _⟩ := J.look
  obtain ⟨tb, lk, nf⟩ := yty_look O I ty ry
  show wpAny _ _ (richCompare .NotEq _ _) _ _ _
  refine ne_K (by have := hr.un; omega) I.kIn J lk nf O.ne O.ob O.eq O.fn ?_
  refine wpAny_mono (wpAny_call (SlX.run_at (A := X.A.in1) (us := [.ref a, u]) (ws := [.ref a, y]) (FnOk.raw F hb .nil) hr.in1 I.env0.in1 hx I (.cons rfl (.cons ry .nil)) q)) (fun w s' z => ?_) fun _ _ x => x
  obtain ⟨z', H', I', rz, b, rfl, qz⟩ := z
  cases (show w = Value.bool b from rz)
  exact ⟨b, rfl, .bl (!b), H', I', rfl, qz⟩
/-- y == tree, y no instance -/
theorem op_eqR {CX : CXT} {n : Nat} {fd : FuncData} {ps : List Str} {sp : Sp} {E : XK} (O : OwnCmp X.K C f) (F : FnOk X.prog X.w X.K X.mg X.base CX n f fd ps sp) (hb : Binds X.K fd ps []) (hr : Room n X.A) (hx : Passes CX X E) :
    OpR X (compareOp .Eq) (fun y x H Q => ∃ a dx fs, x = .ref a ∧ H a = some (.ins C dx fs) ∧ YTy X.K H C y ∧ sp [x, y] H (fun v H' => ∃ b, v = .bl b ∧ Q (.bl b) H') E ∧ (∀ c dy gs, y = .ref c → H c = some (.ins C dy gs) → sp [y, x] H (fun v H' => ∃ b, v = .bl b ∧ Q (.bl b) H') E)) := by
  intro pins s σ H y x u v Q I ry rx h
  obtain ⟨a, dx, fs, rfl, ha, ty, q, q2⟩ := h
  cases (show v = Value.ref a from rx)
  obtain ⟨mA, J0, _⟩ := ins_get I.hok ha
  have hat : s.heap.get? a = some (PySem.W.instObj C dx) := J0.1
  obtain ⟨od, J, _⟩ := J0.look
  obtain ⟨m, hF⟩ := I.fr
  have fin : wpAny (model X.prog X.w) X.A (call (.ref f) [.ref a, u]) (PySem.W.CmpBack (EP X pins σ Q)) X.xe s := by
    refine wpAny_mono (wpAny_call (run_fnR (us := [.ref a, u]) (vs := [.ref a, y]) (FnOk.raw F hb .nil) hr hx I (.cons rfl (.cons ry .nil)) q)) (fun w s' z => ?_) fun _ _ x => x
    obtain ⟨z', H', I', rz, b, rfl, qz⟩ := z
    exact SlX.cmpback rz ⟨.bl b, H', I', rz, qz⟩
  show wpAny _ _ (richCompare .Eq _ _) _ _ _
  cases ty with
  | non =>
    cases ry
    exact eq_right hr.units0 I.kIn J rfl PySem.F.slot_NoneType_eq rfl O.nt dec_none O.eq O.fn fin
  | int i =>
    obtain ⟨t, rfl⟩ := ry
    exact eq_right hr.units0 I.kIn J (typeIs_int s i t) PySem.F.slot_int_eq rfl O.it (dec_int hat) O.eq O.fn fin
  | str i =>
    obtain ⟨t, rfl⟩ := ry
    exact eq_right hr.units0 I.kIn J (typeIs_str s i t) PySem.F.slot_str_eq rfl O.st (dec_str hat) O.eq O.fn fin
  | lst h =>
    cases ry
    obtain ⟨its, _, ⟨o, n, ho, hc, _⟩, _⟩ := I.list h
    exact eq_right hr.units0 I.kIn J ⟨o, ho, hc⟩ PySem.F.slot_list_eq (oneThing_ref ..) O.li (dec_list ⟨o, ho, hc⟩ I.kIn J O.li) O.eq O.fn fin
  | tup h =>
    cases ry
    obtain ⟨its, _, ⟨o, ho, hc, _⟩, _⟩ := I.tuple h
    exact eq_right hr.units0 I.kIn J ⟨o, ho, hc⟩ PySem.F.slot_tuple_eq (oneThing_ref ..) O.tu (dec_tup ⟨o, ho, hc⟩ I.kIn J O.tu) O.eq O.fn fin
  | @ins c dy gs hc =>
    cases ry
    have q3 := q2 c dy gs rfl hc
    obtain ⟨mB, K0, _⟩ := ins_get I.hok hc
    obtain ⟨od2, J2, _⟩ := K0.look
    refine PySem.W.cmp_K (op := .Eq) (tb := .ref C) hr.units0 hF I.ok.mod.kin J2 J.type (by simp [PySem.W.notFirst]) O.eq O.fn ?_
    · refine wpAny_mono (wpAny_call (run_fnR (us := [.ref c, .ref a]) (vs := [.ref c, .ref a]) (FnOk.raw F hb .nil) hr hx I (.cons rfl (.cons rfl .nil)) q3)) (fun w s' z => ?_) fun _ _ x => x
      obtain ⟨z', H', I', rz, b, rfl, qz⟩ := z
      exact SlX.cmpback rz ⟨.bl b, H', I', rz, qz⟩
end
end Bd
end

section
namespace Bd
open PySem L2
abbrev sTEq : Stmt := (inClass (top 40) 1)
theorem scTEq : FnScope ["self", "other"] ["self", "other"] (defScope sTEq) := ⟨rfl, rfl, rfl, by decide +kernel, rfl, by decide +kernel, by decide +kernel⟩

def duesEqB (a b : List (Str × PyData)) : Bool := (List.zipWith (fun x y => PyData.eqv x.2 y.2) a b).all id
def treeEqB (rows : List RowM) (h : Bool) (rows' : List RowM) (h' : Bool) : Bool :=
  decide (rows.map (·.name) = rows'.map (·.name)) && (decide (rows.map (·.above) = rows'.map (·.above)) && ((List.zipWith (fun r r' => duesEqB (fullD r.dues) (fullD r'.dues)) rows rows').all id && decide (h = h')))
/-- three lists in step -/
inductive P3 {α β γ : Type} (F : α → β → γ → Prop) : List α → List β → List γ → Prop
  | nil : P3 F [] [] []
  | cons {a : α} {b : β} {c : γ} {as : List α} {bs : List β} {cs : List γ} : F a b c → P3 F as bs cs → P3 F (a :: as) (b :: bs) (c :: cs)
theorem hits_al {F : V → V → Bool → Prop} {ls : List (Key × V)} (nd : (ls.map (·.1)).Nodup) {ks us : List (Key × V)} {rs : List Bool} (h : P3 (fun (k u : Key × V) r => k.1 = u.1 ∧ F k.2 u.2 r) ks us rs) (hu : ∀ u ∈ us, u ∈ ls) : HitsV F ls ks (rs.all id) := by
  induction h with
  | nil => exact .nil
  | @cons k u r ks us rs h1 h2 ih =>
    obtain ⟨k1, k2⟩ := k
    have e : valV ls k1 = some u.2 := by
      have := val_nd nd u (hu u List.mem_cons_self)
      rw [← h1.1] at this
      exact this
    rw [List.all_cons]
    exact .hit e h1.2 (ih fun x hx => hu x (List.mem_cons_of_mem _ hx))
theorem eqv_strs : ∀ (xs ys : List Str), PyData.eqvAll (xs.map .str) (ys.map .str) = decide (xs = ys)
  | [], [] => by simp [PyData.eqvAll]
  | [], y :: ys => by simp [PyData.eqvAll]
  | x :: xs, [] => by simp [PyData.eqvAll]
  | x :: xs, y :: ys => by
    rw [List.map_cons, List.map_cons, PyData.eqvAll, eqv_strs xs ys, PyData.eqv]
    by_cases a : x = y
    · subst a
      simp
    · simp [a]
theorem eqv_strL (xs ys : List Str) : PyData.eqv (.list (xs.map .str)) (.list (ys.map .str)) = decide (xs = ys) := by
  rw [PyData.eqv]
  exact eqv_strs xs ys
theorem lay_strs : ∀ xs : List Str, (∀ x ∈ xs, PyData.canLay0 (.str x) = true) → PyData.canLayAll0 (xs.map .str) = true
  | [], _ => by simp [PyData.canLayAll0]
  | x :: xs, h => by
    rw [List.map_cons, PyData.canLayAll0, lay_strs xs fun y hy => h y (List.mem_cons_of_mem _ hy), h x List.mem_cons_self]
    rfl
theorem dep_strs : ∀ xs : List Str, PyData.depthAll (xs.map .str) = 0
  | [] => by simp [PyData.depthAll]
  | x :: xs => by
    rw [List.map_cons, PyData.depthAll, dep_strs xs, PyData.depth]
    rfl
theorem shaped_strs {xs : List Str} (h : ∀ x ∈ xs, PyData.canLay0 (.str x) = true) : SeqAt.shaped (.list (xs.map .str)) = true := by
  unfold SeqAt.shaped
  rw [PyData.canLay0, lay_strs xs h, PyData.depth, dep_strs]
  rfl
theorem lay_name {x : Str} (h : NameOk x) : PyData.canLay0 (.str x) = true := by
  have e : PyData.canLay0 (.str x) = x.cps.all (· < 0x110000) := by
    rw [PyData.canLay0]
    rfl
  rw [e, Array.all_eq_true']
  intro c hc
  have := (h.2.2 c (Array.mem_toList_iff.mpr hc)).2
  exact decide_eq_true (by omega)
theorem lay_ints : ∀ xs : List Int, PyData.canLayAll0 (xs.map .int) = true
  | [] => by simp [PyData.canLayAll0]
  | x :: xs => by
    rw [List.map_cons, PyData.canLayAll0, lay_ints xs, PyData.canLay0]
    rfl
theorem dep_ints : ∀ xs : List Int, PyData.depthAll (xs.map .int) = 0
  | [] => by simp [PyData.depthAll]
  | x :: xs => by
    rw [List.map_cons, PyData.depthAll, dep_ints xs, PyData.depth]
    rfl
theorem shaped_ints (xs : List Int) : SeqAt.shaped (.tuple (xs.map .int)) = true := by
  unfold SeqAt.shaped
  rw [PyData.canLay0, lay_ints xs, PyData.depth, dep_ints]
  rfl
theorem shaped_val {x : Str} {d : PyData} (h : ValOk x d) : SeqAt.shaped d = true := by
  cases h with
  | amt => exact shaped_ints [_, _]
  | endl => decide +kernel
  | none => decide +kernel
  | set => exact shaped_ints _
  | alone =>
    unfold SeqAt.shaped
    rw [PyData.canLay0, PyData.depth]
    rfl
theorem shaped_name {x : Str} (h : PyData.canLay0 (.str x) = true) : SeqAt.shaped (.str x) = true := by
  unfold SeqAt.shaped
  rw [h, PyData.depth]
  rfl
/-- aboves, too, are names or the root's -/
theorem lay_above {rows : List RowM} (h : RowsOk rows) {i : Nat} {r : RowM} (e : rows[i]? = some r) : PyData.canLay0 (.str r.above) = true := by
  rcases (h i r e).2.2.2 with z | ⟨q, hq, z, _⟩
  · rw [z]
    decide +kernel
  · rw [← z]
    obtain ⟨m, hm⟩ := List.mem_iff_getElem?.mp (List.mem_of_mem_take hq)
    exact lay_name (h m q hm).1
theorem dp_strs {K : PySem.W.Frag} {H : Hp} : ∀ xs : List Str, DpAll K H (xs.map V.str) (xs.map .str)
  | [] => .nil
  | x :: xs => .cons (.str x) (dp_strs xs)
/-- a thing that is no instance of the class -/
def NonIns (K : PySem.W.Frag) (H : Hp) (C : Addr) (y : V) : Prop := ∃ t, TyX K H y t ∧ PySem.W.kitOne K t (.ref C) = some false
/-- what isinstance asks of the class -/
structure TI (K : PySem.W.Frag) (C : Addr) : Prop where
  ha : PySem.W.findIn K (.ref C) "__class__" = some (some (.builtin "object.__class__"))
  hn : PySem.W.specialIn K (.builtin "object.__class__") "__get__" = some (some (.builtin "getset_descriptor.__get__"))
  htk : PySem.W.takesIn K (.builtin "object.__class__") = some true
  hm : PySem.W.mroIn K C (.type "object") = some true
def spTEq (K : PySem.W.Frag) (C : Addr) : Sp := fun vs H Q _ => ∃ (p : Addr) (y : V) (rows : List RowM) (h : Bool) (tk : List (Key × V)), vs = [.ref p, y] ∧ TreeAt K H C p rows h tk ∧ RowsOk rows ∧
  ((NonIns K H C y ∧ Q (.bl false) H) ∨ ∃ p' rows' h' tk', y = .ref p' ∧ TreeAt K H C p' rows' h' tk' ∧ RowsOk rows' ∧ (∀ kv ∈ tk, ∀ kv' ∈ tk', kv.2 ≠ kv'.2) ∧ Q (.bl (treeEqB rows h rows' h')) H)
section
variable {P : Program} {w : World} {K : PySem.W.Frag} {mg : Str → Option Value} {base : Heap} {aL C : Addr} {left : List (Key × V)}
theorem hu100 {A : Around} {k : Nat} (hr : Room k A) : A.units + 100 < cLine := by
  have := hr.un
  omega
theorem p3_dues {H : Hp} : ∀ {kvs lvs : List (Key × V)} {a b : List (Str × PyData)}, Paired (PV K H) kvs a → Paired (PV K H) lvs b → a.map (·.1) = b.map (·.1) → (∀ x ∈ a, ValOk x.1 x.2) → (∀ x ∈ b, ValOk x.1 x.2) →
    P3 (fun (k u : Key × V) r => k.1 = u.1 ∧ EqF K H 0 k.2 u.2 r) kvs lvs (List.zipWith (fun x y => PyData.eqv x.2 y.2) a b)
  | _, _, _, _, .nil, .nil, _, _, _ => .nil
  | _, _, _, _, .cons x1 x2, .cons y1 y2, e, h1, h2 => by
    rw [List.map_cons, List.map_cons] at e
    injection e with e1 e2
    exact .cons ⟨by rw [x1.1, y1.1, e1], _, _, x1.2, y1.2, shaped_val (h1 _ List.mem_cons_self), shaped_val (h2 _ List.mem_cons_self), rfl⟩ (p3_dues x2 y2 e2 (fun z hz => h1 z (List.mem_cons_of_mem _ hz)) fun z hz => h2 z (List.mem_cons_of_mem _ hz))
  | _, _, _, _, .nil, .cons _ _, e, _, _ => by cases e
  | _, _, _, _, .cons _ _, .nil, e, _, _ => by cases e
theorem fullD_keys (a : List (Str × PyData)) : (fullD a).map (·.1) = leftW := by
  rw [← leftD_words]
  unfold fullD
  rw [List.map_map]
  rfl
theorem full_nd {H : Hp} {kvs : List (Key × V)} {a : List (Str × PyData)} (h : Paired (PV K H) kvs (fullD a)) : (kvs.map (·.1)).Nodup := by
  have e : (fullD a).map (fun du => (Sum.inr du.1 : Key)) = leftW.map fun x => (Sum.inr x : Key) := by
    rw [← fullD_keys a, List.map_map]
    rfl
  rw [pv_keys h, e]
  exact nodup_inr leftW_nd
theorem p3_table {H : Hp} : ∀ {tk tk' : List (Key × V)} {rows rows' : List RowM}, Paired (fun (kv : Key × V) (r : RowM) => kv.1 = (Sum.inr r.name : Key) ∧ ∃ d, kv.2 = .ref d ∧ FullAt K H d r.dues) tk rows →
    Paired (fun (kv : Key × V) (r : RowM) => kv.1 = (Sum.inr r.name : Key) ∧ ∃ d, kv.2 = .ref d ∧ FullAt K H d r.dues) tk' rows' → rows.map (·.name) = rows'.map (·.name) → (∀ r ∈ rows, DuesOk r.dues) → (∀ r ∈ rows', DuesOk r.dues) →
    (∀ kv ∈ tk, ∀ kv' ∈ tk', kv.2 ≠ kv'.2) → P3 (fun (k u : Key × V) r => k.1 = u.1 ∧ EqF K H 1 k.2 u.2 r) tk tk' (List.zipWith (fun r r' => duesEqB (fullD r.dues) (fullD r'.dues)) rows rows')
  | _, _, _, _, .nil, .nil, _, _, _, _ => .nil
  | _, _, _, _, .cons (a := kv) (b := r) x1 x2, .cons (a := kv') (b := r') y1 y2, e, h1, h2, h3 => by
    rw [List.map_cons, List.map_cons] at e
    injection e with e1 e2
    obtain ⟨k1, d, k2, fk, f1, f2⟩ := x1
    obtain ⟨l1, d', l2, gk, g1, g2⟩ := y1
    refine .cons ⟨by rw [k1, l1, e1], d, d', k2, l2, .inr ⟨fun z => h3 kv List.mem_cons_self kv' List.mem_cons_self (by rw [k2, l2, z]), fk, gk, _, f1, g1, fun _ => hits_al (full_nd g2) (p3_dues f2 g2 ?_ ?_ ?_) fun u hu => hu, ?_⟩⟩
      (p3_table x2 y2 e2 (fun z hz => h1 z (List.mem_cons_of_mem _ hz)) (fun z hz => h2 z (List.mem_cons_of_mem _ hz)) fun z hz z' hz' => h3 z (List.mem_cons_of_mem _ hz) z' (List.mem_cons_of_mem _ hz'))
    · rw [fullD_keys, fullD_keys]
    · exact fullD_ok (h1 _ List.mem_cons_self)
    · exact fullD_ok (h2 _ List.mem_cons_self)
    · have z1 : fk.length = gk.length := by
        rw [Paired.length f2, Paired.length g2]
        unfold fullD
        rw [List.length_map, List.length_map]
      unfold duesEqB
      rw [z1]
      simp
  | _, _, _, _, .nil, .cons _ _, e, _, _, _ => by cases e
  | _, _, _, _, .cons _ _, .nil, e, _, _, _ => by cases e
theorem p3_above {H : Hp} : ∀ {rows rows' : List RowM}, rows.map (·.name) = rows'.map (·.name) → (∀ r ∈ rows, PyData.canLay0 (.str r.above) = true) → (∀ r ∈ rows', PyData.canLay0 (.str r.above) = true) →
    P3 (fun (k u : Key × V) r => k.1 = u.1 ∧ EqF K H 0 k.2 u.2 r) (rows.map fun r => ((Sum.inr r.name : Key), V.str r.above)) (rows'.map fun r => ((Sum.inr r.name : Key), V.str r.above)) (List.zipWith (fun r r' => decide (r.above = r'.above)) rows rows')
  | [], [], _, _, _ => .nil
  | r :: rows, r' :: rows', e, h1, h2 => by
    rw [List.map_cons, List.map_cons] at e
    injection e with e1 e2
    refine .cons ⟨congrArg Sum.inr e1, _, _, .str _, .str _, shaped_name (h1 _ List.mem_cons_self), shaped_name (h2 _ List.mem_cons_self), ?_⟩ (p3_above e2 (fun z hz => h1 z (List.mem_cons_of_mem _ hz)) fun z hz => h2 z (List.mem_cons_of_mem _ hz))
    rw [PyData.eqv]
    show decide (r.above = r'.above) = (r.above == r'.above)
    by_cases c : r.above = r'.above
    · rw [decide_eq_true c, c]
      exact (beq_self_eq_true _).symm
    · rw [decide_eq_false c]
      exact (beq_eq_false_iff_ne.mpr c).symm
  | [], _ :: _, e, _, _ => by cases e
  | _ :: _, [], e, _, _ => by cases e
theorem above_all : ∀ {rows rows' : List RowM}, rows.length = rows'.length → (List.zipWith (fun (r r' : RowM) => decide (r.above = r'.above)) rows rows').all id = decide (rows.map (·.above) = rows'.map (·.above))
  | [], [], _ => by simp
  | r :: rows, r' :: rows', e => by
    rw [List.zipWith_cons_cons, List.all_cons, above_all (by simpa using e), List.map_cons, List.map_cons]
    by_cases c : r.above = r'.above
    · simp [c]
    · simp [c]
  | [], _ :: _, e => by cases e
  | _ :: _, [], e => by cases e
theorem ok_teq {f : Addr} {fd : FuncData} (F : Fun K "__eq__" "Tree.__eq__" sTEq f fd) (T : TP P w K mg aL left) (TCl : TC K mg C) (TIs : TI K C) : FnOk P w K mg base CX0 1 f fd ["self", "other"] (spTEq K C) := by
  refine F.ok scTEq (fun vs H Q E h => ?_) (fun cdv A outer s H vs Q E hr h => ?_)
  · obtain ⟨p, y, rows, h, tk, rfl, _⟩ := h
    rfl
  obtain ⟨p, y, rows, h, tk, rfl, ht, hok, hy⟩ := h
  refine ⟨_, (pss_one (ps_ret (pe_and (pe_callB call_isi (by rfl) T.z_isinstance (by decide +kernel) (pa_cons (pv 1) (pa_cons (pe_glob (v := .ref C) rfl TCl.g_Tree rfl) pa_nil))) (pe_and (pe_cmpR (op_eqD hr.units) (pe_fld (pv 0) rfl) (pe_fld (pv 1) rfl) (nomark _)) (pe_and (pe_cmpR (op_eqF (hu100 hr)) (pe_fld (pv 0) rfl) (pe_fld (pv 1) rfl) (nomark _)) (pe_and (pe_cmpR (op_eqF (hu100 hr)) (pe_fld (pv 0) rfl) (pe_fld (pv 1) rfl) (nomark _)) (pe_one (pe_cmpR op_eq (pe_fld (pv 0) rfl) (pe_fld (pv 1) rfl) (nomark _))))))))), ?_⟩
  rcases hy with ⟨⟨t, ty, kt⟩, q⟩ | ⟨p', rows', h', tk', rfl, ht', hok', hdis, q⟩
  · exact ⟨_, rfl, _, _, _, _, false, rfl, .own C, ty, kt, false, rfl, iteF q⟩
  obtain ⟨dx, po, pp, pk, pt, o1, o2, o3, o4, o5, _⟩ := ht
  obtain ⟨dx', po', pp', pk', pt', w1, w2, w3, w4, w5, _⟩ := ht'
  refine ⟨_, rfl, _, _, _, _, true, rfl, .own C, .base (.ins w1 TCl.cl TIs.ha TIs.hn TIs.htk TIs.hm), by simp [PySem.W.kitOne], true, rfl, iteT ?_⟩
  refine ⟨_, rfl, p, C, dx, _, _, rfl, o1, TCl.cl, TCl.n_order, tf5_order, _, rfl, p', C, dx', _, _, rfl, w1, TCl.cl, TCl.n_order, tf5_order, ?_⟩
  have mem : ∀ {rs : List RowM}, RowsOk rs → ∀ r ∈ rs, NameOk r.name ∧ DuesOk r.dues ∧ PyData.canLay0 (.str r.above) = true := fun ok r hr => by
    obtain ⟨m, hm⟩ := List.mem_iff_getElem?.mp hr
    exact ⟨(ok m r hm).1, (ok m r hm).2.1, lay_above ok hm⟩
  have lays : ∀ {rs : List RowM}, RowsOk rs → ∀ x ∈ rs.map (·.name), PyData.canLay0 (.str x) = true := fun ok x hx => by
    obtain ⟨r, hr, rfl⟩ := List.mem_map.mp hx
    exact lay_name (mem ok r hr).1
  refine ⟨.list ((rows.map (·.name)).map .str), .list ((rows'.map (·.name)).map .str), .lst (SqL.of o2) ?_, .lst (SqL.of w2) ?_, shaped_strs (lays hok), shaped_strs (lays hok'), ?_⟩
  · have := dp_strs (K := K) (H := H) (rows.map (·.name))
    rw [List.map_map] at this
    exact this
  · have := dp_strs (K := K) (H := H) (rows'.map (·.name))
    rw [List.map_map] at this
    exact this
  rw [eqv_strL]
  unfold treeEqB at q
  by_cases en : rows.map (·.name) = rows'.map (·.name)
  · rw [decide_eq_true en]
    rw [decide_eq_true en, Bool.true_and] at q
    have el : rows.length = rows'.length := by
      have := congrArg List.length en
      simpa using this
    refine ⟨true, rfl, iteT ?_⟩
    refine ⟨_, rfl, p, C, dx, _, _, rfl, o1, TCl.cl, TCl.n_parents, tf5_parents, _, rfl, p', C, dx', _, _, rfl, w1, TCl.cl, TCl.n_parents, tf5_parents, ?_⟩
    have ndp : ((rows'.map fun r => ((Sum.inr r.name : Key), V.str r.above)).map (·.1)).Nodup := by
      have := names_nd hok' rows'.length
      rw [List.take_length] at this
      have := nodup_inr this
      rw [List.map_map] at this ⊢
      exact this
    refine ⟨pp, pp', _, _, _, 0, by decide, rfl, rfl, o3, w3, fun _ => hits_al ndp (p3_above en (fun r hr => (mem hok r hr).2.2) fun r hr => (mem hok' r hr).2.2) fun u hu => hu, ?_⟩
    rw [above_all el, List.length_map, List.length_map, el, beq_self_eq_true, Bool.true_and]
    by_cases ea : rows.map (·.above) = rows'.map (·.above)
    · rw [decide_eq_true ea]
      rw [decide_eq_true ea, Bool.true_and] at q
      refine ⟨true, rfl, iteT ?_⟩
      refine ⟨_, rfl, p, C, dx, _, _, rfl, o1, TCl.cl, TCl.n_table, tf5_table, _, rfl, p', C, dx', _, _, rfl, w1, TCl.cl, TCl.n_table, tf5_table, ?_⟩
      have ndt : (tk'.map (·.1)).Nodup := by
        rw [td_keys (fun _ _ z => z.1) w5]
        rw [List.map_map] at ndp
        exact ndp
      refine ⟨pt, pt', _, _, _, 1, by decide, rfl, rfl, o4, w4, fun _ => hits_al ndt (p3_table o5 w5 en (fun r hr => (mem hok r hr).2.1) (fun r hr => (mem hok' r hr).2.1) hdis) fun u hu => hu, ?_⟩
      rw [Paired.length o5, Paired.length w5, el, beq_self_eq_true, Bool.true_and]
      cases et : (List.zipWith (fun r r' => duesEqB (fullD r.dues) (fullD r'.dues)) rows rows').all id with
      | false =>
        rw [et, Bool.false_and] at q
        exact ⟨false, rfl, iteF q⟩
      | true =>
        rw [et, Bool.true_and] at q
        refine ⟨true, rfl, iteT ?_⟩
        refine ⟨_, rfl, p, C, dx, _, _, rfl, o1, TCl.cl, TCl.n_hands, tf5_hands, _, rfl, p', C, dx', _, _, rfl, w1, TCl.cl, TCl.n_hands, tf5_hands, rfl, ?_⟩
        have e : decide (V.bl h = V.bl h') = decide (h = h') := by
          by_cases c : h = h'
          · rw [c]
            simp
          · rw [decide_eq_false c, decide_eq_false fun z => c (V.bl.inj z)]
        show Q (.bl (decide (V.bl h = V.bl h'))) H
        rw [e]
        exact q
    · rw [decide_eq_false ea]
      rw [decide_eq_false ea, Bool.false_and] at q
      exact ⟨false, rfl, iteF q⟩
  · rw [decide_eq_false en]
    rw [decide_eq_false en, Bool.false_and] at q
    exact ⟨false, rfl, iteF q⟩
end
end Bd
end

section
namespace Bd
open PySem L2
def menu : List Str := ["a", "b", "c", "d", "e", "f", "g", "h", "k", "m", "pit", "shed", "tenletters", "zz"]
def spNames2 : Sp := fun vs H Q _ => ∃ (s : Addr) (m : Nat), vs = [.ref s, .int (m : Int)] ∧ Src H s ∧ m ≤ 12 ∧
  ∀ r H' (xs : List Str), H r = none → H' r = some (.lst (xs.map .str)) → xs.Nodup → (∀ x ∈ xs, x ∈ menu) → xs.length = m → Src H' s → Kept s H H' → Q (.ref r) H'
section
variable {P : Program} {w : World} {K : PySem.W.Frag} {mg : Str → Option Value} {base : Heap}
theorem src_ne {H : Hp} {p r : Addr} (h : Src H p) (hr : H r = none) : p ≠ r := by
  obtain ⟨_, _, _, h⟩ := h
  exact ne_of_none h hr
theorem src_new {H : Hp} {p r : Addr} {o : HO} (h : Src H p) (hr : H r = none) : Src (upd H r o) p := by
  have n := src_ne h hr
  obtain ⟨x, y, z, h⟩ := h
  exact ⟨x, y, z, by rw [upd_ne n]; exact h⟩
theorem src_upd {H : Hp} {p r : Addr} {o : HO} (h : Src H p) (hr : p ≠ r) : Src (upd H r o) p := by
  obtain ⟨x, y, z, h⟩ := h
  exact ⟨x, y, z, by rw [upd_ne hr]; exact h⟩
theorem seq_nat {k n : Nat} (h : k < n) : seqIndex? (k : Int) n = some k := by
  rw [seqIndex_of (by omega) (by omega)]
  rfl
theorem map_erase {α β : Type} (f : α → β) : ∀ (xs : List α) (i : Nat), (xs.map f).eraseIdx i = (xs.eraseIdx i).map f
  | [], _ => rfl
  | x :: xs, 0 => rfl
  | x :: xs, i + 1 => by
    rw [List.map_cons, List.eraseIdx_cons_succ, List.eraseIdx_cons_succ, List.map_cons, map_erase f xs i]
theorem perm_erase {α : Type} : ∀ (ys : List α) (k : Nat) (h : k < ys.length), (ys[k] :: ys.eraseIdx k).Perm ys
  | y :: ys, 0, _ => List.Perm.refl _
  | y :: ys, k + 1, h => by
    rw [List.eraseIdx_cons_succ, List.getElem_cons_succ]
    exact (List.Perm.swap _ _ _).trans ((perm_erase ys k (by simpa using h)).cons y)
end
end Bd
end

section
namespace Bd
open PySem L2
theorem full_val {dues : List (Str × PyData)} (h : ∀ x ∈ dues, ValOk x.1 x.2) : ∀ wd ∈ fullD dues, ValOk wd.1 wd.2 := by
  intro wd m
  unfold fullD at m
  obtain ⟨ld, hl, rfl⟩ := List.mem_map.mp m
  show ValOk ld.1 ((dueOf dues ld.1).getD ld.2)
  cases c : dueOf dues ld.1 with
  | none => exact (leftD_ok ld hl).2
  | some d => exact h _ (dueOf_mem c)
theorem rows_due {rows : List RowM} (h : RowsOk rows) : ∀ r ∈ rows, DuesOk r.dues := fun r hr => by
  obtain ⟨j, hj⟩ := List.mem_iff_getElem?.mp hr
  exact (h j r hj).2.1
theorem TreeAt.same {K : PySem.W.Frag} {H H' : Hp} {C p : Addr} {rows : List RowM} {h : Bool} {tk : List (Key × V)} (k : Same H H') (ok : RowsOk rows) (t : TreeAt K H C p rows h tk) : TreeAt K H' C p rows h tk := by
  obtain ⟨dx, po, pp, pk, pt, o1, o2, o3, o4, o5, ks, k1, k2, k3⟩ := t
  refine ⟨dx, po, pp, pk, pt, k _ _ o1, k _ _ o2, k _ _ o3, k _ _ o4, paired_monoM (fun kv r hr z => ?_) o5, ks, k _ _ k1, k2, fun kv hkv => ?_⟩
  · obtain ⟨z1, d, z2, kvs, z3, z4⟩ := z
    exact ⟨z1, d, z2, kvs, k _ _ z3, paired_monoM (fun kv wd hw z => ⟨z.1, (TK.of k).val (full_val (fun x hx => ((rows_due ok r hr).2 x hx).2) wd hw) z.2⟩) z4⟩
  · obtain ⟨l, e1, e2⟩ := k3 kv hkv
    exact ⟨l, e1, k _ _ e2⟩
theorem rows_same {K : PySem.W.Frag} {H H' : Hp} (k : Same H H') {xs : List V} {rows : List RowM} (h : Paired (RowAt K H) xs rows) : Paired (RowAt K H') xs rows := paired_mono (fun _ _ z => RowAt.same k z) h
theorem kids_flt (rows : List RowM) (x : Str) : kidsOf rows (Sum.inr x) = (rows.filter fun r => decide (r.above = x)).map (·.name) := by
  unfold kidsOf
  congr 1
  refine List.filter_congr fun r _ => ?_
  by_cases c : r.above = x
  · rw [decide_eq_true c, c]
    simp
  · rw [decide_eq_false c]
    exact decide_eq_false fun z => c (Sum.inr.inj z)
theorem dec_strs (a b : Str) : decide (V.str a = V.str b) = decide (a = b) := by
  by_cases c : a = b
  · rw [c]
    simp
  · rw [decide_eq_false c]
    exact decide_eq_false fun z => c (V.str.inj z)
theorem flt_take (f : RowM → Bool) {rows : List RowM} {i : Nat} {r : RowM} (h : rows[i]? = some r) : (((rows.take (i + 1)).filter f).map (·.name)).map V.str = (((rows.take i).filter f).map (·.name)).map V.str ++ (if f r = true then [V.str r.name] else []) := by
  rw [List.take_add_one, h, Option.toList_some, List.filter_append, List.map_append, List.map_append]
  cases z : f r with
  | true =>
    rw [List.filter_cons_of_pos z]
    rfl
  | false =>
    rw [List.filter_cons_of_neg (by rw [z]; decide)]
    rfl
theorem ne_self {xs ys : List Str} (e : xs = ys) : (!PyData.eqv (.list (xs.map .str)) (.list (ys.map .str))) = false := by
  rw [eqv_strL, decide_eq_true e]
  rfl
theorem dp_strL {K : PySem.W.Frag} {H : Hp} {a : Addr} {xs : List Str} (h : H a = some (.lst (xs.map V.str))) : Dp K H (.ref a) (.list (xs.map .str)) := .lst (SqL.of h) (dp_strs xs)
theorem lay_nms {rows : List RowM} (ok : RowsOk rows) : ∀ x ∈ nms rows, PyData.canLay0 (.str x) = true := fun x hx => by
  obtain ⟨r, hr, rfl⟩ := List.mem_map.mp hx
  obtain ⟨m, hm⟩ := List.mem_iff_getElem?.mp hr
  exact lay_name (ok m r hm).1
theorem kids_in (rows : List RowM) (k : Key) : ∀ x ∈ kidsOf rows k, x ∈ nms rows := fun x hx => by
  obtain ⟨r, hr, rfl⟩ := List.mem_map.mp hx
  exact List.mem_map.mpr ⟨r, (List.mem_filter.mp hr).1, rfl⟩
theorem leaves_in (rows : List RowM) : ∀ x ∈ leavesOf rows, x ∈ nms rows := fun x hx => by
  obtain ⟨r, hr, rfl⟩ := List.mem_map.mp hx
  exact List.mem_map.mpr ⟨r, (List.mem_filter.mp hr).1, rfl⟩
theorem same_upd2 {H : Hp} {a b : Addr} {o u : HO} (ha : H a = none) (hb : upd H a o b = none) : Same H (upd (upd H a o) b u) := Same.new (Same.new (Same.refl H) ha o) hb u
theorem none_of_same {H H' : Hp} {a : Addr} (s : Same H H') (h : H' a = none) : H a = none := s.free h
/-- a list that is not in H may be changed -/
theorem Same.ch {H H1 : Hp} {a : Addr} (s : Same H H1) (h : H a = none) (o : HO) : Same H (upd H1 a o) := fun b u e => by
  rw [upd_ne (ne_of_none e h)]
  exact s b u e
end Bd
end

section
namespace Am
theorem natCast_dvd' {d : Nat} {n : Int} : (d : Int) ∣ n ↔ d ∣ n.natAbs := by
  rw [← Int.natAbs_dvd_natAbs, Int.natAbs_natCast]
/-! ### sums of fractions in lowest terms -/
/-- what may be cancelled has something in common with `common` -/
def NC (top : Int) (bottom common : Nat) : Prop := ∀ d : Nat, d ∣ top.natAbs → d ∣ bottom → Nat.Coprime d common → d = 1
theorem nc_step {top : Int} {bottom common : Nat} {more : Int} {parts : Nat} (hb : 0 < bottom) (hp : 0 < parts) (h : NC top bottom common) (hq : Nat.Coprime more.natAbs parts) :
    NC (top * ((parts / Nat.gcd bottom parts : Nat) : Int) + more * ((bottom / Nat.gcd bottom parts : Nat) : Int)) (bottom * (parts / Nat.gcd bottom parts)) (common * Nat.gcd bottom parts) := by
  intro d h1 h2 h3
  have hg : 0 < Nat.gcd bottom parts := Nat.gcd_pos_of_pos_left _ hb
  generalize hs : Nat.gcd bottom parts = s at *
  have sb : s ∣ bottom := by rw [← hs]; exact Nat.gcd_dvd_left _ _
  have sp : s ∣ parts := by rw [← hs]; exact Nat.gcd_dvd_right _ _
  obtain ⟨b, rfl⟩ := sb
  obtain ⟨f, rfl⟩ := sp
  rw [Nat.mul_div_cancel_left _ hg, Nat.mul_div_cancel_left _ hg] at h1
  rw [Nat.mul_div_cancel_left _ hg] at h2
  have dc : Nat.Coprime d common := Nat.Coprime.coprime_dvd_right (Nat.dvd_mul_right _ _) h3
  have ds : Nat.Coprime d s := Nat.Coprime.coprime_dvd_right (Nat.dvd_mul_left _ _) h3
  -- d has nothing in common with f
  have df : Nat.Coprime d f := by
    show Nat.gcd d f = 1
    have e1 : Nat.gcd d f ∣ d := Nat.gcd_dvd_left _ _
    have e2 : Nat.gcd d f ∣ f := Nat.gcd_dvd_right _ _
    generalize Nat.gcd d f = e at e1 e2 ⊢
    have z1 : (e : Int) ∣ top * (f : Int) + more * (b : Int) := natCast_dvd'.mpr (Nat.dvd_trans e1 h1)
    have z2 : (e : Int) ∣ top * (f : Int) := Int.dvd_trans (Int.natCast_dvd_natCast.mpr e2) (Int.dvd_mul_left _ _)
    have z3 : (e : Int) ∣ more * (b : Int) := (Int.dvd_add_right z2).mp z1
    have z4 : e ∣ more.natAbs * b := by
      have := natCast_dvd'.mp z3
      rw [Int.natAbs_mul, Int.natAbs_natCast] at this
      exact this
    have em : Nat.Coprime e more.natAbs := Nat.Coprime.coprime_dvd_left e2 (Nat.Coprime.symm (Nat.Coprime.coprime_dvd_right (Nat.dvd_mul_left _ _) hq))
    have eb : e ∣ b := Nat.Coprime.dvd_of_dvd_mul_left em z4
    -- b and f have nothing in common
    have bf : Nat.Coprime b f := by
      have : Nat.gcd (s * b) (s * f) = s * 1 := by rw [hs, Nat.mul_one]
      rw [Nat.gcd_mul_left] at this
      exact Nat.eq_of_mul_eq_mul_left hg this
    have : e ∣ 1 := by
      have := Nat.dvd_gcd eb e2
      rw [bf] at this
      exact this
    exact Nat.dvd_one.mp this
  have d1 : d ∣ s * b := Nat.Coprime.dvd_of_dvd_mul_right df h2
  have d2 : d ∣ b := Nat.Coprime.dvd_of_dvd_mul_left ds d1
  have z1 : (d : Int) ∣ top * (f : Int) + more * (b : Int) := natCast_dvd'.mpr h1
  have z2 : (d : Int) ∣ more * (b : Int) := Int.dvd_trans (Int.natCast_dvd_natCast.mpr d2) (Int.dvd_mul_left _ _)
  have z3 : (d : Int) ∣ top * (f : Int) := (Int.dvd_add_left z2).mp z1
  have z4 : d ∣ top.natAbs * f := by
    have := natCast_dvd'.mp z3
    rw [Int.natAbs_mul, Int.natAbs_natCast] at this
    exact this
  exact h d (Nat.Coprime.dvd_of_dvd_mul_right df z4) d1 dc
theorem nc_self {top : Int} {bottom : Nat} : NC top bottom bottom := fun d _ h2 h3 => by
  have := Nat.dvd_gcd (Nat.dvd_refl d) h2
  rw [h3] at this
  exact Nat.dvd_one.mp this
theorem nc_down {top : Int} {bottom common s : Nat} (h : NC top bottom common) (h1 : (s : Int) ∣ top) (h2 : s ∣ bottom) : NC (top / (s : Int)) (bottom / s) common := fun d d1 d2 d3 => by
  refine h d (Nat.dvd_trans d1 ?_) (Nat.dvd_trans d2 (Nat.div_dvd_of_dvd h2)) d3
  obtain ⟨k, rfl⟩ := h1
  by_cases s0 : s = 0
  · subst s0
    simp
  · rw [Int.mul_ediv_cancel_left _ (by omega), Int.natAbs_mul]
    exact Nat.dvd_mul_left _ _
theorem nc_end {top : Int} {bottom common : Nat} (h : NC top bottom common) (e : Nat.gcd bottom (Nat.gcd top.natAbs common) = 1) : Nat.Coprime top.natAbs bottom := by
  refine h _ (Nat.gcd_dvd_left _ _) (Nat.gcd_dvd_right _ _) ?_
  show Nat.gcd (Nat.gcd top.natAbs bottom) common = 1
  rw [← e, Nat.gcd_comm top.natAbs bottom, Nat.gcd_assoc]
/-- one more -/
theorem mk_step {top more : Int} {bottom parts : Nat} (hb : 0 < bottom) (hp : 0 < parts) :
    mkRat (top * ((parts / Nat.gcd bottom parts : Nat) : Int) + more * ((bottom / Nat.gcd bottom parts : Nat) : Int)) (bottom * (parts / Nat.gcd bottom parts)) = mkRat top bottom + mkRat more parts := by
  have hg : 0 < Nat.gcd bottom parts := Nat.gcd_pos_of_pos_left _ hb
  generalize hs : Nat.gcd bottom parts = s at *
  have sb : s ∣ bottom := by rw [← hs]; exact Nat.gcd_dvd_left _ _
  have sp : s ∣ parts := by rw [← hs]; exact Nat.gcd_dvd_right _ _
  obtain ⟨b, rfl⟩ := sb
  obtain ⟨f, rfl⟩ := sp
  rw [Nat.mul_div_cancel_left _ hg, Nat.mul_div_cancel_left _ hg, Rat.mkRat_add_mkRat _ _ (by omega) (by omega)]
  have e1 : top * ((s * f : Nat) : Int) + more * ((s * b : Nat) : Int) = (top * (f : Int) + more * (b : Int)) * (s : Int) := by
    push_cast
    grind
  have e2 : s * b * (s * f) = s * b * f * s := by grind
  rw [e1, e2, Rat.mkRat_mul_right (by omega)]
theorem mk_low {n : Int} {d : Nat} (hd : 0 < d) (h : Nat.Coprime n.natAbs d) : (mkRat n d).num = n ∧ (mkRat n d).den = d := by
  have : mkRat n d = ⟨n, d, by omega, h⟩ := by
    rw [Rat.mk_eq_mkRat]
  rw [this]
  exact ⟨rfl, rfl⟩
theorem mk_self (q : Rat) : mkRat q.num q.den = q := Rat.mkRat_self q
theorem mk_div {n : Int} {d s : Nat} (hs : 0 < s) (h1 : (s : Int) ∣ n) (h2 : s ∣ d) : mkRat (n / (s : Int)) (d / s) = mkRat n d := by
  obtain ⟨k, rfl⟩ := h1
  obtain ⟨e, rfl⟩ := h2
  rw [Int.mul_ediv_cancel_left _ (by omega), Nat.mul_div_cancel_left _ hs, Int.mul_comm, Nat.mul_comm, Rat.mkRat_mul_right (by omega)]
end Am
namespace Am
theorem nonneg_num {n : Int} {d : Nat} (hd : 0 < d) (h : 0 ≤ mkRat n d) : 0 ≤ n := by
  rw [← Rat.divInt_ofNat] at h
  exact (Rat.divInt_nonneg_iff_of_pos_right (by omega)).mp h
theorem nat_num {q : Rat} (h : 0 ≤ q) : q.num = ((q.num.natAbs : Nat) : Int) := by
  have := Rat.num_nonneg.mpr h
  omega
/-- products: what stands across is cancelled first -/
theorem mul_low {a b c d : Nat} (hb : 0 < b) (hd : 0 < d) (h1 : Nat.Coprime a b) (h2 : Nat.Coprime c d) :
    (mkRat ((a / Nat.gcd a d : Nat) * (c / Nat.gcd c b : Nat) : Nat) ((b / Nat.gcd c b) * (d / Nat.gcd a d)) = mkRat (a : Nat) b * mkRat (c : Nat) d) ∧
    Nat.Coprime ((a / Nat.gcd a d) * (c / Nat.gcd c b)) ((b / Nat.gcd c b) * (d / Nat.gcd a d)) ∧ 0 < (b / Nat.gcd c b) * (d / Nat.gcd a d) := by
  have hf : 0 < Nat.gcd a d := Nat.gcd_pos_of_pos_right _ hd
  have hs : 0 < Nat.gcd c b := Nat.gcd_pos_of_pos_right _ hb
  have k1 : Nat.Coprime (a / Nat.gcd a d) (d / Nat.gcd a d) := Nat.coprime_div_gcd_div_gcd hf
  have k2 : Nat.Coprime (c / Nat.gcd c b) (b / Nat.gcd c b) := Nat.coprime_div_gcd_div_gcd hs
  have k3 : Nat.Coprime (a / Nat.gcd a d) (b / Nat.gcd c b) := Nat.Coprime.coprime_div_left (Nat.Coprime.coprime_div_right h1 (Nat.gcd_dvd_right _ _)) (Nat.gcd_dvd_left _ _)
  have k4 : Nat.Coprime (c / Nat.gcd c b) (d / Nat.gcd a d) := Nat.Coprime.coprime_div_left (Nat.Coprime.coprime_div_right h2 (Nat.gcd_dvd_right _ _)) (Nat.gcd_dvd_left _ _)
  have p1 : 0 < b / Nat.gcd c b := Nat.div_pos (Nat.le_of_dvd hb (Nat.gcd_dvd_right _ _)) hs
  have p2 : 0 < d / Nat.gcd a d := Nat.div_pos (Nat.le_of_dvd hd (Nat.gcd_dvd_right _ _)) hf
  refine ⟨?_, Nat.Coprime.mul_left (Nat.Coprime.mul_right k3 k1) (Nat.Coprime.mul_right k2 k4), Nat.mul_pos p1 p2⟩
  rw [Rat.mkRat_mul_mkRat]
  have ea := Nat.div_mul_cancel (Nat.gcd_dvd_left a d)
  have ed := Nat.div_mul_cancel (Nat.gcd_dvd_right a d)
  have ec := Nat.div_mul_cancel (Nat.gcd_dvd_left c b)
  have eb := Nat.div_mul_cancel (Nat.gcd_dvd_right c b)
  generalize a / Nat.gcd a d = a1 at *
  generalize d / Nat.gcd a d = d1 at *
  generalize c / Nat.gcd c b = c1 at *
  generalize b / Nat.gcd c b = b1 at *
  generalize Nat.gcd a d = f at *
  generalize Nat.gcd c b = s at *
  have e1 : ((a : Nat) : Int) * ((c : Nat) : Int) = ((a1 * c1 : Nat) : Int) * ((f * s : Nat) : Int) := by
    rw [← ea, ← ec]
    push_cast
    grind
  have e2 : b * d = b1 * d1 * (f * s) := by
    rw [← eb, ← ed]
    grind
  rw [e1, e2, Rat.mkRat_mul_right (Nat.pos_iff_ne_zero.mp (Nat.mul_pos hf hs))]
theorem inv_low {q : Rat} (h : 0 < q) : (q⁻¹).num = (q.den : Int) ∧ (q⁻¹).den = q.num.natAbs := by
  have hn : 0 < q.num := by
    have h1 := Rat.num_nonneg.mpr (Rat.le_of_lt h)
    rcases Int.lt_or_eq_of_le h1 with z | z
    · exact z
    · exact absurd (Rat.num_eq_zero.mp z.symm) (fun e => by rw [e] at h; exact absurd h (by decide))
  refine ⟨?_, ?_⟩
  · rw [Rat.num_inv, Int.sign_eq_one_of_pos hn, Int.one_mul]
  · rw [Rat.den_inv, if_neg (by omega)]
/-- sums in the order of a list -/
def sumQ (qs : List Rat) : Rat := qs.foldl (· + ·) 0
theorem sum_snoc (qs : List Rat) (q : Rat) : sumQ (qs ++ [q]) = sumQ qs + q := by
  unfold sumQ
  rw [List.foldl_append]
  rfl
theorem top_step {top more : Int} {bottom parts S i : Nat} (hb : 0 < bottom) (h1 : top.natAbs ≤ S * i * bottom) (h2 : more.natAbs ≤ S * parts) :
    (top * ((parts / Nat.gcd bottom parts : Nat) : Int) + more * ((bottom / Nat.gcd bottom parts : Nat) : Int)).natAbs ≤ S * (i + 1) * (bottom * (parts / Nat.gcd bottom parts)) := by
  have eb := Nat.div_mul_cancel (Nat.gcd_dvd_left bottom parts)
  have ep := Nat.div_mul_cancel (Nat.gcd_dvd_right bottom parts)
  generalize bottom / Nat.gcd bottom parts = b at *
  generalize parts / Nat.gcd bottom parts = f at *
  generalize Nat.gcd bottom parts = s at *
  refine Nat.le_trans (Int.natAbs_add_le _ _) ?_
  rw [Int.natAbs_mul, Int.natAbs_mul, Int.natAbs_natCast, Int.natAbs_natCast]
  have g1 : top.natAbs * f ≤ S * i * bottom * f := Nat.mul_le_mul_right _ h1
  have g2 : more.natAbs * b ≤ S * parts * b := Nat.mul_le_mul_right _ h2
  have e : S * (i + 1) * (bottom * f) = S * i * bottom * f + S * parts * b := by
    rw [← ep, ← eb]
    grind
  omega
theorem lcm_dvd' {bottom parts M : Nat} (h1 : bottom ∣ M) (h2 : parts ∣ M) : bottom * (parts / Nat.gcd bottom parts) ∣ M := by
  have := Nat.lcm_dvd h1 h2
  unfold Nat.lcm at this
  rw [Nat.mul_div_assoc _ (Nat.gcd_dvd_right _ _)] at this
  exact this
end Am
end

section
namespace Bd
open PySem L2 Am
open Evl hiding tCut pss_cut
abbrev sTotal : Stmt := (top 13)
theorem scTotal : FnScope ["amounts", "top", "bottom", "common", "more", "parts", "same", "finer"] ["amounts"] (defScope sTotal) := ⟨rfl, rfl, rfl, by decide +kernel, rfl, by decide +kernel, by decide +kernel⟩
abbrev sCancelled : Stmt := (top 14)
theorem scCancelled : FnScope ["top", "bottom", "common", "same"] ["top", "bottom", "common"] (defScope sCancelled) := ⟨rfl, rfl, rfl, by decide +kernel, rfl, by decide +kernel, by decide +kernel⟩
abbrev sPlus : Stmt := (top 15)
theorem scPlus : FnScope ["one", "other"] ["one", "other"] (defScope sPlus) := ⟨rfl, rfl, rfl, by decide +kernel, rfl, by decide +kernel, by decide +kernel⟩
abbrev sMinus : Stmt := (top 16)
theorem scMinus : FnScope ["one", "other"] ["one", "other"] (defScope sMinus) := ⟨rfl, rfl, rfl, by decide +kernel, rfl, by decide +kernel, by decide +kernel⟩
abbrev sTimes : Stmt := (top 17)
theorem scTimes : FnScope ["one", "other", "first", "second"] ["one", "other"] (defScope sTimes) := ⟨rfl, rfl, rfl, by decide +kernel, rfl, by decide +kernel, by decide +kernel⟩
abbrev sOver : Stmt := (top 18)
theorem scOver : FnScope ["one", "other"] ["one", "other"] (defScope sOver) := ⟨rfl, rfl, rfl, by decide +kernel, rfl, by decide +kernel, by decide +kernel⟩
abbrev sIsLess : Stmt := (top 19)
theorem scIsLess : FnScope ["one", "other"] ["one", "other"] (defScope sIsLess) := ⟨rfl, rfl, rfl, by decide +kernel, rfl, by decide +kernel, by decide +kernel⟩
abbrev sLesser : Stmt := (top 20)
theorem scLesser : FnScope ["one", "other"] ["one", "other"] (defScope sLesser) := ⟨rfl, rfl, rfl, by decide +kernel, rfl, by decide +kernel, by decide +kernel⟩

structure TMn (mg : Str → Option Value) : Prop where
  z_min : mg "min" = none
/-- an amount as it stands: a pair in lowest terms -/
def AmtQ (K : PySem.W.Frag) (H : Hp) (v : V) (q : Rat) : Prop := ∃ a, v = .ref a ∧ SqT K H a [.int q.num, .int (q.den : Int)]
theorem AmtQ.same {K : PySem.W.Frag} {H H' : Hp} {v : V} {q : Rat} (s : Same H H') (h : AmtQ K H v q) : AmtQ K H' v q := by
  obtain ⟨a, e, h⟩ := h
  exact ⟨a, e, Same.seqT s h⟩
theorem AmtQ.tk {K : PySem.W.Frag} {H H' : Hp} {v : V} {q : Rat} (s : TK H H') (h : AmtQ K H v q) : AmtQ K H' v q := by
  obtain ⟨a, e, h⟩ := h
  exact ⟨a, e, s.seqT h⟩
def spCanc (K : PySem.W.Frag) : Sp := fun vs H Q _ => ∃ n d c : Nat, vs = [.int (n : Int), .int (d : Int), .int (c : Int)] ∧ 0 < d ∧ n < 2 ^ 3000 ∧ d < 2 ^ 3000 ∧ c < 2 ^ 3000 ∧ NC (n : Int) d c ∧ ∀ v H', Same H H' → AmtQ K H' v (mkRat (n : Int) d) → Q v H'
def spTotal (K : PySem.W.Frag) : Sp := fun vs H Q _ => ∃ (l : Addr) (ws : List V) (qs : List Rat) (M S : Nat), vs = [.ref l] ∧ SqL K H l ws ∧ Paired (AmtQ K H) ws qs ∧ 0 < M ∧ M < 2 ^ 3000 ∧ S * qs.length * M < 2 ^ 3000 ∧ (∀ q ∈ qs, q.den ∣ M ∧ q.num.natAbs ≤ S * q.den) ∧ 0 ≤ sumQ qs ∧ ∀ v H', Same H H' → AmtQ K H' v (sumQ qs) → Q v H'
def spPlus (K : PySem.W.Frag) : Sp := fun vs H Q _ => ∃ (va vb : V) (a b : Rat) (M S : Nat), vs = [va, vb] ∧ AmtQ K H va a ∧ AmtQ K H vb b ∧ 0 < M ∧ M < 2 ^ 3000 ∧ S * 2 * M < 2 ^ 3000 ∧ (a.den ∣ M ∧ a.num.natAbs ≤ S * a.den) ∧ (b.den ∣ M ∧ b.num.natAbs ≤ S * b.den) ∧ 0 ≤ a + b ∧ ∀ v H', Same H H' → AmtQ K H' v (a + b) → Q v H'
def spMinus (K : PySem.W.Frag) : Sp := fun vs H Q _ => ∃ (va vb : V) (a b : Rat) (M S : Nat), vs = [va, vb] ∧ AmtQ K H va a ∧ AmtQ K H vb b ∧ 0 < M ∧ M < 2 ^ 3000 ∧ S * 2 * M < 2 ^ 3000 ∧ (a.den ∣ M ∧ a.num.natAbs ≤ S * a.den) ∧ (b.den ∣ M ∧ b.num.natAbs ≤ S * b.den) ∧ b ≤ a ∧ ∀ v H', Same H H' → AmtQ K H' v (a - b) → Q v H'
/-- short enough for one divisor -/
def Sz (q : Rat) : Prop := q.num.natAbs < 2 ^ 3000 ∧ q.den < 2 ^ 3000
def spTimes (K : PySem.W.Frag) : Sp := fun vs H Q _ => ∃ (va vb : V) (a b : Rat), vs = [va, vb] ∧ AmtQ K H va a ∧ AmtQ K H vb b ∧ Sz a ∧ Sz b ∧ 0 ≤ a ∧ 0 ≤ b ∧ ∀ v H', Same H H' → AmtQ K H' v (a * b) → Q v H'
def spOver (K : PySem.W.Frag) : Sp := fun vs H Q _ => ∃ (va vb : V) (a b : Rat), vs = [va, vb] ∧ AmtQ K H va a ∧ AmtQ K H vb b ∧ Sz a ∧ Sz b ∧ 0 ≤ a ∧ 0 < b ∧ ∀ v H', Same H H' → AmtQ K H' v (a / b) → Q v H'
def spLess (K : PySem.W.Frag) : Sp := fun vs H Q _ => ∃ (va vb : V) (a b : Rat), vs = [va, vb] ∧ AmtQ K H va a ∧ AmtQ K H vb b ∧ Sz a ∧ Sz b ∧ ∀ H', Same H H' → Q (.bl (decide (a < b))) H'
def spLesser (K : PySem.W.Frag) : Sp := fun vs H Q _ => ∃ (va vb : V) (a b : Rat), vs = [va, vb] ∧ AmtQ K H va a ∧ AmtQ K H vb b ∧ Sz a ∧ Sz b ∧ ∀ H', Same H H' → Q (if b < a then vb else va) H'
theorem log_lt {n : Nat} (h : n < 2 ^ 3000) : n.log2 < 3000 := by
  by_cases e : n = 0
  · subst e
    decide
  · exact (Nat.log2_lt e).mpr h
theorem log_ltI {n : Int} (h : n.natAbs < 2 ^ 3000) : n.natAbs.log2 < 3000 := log_lt h
theorem div_nat (a b : Nat) : ((a : Int) / (b : Int)) = ((a / b : Nat) : Int) := (Int.natCast_ediv a b).symm
theorem q_par {σ : L2.St} {H : Hp} {ta : L2.TA} {x y : V} {D : Ends} {tz : TS} {i j : Nat} (h : EvA ta σ H [x, y]) (k : ∀ H1, Ex H H1 → tz D ((σ.set i (some x)).set j (some y)) H1) : tSeq (tPar i j ta) tz D σ H :=
  h H (Ex.refl H) _ fun H1 e => ⟨_, _, rfl, k H1 e⟩
theorem ev_gcd {σ : L2.St} {H : Hp} {ta tb : TE} {a b : Nat} (h1 : Ev ta σ H (.int (a : Int))) (h2 : Ev tb σ H (.int (b : Int))) (ha : a < 2 ^ 3000) (hb : b < 2 ^ 3000) : Ev (tCall spDivisor [] E0 (tCons ta (tCons tb tNil))) σ H (.int ((Nat.gcd a b : Nat) : Int)) :=
  ev_call (vs := [.int (a : Int), .int (b : Int)]) (ea_cons h1 (ea_cons h2 ea_nil)) fun H3 e3 Q3 k3 E3 => ⟨a, b, rfl, ha, hb, k3 H3 (Ex.refl H3)⟩
theorem rv_div {H : Hp} {a b : Nat} (hb : 0 < b) (h : b < 2 ^ 3000) : RV (rI CDivW fun i j => V.int (i / j)) (.int (a : Int)) (.int (b : Int)) H (.int ((a / b : Nat) : Int)) := by
  rw [← div_nat]
  exact rv_I ⟨by omega, by have := log_lt h; rw [Int.natAbs_natCast]; omega⟩
section
variable {P : Program} {w : World} {K : PySem.W.Frag} {mg : Str → Option Value} {base : Heap}
theorem gcd_lt {a b : Nat} (hb : 0 < b) (h : b < 2 ^ 3000) : Nat.gcd a b < 2 ^ 3000 := Nat.lt_of_le_of_lt (Nat.gcd_le_right a hb) h
theorem ok_canc {f g : Addr} {fd gd : FuncData} (F : Fun K "cancelled" "cancelled" sCancelled f fd) (cD : Cal P w K mg base "divisor" ["one", "other"] 1 spDivisor g gd) : FnOk P w K mg base CX0 2 f fd ["top", "bottom", "common"] (spCanc K) := by
  refine F.ok scCancelled (fun vs H Q E h => ?_) (fun cdv A outer s H vs Q E hr h => ?_)
  · obtain ⟨n, d, c, rfl, _⟩ := h
    rfl
  obtain ⟨n, d, c, rfl, d0, hn, hd, hc, nc, q⟩ := h
  refine ⟨_, (pss_cons (ps_if (pt_cmpR op_eq (pv 2) (pv 1) (nomark _)) (pss_cons (ps_set (i := 3) scCancelled.nd rfl (Or.inl rfl) (pe_call cD.ok (hr.mono (by decide)) rfl cD.mg cD.kp cD.bd .nil pass0 (pa_cons (pv 0) (pa_cons (pv 1) pa_nil)))) (pss_one (ps_ret (pe_tup (pa_cons (pe_op op_fdivW (pv 0) (pv 3)) (pa_cons (pe_op op_fdivW (pv 1) (pv 3)) pa_nil)))))) pss_nil) (pss_cons (ps_set (i := 3) scCancelled.nd rfl (Or.inl rfl) (pe_call cD.ok (hr.mono (by decide)) rfl cD.mg cD.kp cD.bd .nil pass0 (pa_cons (pv 1) (pa_cons (pe_call cD.ok (hr.mono (by decide)) rfl cD.mg cD.kp cD.bd .nil pass0 (pa_cons (pv 0) (pa_cons (pv 2) pa_nil))) pa_nil)))) (pss_cons (ps_while PassesOwn.never (pt_cmpR op_gt (pv 3) pe_int (nomark _)) (pss_cons (ps_par (i := 0) (j := 1) (by rfl) scCancelled.nd rfl rfl (by decide) rfl rfl (pa_cons (pe_op op_fdivW (pv 0) (pv 3)) (pa_cons (pe_op op_fdivW (pv 1) (pv 3)) pa_nil)) (by rfl)) (pss_one (ps_set (i := 3) scCancelled.nd rfl (Or.inl rfl) (pe_call cD.ok (hr.mono (by decide)) rfl cD.mg cD.kp cD.bd .nil pass0 (pa_cons (pv 1) (pa_cons (pe_call cD.ok (hr.mono (by decide)) rfl cD.mg cD.kp cD.bd .nil pass0 (pa_cons (pv 0) (pa_cons (pv 2) pa_nil))) pa_nil))))))) (pss_one (ps_ret (pe_tup (pa_cons (pv 0) (pa_cons (pv 1) pa_nil)))))))), ?_⟩
  refine q_when (b := decide (c = d)) (et_is (et_test (ev_op (ev_var rfl) (ev_var rfl) (rv_eq rfl))) ?_) (fun hb H1 e1 => ?_) fun hb H1 e1 => ?_
  · by_cases e : c = d
    · rw [e]
      simp
    · rw [decide_eq_false e]
      exact decide_eq_false fun z => e (by have := V.int.inj z; omega)
  · have e := of_decide_eq_true hb
    subst e
    have hg := Nat.gcd_pos_of_pos_right n d0
    refine q_asg (ev_gcd (ev_var rfl) (ev_var rfl) hn hd) fun H2 e2 => ?_
    refine s_retU (eu_tup (ea_cons (ev_op (ev_var rfl) (ev_var rfl) (rv_div hg (gcd_lt d0 hd))) (ea_cons (ev_op (ev_var rfl) (ev_var rfl) (rv_div hg (gcd_lt d0 hd))) ea_nil)) (by show 2 ≤ 100000; decide)) fun p H3 _ e3 f => ?_
    have hk : Nat.Coprime (n / Nat.gcd n c) (c / Nat.gcd n c) := Nat.coprime_div_gcd_div_gcd hg
    have hm : mkRat ((n / Nat.gcd n c : Nat) : Int) (c / Nat.gcd n c) = mkRat (n : Int) c := by
      rw [← div_nat]
      exact mk_div hg (Int.natCast_dvd_natCast.mpr (Nat.gcd_dvd_left _ _)) (Nat.gcd_dvd_right _ _)
    obtain ⟨z1, z2⟩ := mk_low (n := ((n / Nat.gcd n c : Nat) : Int)) (Nat.div_pos (Nat.le_of_dvd d0 (Nat.gcd_dvd_right _ _)) hg) (by rw [Int.natAbs_natCast]; exact hk)
    rw [hm] at z1 z2
    refine q _ H3 (Same.trans (Same.trans e1 e2) e3) ⟨p, rfl, ?_⟩
    rw [z1, z2]
    exact SqT.of f
  · refine q_asg (ev_gcd (b := Nat.gcd n c) (ev_var rfl) (ev_gcd (ev_var rfl) (ev_var rfl) hn hc) hd ?_) fun H2 e2 => ?_
    · by_cases c0 : c = 0
      · rw [c0, Nat.gcd_zero_right]
        exact hn
      · exact gcd_lt (by omega) hc
    refine q_while (fun m σ G => ∃ n' d' : Nat, σ = [some (.int (n' : Int)), some (.int (d' : Int)), some (.int (c : Int)), some (.int ((Nat.gcd d' (Nat.gcd n' c) : Nat) : Int))] ∧ Same H G ∧ m = d' ∧ 0 < d' ∧ n' < 2 ^ 3000 ∧ d' < 2 ^ 3000 ∧ NC (n' : Int) d' c ∧ mkRat (n' : Int) d' = mkRat (n : Int) d)
      d ⟨n, d, rfl, Same.trans e1 e2, rfl, d0, hn, hd, nc, rfl⟩ ?_
    rintro m σ G ⟨n', d', rfl, sG, rfl, d0', hn', hd', nc', em⟩
    have hg : 0 < Nat.gcd m (Nat.gcd n' c) := Nat.gcd_pos_of_pos_left _ d0'
    have hs : Nat.gcd m (Nat.gcd n' c) ≤ m := Nat.gcd_le_left _ d0'
    have dv1 : Nat.gcd m (Nat.gcd n' c) ∣ n' := Nat.dvd_trans (Nat.gcd_dvd_right _ _) (Nat.gcd_dvd_left _ _)
    have dv2 : Nat.gcd m (Nat.gcd n' c) ∣ m := Nat.gcd_dvd_left _ _
    refine ⟨decide (1 < Nat.gcd m (Nat.gcd n' c)), et_is (et_test (ev_op (ev_var rfl) ev_c rv_I0)) ?_, fun hb H1 e1 => ?_, fun hb H1 e1 => ?_⟩
    · exact decide_eq_decide.mpr (by omega)
    · have h1 := of_decide_eq_true hb
      refine ⟨fun σ2 H2 => ∃ m', m' < m ∧ ∃ n' d' : Nat, σ2 = [some (.int (n' : Int)), some (.int (d' : Int)), some (.int (c : Int)), some (.int ((Nat.gcd d' (Nat.gcd n' c) : Nat) : Int))] ∧ Same H H2 ∧ m' = d' ∧ 0 < d' ∧ n' < 2 ^ 3000 ∧ d' < 2 ^ 3000 ∧ NC (n' : Int) d' c ∧ mkRat (n' : Int) d' = mkRat (n : Int) d, fun _ _ h => h, ?_⟩
      generalize hgs : Nat.gcd m (Nat.gcd n' c) = s at *
      have k0 : 0 < m / s := Nat.div_pos hs hg
      have k1 : n' / s < 2 ^ 3000 := Nat.lt_of_le_of_lt (Nat.div_le_self _ _) hn'
      have k2 : m / s < 2 ^ 3000 := Nat.lt_of_le_of_lt (Nat.div_le_self _ _) hd'
      refine q_par (ea_cons (ev_op (ev_var rfl) (ev_var rfl) (rv_div hg (by omega))) (ea_cons (ev_op (ev_var rfl) (ev_var rfl) (rv_div hg (by omega))) ea_nil)) fun H2 e2 => ?_
      refine s_asg (ev_gcd (b := Nat.gcd (n' / s) c) (ev_var rfl) (ev_gcd (ev_var rfl) (ev_var rfl) k1 hc) k2 ?_) fun H3 e3 => ?_
      · by_cases c0 : c = 0
        · rw [c0, Nat.gcd_zero_right]
          exact k1
        · exact gcd_lt (by omega) hc
      refine ⟨m / s, Nat.div_lt_self d0' h1, n' / s, m / s, rfl, ((sG.trans e1).trans e2).trans e3, rfl, k0, k1, k2, ?_, ?_⟩
      · have := nc_down nc' (Int.natCast_dvd_natCast.mpr dv1) dv2
        rw [div_nat] at this
        exact this
      · rw [← em, ← div_nat]
        exact mk_div hg (Int.natCast_dvd_natCast.mpr dv1) dv2
    · have h1 : ¬ 1 < Nat.gcd m (Nat.gcd n' c) := of_decide_eq_false hb
      have hk := nc_end nc' (by rw [Int.natAbs_natCast]; omega)
      obtain ⟨z1, z2⟩ := mk_low d0' hk
      rw [em] at z1 z2
      refine s_retU (eu_tup (ea_cons (ev_var rfl) (ea_cons (ev_var rfl) ea_nil)) (by show 2 ≤ 100000; decide)) fun p H3 _ e3 f => ?_
      refine q _ H3 ((sG.trans e1).trans e3) ⟨p, rfl, ?_⟩
      rw [z1, z2]
      exact SqT.of f
theorem ok_total {f g h : Addr} {fd gd hd : FuncData} (F : Fun K "total" "total" sTotal f fd) (Tm : TMn mg) (cD : Cal P w K mg base "divisor" ["one", "other"] 1 spDivisor g gd) (cC : Cal P w K mg base "cancelled" ["top", "bottom", "common"] 2 (spCanc K) h hd) : FnOk P w K mg base CX0 3 f fd ["amounts"] (spTotal K) := by
  refine F.ok scTotal (fun vs H Q E h => ?_) (fun cdv A outer s H vs Q E hr h => ?_)
  · obtain ⟨l, ws, qs, M, S, rfl, _⟩ := h
    rfl
  obtain ⟨l, ws, qs, M, S, rfl, hl, hq, M0, hM, hS, hd, s0, q⟩ := h
  refine ⟨_, (pss_cons (ps_asg (pe_tup (pa_cons pe_int (pa_cons pe_int (pa_cons pe_int pa_nil)))) (pg_tup (by rfl) (pgs_cons (pg_name (i := 1) scTotal.nd rfl (Or.inl rfl)) (pgs_cons (pg_name (i := 2) scTotal.nd rfl (Or.inl rfl)) (pgs_cons (pg_name (i := 3) scTotal.nd rfl (Or.inl rfl)) pgs_nil))))) (pss_cons (ps_for PassesOwn.never rfl (pi_list (pv 0)) (pg_tup (by rfl) (pgs_cons (pg_name (i := 4) scTotal.nd rfl (Or.inl rfl)) (pgs_cons (pg_name (i := 5) scTotal.nd rfl (Or.inl rfl)) pgs_nil))) (pss_cons (ps_set (i := 6) scTotal.nd rfl (Or.inl rfl) (pe_call cD.ok (hr.mono (by decide)) rfl cD.mg cD.kp cD.bd .nil pass0 (pa_cons (pv 2) (pa_cons (pv 5) pa_nil)))) (pss_cons (ps_set (i := 7) scTotal.nd rfl (Or.inl rfl) (pe_op op_fdivW (pv 5) (pv 6))) (pss_cons (ps_set (i := 1) scTotal.nd rfl (Or.inl rfl) (pe_op op_add (pe_op op_mulW (pv 1) (pv 7)) (pe_op op_mulW (pv 4) (pe_op op_fdivW (pv 2) (pv 6))))) (pss_cons (ps_set (i := 2) scTotal.nd rfl (Or.inl rfl) (pe_op op_mulW (pv 2) (pv 7))) (pss_one (ps_set (i := 3) scTotal.nd rfl (Or.inl rfl) (pe_callB (call_min2 rfl) (by rfl) Tm.z_min (by decide +kernel) (pa_cons (pe_op op_mulW (pv 3) (pv 6)) (pa_cons (pv 2) pa_nil)))))))))) (pss_one (ps_ret (pe_call cC.ok (hr.mono (by decide)) rfl cC.mg cC.kp cC.bd .nil pass0 (pa_cons (pv 1) (pa_cons (pv 2) (pa_cons (pv 3) pa_nil)))))))), ?_⟩
  refine ⟨by show 3 ≤ sizeLine; decide, fun tp htp => ⟨tp, _, rfl, SqT.of upd_same, rfl, _, _, rfl, _, _, rfl, _, _, rfl, rfl, ?_⟩⟩
  have s1 := Same.new (Same.refl H) htp (.tup [.int 0, .int 1, .int 1])
  generalize upd H tp (.tup [.int 0, .int 1, .int 1]) = H1 at s1 ⊢
  have hwl := Paired.length hq
  dsimp only
  refine q_forL (ev_var rfl) (Same.seq s1 hl) (fun i σ G => ∃ (top : Int) (bottom common : Nat) (o4 o5 o6 o7 : Option V), σ = [some (.ref l), some (.int top), some (.int (bottom : Int)), some (.int (common : Int)), o4, o5, o6, o7] ∧ Same H1 G ∧ 0 < bottom ∧ NC top bottom common ∧ mkRat top bottom = sumQ (qs.take i) ∧ bottom ∣ M ∧ top.natAbs ≤ S * i * bottom ∧ common ≤ bottom)
    (fun G e => ⟨0, 1, 1, _, _, _, _, rfl, e, by decide, nc_self, by rw [List.take_zero]; rfl, Nat.one_dvd _, by simp, Nat.le_refl _⟩) ?_ ?_ ?_
  · rintro i σ G _ ⟨_, _, _, _, _, _, _, rfl, e, _⟩
    exact Same.seq (s1.trans e) hl
  · rintro i x σ G hx ⟨top, bottom, common, o4, o5, o6, o7, rfl, sG, b0, nc, em, bM, ht, hcb⟩
    obtain ⟨r, hr1, a, rfl, ha⟩ := paired_get hq hx
    have hrm := List.mem_of_getElem? hr1
    obtain ⟨rM, rS⟩ := hd r hrm
    have hi : i < qs.length := (List.getElem?_eq_some_iff.mp hr1).1
    have r0 : 0 < r.den := r.den_pos
    have rl : r.den < 2 ^ 3000 := Nat.lt_of_le_of_lt (Nat.le_of_dvd M0 rM) hM
    have bl : bottom < 2 ^ 3000 := Nat.lt_of_le_of_lt (Nat.le_of_dvd M0 bM) hM
    have hg : 0 < Nat.gcd bottom r.den := Nat.gcd_pos_of_pos_left _ b0
    have gl : Nat.gcd bottom r.den < 2 ^ 3000 := gcd_lt r0 rl
    have ht2 := top_step b0 ht rS (parts := r.den)
    have nc2 := nc_step b0 r0 nc r.reduced
    have em2 := mk_step (top := top) (more := r.num) b0 r0
    have bM2 := lcm_dvd' bM rM
    have big : ∀ {k : Nat} {b : Nat}, k ≤ qs.length → b ∣ M → S * k * b < 2 ^ 3000 := fun {k b} hk hb => Nat.lt_of_le_of_lt (Nat.mul_le_mul (Nat.mul_le_mul_left _ hk) (Nat.le_of_dvd M0 hb)) hS
    have tl : top.natAbs < 2 ^ 3000 := Nat.lt_of_le_of_lt ht (big (by omega) bM)
    have nl : r.num.natAbs < 2 ^ 3000 := by
      have := big (k := 1) (by omega) rM
      rw [Nat.mul_one] at this
      omega
    refine ⟨a, _, rfl, Same.seqT (s1.trans sG) ha, rfl, _, _, rfl, _, _, rfl, rfl, ?_⟩
    refine q_asg (ev_gcd (ev_var rfl) (ev_var rfl) bl rl) fun G1 e1 => ?_
    refine q_asg (ev_op (ev_var rfl) (ev_var rfl) (rv_div hg gl)) fun G2 e2 => ?_
    have fl : r.den / Nat.gcd bottom r.den < 2 ^ 3000 := Nat.lt_of_le_of_lt (Nat.div_le_self _ _) rl
    have dl : bottom / Nat.gcd bottom r.den < 2 ^ 3000 := Nat.lt_of_le_of_lt (Nat.div_le_self _ _) bl
    have cm : ∀ {i j : Int}, i.natAbs < 2 ^ 3000 → j.natAbs < 2 ^ 3000 → CMulW i j := fun {i j} h1 h2 => by
      have := log_ltI h1
      have := log_ltI h2
      show i.natAbs.log2 + j.natAbs.log2 < 1000000
      omega
    refine q_asg (v := .int (top * ((r.den / Nat.gcd bottom r.den : Nat) : Int) + r.num * ((bottom / Nat.gcd bottom r.den : Nat) : Int))) (ev_op (ev_op (ev_var rfl) (ev_var rfl) (rv_I (cm tl (by rw [Int.natAbs_natCast]; exact fl)))) (ev_op (ev_var rfl) (ev_op (ev_var rfl) (ev_var rfl) (rv_div hg gl)) (rv_I (cm nl (by rw [Int.natAbs_natCast]; exact dl)))) rv_I0) fun G3 e3 => ?_
    refine q_asg (v := .int ((bottom * (r.den / Nat.gcd bottom r.den) : Nat) : Int)) (ev_is (ev_op (ev_var rfl) (ev_var rfl) (rv_I (cm (by rw [Int.natAbs_natCast]; exact bl) (by rw [Int.natAbs_natCast]; exact fl)))) (congrArg V.int (by push_cast; rfl))) fun G4 e4 => ?_
    have cl : common < 2 ^ 3000 := by omega
    refine s_asg (v := .int ((min (common * Nat.gcd bottom r.den) (bottom * (r.den / Nat.gcd bottom r.den)) : Nat) : Int)) (ev_cb (vs := [.int ((common * Nat.gcd bottom r.den : Nat) : Int), .int ((bottom * (r.den / Nat.gcd bottom r.den) : Nat) : Int)]) (ea_cons (ev_is (ev_op (ev_var rfl) (ev_var rfl) (rv_I (cm (by rw [Int.natAbs_natCast]; exact cl) (by rw [Int.natAbs_natCast]; exact gl)))) (congrArg V.int (by push_cast; rfl))) (ea_cons (ev_var rfl) ea_nil)) fun H5 e5 Q5 k5 => ⟨_, _, rfl, ?_⟩) fun G5 e5 => ?_
    · have : (if ((bottom * (r.den / Nat.gcd bottom r.den) : Nat) : Int) < ((common * Nat.gcd bottom r.den : Nat) : Int) then ((bottom * (r.den / Nat.gcd bottom r.den) : Nat) : Int) else ((common * Nat.gcd bottom r.den : Nat) : Int)) = ((min (common * Nat.gcd bottom r.den) (bottom * (r.den / Nat.gcd bottom r.den)) : Nat) : Int) := by
        split <;> omega
      rw [this]
      exact k5 H5 (Ex.refl H5)
    refine ⟨_, _, _, _, _, _, _, rfl, ((((sG.trans e1).trans e2).trans e3).trans e4).trans e5, Nat.mul_pos b0 (Nat.div_pos (Nat.le_of_dvd r0 (Nat.gcd_dvd_right _ _)) hg), ?_, ?_, bM2, ht2, Nat.min_le_right _ _⟩
    · by_cases z : common * Nat.gcd bottom r.den ≤ bottom * (r.den / Nat.gcd bottom r.den)
      · rw [Nat.min_eq_left z]
        exact nc2
      · rw [Nat.min_eq_right (by omega)]
        exact nc_self
    · rw [em2, em, List.take_add_one, hr1, Rat.mkRat_self]
      exact (sum_snoc _ _).symm
  · rintro σ G ⟨top, bottom, common, o4, o5, o6, o7, rfl, sG, b0, nc, em, bM, ht, hcb⟩
    rw [hwl, List.take_length] at em
    rw [hwl] at ht
    have bl : bottom < 2 ^ 3000 := Nat.lt_of_le_of_lt (Nat.le_of_dvd M0 bM) hM
    have tl : top.natAbs < 2 ^ 3000 := Nat.lt_of_le_of_lt ht (Nat.lt_of_le_of_lt (Nat.mul_le_mul_left _ (Nat.le_of_dvd M0 bM)) hS)
    have t0 : 0 ≤ top := nonneg_num b0 (by rw [em]; exact s0)
    have te : top = ((top.natAbs : Nat) : Int) := by omega
    refine ⟨_, rfl, _, rfl, _, rfl, top.natAbs, bottom, common, by rw [← te]; rfl, b0, tl, bl, by omega, by rw [← te]; exact nc, fun v H' s hv => ?_⟩
    rw [← te, em] at hv
    exact q v H' ((s1.trans sG).trans s) hv
theorem ok_plus {f g : Addr} {fd gd : FuncData} (F : Fun K "plus" "plus" sPlus f fd) (cT : Cal P w K mg base "total" ["amounts"] 3 (spTotal K) g gd) : FnOk P w K mg base CX0 4 f fd ["one", "other"] (spPlus K) := by
  refine F.ok scPlus (fun vs H Q E h => ?_) (fun cdv A outer s H vs Q E hr h => ?_)
  · obtain ⟨va, vb, a, b, M, S, rfl, _⟩ := h
    rfl
  obtain ⟨va, vb, a, b, M, S, rfl, ha, hb, M0, hM, hS, da, db, s0, q⟩ := h
  refine ⟨_, (pss_one (ps_ret (pe_call cT.ok (hr.mono (by decide)) rfl cT.mg cT.kp cT.bd .nil pass0 (pa_cons (pe_lst (pa_cons (pv 0) (pa_cons (pv 1) pa_nil))) pa_nil)))), ?_⟩
  have e : sumQ [a, b] = a + b := by
    show (0 + a) + b = a + b
    rw [Rat.zero_add]
  refine ⟨_, rfl, _, rfl, by show 2 ≤ sizeLine; decide, fun l hl => ⟨l, [va, vb], [a, b], M, S, rfl, SqL.of upd_same, ?_, M0, hM, hS, ?_, by rw [e]; exact s0, fun v H' s hv => ?_⟩⟩
  · have s1 := Same.new (Same.refl H) hl (.lst [va, vb])
    exact .cons (ha.same s1) (.cons (hb.same s1) .nil)
  · intro x hx
    simp only [List.mem_cons, List.not_mem_nil, or_false] at hx
    rcases hx with rfl | rfl
    · exact da
    · exact db
  · rw [e] at hv
    exact q v H' (Same.trans (Same.new (Same.refl H) hl _) s) hv
theorem ok_minus {f g : Addr} {fd gd : FuncData} (F : Fun K "minus" "minus" sMinus f fd) (cT : Cal P w K mg base "total" ["amounts"] 3 (spTotal K) g gd) : FnOk P w K mg base CX0 4 f fd ["one", "other"] (spMinus K) := by
  refine F.ok scMinus (fun vs H Q E h => ?_) (fun cdv A outer s H vs Q E hr h => ?_)
  · obtain ⟨va, vb, a, b, M, S, rfl, _⟩ := h
    rfl
  obtain ⟨va, _, a, b, M, S, rfl, ha, ⟨ob, rfl, hb⟩, M0, hM, hS, da, db, s0, q⟩ := h
  refine ⟨_, (pss_one (ps_ret (pe_call cT.ok (hr.mono (by decide)) rfl cT.mg cT.kp cT.bd .nil pass0 (pa_cons (pe_lst (pa_cons (pv 0) (pa_cons (pe_tup (pa_cons (pe_un un_neg (pe_ix ix_tup (pv 1) pe_int (fun _ _ => rfl))) (pa_cons (pe_ix ix_tup (pv 1) pe_int (fun _ _ => rfl)) pa_nil))) pa_nil))) pa_nil)))), ?_⟩
  have e : sumQ [a, -b] = a - b := by
    show (0 + a) + -b = a - b
    rw [Rat.zero_add, Rat.sub_eq_add_neg]
  refine ⟨_, rfl, _, rfl, ob, _, 0, _, rfl, rfl, hb, rfl, ⟨_, rfl, ?_⟩⟩
  refine ⟨_, rfl, ob, _, 1, _, rfl, rfl, hb, rfl, by show 2 ≤ sizeLine; decide, fun t ht => ⟨by show 2 ≤ sizeLine; decide, fun l hl => ?_⟩⟩
  have s1 := Same.new (Same.refl H) ht (.tup [.int (-b.num), .int (b.den : Int)])
  have f1 : upd H t (.tup [.int (-b.num), .int (b.den : Int)]) t = some (.tup [.int (-b.num), .int (b.den : Int)]) := upd_same
  generalize upd H t (.tup [.int (-b.num), .int (b.den : Int)]) = H1 at s1 f1 hl ⊢
  have s2 := Same.new (Same.refl H1) hl (.lst [va, .ref t])
  have f2 : upd H1 l (.lst [va, .ref t]) l = some (.lst [va, .ref t]) := upd_same
  generalize upd H1 l (.lst [va, .ref t]) = H2 at s2 f2 ⊢
  have hn : AmtQ K H2 (.ref t) (-b) := ⟨t, rfl, by rw [Rat.neg_num, Rat.neg_den]; exact SqT.of (s2 _ _ f1)⟩
  refine ⟨l, [va, .ref t], [a, -b], M, S, rfl, SqL.of f2, .cons (ha.same (s1.trans s2)) (.cons hn .nil), M0, hM, hS, ?_, ?_, fun v H' s hv => ?_⟩
  · intro x hx
    simp only [List.mem_cons, List.not_mem_nil, or_false] at hx
    rcases hx with rfl | rfl
    · exact da
    · rw [Rat.neg_den, Rat.neg_num, Int.natAbs_neg]
      exact db
  · rw [e]
    grind
  · rw [e] at hv
    exact q v H' ((s1.trans s2).trans s) hv
theorem cm_of {i j : Int} (h1 : i.natAbs < 2 ^ 3000) (h2 : j.natAbs < 2 ^ 3000) : CMulW i j := by
  have := log_ltI h1
  have := log_ltI h2
  show i.natAbs.log2 + j.natAbs.log2 < 1000000
  omega
theorem ev_at {σ : L2.St} {H : Hp} {ta : TE} {o : Addr} {n d : Int} (i : Nat) (h : Ev ta σ H (.ref o)) (hs : SqT K H o [.int n, .int d]) {z : V} (hz : atI [.int n, .int d] (i : Int) = some z) : Ev (tOp (rIxT K) ta (tC (.int (i : Int)))) σ H z := ev_op h ev_c (rv_ixT hs hz)
theorem ok_times {f g : Addr} {fd gd : FuncData} (F : Fun K "times" "times" sTimes f fd) (cD : Cal P w K mg base "divisor" ["one", "other"] 1 spDivisor g gd) : FnOk P w K mg base CX0 2 f fd ["one", "other"] (spTimes K) := by
  refine F.ok scTimes (fun vs H Q E h => ?_) (fun cdv A outer s H vs Q E hr h => ?_)
  · obtain ⟨va, vb, a, b, rfl, _⟩ := h
    rfl
  obtain ⟨_, _, a, b, rfl, ⟨oa, rfl, ha⟩, ⟨ob, rfl, hb⟩, ⟨an, ad⟩, ⟨bn, bd⟩, a0, b0, q⟩ := h
  refine ⟨_, (pss_cons (ps_set (i := 2) scTimes.nd rfl (Or.inl rfl) (pe_call cD.ok (hr.mono (by decide)) rfl cD.mg cD.kp cD.bd .nil pass0 (pa_cons (pe_ix ix_tup (pv 0) pe_int (fun _ _ => rfl)) (pa_cons (pe_ix ix_tup (pv 1) pe_int (fun _ _ => rfl)) pa_nil)))) (pss_cons (ps_set (i := 3) scTimes.nd rfl (Or.inl rfl) (pe_call cD.ok (hr.mono (by decide)) rfl cD.mg cD.kp cD.bd .nil pass0 (pa_cons (pe_ix ix_tup (pv 1) pe_int (fun _ _ => rfl)) (pa_cons (pe_ix ix_tup (pv 0) pe_int (fun _ _ => rfl)) pa_nil)))) (pss_one (ps_ret (pe_tup (pa_cons (pe_op op_mulW (pe_op op_fdivW (pe_ix ix_tup (pv 0) pe_int (fun _ _ => rfl)) (pv 2)) (pe_op op_fdivW (pe_ix ix_tup (pv 1) pe_int (fun _ _ => rfl)) (pv 3))) (pa_cons (pe_op op_mulW (pe_op op_fdivW (pe_ix ix_tup (pv 0) pe_int (fun _ _ => rfl)) (pv 3)) (pe_op op_fdivW (pe_ix ix_tup (pv 1) pe_int (fun _ _ => rfl)) (pv 2))) pa_nil))))))), ?_⟩
  have ea := nat_num a0
  have eb := nat_num b0
  have ra := a.reduced
  have rb := b.reduced
  have pa := a.den_pos
  have pb := b.den_pos
  have sa := mk_self a
  have sb := mk_self b
  rw [ea] at ha sa
  rw [eb] at hb sb
  generalize hx1 : a.num.natAbs = n1 at *
  generalize hx2 : a.den = d1 at *
  generalize hx3 : b.num.natAbs = n2 at *
  generalize hx4 : b.den = d2 at *
  obtain ⟨m1, m2, m3⟩ := mul_low pa pb ra rb
  have g1 : 0 < Nat.gcd n1 d2 := Nat.gcd_pos_of_pos_right _ pb
  have g2 : 0 < Nat.gcd n2 d1 := Nat.gcd_pos_of_pos_right _ pa
  have l1 : Nat.gcd n1 d2 < 2 ^ 3000 := gcd_lt pb bd
  have l2 : Nat.gcd n2 d1 < 2 ^ 3000 := gcd_lt pa ad
  have dl : ∀ {x y : Nat}, x < 2 ^ 3000 → ((x / y : Nat) : Int).natAbs < 2 ^ 3000 := fun {x y} h => by
    rw [Int.natAbs_natCast]
    exact Nat.lt_of_le_of_lt (Nat.div_le_self _ _) h
  refine q_asg (ev_gcd (ev_at 0 (ev_var rfl) ha rfl) (ev_at 1 (ev_var rfl) hb rfl) an bd) fun H1 e1 => ?_
  have ha1 := ex_t e1 ha
  have hb1 := ex_t e1 hb
  refine q_asg (ev_gcd (ev_at 0 (ev_var rfl) hb1 rfl) (ev_at 1 (ev_var rfl) ha1 rfl) bn ad) fun H2 e2 => ?_
  have ha2 := ex_t e2 ha1
  have hb2 := ex_t e2 hb1
  refine s_retU (xs := [.int (((n1 / Nat.gcd n1 d2) * (n2 / Nat.gcd n2 d1) : Nat) : Int), .int (((d1 / Nat.gcd n2 d1) * (d2 / Nat.gcd n1 d2) : Nat) : Int)]) (eu_tup (ea_cons (ev_is (ev_op (ev_op (ev_at 0 (ev_var rfl) ha2 rfl) (ev_var rfl) (rv_div g1 l1)) (ev_op (ev_at 0 (ev_var rfl) hb2 rfl) (ev_var rfl) (rv_div g2 l2)) (rv_I (cm_of (dl an) (dl bn)))) (congrArg V.int (by push_cast; rfl)))
    (ea_cons (ev_is (ev_op (ev_op (ev_at 1 (ev_var rfl) ha2 rfl) (ev_var rfl) (rv_div g2 l2)) (ev_op (ev_at 1 (ev_var rfl) hb2 rfl) (ev_var rfl) (rv_div g1 l1)) (rv_I (cm_of (dl ad) (dl bd)))) (congrArg V.int (by push_cast; rfl))) ea_nil)) (by show 2 ≤ 100000; decide)) fun p H3 _ e3 f => ?_
  obtain ⟨z1, z2⟩ := mk_low m3 (by rw [Int.natAbs_natCast]; exact m2)
  rw [m1, sa, sb] at z1 z2
  refine q _ H3 (Same.trans (Same.trans e1 e2) e3) ⟨p, rfl, ?_⟩
  rw [z1, z2]
  exact SqT.of f
theorem ok_over {f g : Addr} {fd gd : FuncData} (F : Fun K "over" "over" sOver f fd) (cM : Cal P w K mg base "times" ["one", "other"] 2 (spTimes K) g gd) : FnOk P w K mg base CX0 3 f fd ["one", "other"] (spOver K) := by
  refine F.ok scOver (fun vs H Q E h => ?_) (fun cdv A outer s H vs Q E hr h => ?_)
  · obtain ⟨va, vb, a, b, rfl, _⟩ := h
    rfl
  obtain ⟨va, _, a, b, rfl, ha, ⟨ob, rfl, hb⟩, za, zb, a0, b0, q⟩ := h
  refine ⟨_, (pss_one (ps_ret (pe_call cM.ok (hr.mono (by decide)) rfl cM.mg cM.kp cM.bd .nil pass0 (pa_cons (pv 0) (pa_cons (pe_tup (pa_cons (pe_ix ix_tup (pv 1) pe_int (fun _ _ => rfl)) (pa_cons (pe_ix ix_tup (pv 1) pe_int (fun _ _ => rfl)) pa_nil))) pa_nil))))), ?_⟩
  obtain ⟨i1, i2⟩ := inv_low b0
  refine ⟨_, rfl, _, rfl, ob, _, 1, _, rfl, rfl, hb, rfl, _, rfl, ob, _, 0, _, rfl, rfl, hb, rfl, by show 2 ≤ sizeLine; decide, fun t ht => ?_⟩
  have s1 := Same.new (Same.refl H) ht (.tup [.int (b.den : Int), .int b.num])
  have bnn := nat_num (Rat.le_of_lt b0)
  refine ⟨va, .ref t, a, b⁻¹, rfl, ha.same s1, ⟨t, rfl, by rw [i1, i2, ← bnn]; exact SqT.of upd_same⟩, za, ⟨by rw [i1, Int.natAbs_natCast]; exact zb.2, by rw [i2]; exact zb.1⟩, a0, ?_, fun v H' s hv => ?_⟩
  · exact Rat.le_of_lt (Rat.inv_pos.mpr b0)
  · rw [← Rat.div_def] at hv
    exact q v H' (s1.trans s) hv
theorem ok_less {f : Addr} {fd : FuncData} (F : Fun K "is_less" "is_less" sIsLess f fd) : FnOk P w K mg base CX0 1 f fd ["one", "other"] (spLess K) := by
  refine F.ok scIsLess (fun vs H Q E h => ?_) (fun cdv A outer s H vs Q E hr h => ?_)
  · obtain ⟨va, vb, a, b, rfl, _⟩ := h
    rfl
  obtain ⟨_, _, a, b, rfl, ⟨oa, rfl, ha⟩, ⟨ob, rfl, hb⟩, ⟨an, ad⟩, ⟨bn, bd⟩, q⟩ := h
  refine ⟨_, (pss_one (ps_ret (pe_cmpR op_lt (pe_op op_mulW (pe_ix ix_tup (pv 0) pe_int (fun _ _ => rfl)) (pe_ix ix_tup (pv 1) pe_int (fun _ _ => rfl))) (pe_op op_mulW (pe_ix ix_tup (pv 1) pe_int (fun _ _ => rfl)) (pe_ix ix_tup (pv 0) pe_int (fun _ _ => rfl))) (nomark _)))), ?_⟩
  have nd : ∀ {x : Nat}, x < 2 ^ 3000 → ((x : Int)).natAbs < 2 ^ 3000 := fun {x} h => by
    rw [Int.natAbs_natCast]
    exact h
  refine s_ret (v := .bl (decide (a < b))) (ev_is (ev_op (ev_op (ev_at 0 (ev_var rfl) ha rfl) (ev_at 1 (ev_var rfl) hb rfl) (rv_I (cm_of an (nd bd)))) (ev_op (ev_at 0 (ev_var rfl) hb rfl) (ev_at 1 (ev_var rfl) ha rfl) (rv_I (cm_of bn (nd ad)))) rv_I0) (congrArg V.bl ?_)) fun H1 e1 => ?_
  · exact decide_eq_decide.mpr (Rat.lt_iff a b).symm
  · exact q H1 e1
theorem ok_lesser {f g : Addr} {fd gd : FuncData} (F : Fun K "lesser" "lesser" sLesser f fd) (cL : Cal P w K mg base "is_less" ["one", "other"] 1 (spLess K) g gd) : FnOk P w K mg base CX0 2 f fd ["one", "other"] (spLesser K) := by
  refine F.ok scLesser (fun vs H Q E h => ?_) (fun cdv A outer s H vs Q E hr h => ?_)
  · obtain ⟨va, vb, a, b, rfl, _⟩ := h
    rfl
  obtain ⟨va, vb, a, b, rfl, ha, hb, za, zb, q⟩ := h
  refine ⟨_, (pss_one (ps_ret (pe_ifExp (pt_val (pe_call cL.ok (hr.mono (by decide)) rfl cL.mg cL.kp cL.bd .nil pass0 (pa_cons (pv 1) (pa_cons (pv 0) pa_nil)))) (pv 1) (pv 0)))), ?_⟩
  refine ⟨_, rfl, _, rfl, vb, va, b, a, rfl, hb, ha, zb, za, fun H1 s1 => ⟨_, rfl, ?_⟩⟩
  have q := q H1 s1
  by_cases c : b < a
  · rw [if_pos c] at q
    rw [decide_eq_true c]
    exact iteT ⟨_, rfl, q⟩
  · rw [if_neg c] at q
    rw [decide_eq_false c]
    exact iteF ⟨_, rfl, q⟩
end
end Bd
end

section
namespace Bd
open PySem L2 PySem.Spec PyProof.Rows
section
variable {X : Cx}
/-- d.update(e), both dicts with keys ints and texts -/
def rUpd : V → List V → Hp → VK → Prop := fun x xs H Q => ∃ (a b : Addr) (ks ls : List (Key × V)), x = .ref a ∧ xs = [.ref b] ∧ a ≠ b ∧ H a = some (.dK ks) ∧ H b = some (.dK ls) ∧ ks.length + ls.length ≤ 90000 ∧ Q .non (upd H a (.dK (mergeK ks ls)))
theorem mtd_update : MtR X "dict.update" rUpd := by
  intro pins s σ H x xs v us Q I rx rxs h
  obtain ⟨a, b, ks, ls, rfl, rfl, ne, ha, hb, hz, q⟩ := h
  cases rx
  cases rxs with
  | cons ry rt =>
    cases rt
    cases ry
    obtain ⟨z0, lo0, vs0, r0, d0⟩ := dk_of I.hok ha
    obtain ⟨z1, lo1, vs1, r1, d1⟩ := dk_of I.hok hb
    have hm : (mergeK ks ls).length ≤ sizeLine := by
      have := length_mergeK ls ks
      exact Nat.le_trans (Nat.le_trans this hz) (by decide : 90000 ≤ sizeLine)
    refine call_meetsIn PySem.F.slot_dict_update d0.typeIs PySem.F.entry_dict_update (PySem.F.args_dict_update_2 _ _) (meets_dict_update (mixKind X.prog X.w) a b ne lo1)
      ⟨vs0, vs1, d0, d1, Nat.le_trans (by rw [← r0.length, ← r1.length]; exact hz) (by decide : 90000 ≤ sizeLine), fun h' hmm _ hs => ?_⟩
    have he : ∃ q, h'.get? a = some q := let ⟨q, _, _, hq, _⟩ := hmm; ⟨q, hq⟩
    exact ⟨.non, _, d_write (t' := s.toks) I (by rw [ha]; exact True.intro) hs he (dk_new (H' := upd H a (.dK (mergeK ks ls))) hm lo0 (r1.merge r0) hmm), rfl, q⟩
end
end Bd
end

section
namespace Bd
open PySem L2 Am
open Evl hiding tCut pss_cut
theorem dc_lst {K : PySem.W.Frag} {a : Addr} {xs : List V} {g : TG} {tt : TT} {tk tv : TE} {vs : List Nat} {σ : L2.St} {H1 : Hp} {D : Addr} {Qd : Hp → Prop} (Iv : Nat → Hp → Prop) (z0 : Iv 0 (upd H1 D (.dK []))) (zl : ∀ i G, i ≤ xs.length → Iv i G → SqL K G a xs)
    (zs : ∀ i x G, xs[i]? = some x → Iv i G → g x (wipe σ vs) G fun σ2 G2 => wipe σ2 vs = wipe σ vs ∧ tt σ2 G2 fun b G3 =>
      if b = true then tk σ2 G3 fun y G4 => tv σ2 G4 fun z G5 => ∃ kvs k, y = kV k ∧ G5 D = some (.dK kvs) ∧ kvs.length < sizeLine ∧ Iv (i + 1) (upd G5 D (.dK (putK kvs k z))) else Iv (i + 1) G3) (zd : ∀ G, Iv xs.length G → Qd G) :
    ∃ W : Nat → Nat → Hp → Prop, (∃ m, W 0 m (upd H1 D (.dK []))) ∧ ∀ i m G, W i m G →
      ((Itl K a).stop i G ∧ Qd G) ∨ ((Itl K a).go i G ∧ ∃ Nx : Hp → Prop, (∀ G', Nx G' → ∃ m', m' < m ∧ W (i + 1) m' G') ∧ ∀ x G', (Itl K a).yld i G x G' → g x (wipe σ vs) G' fun σ2 G2 => wipe σ2 vs = wipe σ vs ∧ tt σ2 G2 fun b G3 =>
        if b = true then tk σ2 G3 fun y G4 => tv σ2 G4 fun z G5 => ∃ kvs k, y = kV k ∧ G5 D = some (.dK kvs) ∧ kvs.length < sizeLine ∧ Nx (upd G5 D (.dK (putK kvs k z))) else Nx G3) := by
  refine ⟨fun i m G => m + i = xs.length ∧ Iv i G, ⟨xs.length, rfl, z0⟩, ?_⟩
  rintro i m G ⟨hm, iv⟩
  have hq := zl i G (by omega) iv
  cases m with
  | zero =>
    have e : i = xs.length := by omega
    exact .inl ⟨⟨xs, hq, Nat.le_of_eq e.symm⟩, zd G (e ▸ iv)⟩
  | succ m =>
    have hi : i < xs.length := by omega
    refine .inr ⟨⟨xs, xs[i], hq, List.getElem?_eq_getElem hi⟩, Iv (i + 1), fun G' iv' => ⟨m, Nat.lt_succ_self m, by omega, iv'⟩, ?_⟩
    rintro x G' ⟨rfl, hx⟩
    exact zs i x _ (hx xs hq) iv
/-- a dict by names: each name with its value, in an order -/
def MapR (R : Hp → V → Str → Prop) (G : Hp) (kvs : List (Key × V)) (ns : List Str) : Prop := Paired (fun (kv : Key × V) (n : Str) => kv.1 = (Sum.inr n : Key) ∧ R G kv.2 n) kvs ns
theorem MapR.keys {R : Hp → V → Str → Prop} {G : Hp} : ∀ {kvs : List (Key × V)} {ns : List Str}, MapR R G kvs ns → kvs.map (·.1) = ns.map fun n => (Sum.inr n : Key)
  | _, _, .nil => rfl
  | _, _, .cons a b => by rw [List.map_cons, List.map_cons, a.1, MapR.keys b]
theorem MapR.mono {R : Hp → V → Str → Prop} {G G' : Hp} (h : ∀ v n, R G v n → R G' v n) {kvs : List (Key × V)} {ns : List Str} (m : MapR R G kvs ns) : MapR R G' kvs ns := paired_mono (fun _ _ z => ⟨z.1, h _ _ z.2⟩) m
theorem MapR.get {R : Hp → V → Str → Prop} {G : Hp} {kvs : List (Key × V)} {ns : List Str} (m : MapR R G kvs ns) (nd : ns.Nodup) {n : Str} (hn : n ∈ ns) : ∃ v, valV kvs (Sum.inr n) = some v ∧ R G v n := by
  have key : ∀ {kvs : List (Key × V)} {ns : List Str}, MapR R G kvs ns → n ∈ ns → ∃ kv ∈ kvs, kv.1 = (Sum.inr n : Key) ∧ R G kv.2 n := by
    intro kvs ns m
    induction m with
    | nil => exact fun h => by cases h
    | cons a b ih =>
      intro h
      rcases List.mem_cons.mp h with e | h
      · exact ⟨_, List.mem_cons_self, by rw [e]; exact a.1, by rw [e]; exact a.2⟩
      · obtain ⟨kv, h1, h2⟩ := ih h
        exact ⟨kv, List.mem_cons_of_mem _ h1, h2⟩
  obtain ⟨kv, h1, h2, h3⟩ := key m hn
  have ndk : (kvs.map (·.1)).Nodup := by
    rw [m.keys]
    exact nodup_inr nd
  have := val_nd ndk kv h1
  rw [h2] at this
  exact ⟨kv.2, this, h3⟩
/-- {name: value for name in names} -/
theorem dc_strs {K : PySem.W.Frag} {a : Addr} {names : List Str} {j : Nat} {tl tv : TE} {vs : List Nat} {σ : L2.St} {H : Hp} {Q : VK} (R : Hp → V → Str → Prop) (hR : ∀ {G G' : Hp} {v : V} {n : Str}, TK G G' → R G v n → R G' v n) (hl : Ev tl σ H (.ref a)) (hs : SqL K H a (names.map .str)) (nd : names.Nodup) (len : names.length ≤ 900)
    (hw : ∀ x, wipe ((wipe σ vs).set j (some x)) vs = wipe σ vs) (hj : ∀ x : V, ((wipe σ vs).set j (some x))[j]? = some (some x))
    (step : ∀ (i : Nat) (n : Str) (G : Hp) (φ : VK), names[i]? = some n → Same H G → (∀ v G', Same G G' → R G' v n → φ v G') → tv ((wipe σ vs).set j (some (.str n))) G φ)
    (k : ∀ d kvs G', H d = none → Same H G' → G' d = some (.dK kvs) → MapR R G' kvs names → Q (.ref d) G') : (tDc (iList K tl) (gName j) tYes (tVar j) tv vs) σ H Q := by
  refine hl H (Ex.refl H) _ fun H1 e1 => ⟨a, rfl, ⟨_, ex_l e1 hs⟩, fun D hD => ?_⟩
  refine dc_lst (K := K) (a := a) (xs := names.map V.str) (fun i G => ∃ kvs : List (Key × V), Same H1 G ∧ G D = some (.dK kvs) ∧ MapR R G kvs (names.take i)) ⟨[], Same.new (Same.refl H1) hD _, upd_same, .nil⟩ ?_ ?_ ?_
  · rintro i G _ ⟨kvs, s, _⟩
    exact ex_l (Same.trans e1 s) hs
  · rintro i x G hx ⟨kvs, sG, eD, m⟩
    rw [List.getElem?_map] at hx
    obtain ⟨n, hn, rfl⟩ := Option.map_eq_some_iff.mp hx
    have il : i < names.length := (List.getElem?_eq_some_iff.mp hn).1
    refine ⟨hw _, ?_⟩
    unfold tYes
    refine iteT ?_
    refine ⟨_, hj _, step i n G _ hn (Same.trans e1 sG) fun v G5 s5 hv => ?_⟩
    have eD5 := s5 _ _ eD
    have m5 : MapR R G5 kvs (names.take i) := m.mono fun _ _ z => hR (.of s5) z
    have hnew : valV kvs (Sum.inr n) = none := keys_none fun mm => by
      rw [m.keys] at mm
      obtain ⟨y, hy, e⟩ := List.mem_map.mp mm
      have e : y = n := Sum.inr.inj e
      subst e
      obtain ⟨k, hk⟩ := List.mem_iff_getElem?.mp hy
      have lk := (List.getElem?_eq_some_iff.mp hk).1
      rw [List.length_take] at lk
      rw [List.getElem?_take_of_lt (by omega)] at hk
      obtain ⟨l1, z1⟩ := List.getElem?_eq_some_iff.mp hk
      obtain ⟨l2, z2⟩ := List.getElem?_eq_some_iff.mp hn
      have := (List.getElem_inj nd (h₀ := l1) (h₁ := l2)).mp (z1.trans z2.symm)
      omega
    have kl : kvs.length ≤ 900 := by
      rw [Paired.length m, List.length_take]
      omega
    refine ⟨kvs, Sum.inr n, rfl, eD5, small1000 (by omega), _, ?_, upd_same, ?_⟩
    · exact fun b o hb => (upd_ne (fun e => by rw [e] at hb; rw [hD] at hb; cases hb)).trans ((Same.trans sG s5) b o hb)
    · rw [putK_new _ hnew, List.take_add_one, hn]
      have t := TK.dk eD5 (.dK (kvs ++ [(Sum.inr n, v)]))
      exact paired_snoc ⟨rfl, hR t hv⟩ (m5.mono fun _ _ z => hR t z)
  · rintro G ⟨kvs, sG, eD, m⟩
    rw [List.length_map, List.take_length] at m
    exact k D kvs G (fresh_back e1 hD) (Same.trans e1 sG) eD m
end Bd
end

section
namespace Am
/-! ### multiples of a part, and their size -/
def Of (M : Nat) (q : Rat) : Prop := ∃ x : Int, q = mkRat x M
theorem of_den {M : Nat} (hM : 0 < M) {q : Rat} (h : Of M q) : q.den ∣ M := by
  obtain ⟨x, rfl⟩ := h
  rw [Rat.den_mkRat, if_neg (by omega)]
  exact Nat.div_dvd_of_dvd (Nat.gcd_dvd_left _ _)
theorem den_of {M : Nat} {q : Rat} (h : q.den ∣ M) (hM : 0 < M) : Of M q := by
  obtain ⟨k, rfl⟩ := h
  have hk : k ≠ 0 := fun e => by rw [e] at hM; simp at hM
  exact ⟨q.num * (k : Int), by rw [Rat.mkRat_mul_right hk, Rat.mkRat_self]⟩
theorem Of.add {M : Nat} {a b : Rat} (hM : 0 < M) (h1 : Of M a) (h2 : Of M b) : Of M (a + b) := by
  obtain ⟨x, rfl⟩ := h1
  obtain ⟨y, rfl⟩ := h2
  refine ⟨x + y, ?_⟩
  rw [Rat.mkRat_add_mkRat _ _ (by omega) (by omega), ← Int.add_mul, Rat.mkRat_mul_right (by omega)]
theorem Of.neg {M : Nat} {a : Rat} (h1 : Of M a) : Of M (-a) := by
  obtain ⟨x, rfl⟩ := h1
  exact ⟨-x, Rat.neg_mkRat x M⟩
theorem Of.sub {M : Nat} {a b : Rat} (hM : 0 < M) (h1 : Of M a) (h2 : Of M b) : Of M (a - b) := by
  rw [Rat.sub_eq_add_neg]
  exact h1.add hM h2.neg
theorem Of.mul {M N : Nat} {a b : Rat} (h1 : Of M a) (h2 : Of N b) : Of (M * N) (a * b) := by
  obtain ⟨x, rfl⟩ := h1
  obtain ⟨y, rfl⟩ := h2
  exact ⟨x * y, Rat.mkRat_mul_mkRat _ _ _ _⟩
theorem Of.up {M : Nat} {a : Rat} (k : Nat) (hk : 0 < k) (h : Of M a) : Of (M * k) a := by
  obtain ⟨x, rfl⟩ := h
  exact ⟨x * (k : Int), (Rat.mkRat_mul_right (by omega)).symm⟩
theorem Of.upL {M : Nat} {a : Rat} (k : Nat) (hk : 0 < k) (h : Of M a) : Of (k * M) a := by
  rw [Nat.mul_comm]
  exact h.up k hk
theorem of_zero {M : Nat} : Of M 0 := ⟨0, (Rat.zero_mkRat M).symm⟩
/-- the top of what is not more than a whole number -/
theorem num_le {q : Rat} {S : Nat} (h0 : 0 ≤ q) (h : q ≤ (S : Rat)) : q.num.natAbs ≤ S * q.den := by
  have h1 := Rat.le_iff q (S : Rat) |>.mp h
  have h2 := Rat.num_nonneg.mpr h0
  have e1 : ((S : Rat)).num = (S : Int) := Rat.num_natCast S
  have e2 : ((S : Rat)).den = 1 := Rat.den_natCast S
  rw [e1, e2] at h1
  have h1 : q.num * 1 ≤ (S : Int) * (q.den : Int) := h1
  have : ((q.num.natAbs : Nat) : Int) ≤ ((S * q.den : Nat) : Int) := by
    push_cast
    omega
  omega
/-- a quotient's two numbers -/
theorem quot_sz {a b : Rat} (ha : 0 ≤ a) (hb : 0 < b) : (a / b).num.natAbs ≤ a.num.natAbs * b.den ∧ (a / b).den ≤ a.den * b.num.natAbs := by
  obtain ⟨i1, i2⟩ := inv_low hb
  have hn : 0 < b.num.natAbs := by
    rw [← i2]
    exact (b⁻¹).den_pos
  have e : a / b = mkRat (a.num * (b.den : Int)) (a.den * b.num.natAbs) := by
    rw [Rat.div_def, ← Rat.mkRat_self a, ← Rat.mkRat_self b⁻¹, i1, i2, Rat.mkRat_mul_mkRat]
    rw [Rat.mkRat_self a]
  have hd : 0 < a.den * b.num.natAbs := Nat.mul_pos a.den_pos hn
  rw [e]
  refine ⟨?_, ?_⟩
  · rw [Rat.num_mkRat, if_neg (by omega)]
    refine Nat.le_trans (Int.natAbs_ediv_le_natAbs _ _) ?_
    rw [Int.natAbs_mul, Int.natAbs_natCast]
    exact Nat.le_refl _
  · rw [Rat.den_mkRat, if_neg (by omega)]
    exact Nat.div_le_self _ _
theorem sum_of {M : Nat} (hM : 0 < M) : ∀ {qs : List Rat} {s : Rat}, Of M s → (∀ q ∈ qs, Of M q) → Of M (qs.foldl (· + ·) s)
  | [], s, h, _ => h
  | q :: qs, s, h, hq => sum_of (qs := qs) (s := s + q) hM (h.add hM (hq q List.mem_cons_self)) fun x hx => hq x (List.mem_cons_of_mem _ hx)
theorem sum_bd {S : Nat} : ∀ {qs : List Rat} {s : Rat} {k : Nat}, 0 ≤ s → s ≤ ((S * k : Nat) : Rat) → (∀ q ∈ qs, 0 ≤ q ∧ q ≤ (S : Rat)) → 0 ≤ qs.foldl (· + ·) s ∧ qs.foldl (· + ·) s ≤ ((S * (k + qs.length) : Nat) : Rat)
  | [], s, k, h0, h1, _ => ⟨h0, by simpa using h1⟩
  | q :: qs, s, k, h0, h1, hq => by
    obtain ⟨g1, g2⟩ := hq q List.mem_cons_self
    have e : ((S * (k + 1) : Nat) : Rat) = ((S * k : Nat) : Rat) + (S : Rat) := by
      push_cast
      grind
    have := sum_bd (qs := qs) (s := s + q) (k := k + 1) (by grind) (by rw [e]; grind) fun x hx => hq x (List.mem_cons_of_mem _ hx)
    rw [List.foldl_cons, List.length_cons]
    have e2 : k + (qs.length + 1) = k + 1 + qs.length := by omega
    rw [e2]
    exact this
end Am
end

section
namespace Bd
open PySem L2 Am
open Evl hiding tCut pss_cut
/-! words for amounts, for trees, for dicts by names -/
def EvQ (K : PySem.W.Frag) (te : TE) (σ : L2.St) (H : Hp) (q : Rat) : Prop := ∀ H1, Ex H H1 → ∀ Q : VK, (∀ v H2, Ex H1 H2 → AmtQ K H2 v q → Q v H2) → te σ H1 Q
/-- a new dict: each name with its amount -/
def AmR (K : PySem.W.Frag) (f : Str → Rat) (G : Hp) (v : V) (n : Str) : Prop := AmtQ K G v (f n)
def EvM (K : PySem.W.Frag) (te : TE) (σ : L2.St) (H : Hp) (f : Str → Rat) (names : List Str) : Prop := ∀ H1, Ex H H1 → ∀ Q : VK, (∀ d kvs H2, H1 d = none → Ex H1 H2 → H2 d = some (.dK kvs) → MapR (AmR K f) H2 kvs names → Q (.ref d) H2) → te σ H1 Q
/-- a dict that tells these names' amounts, and may tell others -/
def Amts (K : PySem.W.Frag) (G : Hp) (d : Addr) (names : List Str) (f : Str → Rat) : Prop := ∃ kvs, G d = some (.dK kvs) ∧ ∀ n ∈ names, ∃ v, valV kvs (Sum.inr n) = some v ∧ AmtQ K G v (f n)
theorem Amts.ex {K : PySem.W.Frag} {G G' : Hp} {d : Addr} {names : List Str} {f : Str → Rat} (s : Ex G G') (h : Amts K G d names f) : Amts K G' d names f := by
  obtain ⟨kvs, h1, h2⟩ := h
  exact ⟨kvs, s _ _ h1, fun n hn => let ⟨v, a, b⟩ := h2 n hn; ⟨v, a, b.same s⟩⟩
theorem Amts.sub {K : PySem.W.Frag} {G : Hp} {d : Addr} {names ns : List Str} {f : Str → Rat} (h : Amts K G d names f) (s : ∀ n ∈ ns, n ∈ names) : Amts K G d ns f := by
  obtain ⟨kvs, h1, h2⟩ := h
  exact ⟨kvs, h1, fun n hn => h2 n (s n hn)⟩
theorem Amts.of {K : PySem.W.Frag} {G : Hp} {d : Addr} {kvs : List (Key × V)} {names : List Str} {f : Str → Rat} (h : G d = some (.dK kvs)) (m : MapR (AmR K f) G kvs names) (nd : names.Nodup) : Amts K G d names f := ⟨kvs, h, fun n hn => m.get nd hn⟩
theorem Amts.congr {K : PySem.W.Frag} {G : Hp} {d : Addr} {names : List Str} {f g : Str → Rat} (h : Amts K G d names f) (e : ∀ n ∈ names, f n = g n) : Amts K G d names g := by
  obtain ⟨kvs, h1, h2⟩ := h
  exact ⟨kvs, h1, fun n hn => by rw [← e n hn]; exact h2 n hn⟩
section
variable {K : PySem.W.Frag} {H : Hp} {σ : L2.St} {ta tb te tl : TE}
theorem et_yes : EvT tYes σ H true := fun H1 _ Q q => q H1 (Ex.refl H1)
theorem EvQ.mono {H' : Hp} {q : Rat} (e : Ex H H') (h : EvQ K te σ H q) : EvQ K te σ H' q := fun H1 a Q k => h H1 (e.trans a) Q k
theorem EvQ.is {p q : Rat} (h : EvQ K te σ H p) (e : p = q) : EvQ K te σ H q := e ▸ h
theorem eq_var {i : Nat} {v : V} {q : Rat} (h : σ[i]? = some (some v)) (a : AmtQ K H v q) : EvQ K (tVar i) σ H q := fun H1 e Q k => ⟨v, h, k v H1 (Ex.refl H1) (a.same e)⟩
theorem eq_get {i : Nat} {ty : TE} {d : Addr} {names : List Str} {f : Str → Rat} {n : Str} (hv : σ[i]? = some (some (.ref d))) (hy : Ev ty σ H (.str n)) (h : Amts K H d names f) (hn : n ∈ names) : EvQ K (tDGet (tVar i) ty) σ H (f n) := fun H1 e Q k =>
  ⟨_, hv, hy H1 e _ fun H2 e2 => by
    obtain ⟨kvs, h1, h2⟩ := h.ex (e.trans e2)
    obtain ⟨v, h3, h4⟩ := h2 n hn
    exact ⟨d, v, rfl, dget_of (k := Sum.inr n) h1 h3, k v H2 e2 h4⟩⟩
theorem ea_two {a b : Rat} (ha : EvQ K ta σ H a) (hb : EvQ K tb σ H b) {H1 : Hp} (e : Ex H H1) {Q : List V → Hp → Prop} (k : ∀ va vb H2, Ex H1 H2 → AmtQ K H2 va a → AmtQ K H2 vb b → Q [va, vb] H2) : tCons ta (tCons tb tNil) σ H1 Q :=
  ha H1 e _ fun va H2 e2 qa => hb H2 (e.trans e2) _ fun vb H3 e3 qb => k va vb H3 (e2.trans e3) (qa.same e3) qb
theorem eq_times {E : XK} {a b : Rat} (ha : EvQ K ta σ H a) (hb : EvQ K tb σ H b) (za : Sz a) (zb : Sz b) (a0 : 0 ≤ a) (b0 : 0 ≤ b) : EvQ K (tCall (spTimes K) [] E (tCons ta (tCons tb tNil))) σ H (a * b) := fun H1 e Q k =>
  ea_two ha hb e fun va vb H2 e2 qa qb => ⟨va, vb, a, b, rfl, qa, qb, za, zb, a0, b0, fun v H' s h => k v H' (e2.trans s) h⟩
theorem eq_over {E : XK} {a b : Rat} (ha : EvQ K ta σ H a) (hb : EvQ K tb σ H b) (za : Sz a) (zb : Sz b) (a0 : 0 ≤ a) (b0 : 0 < b) : EvQ K (tCall (spOver K) [] E (tCons ta (tCons tb tNil))) σ H (a / b) := fun H1 e Q k =>
  ea_two ha hb e fun va vb H2 e2 qa qb => ⟨va, vb, a, b, rfl, qa, qb, za, zb, a0, b0, fun v H' s h => k v H' (e2.trans s) h⟩
theorem eq_plus {E : XK} {a b : Rat} {M S : Nat} (ha : EvQ K ta σ H a) (hb : EvQ K tb σ H b) (M0 : 0 < M) (hM : M < 2 ^ 3000) (hS : S * 2 * M < 2 ^ 3000) (da : a.den ∣ M ∧ a.num.natAbs ≤ S * a.den) (db : b.den ∣ M ∧ b.num.natAbs ≤ S * b.den) (z : 0 ≤ a + b) :
    EvQ K (tCall (spPlus K) [] E (tCons ta (tCons tb tNil))) σ H (a + b) := fun H1 e Q k =>
  ea_two ha hb e fun va vb H2 e2 qa qb => ⟨va, vb, a, b, M, S, rfl, qa, qb, M0, hM, hS, da, db, z, fun v H' s h => k v H' (e2.trans s) h⟩
theorem eq_minus {E : XK} {a b : Rat} {M S : Nat} (ha : EvQ K ta σ H a) (hb : EvQ K tb σ H b) (M0 : 0 < M) (hM : M < 2 ^ 3000) (hS : S * 2 * M < 2 ^ 3000) (da : a.den ∣ M ∧ a.num.natAbs ≤ S * a.den) (db : b.den ∣ M ∧ b.num.natAbs ≤ S * b.den) (z : b ≤ a) :
    EvQ K (tCall (spMinus K) [] E (tCons ta (tCons tb tNil))) σ H (a - b) := fun H1 e Q k =>
  ea_two ha hb e fun va vb H2 e2 qa qb => ⟨va, vb, a, b, M, S, rfl, qa, qb, M0, hM, hS, da, db, z, fun v H' s h => k v H' (e2.trans s) h⟩
theorem ev_less {E : XK} {a b : Rat} (ha : EvQ K ta σ H a) (hb : EvQ K tb σ H b) (za : Sz a) (zb : Sz b) : Ev (tCall (spLess K) [] E (tCons ta (tCons tb tNil))) σ H (.bl (decide (a < b))) := fun H1 e Q k =>
  ea_two ha hb e fun va vb H2 e2 qa qb => ⟨va, vb, a, b, rfl, qa, qb, za, zb, fun H' s => k H' (e2.trans s)⟩
theorem eq_lesser {E : XK} {a b : Rat} (ha : EvQ K ta σ H a) (hb : EvQ K tb σ H b) (za : Sz a) (zb : Sz b) : EvQ K (tCall (spLesser K) [] E (tCons ta (tCons tb tNil))) σ H (if b < a then b else a) := fun H1 e Q k =>
  ea_two ha hb e fun va vb H2 e2 qa qb => ⟨va, vb, a, b, rfl, qa, qb, za, zb, fun H' s => by
    by_cases c : b < a
    · rw [if_pos c]
      exact k vb H' (e2.trans s) (by rw [if_pos c]; exact qb.same s)
    · rw [if_neg c]
      exact k va H' (e2.trans s) (by rw [if_neg c]; exact qa.same s)⟩
theorem eq_total {E : XK} {ws : List V} {qs : List Rat} {M S : Nat} (h : EvL tl σ H ws) (hp : ∀ H1, Ex H H1 → Paired (AmtQ K H1) ws qs) (M0 : 0 < M) (hM : M < 2 ^ 3000) (hS : S * qs.length * M < 2 ^ 3000) (hd : ∀ q ∈ qs, q.den ∣ M ∧ q.num.natAbs ≤ S * q.den) (z : 0 ≤ sumQ qs) :
    EvQ K (tCall (spTotal K) [] E (tCons tl tNil)) σ H (sumQ qs) := fun H1 e Q k =>
  h H1 e _ fun p H2 _ e2 hl => ⟨p, ws, qs, M, S, rfl, SqL.of hl, hp H2 (e.trans e2), M0, hM, hS, hd, z, fun v H' s hv => k v H' (e2.trans s) hv⟩
/-! statements -/
variable {D : Ends} {tz : TS}
theorem q_asgQ {i : Nat} {q : Rat} (h : EvQ K te σ H q) (k : ∀ v H1, Ex H H1 → AmtQ K H1 v q → tz D (σ.set i (some v)) H1) : tSeq (tAsg te (gName i)) tz D σ H := h H (Ex.refl H) _ fun v H1 e a => k v H1 e a
theorem q_asgM {i : Nat} {f : Str → Rat} {names : List Str} (h : EvM K te σ H f names) (k : ∀ d kvs H1, H d = none → Ex H H1 → H1 d = some (.dK kvs) → MapR (AmR K f) H1 kvs names → tz D (σ.set i (some (.ref d))) H1) : tSeq (tAsg te (gName i)) tz D σ H := h H (Ex.refl H) _ fun d kvs H1 a b c e => k d kvs H1 a b c e
theorem s_retM {f : Str → Rat} {names : List Str} (h : EvM K te σ H f names) (k : ∀ d kvs H1, H d = none → Ex H H1 → H1 d = some (.dK kvs) → MapR (AmR K f) H1 kvs names → D.rt (.ref d) H1) : tRet te D σ H := h H (Ex.refl H) _ k
/-! over names -/
theorem tkAm {K : PySem.W.Frag} {f : Str → Rat} {G G' : Hp} {v : V} {n : Str} (t : TK G G') (h : AmR K f G v n) : AmR K f G' v n := AmtQ.tk t h
/-- {name: amount for name in names} -/
theorem em_dc {a : Addr} {names : List Str} {j : Nat} {tv : TE} {vs : List Nat} {f : Str → Rat} (hl : Ev tl σ H (.ref a)) (hs : SqL K H a (names.map .str)) (nd : names.Nodup) (len : names.length ≤ 900)
    (hw : ∀ x, wipe ((wipe σ vs).set j (some x)) vs = wipe σ vs) (hj : ∀ x : V, ((wipe σ vs).set j (some x))[j]? = some (some x))
    (step : ∀ n ∈ names, ∀ H1, Ex H H1 → EvQ K tv ((wipe σ vs).set j (some (.str n))) H1 (f n)) : EvM K (tDc (iList K tl) (gName j) tYes (tVar j) tv vs) σ H f names := fun H1 e Q k =>
  dc_strs (AmR K f) tkAm (hl.mono e) (ex_l e hs) nd len hw hj (fun i n G φ hn s q => step n (List.mem_of_getElem? hn) G (e.trans s) G (Ex.refl G) φ fun v G' s' hv => q v G' s' hv) fun d kvs G' h1 h2 h3 h4 => k d kvs G' h1 h2 h3 h4
/-- the same over a new list -/
theorem em_dcN {names : List Str} {j : Nat} {tv : TE} {vs : List Nat} {f : Str → Rat} (hl : EvL tl σ H (names.map .str)) (nd : names.Nodup) (len : names.length ≤ 900)
    (hw : ∀ x, wipe ((wipe σ vs).set j (some x)) vs = wipe σ vs) (hj : ∀ x : V, ((wipe σ vs).set j (some x))[j]? = some (some x))
    (step : ∀ n ∈ names, ∀ H1, Ex H H1 → EvQ K tv ((wipe σ vs).set j (some (.str n))) H1 (f n)) : EvM K (tDc (iList K tl) (gName j) tYes (tVar j) tv vs) σ H f names := fun H1 e Q k =>
  hl H1 e _ fun p H2 hp e2 hl2 => dc_strs (tl := tC (.ref p)) (σ := σ) (AmR K f) tkAm ev_c (sq_of hl2) nd len hw hj (fun i n G φ hn s q => step n (List.mem_of_getElem? hn) G ((e.trans e2).trans s) G (Ex.refl G) φ fun v G' s' hv => q v G' s' hv) fun d kvs G' h1 h2 h3 h4 => k d kvs G' (fresh_back e2 h1) (e2.trans h2) h3 h4
/-- [g name for name in names] -/
theorem giv_all {α : Type} (xs : List α) (g : α → V) : given xs.length (fun _ => true) (fun i => (xs[i]?.map g).getD .non) = xs.map g := by
  have main : ∀ n, n ≤ xs.length → given n (fun _ => true) (fun i => (xs[i]?.map g).getD .non) = (xs.take n).map g := by
    intro n
    induction n with
    | zero => intro _; rfl
    | succ n ih =>
      intro hn
      have e : xs[n]? = some xs[n] := List.getElem?_eq_getElem hn
      rw [List.take_add_one, e, Option.toList_some, List.map_append, ← ih (by omega), given_yes rfl, e]
      rfl
  have := main xs.length (Nat.le_refl _)
  rw [List.take_length] at this
  exact this
theorem el_strs {a : Addr} {j : Nat} {vs : List Nat} (names : List Str) (g : Str → V) (h : Ev tl σ H (.ref a)) (hx : SqL K H a (names.map .str)) (hz : names.length ≤ 1000) (hw : ∀ x, wipe ((wipe σ vs).set j (some x)) vs = wipe σ vs)
    (he : ∀ n ∈ names, ∀ H1, Ex H H1 → Ev te ((wipe σ vs).set j (some (.str n))) H1 (g n)) : EvL (tLc (iList K tl) (gName j) tYes te vs) σ H (names.map g) := by
  rw [← giv_all]
  have := el_lcL (K := K) (σ := σ) (H := H) (t := tYes) (te := te) (tl := tl) (j := j) (vs := vs) (fun _ => true) (fun i => (names[i]?.map g).getD .non) h hx (by rw [List.length_map]; omega) hw (fun _ _ _ _ _ => et_yes) fun i x H1 e hi _ => by
    rw [List.getElem?_map] at hi
    obtain ⟨n, hn, rfl⟩ := Option.map_eq_some_iff.mp hi
    rw [hn]
    exact he n (List.mem_of_getElem? hn) H1 e
  rw [List.length_map] at this
  exact this
/-! methods of a tree -/
variable {C CN CW : Addr} {p : Addr} {rows : List RowM} {h : Bool} {tk : List (Key × V)} {i : Nat} {tx ty : TE} {E : XK}
theorem amt_dp {v : V} {q : Rat} (h : Dp K H v (.tuple [.int q.num, .int (q.den : Int)])) : AmtQ K H v q := by
  obtain ⟨a, rfl, ha⟩ := dp_two h
  exact ⟨a, rfl, ha⟩
theorem eq_due (hv : σ[i]? = some (some (.ref p))) (ht : TreeAt K H C p rows h tk) (ok : RowsOk rows) {r : RowM} (hr : r ∈ rows) {w : Str} (hw : w ∈ leftW) {q : Rat} (hq : dueOf (fullD r.dues) w = some (.tuple [.int q.num, .int (q.den : Int)]))
    (hx : Ev tx σ H (.str r.name)) (hy : Ev ty σ H (.str w)) : EvQ K (tMeth C "due" (spTDue K C CN CW) [] E (tVar i) (tCons tx (tCons ty tNil))) σ H q := fun H1 e Q k => by
  obtain ⟨dx, po, pp, pk, pt, o1, _⟩ := id ht
  exact ⟨_, hv, p, dx, _, rfl, e _ _ o1, by rfl, hx H1 e _ fun H2 e2 => hy H2 (e.trans e2) _ fun H3 e3 => ⟨p, _, _, rows, h, tk, rfl, ht.same ((e.trans e2).trans e3) ok, nms_nd ok, .inl ⟨r, hr, rfl, .inl ⟨w, hw, rfl, fun u d h1 h2 => by
    rw [hq] at h1
    cases h1
    exact k u H3 (e2.trans e3) (amt_dp h2)⟩⟩⟩⟩
theorem el_kids (hv : σ[i]? = some (some (.ref p))) (ht : TreeAt K H C p rows h tk) (ok : RowsOk rows) {n : Str} (hn : n ∈ ("" : Str) :: nms rows) (hx : Ev tx σ H (.str n)) : EvL (tMeth C "children" (spTKids K C CN) [] E (tVar i) (tCons tx tNil)) σ H ((kidsOf rows (Sum.inr n)).map .str) := fun H1 e Q k => by
  obtain ⟨dx, po, pp, pk, pt, o1, _⟩ := id ht
  exact ⟨_, hv, p, dx, _, rfl, e _ _ o1, by rfl, hx H1 e _ fun H2 e2 => ⟨p, _, rows, h, tk, rfl, ht.same (e.trans e2) ok, ok, .inl ⟨n, rfl, hn, fun l hl => k l _ (fresh_back e2 hl) (e2.trans (Ex.new hl)) upd_same⟩⟩⟩
theorem ev_above (hv : σ[i]? = some (some (.ref p))) (ht : TreeAt K H C p rows h tk) (ok : RowsOk rows) {r : RowM} (hr : r ∈ rows) (hx : Ev tx σ H (.str r.name)) : Ev (tMeth C "above" (spTAbove K C CN) [] E (tVar i) (tCons tx tNil)) σ H (.str r.above) := fun H1 e Q k => by
  obtain ⟨dx, po, pp, pk, pt, o1, _⟩ := id ht
  exact ⟨_, hv, p, dx, _, rfl, e _ _ o1, by rfl, hx H1 e _ fun H2 e2 => ⟨p, _, rows, h, tk, rfl, ht.same (e.trans e2) ok, nms_nd ok, .inl ⟨r, hr, rfl, k H2 e2⟩⟩⟩
theorem el_names (hv : σ[i]? = some (some (.ref p))) (ht : TreeAt K H C p rows h tk) (ok : RowsOk rows) : EvL (tMeth C "names" (spTNames K C) [] E (tVar i) tNil) σ H ((nms rows).map .str) := fun H1 e Q k => by
  obtain ⟨dx, po, pp, pk, pt, o1, _⟩ := id ht
  exact ⟨_, hv, p, dx, _, rfl, e _ _ o1, by rfl, p, rows, h, tk, rfl, ht.same e ok, fun l hl => k l _ hl (Ex.new hl) upd_same⟩
theorem el_leaves (hv : σ[i]? = some (some (.ref p))) (ht : TreeAt K H C p rows h tk) (ok : RowsOk rows) (len : rows.length ≤ 200) : EvL (tMeth C "leaves" (spTLeaves K C) [] E (tVar i) tNil) σ H ((leavesOf rows).map .str) := fun H1 e Q k => by
  obtain ⟨dx, po, pp, pk, pt, o1, _⟩ := id ht
  exact ⟨_, hv, p, dx, _, rfl, e _ _ o1, by rfl, p, rows, h, tk, rfl, ht.same e ok, ok, len, fun l hl => k l _ hl (Ex.new hl) upd_same⟩
theorem ev_handing (hv : σ[i]? = some (some (.ref p))) (ht : TreeAt K H C p rows h tk) (ok : RowsOk rows) : Ev (tMeth C "handing" (spTHanding K C) [] E (tVar i) tNil) σ H (.bl h) := fun H1 e Q k => by
  obtain ⟨dx, po, pp, pk, pt, o1, _⟩ := id ht
  exact ⟨_, hv, p, dx, _, rfl, e _ _ o1, by rfl, p, rows, h, tk, rfl, ht.same e ok, k H1 (Ex.refl H1)⟩
end
end Bd
end

section
namespace Bd
open PySem Am
/-! how what is protected of a group is parted, and how long its numbers are -/
theorem lt_mul2 {x y a b : Nat} (h1 : x < 2 ^ a) (h2 : y < 2 ^ b) : x * y < 2 ^ (a + b) := by
  rw [Nat.pow_add]
  exact Nat.mul_lt_mul'' h1 h2
theorem lt_up {x a b : Nat} (h : x < 2 ^ a) (hab : a ≤ b) : x < 2 ^ b := Nat.lt_of_lt_of_le h (Nat.pow_le_pow_right (by decide) hab)
structure InMS (M S : Nat) (q : Rat) : Prop where
  den : q.den ∣ M
  lo : 0 ≤ q
  hi : q ≤ (S : Rat)
theorem InMS.num {M S : Nat} {q : Rat} (h : InMS M S q) : q.num.natAbs ≤ S * q.den := num_le h.lo h.hi
theorem InMS.dn {M S : Nat} {q : Rat} (h : InMS M S q) : q.den ∣ M ∧ q.num.natAbs ≤ S * q.den := ⟨h.den, h.num⟩
theorem InMS.denle {M S : Nat} {q : Rat} (h : InMS M S q) (M0 : 0 < M) : q.den ≤ M := Nat.le_of_dvd M0 h.den
theorem InMS.nlt {M S m s : Nat} {q : Rat} (h : InMS M S q) (M0 : 0 < M) (hM : M < 2 ^ m) (hS : S < 2 ^ s) : q.num.natAbs < 2 ^ (s + m) :=
  Nat.lt_of_le_of_lt (Nat.le_trans h.num (Nat.mul_le_mul_left _ (h.denle M0))) (lt_mul2 hS hM)
theorem InMS.sz {M S m s : Nat} {q : Rat} (h : InMS M S q) (M0 : 0 < M) (hM : M < 2 ^ m) (hS : S < 2 ^ s) (z : s + m ≤ 3000) : Sz q :=
  ⟨lt_up (h.nlt M0 hM hS) z, lt_up (Nat.lt_of_le_of_lt (h.denle M0) hM) (by omega)⟩
theorem InMS.up {M S N T : Nat} {q : Rat} (h : InMS M S q) (hN : M ∣ N) (hT : S ≤ T) : InMS N T q := ⟨Nat.dvd_trans h.den hN, h.lo, Rat.le_trans h.hi (by exact_mod_cast hT)⟩
theorem InMS.of {M S : Nat} {q : Rat} (h : InMS M S q) (M0 : 0 < M) : Of M q := den_of h.den M0
theorem InMS.sub {M S : Nat} {a b : Rat} (ha : InMS M S a) (hb : Of M b) (b0 : 0 ≤ b) (M0 : 0 < M) (z : b ≤ a) : InMS M S (a - b) := ⟨of_den M0 ((ha.of M0).sub M0 hb), by grind, by have := ha.hi; grind⟩
/-- what a child gets of `a`, protected of its group, which uses `un`, where its children claim `cl` together -/
def partQ (h : Bool) (a un cl : Rat) (U c : Str → Rat) (x : Str) : Rat := if a < cl then c x * (a / cl) else if h = true ∧ cl < un then c x + (U x - c x) * ((a - cl) / (un - cl)) else c x
structure PartOk (M S : Nat) (a un : Rat) (kids : List Str) (U c : Str → Rat) : Prop where
  M0 : 0 < M
  hM : M < 2 ^ 200
  hS : S < 2 ^ 200
  kl : kids.length ≤ 200
  ku : ∀ x ∈ kids, InMS M S (U x)
  kc : ∀ x ∈ kids, InMS M S (c x)
  cu : ∀ x ∈ kids, c x ≤ U x
  uin : InMS M S un
  a0 : 0 ≤ a
  au : a ≤ un
  ad : a.den < 2 ^ 1500
section
variable {M S : Nat} {a un : Rat} {kids : List Str} {U c : Str → Rat}
theorem PartOk.cl (h : PartOk M S a un kids U c) : InMS M (S * 256) (sumQ (kids.map c)) := by
  have h1 : Of M (sumQ (kids.map c)) := sum_of h.M0 of_zero fun q hq => by
    obtain ⟨x, hx, rfl⟩ := List.mem_map.mp hq
    exact (h.kc x hx).of h.M0
  have h2 := sum_bd (S := S) (qs := kids.map c) (s := 0) (k := 0) (Rat.le_refl) (by simp) fun q hq => by
    obtain ⟨x, hx, rfl⟩ := List.mem_map.mp hq
    exact ⟨(h.kc x hx).lo, (h.kc x hx).hi⟩
  refine ⟨of_den h.M0 h1, h2.1, Rat.le_trans h2.2 ?_⟩
  have : S * (0 + (kids.map c).length) ≤ S * 256 := Nat.mul_le_mul_left _ (by rw [List.length_map]; have := h.kl; omega)
  exact_mod_cast this
theorem PartOk.s1 (h : PartOk M S a un kids U c) : S * 256 < 2 ^ 209 := by
  exact lt_up (lt_mul2 h.hS (show 256 < 2 ^ 9 by decide)) (by decide)
theorem PartOk.an (h : PartOk M S a un kids U c) : a.num.natAbs ≤ S * a.den := num_le h.a0 (Rat.le_trans h.au h.uin.hi)
theorem PartOk.anl (h : PartOk M S a un kids U c) : a.num.natAbs < 2 ^ 1700 := Nat.lt_of_le_of_lt h.an (lt_up (lt_mul2 h.hS h.ad) (by decide))
theorem PartOk.az (h : PartOk M S a un kids U c) : Sz a := ⟨lt_up h.anl (by decide), lt_up h.ad (by decide)⟩
theorem PartOk.clz (h : PartOk M S a un kids U c) : Sz (sumQ (kids.map c)) := h.cl.sz h.M0 h.hM h.s1 (by decide)
theorem PartOk.uz (h : PartOk M S a un kids U c) : Sz un := h.uin.sz h.M0 h.hM h.hS (by decide)
theorem PartOk.cz (h : PartOk M S a un kids U c) {x : Str} (hx : x ∈ kids) : Sz (c x) := (h.kc x hx).sz h.M0 h.hM h.hS (by decide)
theorem PartOk.clp (h : PartOk M S a un kids U c) (l : a < sumQ (kids.map c)) : 0 < sumQ (kids.map c) := by
  have := h.a0
  grind
theorem PartOk.rz (h : PartOk M S a un kids U c) (l : a < sumQ (kids.map c)) : Sz (a / sumQ (kids.map c)) := by
  obtain ⟨q1, q2⟩ := quot_sz h.a0 (h.clp l)
  refine ⟨Nat.lt_of_le_of_lt q1 ?_, Nat.lt_of_le_of_lt q2 ?_⟩
  · exact lt_up (lt_mul2 h.anl (Nat.lt_of_le_of_lt (h.cl.denle h.M0) h.hM)) (by decide)
  · exact lt_up (lt_mul2 h.ad (h.cl.nlt h.M0 h.hM h.s1)) (by decide)
theorem PartOk.tot (h : PartOk M S a un kids U c) : M < 2 ^ 3000 ∧ S * (kids.map c).length * M < 2 ^ 3000 ∧ ∀ q ∈ kids.map c, q.den ∣ M ∧ q.num.natAbs ≤ S * q.den := by
  refine ⟨lt_up h.hM (by decide), ?_, fun q hq => ?_⟩
  · have : (kids.map c).length < 2 ^ 9 := by rw [List.length_map]; have := h.kl; omega
    exact lt_up (lt_mul2 (lt_mul2 h.hS this) h.hM) (by decide)
  · obtain ⟨x, hx, rfl⟩ := List.mem_map.mp hq
    exact (h.kc x hx).dn
theorem PartOk.big (h : PartOk M S a un kids U c) : S * 256 * 2 * M < 2 ^ 3000 := lt_up (lt_mul2 (lt_mul2 h.s1 (show 2 < 2 ^ 2 by decide)) h.hM) (by decide)
/-- the sum of what is beyond -/
theorem PartOk.m1 (h : PartOk M S a un kids U c) : 0 < a.den * M ∧ a.den * M < 2 ^ 1700 ∧ a.den * M < 2 ^ 3000 ∧ S * 256 * 2 * (a.den * M) < 2 ^ 3000 := by
  have z : a.den * M < 2 ^ 1700 := lt_up (lt_mul2 h.ad h.hM) (by decide)
  exact ⟨Nat.mul_pos a.den_pos h.M0, z, lt_up z (by decide), lt_up (lt_mul2 (lt_mul2 h.s1 (show 2 < 2 ^ 2 by decide)) z) (by decide)⟩
theorem up256 {q : Rat} (h : q.num.natAbs ≤ S * q.den) : q.num.natAbs ≤ S * 256 * q.den := Nat.le_trans h (Nat.mul_le_mul_right _ (by omega))
theorem PartOk.ad1 (h : PartOk M S a un kids U c) : a.den ∣ a.den * M ∧ a.num.natAbs ≤ S * 256 * a.den := ⟨Nat.dvd_mul_right _ _, up256 h.an⟩
theorem PartOk.cd1 (h : PartOk M S a un kids U c) : (sumQ (kids.map c)).den ∣ a.den * M ∧ (sumQ (kids.map c)).num.natAbs ≤ S * 256 * (sumQ (kids.map c)).den := ⟨Nat.dvd_trans h.cl.den (Nat.dvd_mul_left _ _), h.cl.num⟩
theorem PartOk.d1 (h : PartOk M S a un kids U c) (l : ¬ a < sumQ (kids.map c)) : InMS (a.den * M) S (a - sumQ (kids.map c)) := by
  refine InMS.sub ⟨Nat.dvd_mul_right _ _, h.a0, Rat.le_trans h.au h.uin.hi⟩ ?_ h.cl.lo h.m1.1 (by grind)
  exact (h.cl.of h.M0).upL _ a.den_pos
theorem PartOk.d2 (h : PartOk M S a un kids U c) (l : sumQ (kids.map c) < un) : InMS M S (un - sumQ (kids.map c)) := InMS.sub h.uin (h.cl.of h.M0) h.cl.lo h.M0 (by grind)
theorem PartOk.rr (h : PartOk M S a un kids U c) (l : ¬ a < sumQ (kids.map c)) (g : sumQ (kids.map c) < un) : 0 ≤ (a - sumQ (kids.map c)) / (un - sumQ (kids.map c)) ∧ (a - sumQ (kids.map c)) / (un - sumQ (kids.map c)) ≤ 1 ∧
    ((a - sumQ (kids.map c)) / (un - sumQ (kids.map c))).num.natAbs < 2 ^ 2100 ∧ ((a - sumQ (kids.map c)) / (un - sumQ (kids.map c))).den < 2 ^ 2100 := by
  have p1 : 0 ≤ a - sumQ (kids.map c) := by grind
  have p2 : 0 < un - sumQ (kids.map c) := by grind
  have p3 : a - sumQ (kids.map c) ≤ un - sumQ (kids.map c) := by have := h.au; grind
  obtain ⟨q1, q2⟩ := quot_sz p1 p2
  have e1 := h.d1 l
  have e2 := h.d2 g
  refine ⟨?_, ?_, Nat.lt_of_le_of_lt q1 ?_, Nat.lt_of_le_of_lt q2 ?_⟩
  · rw [Rat.div_def]
    exact Rat.mul_nonneg p1 (Rat.le_of_lt (Rat.inv_pos.mpr p2))
  · rw [Rat.div_def]
    have := Rat.mul_le_mul_of_nonneg_right p3 (Rat.le_of_lt (Rat.inv_pos.mpr p2))
    rwa [Rat.mul_inv_cancel _ (fun e => by rw [e] at p2; exact absurd p2 (by decide))] at this
  · exact lt_up (lt_mul2 (e1.nlt h.m1.1 h.m1.2.1 h.hS) (Nat.lt_of_le_of_lt (e2.denle h.M0) h.hM)) (by decide)
  · exact lt_up (lt_mul2 (Nat.lt_of_le_of_lt (e1.denle h.m1.1) h.m1.2.1) (e2.nlt h.M0 h.hM h.hS)) (by decide)
theorem PartOk.beyond (h : PartOk M S a un kids U c) {x : Str} (hx : x ∈ kids) : InMS M S (U x - c x) := InMS.sub (h.ku x hx) ((h.kc x hx).of h.M0) (h.kc x hx).lo h.M0 (h.cu x hx)
theorem PartOk.small (h : PartOk M S a un kids U c) : M < 2 ^ 3000 ∧ S * 2 * M < 2 ^ 3000 := ⟨lt_up h.hM (by decide), lt_up (lt_mul2 (lt_mul2 h.hS (show 2 < 2 ^ 2 by decide)) h.hM) (by decide)⟩
/-- what is added to a claim -/
theorem PartOk.more (h : PartOk M S a un kids U c) {x : Str} (hx : x ∈ kids) {r : Rat} (r0 : 0 ≤ r) (r1 : r ≤ 1) (rd : r.den < 2 ^ 2100) : InMS (M * r.den) S ((U x - c x) * r) := by
  have b := h.beyond hx
  refine ⟨of_den (Nat.mul_pos h.M0 r.den_pos) ((b.of h.M0).mul (den_of (Nat.dvd_refl _) r.den_pos)), Rat.mul_nonneg b.lo r0, Rat.le_trans ?_ b.hi⟩
  have := Rat.mul_le_mul_of_nonneg_left r1 b.lo
  rwa [Rat.mul_one] at this
theorem PartOk.m3 (h : PartOk M S a un kids U c) {r : Rat} (rd : r.den < 2 ^ 2100) : 0 < M * r.den ∧ M * r.den < 2 ^ 3000 ∧ S * 2 * (M * r.den) < 2 ^ 3000 := by
  have z := lt_mul2 h.hM rd
  exact ⟨Nat.mul_pos h.M0 r.den_pos, lt_up z (by decide), lt_up (lt_mul2 (lt_mul2 h.hS (show 2 < 2 ^ 2 by decide)) z) (by decide)⟩
end
end Bd
end

section
namespace Bd
open PySem L2 Am
open Evl hiding tCut pss_cut
abbrev sParted : Stmt := (top 54)
theorem scParted : FnScope ["tree", "name", "part", "used", "claims", "children", "claimed", "rate", "beyond", "child"] ["tree", "name", "part", "used", "claims"] (defScope sParted) := ⟨rfl, rfl, rfl, by decide +kernel, rfl, by decide +kernel, by decide +kernel⟩

section
variable {K : PySem.W.Frag} {H : Hp} {σ : L2.St}
theorem amts_list {d : Addr} {names : List Str} {f : Str → Rat} (h : Amts K H d names f) : ∃ g : Str → V, (∀ n ∈ names, ∀ H1, Ex H H1 → DGet H1 d (.str n) (some (g n))) ∧ ∀ ns : List Str, (∀ n ∈ ns, n ∈ names) → ∀ H1, Ex H H1 → Paired (AmtQ K H1) (ns.map g) (ns.map f) := by
  obtain ⟨kvs, h1, h2⟩ := h
  refine ⟨fun n => (valV kvs (Sum.inr n)).getD .non, fun n hn H1 e => ?_, fun ns => ?_⟩
  · obtain ⟨v, h3, _⟩ := h2 n hn
    show DGet H1 d (.str n) (some ((valV kvs (Sum.inr n)).getD .non))
    rw [h3]
    exact dget_of (k := Sum.inr n) (e _ _ h1) h3
  · induction ns with
    | nil => exact fun _ _ _ => .nil
    | cons n ns ih =>
      intro hs H1 e
      obtain ⟨v, h3, h4⟩ := h2 n (hs n List.mem_cons_self)
      refine .cons ?_ (ih (fun m hm => hs m (List.mem_cons_of_mem _ hm)) H1 e)
      show AmtQ K H1 ((valV kvs (Sum.inr n)).getD .non) (f n)
      rw [h3]
      exact h4.same e
/-- total([d[name] for name in names]) -/
theorem eq_totals {E : XK} {tl : TE} {i j : Nat} {vs : List Nat} {a d : Addr} {ns names : List Str} {f : Str → Rat} {M S : Nat} (hl : Ev tl σ H (.ref a)) (hs : SqL K H a (ns.map .str)) (hz : ns.length ≤ 1000) (hA : Amts K H d names f) (hn : ∀ n ∈ ns, n ∈ names)
    (hw : ∀ x, wipe ((wipe σ vs).set j (some x)) vs = wipe σ vs) (hi : ∀ x : V, ((wipe σ vs).set j (some x))[i]? = some (some (.ref d))) (hj : ∀ x : V, ((wipe σ vs).set j (some x))[j]? = some (some x))
    (M0 : 0 < M) (hM : M < 2 ^ 3000) (hS : S * (ns.map f).length * M < 2 ^ 3000) (hd : ∀ q ∈ ns.map f, q.den ∣ M ∧ q.num.natAbs ≤ S * q.den) (z : 0 ≤ sumQ (ns.map f)) :
    EvQ K (tCall (spTotal K) [] E (tCons (tLc (iList K tl) (gName j) tYes (tDGet (tVar i) (tVar j)) vs) tNil)) σ H (sumQ (ns.map f)) := by
  obtain ⟨g, g1, g2⟩ := amts_list hA
  exact eq_total (el_strs ns g hl hs hz hw fun n hm H1 e H2 e2 Q k => ⟨_, hi _, _, hj _, d, g n, rfl, g1 n (hn n hm) H2 (e.trans e2), k H2 (Ex.refl H2)⟩) (g2 ns hn) M0 hM hS hd z
end
def spParted (K : PySem.W.Frag) (C : Addr) : Sp := fun vs H Q _ => ∃ (p : Addr) (name : Str) (v : V) (du dc : Addr) (rows : List RowM) (h : Bool) (tk : List (Key × V)) (a : Rat) (U c : Str → Rat) (M S : Nat), vs = [.ref p, .str name, v, .ref du, .ref dc] ∧ TreeAt K H C p rows h tk ∧ RowsOk rows ∧ name ∈ nms rows ∧
  PartOk M S a (U name) (kidsOf rows (Sum.inr name)) U c ∧ AmtQ K H v a ∧ Amts K H du (name :: kidsOf rows (Sum.inr name)) U ∧ Amts K H dc (kidsOf rows (Sum.inr name)) c ∧
  ∀ d kvs H', H d = none → Same H H' → H' d = some (.dK kvs) → MapR (AmR K (partQ h a (U name) (sumQ ((kidsOf rows (Sum.inr name)).map c)) U c)) H' kvs (kidsOf rows (Sum.inr name)) → Q (.ref d) H'
theorem kids_nd {rows : List RowM} (ok : RowsOk rows) (k : Key) : (kidsOf rows k).Nodup := by
  have := nms_nd ok
  unfold nms at this
  unfold kidsOf
  exact this.sublist (List.filter_sublist.map _)
section
variable {P : Program} {w : World} {K : PySem.W.Frag} {mg : Str → Option Value} {base : Heap} {C CN : Addr}
theorem ok_parted {f fK fH gT gL gO gM gI gP : Addr} {fd dK dH dT dL dO dM dI dP : FuncData} (F : Fun K "parted" "parted" sParted f fd) (TCl : TC K mg C)
    (mK : Meth K C "children" fK) (FK : FnOk P w K mg base (L2.CX P w) 1 fK dK ["self", "name"] (spTKids K C CN)) (bK : Binds K dK ["self", "name"] []) (mH : Meth K C "handing" fH) (FH : FnOk P w K mg base CX0 1 fH dH ["self"] (spTHanding K C)) (bH : Binds K dH ["self"] [])
    (cT : Cal P w K mg base "total" ["amounts"] 3 (spTotal K) gT dT) (cL : Cal P w K mg base "is_less" ["one", "other"] 1 (spLess K) gL dL) (cO : Cal P w K mg base "over" ["one", "other"] 3 (spOver K) gO dO) (cM : Cal P w K mg base "times" ["one", "other"] 2 (spTimes K) gM dM)
    (cI : Cal P w K mg base "minus" ["one", "other"] 4 (spMinus K) gI dI) (cP : Cal P w K mg base "plus" ["one", "other"] 4 (spPlus K) gP dP) : FnOk P w K mg base CX0 5 f fd ["tree", "name", "part", "used", "claims"] (spParted K C) := by
  refine F.ok scParted (fun vs H Q E h => ?_) (fun cdv A outer s H vs Q E hr h => ?_)
  · obtain ⟨p, name, v, du, dc, rows, h, tk, a, U, c, M, S, rfl, _⟩ := h
    rfl
  obtain ⟨p, name, v, du, dc, rows, h, tk, a, U, c, M, S, rfl, ht, ok, hnm, po, hv, hu', hc', q⟩ := h
  have hu := hu_of hr
  refine ⟨_, (pss_cons (ps_set (i := 5) scParted.nd rfl (Or.inl rfl) (pe_meth (pv 0) TCl.cl mK FK (hr.mono (by decide)) bK .nil passL (pa_cons (pv 1) pa_nil))) (pss_cons (ps_set (i := 6) scParted.nd rfl (Or.inl rfl) (pe_call cT.ok (hr.mono (by decide)) rfl cT.mg cT.kp cT.bd .nil pass0 (pa_cons (pe_lc (own := [("child", 9)]) (g := gName 9) (tt := tYes) (te := (tDGet (tVar 4) (tVar 9))) rfl scParted.nd (pi_list (pv 5)) (blkOk_by (own := [("child", 9)]) (N := ["tree", "name", "part", "used", "claims", "children", "claimed", "rate", "beyond", "child"]) (sc := defScope sParted) (by decide +kernel)) (fun _ _ _ _ _ => (pg_name (i := 9) scParted.nd rfl (Or.inl rfl))) (fun _ _ _ _ _ => pts_nil) (fun _ _ _ _ _ => (pe_dget hu (pv 4) (pv 9) (fun _ _ => rfl)))) pa_nil))) (pss_cons (ps_if (pt_val (pe_call cL.ok (hr.mono (by decide)) rfl cL.mg cL.kp cL.bd .nil pass0 (pa_cons (pv 2) (pa_cons (pv 6) pa_nil)))) (pss_cons (ps_set (i := 7) scParted.nd rfl (Or.inr rfl) (pe_call cO.ok (hr.mono (by decide)) rfl cO.mg cO.kp cO.bd .nil pass0 (pa_cons (pv 2) (pa_cons (pv 6) pa_nil)))) (pss_one (ps_ret (pe_dc (own := [("child", 9)]) (g := gName 9) (tt := tYes) (tk := tVar 9) (tv := (tCall (spTimes K) [] E0 (tCons (tDGet (tVar 4) (tVar 9)) (tCons (tVar 7) tNil)))) rfl scParted.nd (pi_list (pv 5)) (blkOk_by (own := [("child", 9)]) (N := ["tree", "name", "part", "used", "claims", "children", "claimed", "rate", "beyond", "child"]) (sc := defScope sParted) (by decide +kernel)) (fun _ _ _ _ _ => (pg_name (i := 9) scParted.nd rfl (Or.inl rfl))) (fun _ _ _ _ _ => pts_nil) (fun _ _ _ _ _ => (pv 9)) (fun _ _ _ _ _ => (pe_call cM.ok (hr.mono (by decide)) rfl cM.mg cM.kp cM.bd .nil pass0 (pa_cons (pe_dget hu (pv 4) (pv 9) (fun _ _ => rfl)) (pa_cons (pv 7) pa_nil)))))))) pss_nil) (pss_cons (ps_if (PW.pt (pw_or (pt_not (pt_val (pe_meth0 (pv 0) TCl.cl mH FH (hr.mono (by decide)) bH .nil pass0))) (pw_or1 (pt_not (pt_val (pe_call cL.ok (hr.mono (by decide)) rfl cL.mg cL.kp cL.bd .nil pass0 (pa_cons (pv 6) (pa_cons (pe_dget hu (pv 3) (pv 1) (fun _ _ => rfl)) pa_nil)))))))) (pss_one (ps_ret (pe_dc (own := [("child", 9)]) (g := gName 9) (tt := tYes) (tk := tVar 9) (tv := (tDGet (tVar 4) (tVar 9))) rfl scParted.nd (pi_list (pv 5)) (blkOk_by (own := [("child", 9)]) (N := ["tree", "name", "part", "used", "claims", "children", "claimed", "rate", "beyond", "child"]) (sc := defScope sParted) (by decide +kernel)) (fun _ _ _ _ _ => (pg_name (i := 9) scParted.nd rfl (Or.inl rfl))) (fun _ _ _ _ _ => pts_nil) (fun _ _ _ _ _ => (pv 9)) (fun _ _ _ _ _ => (pe_dget hu (pv 4) (pv 9) (fun _ _ => rfl)))))) pss_nil) (pss_cons (ps_set (i := 7) scParted.nd rfl (Or.inr rfl) (pe_call cO.ok (hr.mono (by decide)) rfl cO.mg cO.kp cO.bd .nil pass0 (pa_cons (pe_call cI.ok (hr.mono (by decide)) rfl cI.mg cI.kp cI.bd .nil pass0 (pa_cons (pv 2) (pa_cons (pv 6) pa_nil))) (pa_cons (pe_call cI.ok (hr.mono (by decide)) rfl cI.mg cI.kp cI.bd .nil pass0 (pa_cons (pe_dget hu (pv 3) (pv 1) (fun _ _ => rfl)) (pa_cons (pv 6) pa_nil))) pa_nil)))) (pss_cons (ps_set (i := 8) scParted.nd rfl (Or.inr rfl) (pe_dc (own := [("child", 9)]) (g := gName 9) (tt := tYes) (tk := tVar 9) (tv := (tCall (spMinus K) [] E0 (tCons (tDGet (tVar 3) (tVar 9)) (tCons (tDGet (tVar 4) (tVar 9)) tNil)))) rfl scParted.nd (pi_list (pv 5)) (blkOk_by (own := [("child", 9)]) (N := ["tree", "name", "part", "used", "claims", "children", "claimed", "rate", "beyond", "child"]) (sc := defScope sParted) (by decide +kernel)) (fun _ _ _ _ _ => (pg_name (i := 9) scParted.nd rfl (Or.inl rfl))) (fun _ _ _ _ _ => pts_nil) (fun _ _ _ _ _ => (pv 9)) (fun _ _ _ _ _ => (pe_call cI.ok (hr.mono (by decide)) rfl cI.mg cI.kp cI.bd .nil pass0 (pa_cons (pe_dget hu (pv 3) (pv 9) (fun _ _ => rfl)) (pa_cons (pe_dget hu (pv 4) (pv 9) (fun _ _ => rfl)) pa_nil)))))) (pss_one (ps_ret (pe_dc (own := [("child", 9)]) (g := gName 9) (tt := tYes) (tk := tVar 9) (tv := (tCall (spPlus K) [] E0 (tCons (tDGet (tVar 4) (tVar 9)) (tCons (tCall (spTimes K) [] E0 (tCons (tDGet (tVar 8) (tVar 9)) (tCons (tVar 7) tNil))) tNil)))) rfl scParted.nd (pi_list (pv 5)) (blkOk_by (own := [("child", 9)]) (N := ["tree", "name", "part", "used", "claims", "children", "claimed", "rate", "beyond", "child"]) (sc := defScope sParted) (by decide +kernel)) (fun _ _ _ _ _ => (pg_name (i := 9) scParted.nd rfl (Or.inl rfl))) (fun _ _ _ _ _ => pts_nil) (fun _ _ _ _ _ => (pv 9)) (fun _ _ _ _ _ => (pe_call cP.ok (hr.mono (by decide)) rfl cP.mg cP.kp cP.bd .nil pass0 (pa_cons (pe_dget hu (pv 4) (pv 9) (fun _ _ => rfl)) (pa_cons (pe_call cM.ok (hr.mono (by decide)) rfl cM.mg cM.kp cM.bd .nil pass0 (pa_cons (pe_dget hu (pv 8) (pv 9) (fun _ _ => rfl)) (pa_cons (pv 7) pa_nil))) pa_nil))))))))))))), ?_⟩
  have nd := kids_nd ok (Sum.inr name)
  have hkl := po.kl
  refine q_asgL (el_kids rfl ht ok (List.mem_cons_of_mem _ hnm) (ev_var rfl)) fun l H1 hl e1 f1 => ?_
  have hle := hkl
  generalize hks : kidsOf rows (Sum.inr name) = kids at *
  have hc1 := hc'.ex e1
  obtain ⟨t1, t2, t3⟩ := po.tot
  refine q_asgQ (eq_totals (ns := kids) (d := dc) (ev_var rfl) (sq_of f1) (by omega) hc1 (fun _ h => h) (fun _ => rfl) (fun _ => rfl) (fun _ => rfl) po.M0 t1 t2 t3 po.cl.lo) fun vc H2 e2 qc => ?_
  have f2 := e2 _ _ f1
  have hc2 := hc1.ex e2
  have e12 := e1.trans e2
  have hv2 := hv.same e12
  have hu2 := hu'.ex e12
  have ht2 := ht.same e12 ok
  have fin : ∀ {d kvs H3 H4}, Ex H2 H3 → H3 d = none → Ex H3 H4 → H4 d = some (.dK kvs) → MapR (AmR K (partQ h a (U name) (sumQ (kids.map c)) U c)) H4 kvs kids → Q (.ref d) H4 := fun {d kvs H3 H4} s3 hd s4 h1 h2 => q d kvs H4 (fresh_back (e12.trans s3) hd) ((e12.trans s3).trans s4) h1 h2
  clear q
  have hU : ∀ {n : Str}, n ∈ kids → n ∈ name :: kids := fun h => List.mem_cons_of_mem _ h
  refine q_when (et_B (ev_less (eq_var rfl hv2) (eq_var rfl qc) po.az po.clz)) (fun hb H3 e3 => ?_) fun hb H3 e3 => ?_
  · have lt := of_decide_eq_true hb
    refine q_asgQ (eq_over (eq_var rfl (hv2.same e3)) (eq_var rfl (qc.same e3)) po.az po.clz po.a0 (po.clp lt)) fun vr H4 e4 qr => ?_
    have e24 := e3.trans e4
    have r0 : 0 ≤ a / sumQ (kids.map c) := by
      rw [Rat.div_def]
      exact Rat.mul_nonneg po.a0 (Rat.le_of_lt (Rat.inv_pos.mpr (po.clp lt)))
    refine s_retM (f := partQ h a (U name) (sumQ (kids.map c)) U c) (em_dc (names := kids) (ev_var rfl) (sq_of (e24 _ _ f2)) nd (by omega) (fun _ => rfl) (fun _ => rfl) fun n hn G s => ?_) fun d kvs G h1 h2 h3 h4 => fin e24 h1 h2 h3 h4
    refine EvQ.is (eq_times (eq_get rfl (ev_var rfl) ((hc2.ex e24).ex s) hn) (eq_var rfl (qr.same s)) (po.cz hn) (po.rz lt) (po.kc n hn).lo r0) ?_
    unfold partQ
    rw [if_pos lt]
  · have nlt := of_decide_eq_false hb
    have ht3 := ht2.same e3 ok
    have hu3 := hu2.ex e3
    have hc3 := hc2.ex e3
    have qc3 := qc.same e3
    have hv3 := hv2.same e3
    have f3 := e3 _ _ f2
    refine q_when (b := !h || !decide (sumQ (kids.map c) < U name)) (et_or (et_not (et_B (ev_handing rfl ht3 ok))) fun _ => et_not (et_B (ev_less (eq_var rfl qc3) (eq_get rfl (ev_var rfl) hu3 List.mem_cons_self) po.clz po.uz))) (fun hb2 H4 e4 => ?_) fun hb2 H4 e4 => ?_
    · refine s_retM (f := partQ h a (U name) (sumQ (kids.map c)) U c) (em_dc (names := kids) (ev_var rfl) (sq_of (e4 _ _ f3)) nd (by omega) (fun _ => rfl) (fun _ => rfl) fun n hn G s => ?_) fun d kvs G h1 h2 h3 h4 => fin (e3.trans e4) h1 h2 h3 h4
      refine EvQ.is (eq_get rfl (ev_var rfl) ((hc3.ex e4).ex s) hn) ?_
      unfold partQ
      rw [if_neg nlt, if_neg]
      rintro ⟨z1, z2⟩
      rw [z1, decide_eq_true z2] at hb2
      cases hb2
    · have z1 : h = true := by
        cases h with
        | true => rfl
        | false => cases hb2
      subst z1
      have z2 : sumQ (kids.map c) < U name := by
        by_cases z : sumQ (kids.map c) < U name
        · exact z
        · rw [decide_eq_false z] at hb2
          cases hb2
      have hu4 := hu3.ex e4
      have hc4 := hc3.ex e4
      have hv4 := hv3.same e4
      have qc4 := qc3.same e4
      have f4 := e4 _ _ f3
      have e34 := e3.trans e4
      have d1 := po.d1 nlt
      have d2 := po.d2 z2
      obtain ⟨r0, r1, rn, rd⟩ := po.rr nlt z2
      obtain ⟨m1, m2, m3, m4⟩ := po.m1
      have s256 : PartOk M S a (U name) kids U c → S ≤ S * 256 := fun _ => by omega
      refine q_asgQ (eq_over (eq_minus (eq_var rfl hv4) (eq_var rfl qc4) m1 m3 m4 po.ad1 po.cd1 (by grind)) (eq_minus (M := M) (S := S * 256) (eq_get rfl (ev_var rfl) hu4 List.mem_cons_self) (eq_var rfl qc4) po.M0 po.small.1 po.big ⟨po.uin.den, up256 po.uin.num⟩ po.cl.dn (by grind)) (d1.sz m1 m2 po.hS (by decide)) (d2.sz po.M0 po.hM po.hS (by decide)) d1.lo (by grind)) fun vr H5 e5 qr => ?_
      have f5 := e5 _ _ f4
      have hc5 := hc4.ex e5
      have hu5 := hu4.ex e5
      have rz : Sz ((a - sumQ (kids.map c)) / (U name - sumQ (kids.map c))) := ⟨lt_up rn (by decide), lt_up rd (by decide)⟩
      obtain ⟨r, er⟩ : ∃ r, (a - sumQ (kids.map c)) / (U name - sumQ (kids.map c)) = r := ⟨_, rfl⟩
      rw [er] at r0 r1 rn rd qr rz
      refine q_asgM (f := fun n => U n - c n) (em_dc (names := kids) (ev_var rfl) (sq_of f5) nd (by omega) (fun _ => rfl) (fun _ => rfl) fun n hn G s => eq_minus (eq_get rfl (ev_var rfl) (hu5.ex s) (hU hn)) (eq_get rfl (ev_var rfl) (hc5.ex s) hn) po.M0 po.small.1 po.small.2 (po.ku n hn).dn (po.kc n hn).dn (po.cu n hn)) fun db kb H6 hdb e6 fb mb => ?_
      have hb6 := Amts.of fb mb nd
      have hc6 := hc5.ex e6
      have qr6 := qr.same e6
      have e46 := (e34.trans e5).trans e6
      refine s_retM (f := partQ true a (U name) (sumQ (kids.map c)) U c) (em_dc (names := kids) (ev_var rfl) (sq_of (e6 _ _ f5)) nd (by omega) (fun _ => rfl) (fun _ => rfl) fun n hn G s => ?_) fun d kvs G h1 h2 h3 h4 => fin e46 h1 h2 h3 h4
      have mo := po.more hn r0 r1 rd
      obtain ⟨w1, w2, w3⟩ := po.m3 rd
      refine EvQ.is (eq_plus (eq_get rfl (ev_var rfl) (hc6.ex s) hn) (eq_times (eq_get (f := fun n => U n - c n) rfl (ev_var rfl) (hb6.ex s) hn) (eq_var rfl (qr6.same s)) ((po.beyond hn).sz po.M0 po.hM po.hS (by decide)) rz (po.beyond hn).lo r0) w1 w2 w3 ⟨Nat.dvd_trans (po.kc n hn).den (Nat.dvd_mul_right _ _), (po.kc n hn).num⟩ mo.dn (by have := (po.kc n hn).lo; have := mo.lo; grind)) ?_
      unfold partQ
      rw [if_neg nlt, if_pos ⟨rfl, z2⟩]
      rw [er]
end
end Bd
end

section
namespace Bd
open PySem L2 Am
open Evl hiding tCut pss_cut
abbrev sCTree : Stmt := (top 42)
theorem scCTree : FnScope ["thing"] ["thing"] (defScope sCTree) := ⟨rfl, rfl, rfl, by decide +kernel, rfl, by decide +kernel, by decide +kernel⟩
abbrev sCTop : Stmt := (top 44)
theorem scCTop : FnScope ["tree", "top"] ["tree", "top"] (defScope sCTop) := ⟨rfl, rfl, rfl, by decide +kernel, rfl, by decide +kernel, by decide +kernel⟩
abbrev sCKind : Stmt := (top 49)
theorem scCKind : FnScope ["kind"] ["kind"] (defScope sCKind) := ⟨rfl, rfl, rfl, by decide +kernel, rfl, by decide +kernel, by decide +kernel⟩
abbrev sBelow : Stmt := (top 45)
theorem scBelow : FnScope ["tree", "top", "found", "name"] ["tree", "top"] (defScope sBelow) := ⟨rfl, rfl, rfl, by decide +kernel, rfl, by decide +kernel, by decide +kernel⟩

theorem ev_din {H : Hp} {σ : L2.St} {ty td : TE} {d : Addr} {kvs : List (Key × V)} {x : Str} (hy : Ev ty σ H (.str x)) (hd : Ev td σ H (.ref d)) (h : H d = some (.dK kvs)) : Ev (tDIn ty td) σ H (.bl (valV kvs (Sum.inr x)).isSome) := fun H1 e Q k =>
  hy H1 e _ fun H2 e2 => hd H2 (e.trans e2) _ fun H3 e3 => ⟨d, _, rfl, DGet.k (k := Sum.inr x) ((e.trans (e2.trans e3)) _ _ h), k H3 (e2.trans e3)⟩
/-- the two tuples of the top -/
structure TKk (K : PySem.W.Frag) (mg : Str → Option Value) (aK : Addr) : Prop where
  g_KINDS : mg "KINDS" = some (.ref aK)
  kinds : ∀ H, SqT K H aK [.str "min", .str "low"]
  z_reversed : mg "reversed" = none
structure TKd (K : PySem.W.Frag) (mg : Str → Option Value) (aK aZ : Addr) : Prop extends TKk K mg aK where
  g_ZERO : mg "ZERO" = some (.ref aZ)
  zero : ∀ H, SqT K H aZ [.int 0, .int 1]
theorem flat_strs (xs : List Str) : (xs.map V.str).all flatV = true := by
  rw [List.all_map]
  exact List.all_eq_true.mpr fun _ _ => rfl
theorem in_strs (x : Str) (xs : List Str) : inV (V.str x) (xs.map V.str) = decide (x ∈ xs) := by
  unfold inV
  induction xs with
  | nil => rfl
  | cons y ys ih =>
    rw [List.map_cons, List.any_cons, ih]
    show ((y == x) || decide (x ∈ ys)) = decide (x ∈ y :: ys)
    by_cases c : y = x
    · subst c
      simp
    · have c' : ¬ x = y := fun e => c e.symm
      have e1 : (y == x) = false := by simpa using c
      simp [e1, c']
abbrev mps (s : List Str) : List (Key × V) := s.map fun x => ((Sum.inr x : Key), V.bl true)
theorem mps_val (al : List Str) (x : Str) : (valV (mps al) (Sum.inr x)).isSome = decide (x ∈ al) := by
  have e : (Sum.inr x : Key) ∈ (mps al).map (·.1) ↔ x ∈ al := by
    rw [List.map_map]
    constructor
    · intro m
      obtain ⟨y, hy, e⟩ := List.mem_map.mp m
      rw [← Sum.inr.inj e]
      exact hy
    · intro m
      exact List.mem_map.mpr ⟨x, m, rfl⟩
  by_cases c : x ∈ al
  · rw [decide_eq_true c]
    exact val_some (e.mpr c)
  · rw [decide_eq_false c, keys_none fun m => c (e.mp m)]
    rfl
theorem mps_none {al : List Str} {x : Str} (h : x ∉ al) : valV (mps al) (Sum.inr x) = none := by
  have := mps_val al x
  rw [decide_eq_false h] at this
  cases z : valV (mps al) (Sum.inr x) with
  | none => rfl
  | some v => rw [z] at this; cases this
/-! ### the groups below a top -/
def bStep (top : Str) (acc : List Str) (r : RowM) : List Str := if r.above = top ∨ r.above ∈ acc then acc ++ [r.name] else acc
def belowL (rows : List RowM) (top : Str) : List Str := rows.foldl (bStep top) []
theorem below_in (top : Str) : ∀ {rows : List RowM} {acc : List Str} {x : Str}, x ∈ rows.foldl (bStep top) acc → x ∈ acc ∨ x ∈ nms rows
  | [], acc, x, h => .inl h
  | r :: rows, acc, x, h => by
    rcases below_in top (rows := rows) h with m | m
    · unfold bStep at m
      split at m
      · rcases List.mem_append.mp m with m | m
        · exact .inl m
        · exact .inr (by rw [List.mem_singleton.mp m]; exact List.mem_cons_self)
      · exact .inl m
    · exact .inr (List.mem_cons_of_mem _ m)
theorem below_nms {rows : List RowM} {top x : Str} (h : x ∈ belowL rows top) : x ∈ nms rows := by
  rcases below_in top h with m | m
  · cases m
  · exact m
theorem below_take {rows : List RowM} {top : Str} {i : Nat} {x : Str} (h : x ∈ (rows.take i).foldl (bStep top) []) : x ∈ nms (rows.take i) := by
  rcases below_in top h with m | m
  · cases m
  · exact m
theorem bStep_nd {top : Str} {acc : List Str} {r : RowM} (h : acc.Nodup) (n : r.name ∉ acc) : (bStep top acc r).Nodup := by
  unfold bStep
  split
  · refine List.nodup_append.mpr ⟨h, by simp, ?_⟩
    intro a ha b hb e
    rw [List.mem_singleton.mp hb] at e
    exact n (e ▸ ha)
  · exact h
theorem take_nin {rows : List RowM} (nd : (nms rows).Nodup) {i : Nat} {r : RowM} (h : rows[i]? = some r) : r.name ∉ nms (rows.take i) := fun m => by
  unfold nms at m nd
  obtain ⟨hl, e⟩ := List.getElem?_eq_some_iff.mp h
  have e2 : (rows.map (·.name))[i]? = some r.name := by rw [List.getElem?_map, h]; rfl
  rw [List.map_take] at m
  obtain ⟨k, hk⟩ := List.mem_iff_getElem?.mp m
  have lk := (List.getElem?_eq_some_iff.mp hk).1
  rw [List.length_take] at lk
  rw [List.getElem?_take_of_lt (by omega)] at hk
  obtain ⟨l1, z1⟩ := List.getElem?_eq_some_iff.mp hk
  obtain ⟨l2, z2⟩ := List.getElem?_eq_some_iff.mp e2
  have := (List.getElem_inj nd (h₀ := l1) (h₁ := l2)).mp (z1.trans z2.symm)
  omega
theorem below_nd_take {rows : List RowM} {top : Str} (nd : (nms rows).Nodup) : ∀ i, ((rows.take i).foldl (bStep top) []).Nodup := by
  intro i
  induction i with
  | zero => exact List.nodup_nil
  | succ i ih =>
    cases h : rows[i]? with
    | none =>
      rw [List.take_add_one, h]
      simpa using ih
    | some r =>
      rw [List.take_add_one, h, Option.toList_some, List.foldl_append]
      exact bStep_nd ih fun m => take_nin nd h (below_take m)
theorem below_nd {rows : List RowM} {top : Str} (nd : (nms rows).Nodup) : (belowL rows top).Nodup := by
  have := below_nd_take (top := top) nd rows.length
  rw [List.take_length] at this
  exact this
theorem below_len {rows : List RowM} {top : Str} : ∀ i, ((rows.take i).foldl (bStep top) []).length ≤ i := by
  intro i
  induction i with
  | zero => exact Nat.le_refl _
  | succ i ih =>
    cases h : rows[i]? with
    | none =>
      rw [List.take_add_one, h]
      simp only [Option.toList_none, List.append_nil]
      omega
    | some r =>
      rw [List.take_add_one, h, Option.toList_some, List.foldl_append]
      show (bStep top ((rows.take i).foldl (bStep top) []) r).length ≤ i + 1
      generalize (rows.take i).foldl (bStep top) [] = acc at ih ⊢
      unfold bStep
      split
      · rw [List.length_append, List.length_singleton]
        omega
      · omega
def spCTree (K : PySem.W.Frag) (C : Addr) : Sp := fun vs H Q _ => ∃ (p : Addr) (rows : List RowM) (h : Bool) (tk : List (Key × V)), vs = [.ref p] ∧ TreeAt K H C p rows h tk ∧ Q .non H
def spCTop (K : PySem.W.Frag) (C : Addr) : Sp := fun vs H Q _ => ∃ (p : Addr) (top : Str) (rows : List RowM) (h : Bool) (tk : List (Key × V)), vs = [.ref p, .str top] ∧ TreeAt K H C p rows h tk ∧ RowsOk rows ∧ top ∈ ("" : Str) :: nms rows ∧ (top = "" ∨ kidsOf rows (Sum.inr top) ≠ []) ∧ Q .non H
def spCKind : Sp := fun vs H Q _ => ∃ kd : Str, vs = [.str kd] ∧ (kd = "min" ∨ kd = "low") ∧ Q .non H
def spBelow (K : PySem.W.Frag) (C : Addr) : Sp := fun vs H Q _ => ∃ (p : Addr) (top : Str) (rows : List RowM) (h : Bool) (tk : List (Key × V)), vs = [.ref p, .str top] ∧ TreeAt K H C p rows h tk ∧ RowsOk rows ∧ rows.length ≤ 200 ∧
  ∀ l H', H l = none → Same H H' → H' l = some (.lst ((belowL rows top).map .str)) → Q (.ref l) H'
section
variable {P : Program} {w : World} {K : PySem.W.Frag} {mg : Str → Option Value} {base : Heap} {aL C CN aK aZ : Addr} {left : List (Key × V)}
theorem ok_ctree {f : Addr} {fd : FuncData} (F : Fun K "check_tree" "check_tree" sCTree f fd) (T : TP P w K mg aL left) (TCl : TC K mg C) (TIs : TI K C) : FnOk P w K mg base CX0 1 f fd ["thing"] (spCTree K C) := by
  refine F.ok scCTree (fun vs H Q E h => ?_) (fun cdv A outer s H vs Q E hr h => ?_)
  · obtain ⟨p, rows, h, tk, rfl, _⟩ := h
    rfl
  obtain ⟨p, rows, h, tk, rfl, ⟨dx, po, pp, pk, pt, o1, _⟩, q⟩ := h
  refine ⟨_, (pss_one (ps_if (pt_not (pt_val (pe_callB call_isi (by rfl) T.z_isinstance (by decide +kernel) (pa_cons (pv 0) (pa_cons (pe_glob (v := .ref C) rfl TCl.g_Tree rfl) pa_nil))))) (pss_one ps_never) pss_nil)), ?_⟩
  exact ⟨_, rfl, _, _, _, _, true, rfl, .own C, .base (.ins o1 TCl.cl TIs.ha TIs.hn TIs.htk TIs.hm), by simp [PySem.W.kitOne], true, rfl, iteF q⟩
theorem ok_ctop {f : Addr} {fd : FuncData} (F : Fun K "check_top" "check_top" sCTop f fd) (T : TP P w K mg aL left) (TCl : TC K mg C) : FnOk P w K mg base CX0 1 f fd ["tree", "top"] (spCTop K C) := by
  refine F.ok scCTop (fun vs H Q E h => ?_) (fun cdv A outer s H vs Q E hr h => ?_)
  · obtain ⟨p, top, rows, h, tk, rfl, _⟩ := h
    rfl
  obtain ⟨p, top, rows, h, tk, rfl, ⟨dx, po, pp, pk, pt, o1, o2, o3, o4, o5, o6⟩, ok, hx, hk, q⟩ := h
  have hu := hu_of hr
  refine ⟨_, (pss_cons (ps_if (PW.pt (pw_or (pt_not (pt_val (pe_callB call_isi (by rfl) T.z_isinstance (by decide +kernel) (pa_cons (pv 1) (pa_cons (pe_bltn (v := .ty "str") (u := .type "str") (by rfl) T.z_str (by decide +kernel) rfl) pa_nil))))) (pw_or1 (pt_cmp (pc_dnotin hu (pv 1) (pe_fld (pv 0) rfl)))))) (pss_one ps_never) pss_nil) (pss_one (ps_if (PW.pt (pw_and (pt_cmpR op_ne (pv 1) pe_str (nomark _)) (pw_and1 (pt_not (pt_truth (pe_dget hu (pe_fld (pv 0) rfl) (pv 1) (fun _ _ => rfl)) (by intro _; rfl)))))) (pss_one ps_never) pss_nil))), ?_⟩
  obtain ⟨ks, k1, k2, k3⟩ := id o6
  refine ⟨_, rfl, _, _, _, _, true, rfl, .ty _, .base (.str _), kit_ty (by decide +kernel), true, rfl, ?_⟩
  refine iteF ?_
  refine ⟨_, rfl, _, rfl, p, C, dx, _, _, rfl, o1, TCl.cl, TCl.n_kids, tf5_kids, pk, _, rfl, DGet.k (k := Sum.inr top) k1, ?_⟩
  rw [kid_val k2, decide_eq_true hx]
  refine ⟨false, rfl, iteF ?_⟩
  refine ⟨_, rfl, rfl, _, rfl, ?_⟩
  rw [dec_strs]
  by_cases c : top = ""
  · rw [decide_eq_true c]
    exact iteF (iteF q)
  · rw [decide_eq_false c]
    refine iteT ?_
    obtain ⟨l, ks', e1, e2, e3⟩ := kid_get o6 (nms_nd ok) (nms_ne ok) hx
    refine ⟨_, rfl, p, C, dx, _, _, rfl, o1, TCl.cl, TCl.n_kids, tf5_kids, _, rfl, pk, _, rfl, dget_of e1 e2, _, .inl ⟨_, SqL.of e3, rfl⟩, ?_⟩
    have : ((kidsOf rows (Sum.inr top)).map V.str).isEmpty = false := by
      cases z : kidsOf rows (Sum.inr top) with
      | nil => exact absurd z (hk.resolve_left c)
      | cons a b => rfl
    rw [this]
    exact iteF q
theorem ok_ckind {f : Addr} {fd : FuncData} (F : Fun K "check_kind" "check_kind" sCKind f fd) (T : TP P w K mg aL left) (Tk : TKk K mg aK) : FnOk P w K mg base CX0 1 f fd ["kind"] spCKind := by
  refine F.ok scCKind (fun vs H Q E h => ?_) (fun cdv A outer s H vs Q E hr h => ?_)
  · obtain ⟨kd, rfl, _⟩ := h
    rfl
  obtain ⟨kd, rfl, hk, q⟩ := h
  refine ⟨_, (pss_one (ps_if (PW.pt (pw_or (pt_not (pt_val (pe_callB call_isi (by rfl) T.z_isinstance (by decide +kernel) (pa_cons (pv 0) (pa_cons (pe_bltn (v := .ty "str") (u := .type "str") (by rfl) T.z_str (by decide +kernel) rfl) pa_nil))))) (pw_or1 (pt_cmpR op_notIn_seq (pv 0) (pe_glob (v := .ref aK) rfl Tk.g_KINDS rfl) (by first | exact nomark _ | rfl))))) (pss_one ps_never) pss_nil)), ?_⟩
  refine ⟨_, rfl, _, _, _, _, true, rfl, .ty _, .base (.str _), kit_ty (by decide +kernel), true, rfl, ?_⟩
  refine iteF ?_
  refine ⟨_, rfl, aK, [.str "min", .str "low"], rfl, .inr (Tk.kinds H), rfl, rfl, false, ?_, iteF q⟩
  rcases hk with rfl | rfl <;> decide +kernel
theorem ok_below {f fN fA : Addr} {fd dN dA : FuncData} (F : Fun K "groups_below" "groups_below" sBelow f fd) (T : TP P w K mg aL left) (TCl : TC K mg C) (mN : Meth K C "names" fN) (FN : FnOk P w K mg base CX0 1 fN dN ["self"] (spTNames K C)) (bN : Binds K dN ["self"] [])
    (mA : Meth K C "above" fA) (FA : FnOk P w K mg base (L2.CX P w) 2 fA dA ["self", "name"] (spTAbove K C CN)) (bA : Binds K dA ["self", "name"] []) : FnOk P w K mg base CX0 3 f fd ["tree", "top"] (spBelow K C) := by
  refine F.ok scBelow (fun vs H Q E h => ?_) (fun cdv A outer s H vs Q E hr h => ?_)
  · obtain ⟨p, top, rows, h, tk, rfl, _⟩ := h
    rfl
  obtain ⟨p, top, rows, h, tk, rfl, ht, ok, len, q⟩ := h
  have hu := hu_of hr
  refine ⟨_, (pss_cons (ps_set (i := 2) scBelow.nd rfl (Or.inl rfl) pe_dnewK) (pss_cons (ps_for PassesOwn.never rfl (pi_list (pe_meth0 (pv 0) TCl.cl mN FN (hr.mono (by decide)) bN .nil pass0)) (pg_name (i := 3) scBelow.nd rfl (Or.inl rfl)) (pss_one (ps_if (PW.pt (pw_or (pt_cmpR op_eq (pe_meth (pv 0) TCl.cl mA FA (hr.mono (by decide)) bA .nil passL (pa_cons (pv 3) pa_nil)) (pv 1) (nomark _)) (pw_or1 (pt_cmp (pc_din hu (pe_meth (pv 0) TCl.cl mA FA (hr.mono (by decide)) bA .nil passL (pa_cons (pv 3) pa_nil)) (pv 2)))))) (pss_one (ps_dput hu (pv 2) (pv 3) pe_bl rfl)) pss_nil))) (pss_one (ps_ret (pe_callTy (call_list_dK rfl) (by rfl) T.z_list (by decide +kernel) (pa_cons (pv 2) pa_nil)))))), ?_⟩
  have nd := nms_nd ok
  intro dd hdd
  have s0 := Same.new (Same.refl H) hdd (.dK [])
  have f0 : upd H dd (.dK []) dd = some (.dK []) := upd_same
  generalize upd H dd (.dK []) = H1 at s0 f0 ⊢
  refine q_forNLn (el_names rfl (ht.same s0 ok) ok) (fun l i σ G => ∃ o3 : Option V, σ = [some (.ref p), some (.str top), some (.ref dd), o3] ∧ Same H G ∧ G dd = some (.dK (mps ((rows.take i).foldl (bStep top) []))) ∧ G l = some (.lst ((nms rows).map .str))) (fun l G hl e f => ⟨_, rfl, Same.trans s0 e, e _ _ f0, f⟩) ?_ ?_ ?_
  · rintro l i σ G _ ⟨_, rfl, _, _, e⟩
    exact sq_of e
  · rintro l i x σ G hx ⟨o3, rfl, sG, fG, fl⟩
    obtain ⟨r, hr1, rfl⟩ : ∃ r, rows[i]? = some r ∧ x = .str r.name := by
      unfold nms at hx
      rw [List.getElem?_map, List.getElem?_map] at hx
      obtain ⟨m, h1, h2⟩ := Option.map_eq_some_iff.mp hx
      obtain ⟨r, h3, h4⟩ := Option.map_eq_some_iff.mp h1
      exact ⟨r, h3, by rw [← h2, ← h4]⟩
    have hrm := List.mem_of_getElem? hr1
    have il := (List.getElem?_eq_some_iff.mp hr1).1
    have htG := ht.same sG ok
    have et : (rows.take (i + 1)).foldl (bStep top) [] = bStep top ((rows.take i).foldl (bStep top) []) r := by
      rw [List.take_add_one, hr1, Option.toList_some, List.foldl_append]
      rfl
    have hn : r.name ∉ (rows.take i).foldl (bStep top) [] := fun m => take_nin nd hr1 (below_take m)
    have hlen := below_len (rows := rows) (top := top) i
    rw [et]
    generalize (rows.take i).foldl (bStep top) [] = acc at fG hn hlen ⊢
    refine s_when (b := decide (r.above = top) || decide (r.above ∈ acc)) (et_or (et_test (ev_is (ev_op (ev_above rfl htG ok hrm (ev_var rfl)) (ev_var rfl) (rv_eq rfl)) (by rw [dec_strs]))) fun _ => et_test (ev_is (ev_din (ev_above rfl htG ok hrm (ev_var rfl)) (ev_var rfl) fG) (by rw [mps_val]))) (fun hb G2 e2 => ?_) fun hb G2 e2 => ?_
    · have hb : r.above = top ∨ r.above ∈ acc := by simpa using hb
      have fG2 := e2 _ _ fG
      refine ⟨_, rfl, _, rfl, dd, _, rfl, .inl ⟨_, Sum.inr r.name, fG2, rfl, ?_, rfl⟩, ?_⟩
      · rw [List.length_map]
        exact small1000 (by omega)
      · refine ⟨_, rfl, Same.ch (Same.trans sG e2) hdd _, ?_, ?_⟩
        · rw [upd_same, putK_new _ (mps_none hn)]
          unfold bStep
          rw [if_pos hb, mps, mps, List.map_append]
          rfl
        · rw [upd_ne (ne_of (e2 _ _ fl) fG2 (by intro z; cases z))]
          exact e2 _ _ fl
    · refine ⟨_, rfl, Same.trans sG e2, ?_, e2 _ _ fl⟩
      unfold bStep
      rw [if_neg fun z => by rcases z with z | z <;> simp [z] at hb]
      exact e2 _ _ fG
  · rintro l σ G ⟨o3, rfl, sG, fG, fl⟩
    have el : ((nms rows).map V.str).length = rows.length := by
      unfold nms
      rw [List.length_map, List.length_map]
    rw [el, List.take_length] at fG
    refine ⟨_, rfl, dd, _, rfl, fG, fun q' hq' => ?_⟩
    have sQ := Same.new (Same.refl G) hq' (.lst ((mps (belowL rows top)).map fun kv => kV kv.1))
    refine q q' _ (Same.free sG hq') (sG.trans sQ) ?_
    rw [List.map_map]
    exact upd_same
end
end Bd
end

section
namespace Bd
open PySem L2 Am
open Evl hiding tCut pss_cut
/-! ### the order of the groups below a top -/
theorem row_up {rows : List RowM} (ok : RowsOk rows) {i : Nat} {r : RowM} (h : rows[i]? = some r) : r.above = "" ∨ ∃ k q, k < i ∧ rows[k]? = some q ∧ q.name = r.above := by
  rcases (ok i r h).2.2.2 with e | ⟨q, hq, e, _⟩
  · exact .inl e
  · obtain ⟨k, hk⟩ := List.mem_iff_getElem?.mp hq
    have lk := (List.getElem?_eq_some_iff.mp hk).1
    rw [List.length_take] at lk
    rw [List.getElem?_take_of_lt (by omega)] at hk
    exact .inr ⟨k, q, by omega, hk, e⟩
theorem row_inj {rows : List RowM} (nd : (nms rows).Nodup) {i j : Nat} {r q : RowM} (h1 : rows[i]? = some r) (h2 : rows[j]? = some q) (e : r.name = q.name) : i = j := by
  unfold nms at nd
  have e1 : (rows.map (·.name))[i]? = some r.name := by rw [List.getElem?_map, h1]; rfl
  have e2 : (rows.map (·.name))[j]? = some r.name := by rw [List.getElem?_map, h2, e]; rfl
  obtain ⟨l1, z1⟩ := List.getElem?_eq_some_iff.mp e1
  obtain ⟨l2, z2⟩ := List.getElem?_eq_some_iff.mp e2
  exact (List.getElem_inj nd (h₀ := l1) (h₁ := l2)).mp (z1.trans z2.symm)
theorem row_ne {rows : List RowM} (ok : RowsOk rows) {i : Nat} {r : RowM} (h : rows[i]? = some r) : r.name ≠ "" := fun e => nms_ne ok (List.mem_map.mpr ⟨r, List.mem_of_getElem? h, e⟩)
structure BInv (rows : List RowM) (top : Str) (i : Nat) (acc : List Str) : Prop where
  up : ∀ j x, acc[j]? = some x → ∃ r ∈ rows, r.name = x ∧ (r.above = top ∨ r.above ∈ acc.take j)
  dn : ∀ j n, acc[j]? = some n → ∀ k r, k < i → rows[k]? = some r → r.above = n → r.name ∈ acc.drop (j + 1)
  tp : ∀ k r, k < i → rows[k]? = some r → r.above = top → r.name ∈ acc
theorem b_inv {rows : List RowM} (ok : RowsOk rows) (top : Str) : ∀ i, i ≤ rows.length → BInv rows top i ((rows.take i).foldl (bStep top) []) := by
  intro i
  induction i with
  | zero => exact fun _ => ⟨fun j x h => by simp at h, fun j n h => by simp at h, fun k r h => by omega⟩
  | succ i ih =>
    intro hi
    have h : rows[i]? = some rows[i] := List.getElem?_eq_getElem (by omega)
    obtain ⟨u, d, t⟩ := ih (by omega)
    rw [List.take_add_one, h, Option.toList_some, List.foldl_append]
    generalize rows[i] = r at h
    show BInv rows top (i + 1) (bStep top _ r)
    generalize (rows.take i).foldl (bStep top) [] = acc at u d t ⊢
    unfold bStep
    split
    · rename_i c
      refine ⟨fun j x hx => ?_, fun j n hn k q hk hq e => ?_, fun k q hk hq e => ?_⟩
      · by_cases lj : j < acc.length
        · rw [List.getElem?_append_left lj] at hx
          rw [List.take_append_of_le_length (by omega)]
          exact u j x hx
        · have lj2 : j = acc.length := by
            have := (List.getElem?_eq_some_iff.mp hx).1
            rw [List.length_append, List.length_singleton] at this
            omega
          subst lj2
          rw [List.getElem?_append_right (Nat.le_refl _), Nat.sub_self] at hx
          cases hx
          rw [List.take_append_of_le_length (Nat.le_refl _), List.take_length]
          exact ⟨r, List.mem_of_getElem? h, rfl, c⟩
      · by_cases lj : j < acc.length
        · rw [List.getElem?_append_left lj] at hn
          rw [List.drop_append_of_le_length (by omega)]
          by_cases ki : k < i
          · exact List.mem_append_left _ (d j n hn k q ki hq e)
          · have : k = i := by omega
            subst this
            rw [h] at hq
            cases hq
            exact List.mem_append_right _ (List.mem_singleton.mpr rfl)
        · have lj2 : j = acc.length := by
            have := (List.getElem?_eq_some_iff.mp hn).1
            rw [List.length_append, List.length_singleton] at this
            omega
          subst lj2
          rw [List.getElem?_append_right (Nat.le_refl _), Nat.sub_self] at hn
          cases hn
          exfalso
          rcases row_up ok hq with e2 | ⟨m, z, hm, hz, e2⟩
          · exact row_ne ok h (e.symm.trans e2)
          · have := row_inj (nms_nd ok) hz h (e2.trans e)
            omega
      · by_cases ki : k < i
        · exact List.mem_append_left _ (t k q ki hq e)
        · have : k = i := by omega
          subst this
          rw [h] at hq
          cases hq
          exact List.mem_append_right _ (List.mem_singleton.mpr rfl)
    · rename_i c
      refine ⟨u, fun j n hn k q hk hq e => ?_, fun k q hk hq e => ?_⟩
      · by_cases ki : k < i
        · exact d j n hn k q ki hq e
        · have : k = i := by omega
          subst this
          rw [h] at hq
          cases hq
          exact absurd (.inr (e ▸ List.mem_of_getElem? hn)) c
      · by_cases ki : k < i
        · exact t k q ki hq e
        · have : k = i := by omega
          subst this
          rw [h] at hq
          cases hq
          exact absurd (.inl e) c
theorem below_inv {rows : List RowM} (ok : RowsOk rows) (top : Str) : BInv rows top rows.length (belowL rows top) := by
  have := b_inv ok top rows.length (Nat.le_refl _)
  rw [List.take_length] at this
  exact this
theorem kid_row {rows : List RowM} {n x : Str} (h : x ∈ kidsOf rows (Sum.inr n)) : ∃ (k : Nat) (r : RowM), rows[k]? = some r ∧ r.name = x ∧ r.above = n := by
  rw [kids_flt] at h
  obtain ⟨r, hr, e⟩ := List.mem_map.mp h
  obtain ⟨h1, h2⟩ := List.mem_filter.mp hr
  obtain ⟨k, hk⟩ := List.mem_iff_getElem?.mp h1
  exact ⟨k, r, hk, e, of_decide_eq_true h2⟩
theorem kid_of {rows : List RowM} {r : RowM} (h : r ∈ rows) : r.name ∈ kidsOf rows (Sum.inr r.above) := by
  rw [kids_flt]
  exact List.mem_map.mpr ⟨r, List.mem_filter.mpr ⟨h, decide_eq_true rfl⟩, rfl⟩
/-- children stand behind their group -/
theorem below_kids {rows : List RowM} (ok : RowsOk rows) {top : Str} {j : Nat} {n x : Str} (h : (belowL rows top)[j]? = some n) (hx : x ∈ kidsOf rows (Sum.inr n)) : x ∈ (belowL rows top).drop (j + 1) := by
  obtain ⟨k, r, hk, rfl, e⟩ := kid_row hx
  exact (below_inv ok top).dn j n h k r (List.getElem?_eq_some_iff.mp hk).1 hk e
theorem below_top {rows : List RowM} (ok : RowsOk rows) {top x : Str} (hx : x ∈ kidsOf rows (Sum.inr top)) : x ∈ belowL rows top := by
  obtain ⟨k, r, hk, rfl, e⟩ := kid_row hx
  exact (below_inv ok top).tp k r (List.getElem?_eq_some_iff.mp hk).1 hk e
theorem below_up {rows : List RowM} (ok : RowsOk rows) {top : Str} {j : Nat} {x : Str} (h : (belowL rows top)[j]? = some x) : ∃ r ∈ rows, r.name = x ∧ (r.above = top ∨ r.above ∈ (belowL rows top).take j) := (below_inv ok top).up j x h
/-! ### words -/
abbrev tTrl (K : PySem.W.Frag) (ta : TE) : TT := fun σ H Q => ta σ H fun x H' => ∃ k, TruV K x H' k ∧ Q k H'
section
variable {K : PySem.W.Frag} {H : Hp} {σ : L2.St} {ta tb te td tk : TE} {t : TT} {D : Ends}
theorem eq_if {b : Bool} {q : Rat} (h : EvT t σ H b) (h1 : b = true → EvQ K ta σ H q) (h2 : b = false → EvQ K tb σ H q) : EvQ K (tIf t ta tb) σ H q := fun H1 e Q k => h H1 e _ fun H2 e2 => by
  cases b with
  | true => exact h1 rfl H2 (e.trans e2) Q fun v H3 e3 => k v H3 (e2.trans e3)
  | false => exact h2 rfl H2 (e.trans e2) Q fun v H3 e3 => k v H3 (e2.trans e3)
theorem et_list {i : Nat} {a : Addr} {xs : List V} (hv : σ[i]? = some (some (.ref a))) (h : SqL K H a xs) : EvT (tTrl K (tVar i)) σ H (!xs.isEmpty) := fun H1 e Q k => ⟨_, hv, _, .inl ⟨_, ex_l e h, rfl⟩, k H1 (Ex.refl H1)⟩
theorem et_meth {xs : List V} (h : EvL te σ H xs) : EvT (tTrl K te) σ H (!xs.isEmpty) := fun H1 e Q k => h H1 e _ fun p H2 _ e2 hp => ⟨_, .inl ⟨_, sq_of hp, rfl⟩, k H2 e2⟩
theorem s_dputQ {i : Nat} {d : Addr} {kvs : List (Key × V)} {n : Str} {q : Rat} (hv : σ[i]? = some (some (.ref d))) (hk : Ev tk σ H (.str n)) (h : EvQ K te σ H q) (fd : H d = some (.dK kvs)) (len : kvs.length ≤ 900)
    (k : ∀ v H1, Ex H H1 → AmtQ K H1 v q → D.nx σ (upd H1 d (.dK (putK kvs (Sum.inr n) v)))) : sDPut (tVar i) tk te D σ H :=
  h H (Ex.refl H) _ fun v H1 e a => ⟨_, hv, hk H1 e _ fun H2 e2 => ⟨d, _, rfl, .inl ⟨kvs, Sum.inr n, e2 _ _ (e _ _ fd), rfl, small1000 (by omega), rfl⟩, k v H2 (e.trans e2) (a.same e2)⟩⟩
theorem Amts.put {d : Addr} {kvs : List (Key × V)} {names : List Str} {f : Str → Rat} {n : Str} {v : V} (h : Amts K H d names f) (fd : H d = some (.dK kvs)) (hv : AmtQ K H v (f n)) : Amts K (upd H d (.dK (putK kvs (Sum.inr n) v))) d (n :: names) f := by
  have t : TK H (upd H d (.dK (putK kvs (Sum.inr n) v))) := TK.dk fd _
  obtain ⟨ks, h1, h2⟩ := h
  rw [fd] at h1
  cases h1
  refine ⟨_, upd_same, fun m hm => ?_⟩
  rw [valV_put]
  by_cases c : (Sum.inr m : Key) = Sum.inr n
  · rw [if_pos c]
    have := Sum.inr.inj c
    subst this
    exact ⟨v, rfl, hv.tk t⟩
  · rw [if_neg c]
    rcases List.mem_cons.mp hm with e | hm
    · exact absurd (congrArg Sum.inr e) c
    · obtain ⟨u, a, b⟩ := h2 m hm
      exact ⟨u, a, b.tk t⟩
/-- [.. for k in d], d a dict -/
theorem el_lockKeys {i j : Nat} {d : Addr} {kvs : List (Key × V)} {vs : List Nat} (g : Key × V → V) (hi : σ[i]? = some (some (.ref d))) (fd : H d = some (.dK kvs)) (len : kvs.length ≤ 900) (hw : ∀ x, wipe ((wipe σ vs).set j (some x)) vs = wipe σ vs)
    (he : ∀ H1, Ex H H1 → ∀ od, ∀ kv ∈ kvs, ∀ G, Ex (upd H1 d (.frz od (.dK kvs))) G → Ev te ((wipe σ vs).set j (some (kV kv.1))) G (g kv)) : EvL (tLockE (tLc (iKeys (tVar i)) (gName j) tYes te vs)) σ H (kvs.map g) := by
  intro H1 e Q k
  have fd1 := e _ _ fd
  refine ⟨d, _, fd1, trivial, fun od => ?_⟩
  have fL : upd H1 d (.frz od (.dK kvs)) d = some (.frz od (.dK kvs)) := upd_same
  refine ⟨_, hi, d, od, rfl, .inl ⟨kvs, fL, fun Dl hD => ?_⟩⟩
  have ne : Dl ≠ d := fun z => by rw [z, fL] at hD; cases hD
  have hD1 : H1 Dl = none := by rw [upd_ne ne] at hD; exact hD
  refine lc_it walk_keys (fun m G => Ex (upd H1 d (.frz od (.dK kvs))) G ∧ G Dl = some (.lst ((kvs.take m).map g))) ⟨Ex.new hD, upd_same⟩ ?_ ?_ ?_
  · rintro m G _ ⟨a, _⟩
    exact a _ _ fL
  · rintro m x G G' hm ⟨a, b⟩ ⟨rfl, kk, v, hkv, rfl⟩
    refine ⟨hw _, ?_⟩
    unfold tYes
    refine iteT ?_
    refine he H1 e od (kk, v) (List.mem_of_getElem? hkv) G' a G' (Ex.refl _) _ fun G4 e4 => ⟨_, e4 _ _ b, ?_, Ex.mut (a.trans e4) hD, ?_⟩
    · rw [List.length_map, List.length_take]
      exact small1000 (by omega)
    · rw [upd_same, List.take_add_one, hkv, Option.toList_some, List.map_append]
      rfl
  · rintro G ⟨a, b⟩
    rw [List.take_length] at b
    refine ⟨a _ _ fL, k Dl _ hD1 ?_ ((upd_ne ne).trans b)⟩
    intro c o hc
    by_cases cd : c = d
    · subst cd
      rw [upd_same, ← fd1]
      exact hc
    · rw [upd_ne cd]
      exact a _ _ ((upd_ne cd).trans hc)
end
end Bd
end

section
namespace Bd
open PySem L2 Am
open Evl hiding tCut pss_cut
abbrev sFrom : Stmt := (top 46)
theorem scFrom : FnScope ["tree", "thing", "leaves", "leaf"] ["tree", "thing"] (defScope sFrom) := ⟨rfl, rfl, rfl, by decide +kernel, rfl, by decide +kernel, by decide +kernel⟩
abbrev sTold : Stmt := (top 50)
theorem scTold : FnScope ["tree", "uses", "leaf"] ["tree", "uses"] (defScope sTold) := ⟨rfl, rfl, rfl, by decide +kernel, rfl, by decide +kernel, by decide +kernel⟩
abbrev sWithG : Stmt := (top 51)
theorem scWithG : FnScope ["tree", "uses", "names", "used", "name", "children", "child"] ["tree", "uses", "names"] (defScope sWithG) := ⟨rfl, rfl, rfl, by decide +kernel, rfl, by decide +kernel, by decide +kernel⟩

/-- uses that were told: of leaves, each an amount -/
structure UsesAt (K : PySem.W.Frag) (H : Hp) (d : Addr) (rows : List RowM) (u : Str → Rat) : Prop where
  ex : ∃ kvs ns, H d = some (.dK kvs) ∧ MapR (AmR K u) H kvs ns ∧ ns.Nodup ∧ ns.length ≤ 200 ∧ (∀ n ∈ ns, n ∈ leavesOf rows ∧ Sz (u n) ∧ 0 ≤ u n) ∧ ∀ n ∈ leavesOf rows, n ∉ ns → u n = 0
theorem UsesAt.same {K : PySem.W.Frag} {H H' : Hp} {d : Addr} {rows : List RowM} {u : Str → Rat} (s : Same H H') (h : UsesAt K H d rows u) : UsesAt K H' d rows u := by
  obtain ⟨kvs, ns, h1, h2, h3⟩ := h.ex
  exact ⟨kvs, ns, s _ _ h1, h2.mono fun _ _ z => AmtQ.same s z, h3⟩
theorem leaves_nd {rows : List RowM} (ok : RowsOk rows) : (leavesOf rows).Nodup := by
  have := nms_nd ok
  unfold nms at this
  unfold leavesOf
  exact this.sublist (List.filter_sublist.map _)
theorem leaves_len {rows : List RowM} : (leavesOf rows).length ≤ rows.length := by
  unfold leavesOf
  rw [List.length_map]
  exact List.length_filter_le _ _
def spFrom (K : PySem.W.Frag) (C : Addr) : Sp := fun vs H Q _ => ∃ (p du : Addr) (rows : List RowM) (h : Bool) (tk : List (Key × V)) (u : Str → Rat), vs = [.ref p, .ref du] ∧ TreeAt K H C p rows h tk ∧ RowsOk rows ∧ rows.length ≤ 200 ∧ UsesAt K H du rows u ∧ ∀ H', Same H H' → Q (.bl true) H'
def spTold (K : PySem.W.Frag) (C : Addr) : Sp := fun vs H Q _ => ∃ (p du : Addr) (rows : List RowM) (h : Bool) (tk : List (Key × V)) (u : Str → Rat), vs = [.ref p, .ref du] ∧ TreeAt K H C p rows h tk ∧ RowsOk rows ∧ rows.length ≤ 200 ∧ UsesAt K H du rows u ∧
  ∀ d kvs H', H d = none → Same H H' → H' d = some (.dK kvs) → MapR (AmR K u) H' kvs (leavesOf rows) → Q (.ref d) H'
/-- what groups use: as their leaves -/
structure UseOk (rows : List RowM) (names : List Str) (M S : Nat) (U : Str → Rat) : Prop where
  M0 : 0 < M
  hM : M < 2 ^ 200
  hS : S < 2 ^ 200
  nd : names.Nodup
  len : names.length ≤ 200
  nm : ∀ n ∈ names, n ∈ nms rows
  sz : ∀ n ∈ names, InMS M S (U n)
  kid : ∀ j n, names[j]? = some n → ∀ x ∈ kidsOf rows (Sum.inr n), x ∈ names.drop (j + 1)
  sum : ∀ n ∈ names, kidsOf rows (Sum.inr n) ≠ [] → U n = sumQ ((kidsOf rows (Sum.inr n)).map U)
def spWithG (K : PySem.W.Frag) (C : Addr) : Sp := fun vs H Q _ => ∃ (p du l : Addr) (rows : List RowM) (h : Bool) (tk : List (Key × V)) (names : List Str) (M S : Nat) (U : Str → Rat), vs = [.ref p, .ref du, .ref l] ∧ TreeAt K H C p rows h tk ∧ RowsOk rows ∧ rows.length ≤ 200 ∧
  H l = some (.lst (names.map .str)) ∧ UseOk rows names M S U ∧ Amts K H du (names.filter fun n => (kidsOf rows (Sum.inr n)).isEmpty) U ∧ ∀ d H', H d = none → Same H H' → Amts K H' d names U → Q (.ref d) H'
theorem sums_ok {M S : Nat} {ks : List Str} {f : Str → Rat} (hM : M < 2 ^ 200) (hS : S < 2 ^ 200) (len : ks.length ≤ 200) (h : ∀ x ∈ ks, InMS M S (f x)) : M < 2 ^ 3000 ∧ S * (ks.map f).length * M < 2 ^ 3000 ∧ (∀ q ∈ ks.map f, q.den ∣ M ∧ q.num.natAbs ≤ S * q.den) ∧ 0 ≤ sumQ (ks.map f) := by
  refine ⟨lt_up hM (by decide), ?_, fun q hq => ?_, ?_⟩
  · have : (ks.map f).length < 2 ^ 9 := by rw [List.length_map]; omega
    exact lt_up (lt_mul2 (lt_mul2 hS this) hM) (by decide)
  · obtain ⟨x, hx, rfl⟩ := List.mem_map.mp hq
    exact (h x hx).dn
  · refine (sum_bd (S := S) (qs := ks.map f) (s := 0) (k := 0) Rat.le_refl (by simp) fun q hq => ?_).1
    obtain ⟨x, hx, rfl⟩ := List.mem_map.mp hq
    exact ⟨(h x hx).lo, (h x hx).hi⟩
theorem put_len (kvs : List (Key × V)) (k : Key) (v : V) : (putK kvs k v).length ≤ kvs.length + 1 := by
  unfold putK
  split
  · rw [List.length_map]; omega
  · rw [List.length_append, List.length_singleton]
    omega
theorem paired_memL {α β : Type} {F : α → β → Prop} : ∀ {xs : List α} {ys : List β}, Paired F xs ys → ∀ {x : α}, x ∈ xs → ∃ y ∈ ys, F x y
  | _, _, .nil, _, h => by cases h
  | _, _, .cons a b, x, h => by
    rcases List.mem_cons.mp h with e | h
    · rw [e]
      exact ⟨_, List.mem_cons_self, a⟩
    · obtain ⟨y, hy, r⟩ := paired_memL b h
      exact ⟨y, List.mem_cons_of_mem _ hy, r⟩
theorem all_true {α : Type} (xs : List α) : (xs.map fun _ => true).all id = true := by
  rw [List.all_map]
  exact List.all_eq_true.mpr fun _ _ => rfl
theorem ev_allTrue {K : PySem.W.Frag} {H : Hp} {σ : L2.St} {tl : TE} {α : Type} {xs : List α} (h : EvL tl σ H (xs.map fun _ => V.bl true)) : Ev (tCB (rAll K) (tCons tl tNil)) σ H (.bl true) := fun H1 e Q k =>
  h H1 e _ fun p H2 _ e2 hp => ⟨p, xs.map fun _ => true, rfl, by rw [List.map_map]; exact SqL.of hp, by rw [all_true]; exact k H2 e2⟩
section
variable {P : Program} {w : World} {K : PySem.W.Frag} {mg : Str → Option Value} {base : Heap} {aL C CN aK aZ : Addr} {left : List (Key × V)}
theorem ok_from {f fL gA : Addr} {fd dL dA : FuncData} (F : Fun K "is_from_leaves" "is_from_leaves" sFrom f fd) (T : TP P w K mg aL left) (TCl : TC K mg C) (mL : Meth K C "leaves" fL) (FL : FnOk P w K mg base CX0 1 fL dL ["self"] (spTLeaves K C)) (bL : Binds K dL ["self"] [])
    (cA : Cal P w K mg base "is_amount" ["thing"] 2 (spIsAmount K) gA dA) : FnOk P w K mg base CX0 3 f fd ["tree", "thing"] (spFrom K C) := by
  refine F.ok scFrom (fun vs H Q E h => ?_) (fun cdv A outer s H vs Q E hr h => ?_)
  · obtain ⟨p, du, rows, h, tk, u, rfl, _⟩ := h
    rfl
  obtain ⟨p, du, rows, h, tk, u, rfl, ht, ok, len, hu1, q⟩ := h
  have hu := hu_of hr
  refine ⟨_, (pss_cons (ps_if (pt_not (pt_val (pe_callB call_isi (by rfl) T.z_isinstance (by decide +kernel) (pa_cons (pv 1) (pa_cons (pe_bltn (v := .ty "dict") (u := .type "dict") (by rfl) T.z_dict (by decide +kernel) rfl) pa_nil))))) (pss_one (ps_ret pe_bl)) pss_nil) (pss_cons (ps_set (i := 2) scFrom.nd rfl (Or.inr rfl) (pe_dc (own := [("leaf", 3)]) (g := gName 3) (tt := tYes) (tk := tVar 3) (tv := (tC (.bl true))) rfl scFrom.nd (pi_list (pe_meth0 (pv 0) TCl.cl mL FL (hr.mono (by decide)) bL .nil pass0)) (blkOk_by (own := [("leaf", 3)]) (N := ["tree", "thing", "leaves", "leaf"]) (sc := defScope sFrom) (by decide +kernel)) (fun _ _ _ _ _ => (pg_name (i := 3) scFrom.nd rfl (Or.inl rfl))) (fun _ _ _ _ _ => pts_nil) (fun _ _ _ _ _ => (pv 3)) (fun _ _ _ _ _ => pe_bl))) (pss_one (ps_ret (pe_callB (cr_all rfl) (by rfl) T.z_all (by decide +kernel) (pa_cons (pe_lock (pe_lc (own := [("leaf", 3)]) (g := gName 3) (tt := tYes) (te := tAndV (tDIn (tVar 3) (tVar 2)) (tCall (spIsAmount K) [] E0 (tCons (tDGet (tVar 1) (tVar 3)) tNil))) rfl scFrom.nd (pi_keys (pv 1)) (blkOk_by (own := [("leaf", 3)]) (N := ["tree", "thing", "leaves", "leaf"]) (sc := defScope sFrom) (by decide +kernel)) (fun _ _ _ _ _ => (pg_name (i := 3) scFrom.nd rfl (Or.inl rfl))) (fun _ _ _ _ _ => pts_nil) (fun _ _ _ _ _ => (pe_and (pe_cmp (pc_din hu (pv 3) (pv 2)) rfl) (pe_one (pe_call cA.ok (hr.mono (by decide)) rfl cA.mg cA.kp cA.bd .nil pass0 (pa_cons (pe_dget hu (pv 1) (pv 3) (fun _ _ => rfl)) pa_nil))))))) pa_nil)))))), ?_⟩
  obtain ⟨kvs, ns, fd, hm, nd, nl, hns, hz⟩ := hu1.ex
  refine ⟨_, rfl, _, _, _, _, true, rfl, .ty _, .base (.dK fd), kit_ty (by decide +kernel), true, rfl, ?_⟩
  refine iteF ?_
  -- the leaves
  refine el_leaves rfl ht ok len H (Ex.refl H) _ fun l H1 hl e1 f1 => ?_
  refine ⟨l, rfl, ⟨_, sq_of f1⟩, fun D hD => ?_⟩
  have ndl := leaves_nd ok
  have lll := leaves_len (rows := rows)
  refine dc_lst (K := K) (a := l) (xs := (leavesOf rows).map V.str) (fun i G => G = upd H1 D (.dK (mps ((leavesOf rows).take i)))) rfl ?_ ?_ ?_
  · rintro i _ _ rfl
    exact sq_of (by rw [upd_ne (ne_of_none f1 hD)]; exact f1)
  · rintro i x _ hx rfl
    rw [List.getElem?_map] at hx
    obtain ⟨n, hn, rfl⟩ := Option.map_eq_some_iff.mp hx
    refine ⟨rfl, ?_⟩
    unfold tYes
    refine iteT ?_
    refine ⟨_, rfl, _, Sum.inr n, rfl, upd_same, ?_, ?_⟩
    · rw [List.length_map, List.length_take]
      exact small1000 (by omega)
    · rw [upd_upd, putK_new, List.take_add_one, hn]
      · show _ = upd H1 D (.dK (((leavesOf rows).take i ++ [n]).map _))
        rw [List.map_append]
        rfl
      · refine mps_none fun m => ?_
        obtain ⟨k, hk⟩ := List.mem_iff_getElem?.mp m
        have lk := (List.getElem?_eq_some_iff.mp hk).1
        rw [List.length_take] at lk
        rw [List.getElem?_take_of_lt (by omega)] at hk
        obtain ⟨l1, z1⟩ := List.getElem?_eq_some_iff.mp hk
        obtain ⟨l2, z2⟩ := List.getElem?_eq_some_iff.mp hn
        have := (List.getElem_inj ndl (h₀ := l1) (h₁ := l2)).mp (z1.trans z2.symm)
        omega
  rintro _ rfl
  rw [List.length_map, List.take_length]
  have s2 : Same H (upd H1 D (.dK (mps (leavesOf rows)))) := Same.trans e1 (Same.new (Same.refl H1) hD _)
  have f2 : upd H1 D (.dK (mps (leavesOf rows))) D = some (.dK (mps (leavesOf rows))) := upd_same
  generalize upd H1 D (.dK (mps (leavesOf rows))) = H2 at s2 f2 ⊢
  have fd2 := s2 _ _ fd
  have kl : kvs.length ≤ 900 := by
    rw [Paired.length hm]
    omega
  have ne2 : D ≠ du := (ne_of_none (e1 _ _ fd) hD).symm
  refine s_ret (ev_allTrue (xs := kvs) (el_lockKeys (σ := [some (.ref p), some (.ref du), some (.ref D), none]) (H := H2) (fun _ => V.bl true) rfl fd2 kl (fun _ => rfl) fun G1 e4 od kv hkv G e5 => ?_)) fun H3 e3 => q H3 (s2.trans e3)
  obtain ⟨n, hn, hk, hv⟩ := paired_memL hm hkv
  · obtain ⟨hnl, ⟨z1, z2⟩, z3⟩ := hns n hn
    obtain ⟨kk, v⟩ := kv
    have hk : kk = Sum.inr n := hk
    subst hk
    have fG : G du = some (.frz od (.dK kvs)) := e5 _ _ upd_same
    have fDG : G D = some (.dK (mps (leavesOf rows))) := e5 _ _ ((upd_ne ne2).trans (e4 _ _ f2))
    have hvG : AmtQ K G v (u n) := (((hv : AmtQ K H v (u n)).same (Same.trans s2 e4)).tk (TK.dk (e4 _ _ fd2) _)).same e5
    have ndk : (kvs.map (·.1)).Nodup := by
      rw [hm.keys]
      exact nodup_inr nd
    refine ev_is (ev_andV (a := true) (b := true) (ev_is (ev_din (x := n) (ev_var rfl) (ev_var rfl) fDG) (by rw [mps_val, decide_eq_true hnl])) fun _ G2 e7 Q7 k7 => ?_) rfl
    refine ⟨_, rfl, _, rfl, du, v, rfl, .inl ⟨kvs, Sum.inr n, .inr ⟨od, e7 _ _ fG⟩, rfl, (val_nd ndk _ hkv).symm⟩, ?_⟩
    obtain ⟨a, rfl, ha⟩ := hvG.same e7
    have en := nat_num z3
    rw [en] at ha
    exact ⟨.ref a, (u n).num.natAbs, (u n).den, rfl, .tup ha (.cons (.int _) (.cons (.int _) .nil)), z1, (u n).den_pos, z2, (u n).reduced, k7 G2 (Ex.refl _)⟩
theorem ok_told {f gF : Addr} {fd dF : FuncData} (F : Fun K "told_uses" "told_uses" sTold f fd) (T : TP P w K mg aL left) (Tk : TKd K mg aK aZ) (TCl : TC K mg C) {fL : Addr} {dL : FuncData} (mL : Meth K C "leaves" fL) (FL : FnOk P w K mg base CX0 1 fL dL ["self"] (spTLeaves K C)) (bL : Binds K dL ["self"] [])
    (cF : Cal P w K mg base "is_from_leaves" ["tree", "thing"] 3 (spFrom K C) gF dF) : FnOk P w K mg base CX0 4 f fd ["tree", "uses"] (spTold K C) := by
  refine F.ok scTold (fun vs H Q E h => ?_) (fun cdv A outer s H vs Q E hr h => ?_)
  · obtain ⟨p, du, rows, h, tk, u, rfl, _⟩ := h
    rfl
  obtain ⟨p, du, rows, h, tk, u, rfl, ht, ok, len, hu1, q⟩ := h
  have hu := hu_of hr
  refine ⟨_, (pss_cons (ps_if (pt_not (pt_val (pe_call cF.ok (hr.mono (by decide)) rfl cF.mg cF.kp cF.bd .nil pass0 (pa_cons (pv 0) (pa_cons (pv 1) pa_nil))))) (pss_one ps_never) pss_nil) (pss_one (ps_ret (pe_dc (own := [("leaf", 2)]) (g := gName 2) (tt := tYes) (tk := tVar 2) (tv := (tDGet2 (tVar 1) (tVar 2) (tC (.ref aZ)))) rfl scTold.nd (pi_list (pe_meth0 (pv 0) TCl.cl mL FL (hr.mono (by decide)) bL .nil pass0)) (blkOk_by (own := [("leaf", 2)]) (N := ["tree", "uses", "leaf"]) (sc := defScope sTold) (by decide +kernel)) (fun _ _ _ _ _ => (pg_name (i := 2) scTold.nd rfl (Or.inl rfl))) (fun _ _ _ _ _ => pts_nil) (fun _ _ _ _ _ => (pv 2)) (fun _ _ _ _ _ => (pe_dget2 hu (pv 1) (pv 2) (pe_glob (v := .ref aZ) rfl Tk.g_ZERO rfl) ⟨rfl, rfl, rfl, rfl⟩)))))), ?_⟩
  refine q_when (b := false) (et_not (et_B (b := true) fun H1 e1 Q1 k1 => ⟨_, rfl, _, rfl, p, du, rows, h, tk, u, rfl, ht.same e1 ok, ok, len, hu1.same e1, fun H' s => k1 H' s⟩)) (fun h => by cases h) fun _ H1 e1 => ?_
  have hu2 := hu1.same e1
  have ht1 := ht.same e1 ok
  obtain ⟨kvs, ns, fd, hm, nd, nl, hns, hz⟩ := hu2.ex
  have lll := leaves_len (rows := rows)
  refine s_retM (f := u) (em_dcN (names := leavesOf rows) (el_leaves rfl ht1 ok len) (leaves_nd ok) (by omega) (fun _ => rfl) (fun _ => rfl) fun n hn G s G1 e Q1 k1 => ?_) fun d kvs G h1 h2 h3 h4 => q d kvs G (fresh_back e1 h1) (Same.trans e1 h2) h3 h4
  have fd1 := (Ex.trans s e) _ _ fd
  refine ⟨_, rfl, du, rfl, .inl ⟨kvs, .inl fd1⟩, _, rfl, _, DGet.k (k := Sum.inr n) fd1, ?_⟩
  by_cases c : n ∈ ns
  · obtain ⟨v, h3, h4⟩ := hm.get nd c
    rw [h3]
    exact k1 v G1 (Ex.refl _) (AmtQ.same (Ex.trans s e) h4)
  · have hno : valV kvs (Sum.inr n) = none := keys_none fun m => by
      rw [hm.keys] at m
      obtain ⟨y, hy, e⟩ := List.mem_map.mp m
      exact c (Sum.inr.inj e ▸ hy)
    rw [hno]
    refine k1 _ G1 (Ex.refl _) ⟨aZ, rfl, ?_⟩
    rw [hz n hn c]
    exact Tk.zero G1
theorem ok_withg {f gT fK : Addr} {fd dT dK : FuncData} (F : Fun K "with_groups" "with_groups" sWithG f fd) (T : TP P w K mg aL left) (Tk : TKd K mg aK aZ) (TCl : TC K mg C) (mK : Meth K C "children" fK) (FK : FnOk P w K mg base (L2.CX P w) 1 fK dK ["self", "name"] (spTKids K C CN)) (bK : Binds K dK ["self", "name"] [])
    (cT : Cal P w K mg base "total" ["amounts"] 3 (spTotal K) gT dT) : FnOk P w K mg base CX0 4 f fd ["tree", "uses", "names"] (spWithG K C) := by
  refine F.ok scWithG (fun vs H Q E h => ?_) (fun cdv A outer s H vs Q E hr h => ?_)
  · obtain ⟨p, du, l, rows, h, tk, names, M, S, U, rfl, _⟩ := h
    rfl
  obtain ⟨p, du, l, rows, h, tk, names, M, S, U, rfl, ht, ok, len, hl, uo, hd, q⟩ := h
  have hu := hu_of hr
  refine ⟨_, (pss_cons (ps_set (i := 3) scWithG.nd rfl (Or.inr rfl) pe_dnewK) (pss_cons (ps_for PassesOwn.never rfl (RT.pi_revA rfl Tk.z_reversed (pv 2)) (pg_name (i := 4) scWithG.nd rfl (Or.inl rfl)) (pss_cons (ps_set (i := 5) scWithG.nd rfl (Or.inl rfl) (pe_meth (pv 0) TCl.cl mK FK (hr.mono (by decide)) bK .nil passL (pa_cons (pv 4) pa_nil))) (pss_one (ps_dput hu (pv 3) (pv 4) (pe_ifExp (pt_truth (pv 5) (by intro _; rfl)) (pe_call cT.ok (hr.mono (by decide)) rfl cT.mg cT.kp cT.bd .nil pass0 (pa_cons (pe_lc (own := [("child", 6)]) (g := gName 6) (tt := tYes) (te := (tDGet (tVar 3) (tVar 6))) rfl scWithG.nd (pi_list (pv 5)) (blkOk_by (own := [("child", 6)]) (N := ["tree", "uses", "names", "used", "name", "children", "child"]) (sc := defScope sWithG) (by decide +kernel)) (fun _ _ _ _ _ => (pg_name (i := 6) scWithG.nd rfl (Or.inl rfl))) (fun _ _ _ _ _ => pts_nil) (fun _ _ _ _ _ => (pe_dget hu (pv 3) (pv 6) (fun _ _ => rfl)))) pa_nil)) (pe_dget hu (pv 1) (pv 4) (fun _ _ => rfl))) rfl)))) (pss_one (ps_ret (pv 3))))), ?_⟩
  intro dd hdd
  have s0 := Same.new (Same.refl H) hdd (.dK [])
  have f0 : upd H dd (.dK []) dd = some (.dK []) := upd_same
  generalize upd H dd (.dK []) = H1 at s0 f0 ⊢
  have nl := uo.len
  refine ⟨_, rfl, l, names.map V.str, rfl, .inl ⟨sq_of (s0 _ _ hl), RT.for_Itv (fun i σ G => ∃ (o4 o5 o6 : Option V) (kvs : List (Key × V)), σ = [some (.ref p), some (.ref du), some (.ref l), some (.ref dd), o4, o5, o6] ∧ Same H G ∧ G dd = some (.dK kvs) ∧ kvs.length ≤ i ∧ Amts K G dd (names.drop (names.length - i)) U)
    ⟨_, _, _, [], rfl, s0, f0, Nat.le_refl _, [], f0, fun n hn => by rw [Nat.sub_zero, List.drop_length] at hn; cases hn⟩ ?_ ?_ ?_⟩⟩
  · rintro i σ G ⟨_, _, _, _, rfl, sG, _⟩
    exact sq_of (sG _ _ hl)
  · rintro i x σ G hi hx ⟨o4, o5, o6, kvs, rfl, sG, fG, kl, aG⟩
    rw [List.length_map] at hi hx
    rw [List.getElem?_map] at hx
    obtain ⟨n, hn, rfl⟩ := Option.map_eq_some_iff.mp hx
    have hnm := List.mem_of_getElem? hn
    generalize hj : names.length - 1 - i = j at hn
    have e1 : names.length - i = j + 1 := by omega
    have e2 : names.length - (i + 1) = j := by omega
    have ed : names.drop j = n :: names.drop (j + 1) := by
      obtain ⟨lj, ej⟩ := List.getElem?_eq_some_iff.mp hn
      rw [List.drop_eq_getElem_cons lj, ej]
    rw [e1] at aG
    rw [e2, ed]
    have hkid := uo.kid j n hn
    have hksz : ∀ x ∈ kidsOf rows (Sum.inr n), InMS M S (U x) := fun x hx => uo.sz x (List.mem_of_mem_drop (hkid x hx))
    have hkl : (kidsOf rows (Sum.inr n)).length ≤ 200 := Nat.le_trans (kids_le rows _) len
    have hsum := uo.sum n hnm
    have hdu : Amts K G du (names.filter fun n => (kidsOf rows (Sum.inr n)).isEmpty) U := hd.ex sG
    have hfl : (kidsOf rows (Sum.inr n)).isEmpty = true → n ∈ names.filter fun n => (kidsOf rows (Sum.inr n)).isEmpty := fun h => List.mem_filter.mpr ⟨hnm, h⟩
    refine q_asgL (el_kids rfl (ht.same sG ok) ok (List.mem_cons_of_mem _ (uo.nm n hnm)) (ev_var rfl)) fun lk G1 hlk e1 f1 => ?_
    generalize kidsOf rows (Sum.inr n) = ks at hkid hksz hkl hsum f1 hfl
    have eE : (ks.map V.str).isEmpty = ks.isEmpty := by cases ks <;> rfl
    obtain ⟨t1, t2, t3, t4⟩ := sums_ok uo.hM uo.hS hkl hksz
    have fG1 := e1 _ _ fG
    have aG1 := aG.ex e1
    refine s_dputQ (K := K) (q := U n) (kvs := kvs) rfl (ev_var rfl) (eq_if (et_list rfl (sq_of f1)) (fun hb => ?_) (fun hb => ?_)) fG1 (by omega) fun v G2 e2 hv => ?_
    · rw [eE] at hb
      refine EvQ.is (eq_totals (ns := ks) (d := dd) (ev_var rfl) (sq_of f1) (by omega) aG1 hkid (fun _ => rfl) (fun _ => rfl) (fun _ => rfl) uo.M0 t1 t2 t3 t4) (hsum fun z => by rw [z] at hb; cases hb).symm
    · rw [eE] at hb
      exact eq_get rfl (ev_var rfl) (hdu.ex e1) (hfl (by simpa using hb))
    · have fG2 := e2 _ _ fG1
      exact ⟨_, _, _, _, rfl, Same.ch ((sG.trans e1).trans e2) hdd _, upd_same, Nat.le_trans (put_len _ _ _) (by omega), (aG1.ex e2).put fG2 hv⟩
  · rintro σ G ⟨o4, o5, o6, kvs, rfl, sG, fG, kl, aG⟩
    rw [List.length_map, Nat.sub_self, List.drop_zero] at aG
    exact ⟨_, rfl, q dd G hdd sG aG⟩
end
end Bd
end

section
namespace Bd
open PySem L2 Am
open Evl hiding tCut pss_cut
abbrev sHeld : Stmt := (top 53)
theorem scHeld : FnScope ["tree", "uses", "top", "kind", "names", "used", "name", "claims", "parts"] ["tree", "uses", "top", "kind"] (defScope sHeld) := ⟨rfl, rfl, rfl, by decide +kernel, rfl, by decide +kernel, by decide +kernel⟩
abbrev sProt : Stmt := (top 52)
theorem scProt : FnScope ["tree", "uses", "top", "kind", "used"] ["tree", "uses", "top", "kind"] (defScope sProt) := ⟨rfl, rfl, rfl, by decide +kernel, rfl, by decide +kernel, by decide +kernel⟩

theorem val_merge : ∀ (ls : List (Key × V)) (ks : List (Key × V)) (k : Key), (ls.map (·.1)).Nodup → valV (mergeK ks ls) k = match valV ls k with
    | some v => some v
    | none => valV ks k
  | [], ks, k, _ => rfl
  | p :: r, ks, k, h => by
    have h : (p.1 :: r.map (·.1)).Nodup := h
    obtain ⟨h1, h2⟩ := List.nodup_cons.mp h
    have e : mergeK ks (p :: r) = mergeK (putK ks p.1 p.2) r := rfl
    rw [e, val_merge r _ k h2, valV_put]
    by_cases c : k = p.1
    · subst c
      rw [valV_pos rfl, if_pos rfl]
      cases z : valV r p.1 with
      | none => rfl
      | some v => exact absurd (valV_in z) h1
    · rw [valV_neg (fun z => c z.symm), if_neg c]
theorem Amts.merge {K : PySem.W.Frag} {G : Hp} {d : Addr} {ks ls : List (Key × V)} {names ns : List Str} {f : Str → Rat} (h : Amts K G d names f) (fd : G d = some (.dK ks)) (m : MapR (AmR K f) G ls ns) (nd : ns.Nodup) : Amts K (upd G d (.dK (mergeK ks ls))) d (names ++ ns) f := by
  have t : TK G (upd G d (.dK (mergeK ks ls))) := TK.dk fd _
  obtain ⟨ks', h1, h2⟩ := h
  rw [fd] at h1
  cases h1
  have ndk : (ls.map (·.1)).Nodup := by
    rw [m.keys]
    exact nodup_inr nd
  refine ⟨_, upd_same, fun n hn => ?_⟩
  rw [val_merge ls ks _ ndk]
  by_cases c : n ∈ ns
  · obtain ⟨v, a, b⟩ := m.get nd c
    rw [a]
    exact ⟨v, rfl, AmtQ.tk t b⟩
  · have hno : valV ls (Sum.inr n) = none := keys_none fun mm => by
      rw [m.keys] at mm
      obtain ⟨y, hy, e⟩ := List.mem_map.mp mm
      exact c (Sum.inr.inj e ▸ hy)
    rw [hno]
    obtain ⟨v, a, b⟩ := h2 n ((List.mem_append.mp hn).resolve_right c)
    exact ⟨v, a, b.tk t⟩
/-- the settings of a kind -/
def KindOk (rows : List RowM) (kd : Str) (k : Str → Rat) : Prop := ∀ r ∈ rows, dueOf (fullD r.dues) kd = some (.tuple [.int (k r.name).num, .int ((k r.name).den : Int)])
/-- what is protected below a top -/
structure HeldOk (rows : List RowM) (top : Str) (h : Bool) (k U c p : Str → Rat) (M S : Nat) : Prop where
  M0 : 0 < M
  hM : M < 2 ^ 200
  hS : S < 2 ^ 200
  uz : ∀ n ∈ belowL rows top, InMS M S (U n)
  kz : ∀ n ∈ belowL rows top, InMS M S (k n)
  sum : ∀ n ∈ belowL rows top, kidsOf rows (Sum.inr n) ≠ [] → U n = sumQ ((kidsOf rows (Sum.inr n)).map U)
  cl : ∀ n ∈ belowL rows top, c n = if k n < U n then k n else U n
  tp : ∀ n ∈ kidsOf rows (Sum.inr top), p n = c n
  part : ∀ n ∈ belowL rows top, ∀ x ∈ kidsOf rows (Sum.inr n), p x = partQ h (p n) (U n) (sumQ ((kidsOf rows (Sum.inr n)).map c)) U c x
  p0 : ∀ n ∈ belowL rows top, 0 ≤ p n ∧ p n ≤ U n ∧ (p n).den < 2 ^ 1500
def spHeld (K : PySem.W.Frag) (C : Addr) : Sp := fun vs H Q _ => ∃ (t du : Addr) (top kd : Str) (rows : List RowM) (h : Bool) (tk : List (Key × V)) (k U c p : Str → Rat) (M S : Nat), vs = [.ref t, .ref du, .str top, .str kd] ∧ TreeAt K H C t rows h tk ∧ RowsOk rows ∧ rows.length ≤ 200 ∧ top ∈ ("" : Str) :: nms rows ∧
  kd ∈ leftW ∧ KindOk rows kd k ∧ HeldOk rows top h k U c p M S ∧ Amts K H du (leavesOf rows) U ∧ ∀ d kvs H', H d = none → Same H H' → H' d = some (.dK kvs) → MapR (AmR K p) H' kvs (belowL rows top) → Q (.ref d) H'
def spProt (K : PySem.W.Frag) (C : Addr) : Sp := fun vs H Q _ => ∃ (t du : Addr) (top kd : Str) (rows : List RowM) (h : Bool) (tk : List (Key × V)) (k U c p : Str → Rat) (M S : Nat), vs = [.ref t, .ref du, .str top, .str kd] ∧ TreeAt K H C t rows h tk ∧ RowsOk rows ∧ rows.length ≤ 200 ∧ top ∈ ("" : Str) :: nms rows ∧ (top = "" ∨ kidsOf rows (Sum.inr top) ≠ []) ∧
  (kd = "min" ∨ kd = "low") ∧ KindOk rows kd k ∧ HeldOk rows top h k U c p M S ∧ UsesAt K H du rows U ∧ ∀ d kvs H', H d = none → Same H H' → H' d = some (.dK kvs) → MapR (AmR K p) H' kvs (belowL rows top) → Q (.ref d) H'
theorem HeldOk.cz {rows : List RowM} {top : Str} {h : Bool} {k U c p : Str → Rat} {M S : Nat} (o : HeldOk rows top h k U c p M S) {n : Str} (hn : n ∈ belowL rows top) : InMS M S (c n) ∧ c n ≤ U n := by
  rw [o.cl n hn]
  split
  · rename_i z
    exact ⟨o.kz n hn, Rat.le_of_lt z⟩
  · exact ⟨o.uz n hn, Rat.le_refl⟩
theorem HeldOk.po {rows : List RowM} {top : Str} {h : Bool} {k U c p : Str → Rat} {M S : Nat} (o : HeldOk rows top h k U c p M S) (ok : RowsOk rows) (len : rows.length ≤ 200) {n : Str} (hn : n ∈ belowL rows top) : PartOk M S (p n) (U n) (kidsOf rows (Sum.inr n)) U c := by
  have sub : ∀ x ∈ kidsOf rows (Sum.inr n), x ∈ belowL rows top := fun x hx => by
    obtain ⟨j, hj⟩ := List.mem_iff_getElem?.mp hn
    exact List.mem_of_mem_drop (below_kids ok hj hx)
  obtain ⟨a, b, d⟩ := o.p0 n hn
  exact ⟨o.M0, o.hM, o.hS, Nat.le_trans (kids_le rows _) len, fun x hx => o.uz x (sub x hx), fun x hx => (o.cz (sub x hx)).1, fun x hx => (o.cz (sub x hx)).2, o.uz n hn, a, b, d⟩
theorem HeldOk.uo {rows : List RowM} {top : Str} {h : Bool} {k U c p : Str → Rat} {M S : Nat} (o : HeldOk rows top h k U c p M S) (ok : RowsOk rows) (len : rows.length ≤ 200) : UseOk rows (belowL rows top) M S U := by
  have l := below_len (rows := rows) (top := top) rows.length
  rw [List.take_length] at l
  have l : (belowL rows top).length ≤ rows.length := l
  exact ⟨o.M0, o.hM, o.hS, below_nd (nms_nd ok), by omega, fun n hn => below_nms hn, o.uz, fun j n hj x hx => below_kids ok hj hx, o.sum⟩
theorem leaf_mem {rows : List RowM} {n : Str} (hn : n ∈ nms rows) (h : (kidsOf rows (Sum.inr n)).isEmpty = true) : n ∈ leavesOf rows := by
  obtain ⟨r, hr, rfl⟩ := List.mem_map.mp hn
  refine List.mem_map.mpr ⟨r, List.mem_filter.mpr ⟨hr, ?_⟩, rfl⟩
  have := kids_empty rows r.name
  have e : ((kidsOf rows (Sum.inr r.name)).map V.str).isEmpty = (kidsOf rows (Sum.inr r.name)).isEmpty := by cases kidsOf rows (Sum.inr r.name) <;> rfl
  rw [e, h] at this
  exact this.symm
section
variable {P : Program} {w : World} {K : PySem.W.Frag} {mg : Str → Option Value} {base : Heap} {aL C CN CW aK aZ : Addr} {left : List (Key × V)}
theorem ok_held {f fK fD gB gG gL gP : Addr} {fd dK dD dB dG dL dP : FuncData} (F : Fun K "held" "held" sHeld f fd) (T : TP P w K mg aL left) (TCl : TC K mg C) (mK : Meth K C "children" fK) (FK : FnOk P w K mg base (L2.CX P w) 1 fK dK ["self", "name"] (spTKids K C CN)) (bK : Binds K dK ["self", "name"] [])
    (mD : Meth K C "due" fD) (FD : FnOk P w K mg base (L2.CX P w) 2 fD dD ["self", "name", "word"] (spTDue K C CN CW)) (bD : Binds K dD ["self", "name", "word"] []) (cB : Cal P w K mg base "groups_below" ["tree", "top"] 3 (spBelow K C) gB dB)
    (cG : Cal P w K mg base "with_groups" ["tree", "uses", "names"] 4 (spWithG K C) gG dG) (cL : Cal P w K mg base "lesser" ["one", "other"] 2 (spLesser K) gL dL) (cP : Cal P w K mg base "parted" ["tree", "name", "part", "used", "claims"] 5 (spParted K C) gP dP) :
    FnOk P w K mg base CX0 6 f fd ["tree", "uses", "top", "kind"] (spHeld K C) := by
  refine F.ok scHeld (fun vs H Q E h => ?_) (fun cdv A outer s H vs Q E hr h => ?_)
  · obtain ⟨t, du, top, kd, rows, h, tk, k, U, c, p, M, S, rfl, _⟩ := h
    rfl
  obtain ⟨t, du, top, kd, rows, h, tk, k, U, c, p, M, S, rfl, ht, ok, len, htop, hkd, hk, ho, hd, q⟩ := h
  have hu := hu_of hr
  refine ⟨_, (pss_cons (ps_set (i := 4) scHeld.nd rfl (Or.inl rfl) (pe_call cB.ok (hr.mono (by decide)) rfl cB.mg cB.kp cB.bd .nil pass0 (pa_cons (pv 0) (pa_cons (pv 2) pa_nil)))) (pss_cons (ps_set (i := 5) scHeld.nd rfl (Or.inr rfl) (pe_call cG.ok (hr.mono (by decide)) rfl cG.mg cG.kp cG.bd .nil pass0 (pa_cons (pv 0) (pa_cons (pv 1) (pa_cons (pv 4) pa_nil))))) (pss_cons (ps_set (i := 7) scHeld.nd rfl (Or.inr rfl) (pe_dc (own := [("name", 6)]) (g := gName 6) (tt := tYes) (tk := tVar 6) (tv := (tCall (spLesser K) [] E0 (tCons (tDGet (tVar 5) (tVar 6)) (tCons (tMeth C "due" (spTDue K C CN CW) [] E0 (tVar 0) (tCons (tVar 6) (tCons (tVar 3) tNil))) tNil)))) rfl scHeld.nd (pi_list (pv 4)) (blkOk_by (own := [("name", 6)]) (N := ["tree", "uses", "top", "kind", "names", "used", "name", "claims", "parts"]) (sc := defScope sHeld) (by decide +kernel)) (fun _ _ _ _ _ => (pg_name (i := 6) scHeld.nd rfl (Or.inl rfl))) (fun _ _ _ _ _ => pts_nil) (fun _ _ _ _ _ => (pv 6)) (fun _ _ _ _ _ => (pe_call cL.ok (hr.mono (by decide)) rfl cL.mg cL.kp cL.bd .nil pass0 (pa_cons (pe_dget hu (pv 5) (pv 6) (fun _ _ => rfl)) (pa_cons (pe_meth (pv 0) TCl.cl mD FD (hr.mono (by decide)) bD .nil passL (pa_cons (pv 6) (pa_cons (pv 3) pa_nil))) pa_nil)))))) (pss_cons (ps_set (i := 8) scHeld.nd rfl (Or.inr rfl) (pe_dc (own := [("name", 6)]) (g := gName 6) (tt := tYes) (tk := tVar 6) (tv := (tDGet (tVar 7) (tVar 6))) rfl scHeld.nd (pi_list (pe_meth (pv 0) TCl.cl mK FK (hr.mono (by decide)) bK .nil passL (pa_cons (pv 2) pa_nil))) (blkOk_by (own := [("name", 6)]) (N := ["tree", "uses", "top", "kind", "names", "used", "name", "claims", "parts"]) (sc := defScope sHeld) (by decide +kernel)) (fun _ _ _ _ _ => (pg_name (i := 6) scHeld.nd rfl (Or.inl rfl))) (fun _ _ _ _ _ => pts_nil) (fun _ _ _ _ _ => (pv 6)) (fun _ _ _ _ _ => (pe_dget hu (pv 7) (pv 6) (fun _ _ => rfl))))) (pss_cons (ps_for PassesOwn.never rfl (pi_list (pv 4)) (pg_name (i := 6) scHeld.nd rfl (Or.inl rfl)) (pss_one (ps_if (pt_truth (pe_meth (pv 0) TCl.cl mK FK (hr.mono (by decide)) bK .nil passL (pa_cons (pv 6) pa_nil)) (by intro _; rfl)) (pss_one (ps_expr (pe_bm PySem.F.plainAttrs_dict PySem.F.slot_dict_update PySem.F.type_dict_update mtd_update (pv 8) (pa_cons (pe_call cP.ok (hr.mono (by decide)) rfl cP.mg cP.kp cP.bd .nil pass0 (pa_cons (pv 0) (pa_cons (pv 6) (pa_cons (pe_dget hu (pv 8) (pv 6) (fun _ _ => rfl)) (pa_cons (pv 5) (pa_cons (pv 7) pa_nil)))))) pa_nil)))) pss_nil))) (pss_one (ps_ret (pe_dc (own := [("name", 6)]) (g := gName 6) (tt := tYes) (tk := tVar 6) (tv := (tDGet (tVar 8) (tVar 6))) rfl scHeld.nd (pi_list (pv 4)) (blkOk_by (own := [("name", 6)]) (N := ["tree", "uses", "top", "kind", "names", "used", "name", "claims", "parts"]) (sc := defScope sHeld) (by decide +kernel)) (fun _ _ _ _ _ => (pg_name (i := 6) scHeld.nd rfl (Or.inl rfl))) (fun _ _ _ _ _ => pts_nil) (fun _ _ _ _ _ => (pv 6)) (fun _ _ _ _ _ => (pe_dget hu (pv 8) (pv 6) (fun _ _ => rfl))))))))))), ?_⟩
  have nd := nms_nd ok
  have bnd := below_nd (top := top) nd
  have uo := ho.uo ok len
  have bl := uo.len
  -- names
  refine ⟨_, rfl, _, rfl, t, top, rows, h, tk, rfl, ht, ok, len, fun ln H1 hln s1 f1 => ?_⟩
  -- used
  have hd1 := hd.ex s1
  refine ⟨_, rfl, _, rfl, _, rfl, t, du, ln, rows, h, tk, belowL rows top, M, S, U, rfl, ht.same s1 ok, ok, len, f1, uo, hd1.sub (fun n hn => ?_), fun dU H2 hdU s2 aU => ?_⟩
  · obtain ⟨a, b⟩ := List.mem_filter.mp hn
    exact leaf_mem (below_nms a) b
  have s12 := s1.trans s2
  have f2 := s2 _ _ f1
  have ht2 := ht.same s12 ok
  -- claims
  refine q_asgM (K := K) (f := c) (em_dc (names := belowL rows top) (ev_var rfl) (sq_of f2) bnd (by omega) (fun _ => rfl) (fun _ => rfl) fun n hn G e => ?_) fun dC kc H3 hdC e3 fC mC => ?_
  · obtain ⟨r, hrm, rfl⟩ := List.mem_map.mp (below_nms hn)
    refine EvQ.is (eq_lesser (eq_get rfl (ev_var rfl) (aU.ex e) hn) (eq_due rfl (ht2.same e ok) ok hrm hkd (hk r hrm) (ev_var rfl) (ev_var rfl)) ((ho.uz _ hn).sz ho.M0 ho.hM ho.hS (by decide)) ((ho.kz _ hn).sz ho.M0 ho.hM ho.hS (by decide))) (ho.cl _ hn).symm
  have aC := Amts.of fC mC bnd
  have ht3 := ht2.same e3 ok
  have aU3 := aU.ex e3
  -- parts
  refine q_asgM (K := K) (f := p) (em_dcN (names := kidsOf rows (Sum.inr top)) (el_kids rfl ht3 ok htop (ev_var rfl)) (kids_nd ok _) (Nat.le_trans (kids_le rows _) (by omega)) (fun _ => rfl) (fun _ => rfl) fun n hn G e => ?_) fun dP kp H4 hdP e4 fP mP => ?_
  · exact EvQ.is (eq_get rfl (ev_var rfl) (aC.ex e) (below_top ok hn)) (ho.tp n hn).symm
  have aP := Amts.of fP mP (kids_nd ok _)
  have ht4 := ht3.same e4 ok
  have aU4 := aU3.ex e4
  have aC4 := aC.ex e4
  have f4 := e4 _ _ (e3 _ _ f2)
  have s14 := (s12.trans e3).trans e4
  have hP0 : H dP = none := fresh_back (s12.trans e3) hdP
  have hP3 : H3 dP = none := hdP
  have kpl : kp.length ≤ 200 := by
    rw [Paired.length mP]
    exact Nat.le_trans (kids_le rows _) len
  have ht3' := ht3
  have aU3' := aU3
  have aC3' := aC
  have f3 := e3 _ _ f2
  refine q_forLn (xs := (belowL rows top).map V.str) (ev_var rfl) (sq_of f4) (fun i σ G => ∃ (o6 : Option V) (kvs : List (Key × V)), σ = [some (.ref t), some (.ref du), some (.str top), some (.str kd), some (.ref ln), some (.ref dU), o6, some (.ref dC), some (.ref dP)] ∧ Same H3 G ∧ G dP = some (.dK kvs) ∧ kvs.length ≤ 200 + 200 * i ∧
      Amts K G dP (kidsOf rows (Sum.inr top) ++ ((belowL rows top).take i).flatMap fun n => kidsOf rows (Sum.inr n)) p) (fun G e => ⟨_, kp, rfl, Same.trans e4 e, e _ _ fP, by omega, by rw [List.take_zero]; simpa using aP.ex e⟩) ?_ ?_ ?_
  · rintro i σ G _ ⟨_, _, rfl, sG, _⟩
    exact sq_of (sG _ _ f3)
  · rintro i x σ G hx ⟨o6, kvs, rfl, sG, fG, kl, aG⟩
    rw [List.getElem?_map] at hx
    obtain ⟨n, hn, rfl⟩ := Option.map_eq_some_iff.mp hx
    have il := (List.getElem?_eq_some_iff.mp hn).1
    have hnm := List.mem_of_getElem? hn
    have htG := ht3.same sG ok
    have aUG := aU3.ex sG
    have aCG := aC.ex sG
    have sub : ∀ x ∈ kidsOf rows (Sum.inr n), x ∈ belowL rows top := fun x hx => List.mem_of_mem_drop (below_kids ok hn hx)
    have hin : n ∈ kidsOf rows (Sum.inr top) ++ ((belowL rows top).take i).flatMap fun n => kidsOf rows (Sum.inr n) := by
      obtain ⟨r, hrm, rfl, hup⟩ := below_up ok hn
      have := kid_of hrm
      rcases hup with e | m
      · rw [e] at this
        exact List.mem_append_left _ this
      · exact List.mem_append_right _ (List.mem_flatMap.mpr ⟨_, m, this⟩)
    have eE : ((kidsOf rows (Sum.inr n)).map V.str).isEmpty = (kidsOf rows (Sum.inr n)).isEmpty := by cases kidsOf rows (Sum.inr n) <;> rfl
    have et : ((belowL rows top).take (i + 1)).flatMap (fun n => kidsOf rows (Sum.inr n)) = ((belowL rows top).take i).flatMap (fun n => kidsOf rows (Sum.inr n)) ++ kidsOf rows (Sum.inr n) := by
      rw [List.take_add_one, hn, Option.toList_some, List.flatMap_append]
      simp
    refine s_when (et_meth (el_kids rfl htG ok (List.mem_cons_of_mem _ (below_nms hnm)) (ev_var rfl))) (fun hb G1 e1 => ?_) fun hb G1 e1 => ?_
    · have fG1 := e1 _ _ fG
      have aG1 := aG.ex e1
      have aU1 := aUG.ex e1
      have aC1 := aCG.ex e1
      refine ⟨_, rfl, .inr (.inr (.inl ⟨rfl, .inl ⟨_, fG1⟩⟩)), _, rfl, _, rfl, ?_⟩
      refine eq_get rfl (ev_var rfl) aG1 hin G1 (Ex.refl _) _ fun v G2 e2 hv => ?_
      refine ⟨_, rfl, _, rfl, t, n, v, dU, dC, rows, h, tk, p n, U, c, M, S, rfl, (htG.same e1 ok).same e2 ok, ok, below_nms hnm, ho.po ok len hnm, hv, (aU1.ex e2).sub (fun m hm => ?_), (aC1.ex e2).sub sub, fun dN kn G3 hdN s3 fN mN => ?_⟩
      · rcases List.mem_cons.mp hm with e | hm
        · rw [e]; exact hnm
        · exact sub m hm
      have e13 := e2.trans s3
      have fG3 := e13 _ _ fG1
      have ne : dP ≠ dN := ne_of_none (e2 _ _ fG1) hdN
      have knl : kn.length ≤ 200 := by
        rw [Paired.length mN]
        exact Nat.le_trans (kids_le rows _) len
      refine ⟨dP, dN, kvs, kn, rfl, rfl, ne, fG3, fN, by omega, ?_⟩
      have mN' : MapR (AmR K p) G3 kn (kidsOf rows (Sum.inr n)) := paired_monoM (fun kv x hx z => ⟨z.1, by have := z.2; unfold AmR at this ⊢; rw [ho.part n hnm x hx]; exact this⟩) mN
      refine ⟨_, _, rfl, Same.ch ((sG.trans e1).trans e13) hP3 _, upd_same, ?_, ?_⟩
      · have := length_mergeK kn kvs
        omega
      · rw [et, ← List.append_assoc]
        exact (aG1.ex e13).merge fG3 mN' (kids_nd ok _)
    · rw [eE] at hb
      have hz : kidsOf rows (Sum.inr n) = [] := by simpa using hb
      refine ⟨_, kvs, rfl, Same.trans sG e1, e1 _ _ fG, by omega, ?_⟩
      rw [et, hz, List.append_nil]
      exact aG.ex e1
  · rintro σ G ⟨o6, kvs, rfl, sG, fG, kl, aG⟩
    rw [List.length_map, List.take_length] at aG
    refine s_retM (K := K) (f := p) (em_dc (names := belowL rows top) (ev_var rfl) (sq_of (sG _ _ f3)) bnd (by omega) (fun _ => rfl) (fun _ => rfl) fun n hn G' e => ?_) fun d kvs G' h1 h2 h3 h4 => q d kvs G' (fresh_back ((s12.trans e3).trans sG) h1) (((s12.trans e3).trans sG).trans h2) h3 h4
    refine eq_get rfl (ev_var rfl) (aG.ex e) ?_
    obtain ⟨j, hj⟩ := List.mem_iff_getElem?.mp hn
    obtain ⟨r, hrm, rfl, hup⟩ := below_up ok hj
    have := kid_of hrm
    rcases hup with e | m
    · rw [e] at this
      exact List.mem_append_left _ this
    · exact List.mem_append_right _ (List.mem_flatMap.mpr ⟨_, List.mem_of_mem_take m, this⟩)
theorem ok_prot {f gT gU gP gK gH : Addr} {fd dT dU dP dK dH : FuncData} (F : Fun K "protected" "protected" sProt f fd) (cT : Cal P w K mg base "check_tree" ["thing"] 1 (spCTree K C) gT dT) (cU : Cal P w K mg base "told_uses" ["tree", "uses"] 4 (spTold K C) gU dU) (cTop : Cal P w K mg base "check_top" ["tree", "top"] 1 (spCTop K C) gP dP)
    (cK : Cal P w K mg base "check_kind" ["kind"] 1 spCKind gK dK) (cH : Cal P w K mg base "held" ["tree", "uses", "top", "kind"] 6 (spHeld K C) gH dH) : FnOk P w K mg base CX0 7 f fd ["tree", "uses", "top", "kind"] (spProt K C) := by
  refine F.ok scProt (fun vs H Q E h => ?_) (fun cdv A outer s H vs Q E hr h => ?_)
  · obtain ⟨t, du, top, kd, rows, h, tk, k, U, c, p, M, S, rfl, _⟩ := h
    rfl
  obtain ⟨t, du, top, kd, rows, h, tk, k, U, c, p, M, S, rfl, ht, ok, len, htop, htk, hkd, hk, ho, hd, q⟩ := h
  refine ⟨_, (pss_cons (ps_expr (pe_call cT.ok (hr.mono (by decide)) rfl cT.mg cT.kp cT.bd .nil pass0 (pa_cons (pv 0) pa_nil))) (pss_cons (ps_set (i := 4) scProt.nd rfl (Or.inl rfl) (pe_call cU.ok (hr.mono (by decide)) rfl cU.mg cU.kp cU.bd .nil pass0 (pa_cons (pv 0) (pa_cons (pv 1) pa_nil)))) (pss_cons (ps_expr (pe_call cTop.ok (hr.mono (by decide)) rfl cTop.mg cTop.kp cTop.bd .nil pass0 (pa_cons (pv 0) (pa_cons (pv 2) pa_nil)))) (pss_cons (ps_expr (pe_call cK.ok (hr.mono (by decide)) rfl cK.mg cK.kp cK.bd .nil pass0 (pa_cons (pv 3) pa_nil))) (pss_one (ps_ret (pe_call cH.ok (hr.mono (by decide)) rfl cH.mg cH.kp cH.bd .nil pass0 (pa_cons (pv 0) (pa_cons (pv 4) (pa_cons (pv 2) (pa_cons (pv 3) pa_nil))))))))))), ?_⟩
  refine ⟨_, rfl, t, rows, h, tk, rfl, ht, ?_⟩
  refine ⟨_, rfl, _, rfl, t, du, rows, h, tk, U, rfl, ht, ok, len, hd, fun d kvs H1 hd1 s1 f1 m1 => ?_⟩
  have ht1 := ht.same s1 ok
  refine ⟨_, rfl, _, rfl, t, top, rows, h, tk, rfl, ht1, ok, htop, htk, ?_⟩
  refine ⟨_, rfl, kd, rfl, hkd, ?_⟩
  refine ⟨_, rfl, _, rfl, _, rfl, _, rfl, t, d, top, kd, rows, h, tk, k, U, c, p, M, S, rfl, ht1, ok, len, htop, ?_, hk, ho, Amts.of f1 m1 (leaves_nd ok), fun e kvs H2 h1 h2 h3 h4 => q e kvs H2 (fresh_back s1 h1) (s1.trans h2) h3 h4⟩
  rcases hkd with rfl | rfl <;> decide +kernel
end
end Bd
end

section
namespace Bd
open PySem L2 Am
abbrev sCommon : Stmt := (top 61)
theorem scCommon : FnScope ["_law_one_here", "_law_other"] ["_law_one_here", "_law_other"] (defScope sCommon) := ⟨rfl, rfl, rfl, by decide +kernel, rfl, by decide +kernel, by decide +kernel⟩
abbrev sFraction : Stmt := (top 62)
theorem scFraction : FnScope ["_law_top", "_law_bottom", "_law_measure"] ["_law_top", "_law_bottom"] (defScope sFraction) := ⟨rfl, rfl, rfl, by decide +kernel, rfl, by decide +kernel, by decide +kernel⟩

def spCommon : Sp := fun vs H Q _ => ∃ (a b : Nat), vs = [.int (a : Int), .int (b : Int)] ∧ Q (.int (Nat.gcd a b : Nat)) H
/-- a pair in lowest terms at p -/
def AmtAt (H : Hp) (v : V) (n d : Nat) : Prop := ∃ p, v = .ref p ∧ H p = some (.tup [.int (n : Int), .int (d : Int)])
def spFraction : Sp := fun vs H Q _ => ∃ (a b : Nat), vs = [.int (a : Int), .int (b : Int)] ∧ a ≤ 10 ^ 13 ∧ 0 < b ∧ b ≤ 1000 ∧
  ∀ p n d, H p = none → AmtOk n d → d ≤ b → Q (.ref p) (upd H p (.tup [.int (n : Nat), .int (d : Nat)]))
/-- what the laws draw: whole numbers, or parts up to ninths -/
def Drawn (q : Rat) : Prop := 0 ≤ q ∧ q ≤ ((10 ^ 13 : Nat) : Rat) ∧ q.den ∣ 2520
def spAmount (K : PySem.W.Frag) : Sp := fun vs H Q _ => ∃ (s : Addr), vs = [.ref s] ∧ Src H s ∧
  ∀ v q H', Drawn q → AmtQ K H' v q → Src H' s → Kept s H H' → Q v H'
def spUnder (K : PySem.W.Frag) : Sp := fun vs H Q _ => ∃ (va vb : V) (a b : Rat), vs = [va, vb] ∧ AmtQ K H va a ∧ AmtQ K H vb b ∧ Sz a ∧ Sz b ∧ ∀ H', Same H H' → Q (.bl (decide (a < b))) H'
def spLeast (K : PySem.W.Frag) : Sp := fun vs H Q _ => ∃ (va vb : V) (a b : Rat), vs = [va, vb] ∧ AmtQ K H va a ∧ AmtQ K H vb b ∧ Sz a ∧ Sz b ∧ ∀ v H', Same H H' → AmtQ K H' v (if a < b then a else b) → Q v H'
theorem drawn_of {n d : Nat} (h : AmtOk n d) (d9 : d ≤ 9) : ∃ q : Rat, Drawn q ∧ q.num = (n : Int) ∧ q.den = d := by
  obtain ⟨h1, h2, h3, h4⟩ := h
  obtain ⟨z1, z2⟩ := mk_low (n := (n : Int)) h1 (by rw [Int.natAbs_natCast]; exact h2)
  refine ⟨mkRat (n : Int) d, ⟨?_, ?_, ?_⟩, z1, z2⟩
  · rw [← Rat.num_nonneg, z1]
    omega
  · rw [Rat.le_iff, z1, z2, Rat.num_natCast, Rat.den_natCast]
    have : (n : Int) ≤ ((10 ^ 13 : Nat) : Int) := by exact_mod_cast h3
    have h5 : (1 : Int) ≤ (d : Int) := by omega
    have h6 : ((10 ^ 13 : Nat) : Int) * 1 ≤ ((10 ^ 13 : Nat) : Int) * (d : Int) := Int.mul_le_mul_of_nonneg_left h5 (by omega)
    omega
  · rw [z2]
    have : d = 1 ∨ d = 2 ∨ d = 3 ∨ d = 4 ∨ d = 5 ∨ d = 6 ∨ d = 7 ∨ d = 8 ∨ d = 9 := by omega
    rcases this with rfl | rfl | rfl | rfl | rfl | rfl | rfl | rfl | rfl <;> decide
theorem Drawn.ms {q : Rat} (h : Drawn q) : InMS 2520 (10 ^ 13) q := ⟨h.2.2, h.1, h.2.1⟩
theorem Drawn.sz {q : Rat} (h : Drawn q) : Sz q := h.ms.sz (m := 200) (s := 200) (by decide) (by decide) (by decide) (by decide)
theorem AmtAt.amt {K : PySem.W.Frag} {H : Hp} {v : V} {n d : Nat} {q : Rat} (h : AmtAt H v n d) (e1 : q.num = (n : Int)) (e2 : q.den = d) : AmtQ K H v q := by
  obtain ⟨p, rfl, h⟩ := h
  exact ⟨p, rfl, by rw [e1, e2]; exact SqT.of h⟩
section
variable {P : Program} {w : World} {K : PySem.W.Frag} {mg : Str → Option Value} {base : Heap}
def mu1 : St → Hp → Nat := fun σ _ => match σ[1]? with
  | some (some (V.int b)) => b.toNat
  | _ => 0
theorem ok_common {f : Addr} {fd : FuncData} (F : Fun K "_law_common" "_law_common" sCommon f fd) (T : TA mg) : FnOk P w K mg base CX0 1 f fd ["_law_one_here", "_law_other"] spCommon := by
  refine F.ok scCommon (fun vs H Q E h => ?_) (fun cdv A outer s H vs Q E hr h => ?_)
  · obtain ⟨a, b, rfl, _⟩ := h
    rfl
  obtain ⟨a, b, rfl, q⟩ := h
  refine ⟨_, (pss_cons (ps_while PassesOwn.never (pt_cmpR op_gt (pv 1) pe_int (nomark _)) (pss_one (ps_par (i := 0) (j := 1) (by rfl) scCommon.nd rfl rfl (by decide) rfl rfl (pa_cons (pv 1) (pa_cons (pe_op op_modN (pe_callTy call_int1 (by rfl) T.z_int (by decide +kernel) (pa_cons (pv 0) pa_nil)) (pv 1)) pa_nil)) (by rfl)))) (pss_one (ps_ret (pe_callB call_abs (by rfl) T.z_abs (by decide +kernel) (pa_cons (pv 0) pa_nil))))), ?_⟩
  refine while_by (fun σ H' => H' = H ∧ ∃ x y : Nat, σ = [some (.int (x : Int)), some (.int (y : Int))] ∧ Nat.gcd x y = Nat.gcd a b) mu1 ⟨rfl, a, b, rfl, rfl⟩ ?_ ?_
  · rintro σ H' ⟨rfl, x, y, rfl, e⟩
    refine ⟨_, rfl, _, _, rfl, rfl, _, rfl, ?_⟩
    refine ite2 (fun c => ?_) (fun c => ?_)
    · have c' : (0 : Int) < (y : Int) := of_decide_eq_true c
      refine ⟨_, rfl, _, rfl, .inl ⟨_, rfl, _, rfl, _, _, rfl, rfl, by show (y : Int) ≠ 0; omega, _, _, rfl, ?_⟩⟩
      have em : (x : Int).fmod (y : Int) = ((x % y : Nat) : Int) := by
        rw [Int.fmod_eq_emod_of_nonneg _ (by omega)]
        exact (Int.natCast_emod x y).symm
      refine ⟨⟨rfl, y, x % y, ?_, ?_⟩, ?_⟩
      · show [some (V.int (y : Int)), some (V.int ((x : Int).fmod (y : Int)))] = _
        rw [em]
      · rw [← e, Nat.gcd_comm x y, Nat.gcd_rec y x, Nat.gcd_comm]
      · show ((x : Int).fmod (y : Int)).toNat < (y : Int).toNat
        rw [em]
        have := Nat.mod_lt x (show 0 < y by omega)
        omega
    · have c' : ¬ (0 : Int) < (y : Int) := of_decide_eq_false (Bool.eq_false_iff.mpr c)
      have y0 : y = 0 := by omega
      subst y0
      refine ⟨_, rfl, _, rfl, ?_⟩
      rw [Nat.gcd_zero_right] at e
      rw [if_neg (show ¬ (x : Int) < 0 by omega), e]
      exact q
  · rintro σ H' Q Q' f ⟨v, h1, i, j, h2, h3, k, h4, q⟩
    exact ⟨v, h1, i, j, h2, h3, k, h4, f _ _ q⟩

theorem gcd_low {a b : Nat} (hb : 0 < b) : Nat.gcd (a / Nat.gcd a b) (b / Nat.gcd a b) = 1 := by
  rw [Nat.gcd_div (Nat.gcd_dvd_left a b) (Nat.gcd_dvd_right a b)]
  exact Nat.div_self (Nat.gcd_pos_of_pos_right a hb)
theorem ok_fraction {f g : Addr} {fd gd : FuncData} (F : Fun K "_law_fraction" "_law_fraction" sFraction f fd) (T : TA mg) (cC : Cal P w K mg base "_law_common" ["_law_one_here", "_law_other"] 1 spCommon g gd) : FnOk P w K mg base CX0 2 f fd ["_law_top", "_law_bottom"] spFraction := by
  refine F.ok scFraction (fun vs H Q E h => ?_) (fun cdv A outer s H vs Q E hr h => ?_)
  · obtain ⟨a, b, rfl, _⟩ := h
    rfl
  obtain ⟨a, b, rfl, ha, h0, h1, q⟩ := h
  have hg : 0 < Nat.gcd a b := Nat.gcd_pos_of_pos_right a h0
  have hl : Nat.gcd a b ≤ b := Nat.gcd_le_right a h0
  have e1 : ∀ x : Nat, (x : Int).fdiv (Nat.gcd a b : Nat) = ((x / Nat.gcd a b : Nat) : Int) := fun x => by
    rw [Int.fdiv_eq_ediv_of_nonneg _ (by omega)]
    exact (Int.natCast_ediv x _).symm
  refine ⟨_, (pss_cons (ps_set (i := 2) scFraction.nd rfl (Or.inl rfl) (pe_call cC.ok (hr.mono (by decide)) rfl cC.mg cC.kp cC.bd .nil pass0 (pa_cons (pv 0) (pa_cons (pv 1) pa_nil)))) (pss_one (ps_ret (pe_tup (pa_cons (pe_op op_fdivN (pv 0) (pv 2)) (pa_cons (pe_op op_fdivN (pv 1) (pv 2)) pa_nil)))))), ?_⟩
  refine ⟨_, rfl, _, rfl, a, b, rfl, ?_⟩
  refine ⟨_, rfl, _, rfl, _, _, rfl, rfl, ⟨by show ((Nat.gcd a b : Nat) : Int) ≠ 0; omega, by omega⟩, _, rfl, _, rfl, _, _, rfl, rfl, ⟨by show ((Nat.gcd a b : Nat) : Int) ≠ 0; omega, by omega⟩, by show 2 ≤ sizeLine; decide, fun p hp => ?_⟩
  have := q p (a / Nat.gcd a b) (b / Nat.gcd a b) hp ⟨Nat.div_pos hl hg, gcd_low h0, Nat.le_trans (Nat.div_le_self _ _) ha, Nat.le_trans (Nat.div_le_self _ _) (Nat.le_trans h1 (by decide))⟩ (Nat.div_le_self _ _)
  show Q (.ref p) (upd H p (.tup [.int ((a : Int).fdiv (Nat.gcd a b : Nat)), .int ((b : Int).fdiv (Nat.gcd a b : Nat))]))
  rw [e1, e1]
  exact this

theorem ev_endF {σ : L2.St} {H : Hp} {ta : TE} {v : V} {q : Rat} (h : Evl.Ev ta σ H v) (a : AmtQ K H v q) : Evl.Ev (tOp (rEqD K) ta (tC (.str "endless"))) σ H (.bl false) :=
  Evl.ev_op h Evl.ev_c fun H1 e Q k => by
    obtain ⟨o, rfl, ho⟩ := a.same e
    exact ⟨.tuple [.int q.num, .int (q.den : Int)], .str "endless", .tup ho (.cons (.int _) (.cons (.int _) .nil)), .str _, shaped_ints [q.num, (q.den : Int)], by decide +kernel, k H1 (Evl.Ex.refl H1)⟩
end
end Bd
end

section
namespace Bd
open PySem L2 Am
/-! ### amounts of all groups, from below and from above -/
def setF (f : Str → Rat) (n : Str) (v : Rat) : Str → Rat := fun x => if x = n then v else f x
theorem setF_eq {f : Str → Rat} {n : Str} {v : Rat} : setF f n v n = v := if_pos rfl
theorem setF_ne {f : Str → Rat} {n x : Str} {v : Rat} (h : x ≠ n) : setF f n v x = f x := if_neg h
/-- from the last row up: each group by its children -/
theorem ex_down {rows : List RowM} (ok : RowsOk rows) (F : Str → (Str → Rat) → Rat) (hF : ∀ n U U', (∀ x ∈ kidsOf rows (Sum.inr n), U x = U' x) → F n U = F n U') : ∃ U : Str → Rat, ∀ r ∈ rows, U r.name = F r.name U := by
  have key : ∀ i, i ≤ rows.length → ∃ U : Str → Rat, ∀ j r, rows[j]? = some r → rows.length ≤ j + i → U r.name = F r.name U := by
    intro i
    induction i with
    | zero =>
      intro _
      refine ⟨fun _ => 0, fun j r h hj => ?_⟩
      have := (List.getElem?_eq_some_iff.mp h).1
      omega
    | succ i ih =>
      intro hi
      obtain ⟨U, hU⟩ := ih (by omega)
      have hl : rows.length - (i + 1) < rows.length := by omega
      have hr : rows[rows.length - (i + 1)]? = some rows[rows.length - (i + 1)] := List.getElem?_eq_getElem hl
      generalize rows[rows.length - (i + 1)] = q at hr
      -- children stand behind
      have kid : ∀ {j : Nat} {r : RowM}, rows[j]? = some r → rows.length ≤ j + (i + 1) → ∀ x ∈ kidsOf rows (Sum.inr r.name), x ≠ q.name := fun {j r} h hj x hx e => by
        obtain ⟨k, z, hk, hz, hab⟩ := kid_row hx
        have ek : k = rows.length - (i + 1) := row_inj (nms_nd ok) hk hr (hz.trans e)
        subst ek
        rcases row_up ok hk with e2 | ⟨m, y, hm, hy, e2⟩
        · exact row_ne ok h (hab.symm.trans e2)
        · have := row_inj (nms_nd ok) hy h (e2.trans hab)
          omega
      refine ⟨setF U q.name (F q.name U), fun j r h hj => ?_⟩
      have e : F r.name (setF U q.name (F q.name U)) = F r.name U := hF _ _ _ fun x hx => setF_ne (kid h hj x hx)
      rw [e]
      by_cases c : r.name = q.name
      · rw [c, setF_eq]
      · rw [setF_ne c]
        have : j ≠ rows.length - (i + 1) := fun z => by
          subst z
          rw [hr] at h
          cases h
          exact c rfl
        exact hU j r h (by omega)
  obtain ⟨U, hU⟩ := key rows.length (Nat.le_refl _)
  exact ⟨U, fun r hr => by
    obtain ⟨j, hj⟩ := List.mem_iff_getElem?.mp hr
    exact hU j r hj (by omega)⟩
/-- from the first row down: each group by the one above it -/
theorem ex_up {rows : List RowM} (ok : RowsOk rows) (F : RowM → Rat → Rat) : ∃ p : Str → Rat, ∀ r ∈ rows, p r.name = F r (p r.above) := by
  have key : ∀ i, i ≤ rows.length → ∃ p : Str → Rat, ∀ j r, rows[j]? = some r → j < i → p r.name = F r (p r.above) := by
    intro i
    induction i with
    | zero => exact fun _ => ⟨fun _ => 0, fun j r h hj => by omega⟩
    | succ i ih =>
      intro hi
      obtain ⟨p, hp⟩ := ih (by omega)
      have hr : rows[i]? = some rows[i] := List.getElem?_eq_getElem (by omega)
      generalize rows[i] = q at hr
      have up : ∀ {j : Nat} {r : RowM}, rows[j]? = some r → j ≤ i → r.above ≠ q.name := fun {j r} h hj e => by
        rcases row_up ok h with e2 | ⟨m, y, hm, hy, e2⟩
        · exact row_ne ok hr (e.symm.trans e2)
        · have := row_inj (nms_nd ok) hy hr (e2.trans e)
          omega
      refine ⟨setF p q.name (F q (p q.above)), fun j r h hj => ?_⟩
      rw [setF_ne (up h (by omega))]
      by_cases c : j = i
      · subst c
        rw [hr] at h
        cases h
        exact setF_eq
      · rw [setF_ne fun z => c (row_inj (nms_nd ok) h hr z)]
        exact hp j r h (by omega)
  obtain ⟨p, hp⟩ := key rows.length (Nat.le_refl _)
  exact ⟨p, fun r hr => by
    obtain ⟨j, hj⟩ := List.mem_iff_getElem?.mp hr
    exact hp j r hj (List.getElem?_eq_some_iff.mp hj).1⟩
/-- what a law reckons of a tree: uses, claims, and what is protected below a top -/
structure Reck (rows : List RowM) (top : Str) (h : Bool) (k u U c p : Str → Rat) : Prop where
  use : ∀ r ∈ rows, U r.name = if kidsOf rows (Sum.inr r.name) = [] then u r.name else sumQ ((kidsOf rows (Sum.inr r.name)).map U)
  cl : ∀ r ∈ rows, c r.name = if k r.name < U r.name then k r.name else U r.name
  up : ∀ r ∈ rows, p r.name = if r.above = top then c r.name else partQ h (p r.above) (U r.above) (sumQ ((kidsOf rows (Sum.inr r.above)).map c)) U c r.name
theorem map_eq {α : Type} {xs : List α} {f g : α → Rat} (h : ∀ x ∈ xs, f x = g x) : xs.map f = xs.map g := List.map_congr_left h
theorem use_ex {rows : List RowM} (ok : RowsOk rows) (u : Str → Rat) : ∃ U : Str → Rat, ∀ r ∈ rows, U r.name = if kidsOf rows (Sum.inr r.name) = [] then u r.name else sumQ ((kidsOf rows (Sum.inr r.name)).map U) :=
  ex_down ok (fun n U => if kidsOf rows (Sum.inr n) = [] then u n else sumQ ((kidsOf rows (Sum.inr n)).map U)) fun n U U' h => by
    show (if kidsOf rows (Sum.inr n) = [] then u n else sumQ ((kidsOf rows (Sum.inr n)).map U)) = if kidsOf rows (Sum.inr n) = [] then u n else sumQ ((kidsOf rows (Sum.inr n)).map U')
    rw [map_eq h]
theorem reck_of {rows : List RowM} (ok : RowsOk rows) (top : Str) (h : Bool) (k u U : Str → Rat) (hU : ∀ r ∈ rows, U r.name = if kidsOf rows (Sum.inr r.name) = [] then u r.name else sumQ ((kidsOf rows (Sum.inr r.name)).map U)) :
    ∃ p, Reck rows top h k u U (fun n => if k n < U n then k n else U n) p := by
  obtain ⟨p, hp⟩ := ex_up ok fun r a => if r.above = top then (if k r.name < U r.name then k r.name else U r.name) else partQ h a (U r.above) (sumQ ((kidsOf rows (Sum.inr r.above)).map fun n => if k n < U n then k n else U n)) U (fun n => if k n < U n then k n else U n) r.name
  exact ⟨p, hU, fun r hr => rfl, fun r hr => hp r hr⟩
section
variable {rows : List RowM} {top : Str} {h : Bool} {k u U c p : Str → Rat}
theorem of_mono {M : Nat} (M0 : 0 < M) {q : Rat} (hq : Drawn q) (hM : M = 2520) : Of M q := hM ▸ den_of hq.2.2 (by decide)
theorem kid_ix (ok : RowsOk rows) {j : Nat} {r : RowM} (hj : rows[j]? = some r) {x : Str} (hx : x ∈ kidsOf rows (Sum.inr r.name)) : ∃ m z, rows[m]? = some z ∧ z.name = x ∧ z.above = r.name ∧ j < m := by
  obtain ⟨m, z, hm, hz, ha⟩ := kid_row hx
  refine ⟨m, z, hm, hz, ha, ?_⟩
  rcases row_up ok hm with e | ⟨l, y, hl, hy, e⟩
  · exact absurd (ha.symm.trans e) (row_ne ok hj)
  · have := row_inj (nms_nd ok) hy hj (e.trans ha)
    omega
/-- how great uses grow -/
theorem Reck.uz (R : Reck rows top h k u U c p) (ok : RowsOk rows) (len : rows.length ≤ 12) (hu : ∀ n, Drawn (u n)) : ∀ r ∈ rows, InMS 2520 (10 ^ 13 * 12 ^ 12) (U r.name) := by
  have key : ∀ i, ∀ j r, rows[j]? = some r → rows.length ≤ j + i → InMS 2520 (10 ^ 13 * 12 ^ i) (U r.name) := by
    intro i
    induction i with
    | zero =>
      intro j r hj hl
      have := (List.getElem?_eq_some_iff.mp hj).1
      omega
    | succ i ih =>
      intro j r hj hl
      rw [R.use r (List.mem_of_getElem? hj)]
      split
      · exact (hu _).ms.up (Nat.dvd_refl _) (Nat.le_mul_of_pos_right _ (Nat.pow_pos (by decide)))
      · have kin : ∀ x ∈ kidsOf rows (Sum.inr r.name), InMS 2520 (10 ^ 13 * 12 ^ i) (U x) := fun x hx => by
          obtain ⟨m, z, hm, rfl, _, hlt⟩ := kid_ix ok hj hx
          exact ih m z hm (by omega)
        have h1 : Of 2520 (sumQ ((kidsOf rows (Sum.inr r.name)).map U)) := sum_of (by decide) of_zero fun q hq => by
          obtain ⟨x, hx, rfl⟩ := List.mem_map.mp hq
          exact (kin x hx).of (by decide)
        have h2 := sum_bd (S := 10 ^ 13 * 12 ^ i) (qs := (kidsOf rows (Sum.inr r.name)).map U) (s := 0) (k := 0) Rat.le_refl (by simp) fun q hq => by
          obtain ⟨x, hx, rfl⟩ := List.mem_map.mp hq
          exact ⟨(kin x hx).lo, (kin x hx).hi⟩
        refine ⟨of_den (by decide) h1, h2.1, Rat.le_trans h2.2 ?_⟩
        have hk := kids_le rows (Sum.inr r.name)
        have : 10 ^ 13 * 12 ^ i * (0 + ((kidsOf rows (Sum.inr r.name)).map U).length) ≤ 10 ^ 13 * 12 ^ (i + 1) := by
          show 10 ^ 13 * 12 ^ i * _ ≤ 10 ^ 13 * (12 ^ i * 12)
          rw [← Nat.mul_assoc, List.length_map]
          exact Nat.mul_le_mul_left _ (by omega)
        exact_mod_cast this
  intro r hr
  obtain ⟨j, hj⟩ := List.mem_iff_getElem?.mp hr
  exact key 12 j r hj (by omega)
end
theorem S_lt : 10 ^ 13 * 12 ^ 12 < 2 ^ 87 := by decide
/-- what a child gets: within its use, and not too long -/
theorem part_bd {M S : Nat} {a un : Rat} {kids : List Str} {U c : Str → Rat} {h : Bool} (o : PartOk M S a un kids U c) (hM : M < 2 ^ 12) (hS : S < 2 ^ 87) (clu : sumQ (kids.map c) ≤ (S : Rat)) {x : Str} (hx : x ∈ kids) :
    0 ≤ partQ h a un (sumQ (kids.map c)) U c x ∧ partQ h a un (sumQ (kids.map c)) U c x ≤ U x ∧ (partQ h a un (sumQ (kids.map c)) U c x).den ≤ a.den * 2 ^ 123 := by
  have hc := o.kc x hx
  have hU := o.ku x hx
  have cu := o.cu x hx
  have clin : InMS M S (sumQ (kids.map c)) := ⟨o.cl.den, o.cl.lo, clu⟩
  have cd : ∀ {q : Rat}, InMS M S q → q.den < 2 ^ 12 := fun h => Nat.lt_of_le_of_lt (h.denle o.M0) hM
  have cn : ∀ {q : Rat}, InMS M S q → q.num.natAbs < 2 ^ 99 := fun h => h.nlt o.M0 hM hS
  have one : ∀ {q : Rat}, q.den < 2 ^ 12 → q.den ≤ a.den * 2 ^ 123 := fun {q} h => by
    have := Nat.le_mul_of_pos_left (2 ^ 123) a.den_pos
    have : (2 : Nat) ^ 12 ≤ 2 ^ 123 := Nat.pow_le_pow_right (by decide) (by decide)
    omega
  unfold partQ
  by_cases l : a < sumQ (kids.map c)
  · rw [if_pos l]
    have lp := o.clp l
    have r0 : 0 ≤ a / sumQ (kids.map c) := by
      rw [Rat.div_def]
      exact Rat.mul_nonneg o.a0 (Rat.le_of_lt (Rat.inv_pos.mpr lp))
    have r1 : a / sumQ (kids.map c) ≤ 1 := by
      rw [Rat.div_def]
      have := Rat.mul_le_mul_of_nonneg_right (Rat.le_of_lt l) (Rat.le_of_lt (Rat.inv_pos.mpr lp))
      rwa [Rat.mul_inv_cancel _ (fun e => by rw [e] at lp; exact absurd lp (by decide))] at this
    have m1 := Rat.mul_le_mul_of_nonneg_left r1 hc.lo
    rw [Rat.mul_one] at m1
    refine ⟨Rat.mul_nonneg hc.lo r0, Rat.le_trans m1 cu, ?_⟩
    obtain ⟨q1, q2⟩ := quot_sz o.a0 lp
    have e1 : (c x * (a / sumQ (kids.map c))).den ∣ M * (a / sumQ (kids.map c)).den := of_den (Nat.mul_pos o.M0 (Rat.den_pos _)) ((hc.of o.M0).mul (den_of (Nat.dvd_refl _) (Rat.den_pos _)))
    have e2 := Nat.le_of_dvd (Nat.mul_pos o.M0 (Rat.den_pos _)) e1
    refine Nat.le_trans e2 (Nat.le_trans (Nat.mul_le_mul (Nat.le_of_lt hM) (Nat.le_trans q2 (Nat.mul_le_mul_left _ (Nat.le_of_lt (cn clin))))) ?_)
    have : 2 ^ 12 * (a.den * 2 ^ 99) = a.den * 2 ^ 111 := by
      rw [Nat.mul_left_comm, ← Nat.pow_add]
    rw [this]
    exact Nat.mul_le_mul_left _ (Nat.pow_le_pow_right (by decide) (by decide))
  · rw [if_neg l]
    by_cases g : h = true ∧ sumQ (kids.map c) < un
    · rw [if_pos g]
      obtain ⟨r0, r1, _, _⟩ := o.rr l g.2
      have d1 := o.d1 l
      have d2 := o.d2 g.2
      have p1 : 0 ≤ a - sumQ (kids.map c) := d1.lo
      have p2 : 0 < un - sumQ (kids.map c) := by have := g.2; grind
      obtain ⟨q1, q2⟩ := quot_sz p1 p2
      generalize hr : (a - sumQ (kids.map c)) / (un - sumQ (kids.map c)) = r at r0 r1 q1 q2 ⊢
      have b := o.beyond hx
      have m1 := Rat.mul_le_mul_of_nonneg_left r1 b.lo
      rw [Rat.mul_one] at m1
      have m0 := Rat.mul_nonneg b.lo r0
      have c0 := hc.lo
      refine ⟨by grind, by grind, ?_⟩
      have pm : 0 < M * r.den := Nat.mul_pos o.M0 r.den_pos
      have e1 : Of (M * r.den) ((U x - c x) * r) := (b.of o.M0).mul (den_of (Nat.dvd_refl _) r.den_pos)
      have e2 : Of (M * r.den) (c x) := (hc.of o.M0).up _ r.den_pos
      have e3 := Nat.le_of_dvd pm (of_den pm (e2.add pm e1))
      have e4 : r.den ≤ (a.den * 2 ^ 12) * 2 ^ 99 := Nat.le_trans q2 (Nat.mul_le_mul (Nat.le_trans (d1.denle o.m1.1) (Nat.mul_le_mul_left _ (Nat.le_of_lt hM))) (Nat.le_of_lt (cn d2)))
      refine Nat.le_trans e3 (Nat.le_trans (Nat.mul_le_mul (Nat.le_of_lt hM) e4) ?_)
      have : 2 ^ 12 * (a.den * 2 ^ 12 * 2 ^ 99) = a.den * 2 ^ 123 := by
        rw [Nat.mul_assoc, ← Nat.pow_add, Nat.mul_left_comm, ← Nat.pow_add]
      rw [this]
      exact Nat.le_refl _
    · rw [if_neg g]
      exact ⟨hc.lo, cu, one (cd hc)⟩
/-- a top is not below itself -/
theorem top_nin {rows : List RowM} (ok : RowsOk rows) (top : Str) : top ∉ belowL rows top := fun hn => by
  obtain ⟨r0, hr0, e0⟩ := List.mem_map.mp (below_nms hn)
  obtain ⟨i0, hi0⟩ := List.mem_iff_getElem?.mp hr0
  -- rows below stand behind the top
  have key : ∀ (j : Nat) (x : Str), (belowL rows top)[j]? = some x → ∀ (i : Nat) (r : RowM), rows[i]? = some r → r.name = x → i0 < i := by
    intro j
    induction j using Nat.strongRecOn with
    | ind j ih =>
      intro x hx i r hi e
      obtain ⟨r', hr', en, hup⟩ := below_up ok hx
      have : r' = r := by
        obtain ⟨i', hi'⟩ := List.mem_iff_getElem?.mp hr'
        have := row_inj (nms_nd ok) hi' hi (en.trans e.symm)
        subst this
        rw [hi] at hi'
        exact (Option.some.inj hi').symm
      subst this
      rcases hup with z | z
      · rcases row_up ok hi with a | ⟨m, y, hm, hy, a⟩
        · exact absurd (e0.trans (z.symm.trans a)) (row_ne ok hi0)
        · have := row_inj (nms_nd ok) hy hi0 (a.trans (z.trans e0.symm))
          omega
      · obtain ⟨l, hl⟩ := List.mem_iff_getElem?.mp z
        have ll := (List.getElem?_eq_some_iff.mp hl).1
        rw [List.length_take] at ll
        rw [List.getElem?_take_of_lt (by omega)] at hl
        rcases row_up ok hi with a | ⟨m, y, hm, hy, a⟩
        · have := below_nms (List.mem_of_getElem? hl)
          rw [a] at this
          exact absurd this (nms_ne ok)
        · have := ih l (by omega) _ hl m y hy a
          omega
  obtain ⟨j, hj⟩ := List.mem_iff_getElem?.mp hn
  have := key j top hj i0 r0 hi0 e0
  omega
section
variable {rows : List RowM} {top : Str} {h : Bool} {k u U c p : Str → Rat}
theorem Reck.cz (R : Reck rows top h k u U c p) (ok : RowsOk rows) (len : rows.length ≤ 12) (hu : ∀ n, Drawn (u n)) (hk : ∀ n, Drawn (k n)) {r : RowM} (hr : r ∈ rows) : InMS 2520 (10 ^ 13 * 12 ^ 12) (c r.name) ∧ c r.name ≤ U r.name := by
  have h1 := R.uz ok len hu r hr
  have h2 : InMS 2520 (10 ^ 13 * 12 ^ 12) (k r.name) := (hk _).ms.up (Nat.dvd_refl _) (Nat.le_mul_of_pos_right _ (Nat.pow_pos (by decide)))
  rw [R.cl r hr]
  split
  · rename_i z
    exact ⟨h2, Rat.le_of_lt z⟩
  · exact ⟨h1, Rat.le_refl⟩
theorem sum_le {ks : List Str} {f g : Str → Rat} (h : ∀ x ∈ ks, f x ≤ g x) : sumQ (ks.map f) ≤ sumQ (ks.map g) := by
  have key : ∀ (ks : List Str) (a b : Rat), a ≤ b → (∀ x ∈ ks, f x ≤ g x) → (ks.map f).foldl (· + ·) a ≤ (ks.map g).foldl (· + ·) b := by
    intro ks
    induction ks with
    | nil => exact fun a b hab _ => hab
    | cons x r ih =>
      intro a b hab hx
      rw [List.map_cons, List.map_cons, List.foldl_cons, List.foldl_cons]
      exact ih _ _ (by have := hx x List.mem_cons_self; grind) fun y hy => hx y (List.mem_cons_of_mem _ hy)
  exact key ks 0 0 Rat.le_refl h
/-- sums of claims are within the use -/
theorem Reck.clu (R : Reck rows top h k u U c p) (ok : RowsOk rows) (len : rows.length ≤ 12) (hu : ∀ n, Drawn (u n)) (hk : ∀ n, Drawn (k n)) {r : RowM} (hr : r ∈ rows) {x : Str} (hx : x ∈ kidsOf rows (Sum.inr r.name)) : sumQ ((kidsOf rows (Sum.inr r.name)).map c) ≤ U r.name := by
  rw [R.use r hr, if_neg (fun e => by rw [e] at hx; cases hx)]
  exact sum_le fun y hy => by
    obtain ⟨m, z, hm, rfl, _⟩ := kid_row hy
    exact (R.cz ok len hu hk (List.mem_of_getElem? hm)).2
theorem Reck.po (R : Reck rows top h k u U c p) (ok : RowsOk rows) (len : rows.length ≤ 12) (hu : ∀ n, Drawn (u n)) (hk : ∀ n, Drawn (k n)) {r : RowM} (hr : r ∈ rows) (p0 : 0 ≤ p r.name) (p1 : p r.name ≤ U r.name) (p2 : (p r.name).den < 2 ^ 1500) : PartOk 2520 (10 ^ 13 * 12 ^ 12) (p r.name) (U r.name) (kidsOf rows (Sum.inr r.name)) U c := by
  have kr : ∀ x ∈ kidsOf rows (Sum.inr r.name), ∃ q ∈ rows, q.name = x := fun x hx => by
    obtain ⟨m, z, hm, e, _⟩ := kid_row hx
    exact ⟨z, List.mem_of_getElem? hm, e⟩
  refine ⟨by decide, by decide, lt_up S_lt (by decide), Nat.le_trans (kids_le rows _) (by omega), fun x hx => ?_, fun x hx => ?_, fun x hx => ?_, R.uz ok len hu r hr, p0, p1, p2⟩
  · obtain ⟨q, hq, rfl⟩ := kr x hx
    exact R.uz ok len hu q hq
  · obtain ⟨q, hq, rfl⟩ := kr x hx
    exact (R.cz ok len hu hk hq).1
  · obtain ⟨q, hq, rfl⟩ := kr x hx
    exact (R.cz ok len hu hk hq).2
theorem Reck.pz (R : Reck rows top h k u U c p) (ok : RowsOk rows) (len : rows.length ≤ 12) (hu : ∀ n, Drawn (u n)) (hk : ∀ n, Drawn (k n)) (htop : top ∉ nms rows ∨ True) : ∀ j r, rows[j]? = some r → r.name ∈ belowL rows top → 0 ≤ p r.name ∧ p r.name ≤ U r.name ∧ (p r.name).den ≤ 2 ^ (123 * (j + 1)) := by
  intro j
  induction j using Nat.strongRecOn with
  | ind j ih =>
    intro r hj hb
    have hr := List.mem_of_getElem? hj
    have lj := (List.getElem?_eq_some_iff.mp hj).1
    obtain ⟨hc, cu⟩ := R.cz ok len hu hk hr
    rw [R.up r hr]
    by_cases e : r.above = top
    · rw [if_pos e]
      refine ⟨hc.lo, cu, Nat.le_trans (hc.denle (by decide)) ?_⟩
      exact Nat.le_trans (show 2520 ≤ 2 ^ 123 by decide) (Nat.pow_le_pow_right (by decide) (by omega))
    · rw [if_neg e]
      obtain ⟨l, hl⟩ := List.mem_iff_getElem?.mp hb
      obtain ⟨r', hr', en, hup⟩ := below_up ok hl
      have : r' = r := by
        obtain ⟨j', hj'⟩ := List.mem_iff_getElem?.mp hr'
        have := row_inj (nms_nd ok) hj' hj en
        subst this
        rw [hj] at hj'
        exact (Option.some.inj hj').symm
      subst this
      have hab : r'.above ∈ belowL rows top := List.mem_of_mem_take (hup.resolve_left e)
      rcases row_up ok hj with z | ⟨m, y, hm, hy, z⟩
      · have := below_nms hab
        rw [z] at this
        exact absurd this (nms_ne ok)
      · obtain ⟨q0, q1, q2⟩ := ih m hm y hy (by rw [z]; exact hab)
        have hym := List.mem_of_getElem? hy
        have bl : (p y.name).den < 2 ^ 1500 := by
          have := (List.getElem?_eq_some_iff.mp hy).1
          exact Nat.lt_of_le_of_lt q2 (Nat.pow_lt_pow_right (by decide) (by omega))
        have kx : r'.name ∈ kidsOf rows (Sum.inr y.name) := by rw [z]; exact kid_of hr
        have po := R.po ok len hu hk hym q0 q1 bl
        have := part_bd (h := h) po (by decide) S_lt (Rat.le_trans (R.clu ok len hu hk hym kx) (R.uz ok len hu y hym).hi) kx
        rw [← z]
        refine ⟨this.1, this.2.1, Nat.le_trans this.2.2 ?_⟩
        refine Nat.le_trans (Nat.mul_le_mul_right _ q2) ?_
        rw [← Nat.pow_add]
        exact Nat.pow_le_pow_right (by decide) (by omega)
/-- what a law reckons is what the program needs -/
theorem Reck.held (R : Reck rows top h k u U c p) (ok : RowsOk rows) (len : rows.length ≤ 12) (hu : ∀ n, Drawn (u n)) (hk : ∀ n, Drawn (k n)) : HeldOk rows top h k U c p 2520 (10 ^ 13 * 12 ^ 12) := by
  have row : ∀ {n : Str}, n ∈ nms rows → ∃ r ∈ rows, r.name = n := fun h => by
    obtain ⟨r, hr, e⟩ := List.mem_map.mp h
    exact ⟨r, hr, e⟩
  have pz : ∀ n ∈ belowL rows top, 0 ≤ p n ∧ p n ≤ U n ∧ (p n).den < 2 ^ 1500 := fun n hn => by
    obtain ⟨r, hr, rfl⟩ := row (below_nms hn)
    obtain ⟨j, hj⟩ := List.mem_iff_getElem?.mp hr
    obtain ⟨a, b, d⟩ := R.pz ok len hu hk (.inr trivial) j r hj hn
    have := (List.getElem?_eq_some_iff.mp hj).1
    exact ⟨a, b, Nat.lt_of_le_of_lt d (Nat.pow_lt_pow_right (by decide) (by omega))⟩
  refine ⟨by decide, by decide, lt_up S_lt (by decide), fun n hn => ?_, fun n hn => (hk n).ms.up (Nat.dvd_refl _) (Nat.le_mul_of_pos_right _ (Nat.pow_pos (by decide))), fun n hn hk0 => ?_, fun n hn => ?_, fun n hn => ?_, fun n hn x hx => ?_, pz⟩
  · obtain ⟨r, hr, rfl⟩ := row (below_nms hn)
    exact R.uz ok len hu r hr
  · obtain ⟨r, hr, rfl⟩ := row (below_nms hn)
    rw [R.use r hr, if_neg hk0]
  · obtain ⟨r, hr, rfl⟩ := row (below_nms hn)
    exact R.cl r hr
  · obtain ⟨m, z, hm, rfl, ha⟩ := kid_row hn
    rw [R.up z (List.mem_of_getElem? hm), if_pos ha]
  · obtain ⟨m, z, hm, rfl, ha⟩ := kid_row hx
    have hz := List.mem_of_getElem? hm
    have ne : z.above ≠ top := fun e => by
      -- the top is not below itself
      rw [ha] at e
      subst e
      exact top_nin ok n hn
    rw [R.up z hz, if_neg ne, ha]
end
end Bd
end

section
namespace Bd
open PySem L2 PySem.Spec PyProof.Rows
/-! dicts of data that differ, set(t) of a tuple of ints -/
section
variable {X : Cx} {pins : List (Addr × Obj)} {σ : L2.St} {H : Hp} {s : Shared}
theorem eqF0 (I : Inv X pins σ H s) {A : Around} (hu : A.units + 65 < cLine) {x y : V} {v u : Value} {r : Bool} (h : EqF X.K H 0 x y r) (rx : RelV x v) (ry : RelV y u) : SeqAt.EqAt A s v u r := by
  obtain ⟨d, e, hd, he, sd, se, rfl⟩ := h
  obtain ⟨as, r1⟩ := Dp.reads I d x v hd rx
  obtain ⟨bs, r2⟩ := Dp.reads I e y u he ry
  exact SeqAt.eqAt_reads d e A s v u as bs r1 r2 (SeqAt.canLay_of_shaped sd) (SeqAt.canLay_of_shaped se) (SeqAt.room_of_shaped sd (by omega))
theorem hits_run0 (I : Inv X pins σ H s) {A : Around} (hu : A.units + 65 < cLine) {ls : List (Key × V)} {vb : List (Key × Value)} (rb : KV ls vb) {ks : List (Key × V)} {b : Bool} (h : HitsV (EqF X.K H 0) ls ks b) :
    ∀ {va : List (Key × Value)}, KV ks va → PySem.W.KeqHits A s vb va b := by
  induction h with
  | nil => intro va ra; cases ra; exact .nil
  | @miss k v r hn =>
    intro va ra
    match va, ra with
    | (k2, v2) :: t2, .cons ⟨e1, e2⟩ t =>
      have e1 : k = k2 := e1
      subst e1
      have rr := rb.val k
      rw [hn] at rr
      refine .miss ?_
      cases z : valueAt vb k with
      | none => rfl
      | some y => rw [z] at rr; exact (show False from rr).elim
  | @hit k v y r e b hy hf hr ih =>
    intro va ra
    match va, ra with
    | (k2, v2) :: t2, .cons ⟨e1, e2⟩ t =>
      have e1 : k = k2 := e1
      subst e1
      have rr := rb.val k
      rw [hy] at rr
      obtain ⟨z, hz, rz⟩ := rr.some_of
      exact .hit hz (eqF0 I hu hf e2 rz) (ih t)
def rNeDk (K : PySem.W.Frag) : R2 := fun x y H Q => ∃ (a b : Addr) (ks ls : List (Key × V)) (q : Bool), x = .ref a ∧ y = .ref b ∧ H a = some (.dK ks) ∧ H b = some (.dK ls) ∧ (ks.length = ls.length → HitsV (EqF K H 0) ls ks q) ∧ Q (.bl (!(ks.length == ls.length && q))) H
end
section
variable {X : Cx}
theorem op_neDk (hu : X.A.units + 100 < cLine) : OpR X (compareOp .NotEq) (rNeDk X.K) := by
  intro pins s σ H x y v u Q I rx ry h
  obtain ⟨a, b, ks, ls, q, rfl, rfl, ha, hb, hits, hq⟩ := h
  cases (show v = Value.ref a from rx)
  cases (show u = Value.ref b from ry)
  obtain ⟨_, ya, va, ra, da⟩ := (show ObjOk X.prog X.w H s.heap a (.dK ks) from I.hok a _ ha)
  obtain ⟨_, yb, vb, rb, db⟩ := (show ObjOk X.prog X.w H s.heap b (.dK ls) from I.hok b _ hb)
  refine PySem.W.keq_ne (knd := mixKind X.prog X.w) (r := q) ya yb da db (by omega) (fun hl => hits_run0 I (A := X.A.in1) (by show X.A.units + 1 + 65 < cLine; omega) rb (hits (by rw [ra.length, rb.length]; exact hl)) ra) ?_
  rw [← ra.length, ← rb.length]
  exact ⟨.bl _, H, I, rfl, hq⟩
end
end Bd
end

section
namespace Bd
open PySem L2 Am
/-! ### groups within one another -/
theorem menu_ok : ∀ x ∈ menu, NameOk x := by
  intro x hx
  have h : (menu.all fun x => decide (1 ≤ x.length) && decide (x.length ≤ 10) && x.cps.toList.all fun c => decide (97 ≤ c) && decide (c ≤ 122)) = true := by decide +kernel
  have := List.all_eq_true.mp h x hx
  simp only [Bool.and_eq_true, decide_eq_true_eq, List.all_eq_true] at this
  exact ⟨this.1.1, this.1.2, this.2⟩
def amtD (q : Rat) : PyData := .tuple [.int q.num, .int (q.den : Int)]
def chainM : Str → List Str → List Rat → List RowM
  | ab, n :: ns, s :: ss => ⟨n, ab, [("min", amtD s)]⟩ :: chainM n ns ss
  | _, _, _ => []
def crown (ns : List Str) (b : Nat) : Str := if b = 0 then "" else (ns[b - 1]?).getD ""
theorem chain_get : ∀ {ab : Str} {ns : List Str} {ss : List Rat} {i : Nat} {r : RowM}, (chainM ab ns ss)[i]? = some r → ∃ n s, ns[i]? = some n ∧ ss[i]? = some s ∧ r = ⟨n, if i = 0 then ab else (ns[i - 1]?).getD "", [("min", amtD s)]⟩
  | ab, [], ss, i, r, h => by simp [chainM] at h
  | ab, n :: ns, [], i, r, h => by simp [chainM] at h
  | ab, n :: ns, s :: ss, 0, r, h => by
    simp only [chainM, List.getElem?_cons_zero, Option.some.injEq] at h
    exact ⟨n, s, rfl, rfl, h.symm⟩
  | ab, n :: ns, s :: ss, i + 1, r, h => by
    simp only [chainM, List.getElem?_cons_succ] at h
    obtain ⟨m, t, h1, h2, h3⟩ := chain_get h
    refine ⟨m, t, by simpa using h1, by simpa using h2, ?_⟩
    rw [h3]
    cases i with
    | zero => rfl
    | succ i => simp
theorem chain_len : ∀ {ab : Str} {ns : List Str} {ss : List Rat}, ns.length = ss.length → (chainM ab ns ss).length = ns.length
  | ab, [], [], _ => rfl
  | ab, n :: ns, s :: ss, h => by
    simp only [chainM, List.length_cons]
    rw [chain_len (by simpa using h)]
theorem chain_nms : ∀ {ab : Str} {ns : List Str} {ss : List Rat}, ns.length = ss.length → nms (chainM ab ns ss) = ns
  | ab, [], [], _ => rfl
  | ab, n :: ns, s :: ss, h => by
    show n :: nms (chainM n ns ss) = n :: ns
    rw [chain_nms (by simpa using h)]
theorem amt_dok {s : Rat} (hs : Drawn s) : DuesOk [("min", amtD s)] := by
  obtain ⟨z1, z2⟩ := hs.sz
  refine ⟨by simp, fun du hdu => ?_⟩
  rw [List.mem_singleton.mp hdu]
  refine ⟨show ("min" : Str) ∈ leftW by decide +kernel, ?_⟩
  show ValOk "min" (.tuple [.int s.num, .int (s.den : Int)])
  have := nat_num hs.1
  rw [this]
  exact .amt (by decide +kernel) z1 s.den_pos z2 s.reduced
theorem chain_at {ab : Str} {ns : List Str} {ss : List Rat} (hl : ns.length = ss.length) {i : Nat} (hi : i < ns.length) : ∃ r s, (chainM ab ns ss)[i]? = some r ∧ ss[i]? = some s ∧ r = ⟨ns[i], if i = 0 then ab else (ns[i - 1]?).getD "", [("min", amtD s)]⟩ := by
  have h : (chainM ab ns ss)[i]? = some ((chainM ab ns ss)[i]'(by rw [chain_len hl]; exact hi)) := List.getElem?_eq_getElem _
  obtain ⟨n, s, h1, h2, h3⟩ := chain_get h
  rw [List.getElem?_eq_getElem hi] at h1
  cases h1
  exact ⟨_, s, h, h2, h3⟩
structure ChainOk (ns : List Str) (ss : List Rat) : Prop where
  len : ns.length = ss.length
  nd : ns.Nodup
  mem : ∀ x ∈ ns, x ∈ menu
  dr : ∀ s ∈ ss, Drawn s
  sz : ns.length ≤ 12
section
variable {ns : List Str} {ss : List Rat}
theorem menu_ne {x : Str} (h : x ∈ menu) : x ≠ "" := fun e => by
  rw [e] at h
  exact absurd h (by decide +kernel)
theorem ChainOk.ix (h : ChainOk ns ss) {i j : Nat} {x : Str} (h1 : ns[i]? = some x) (h2 : ns[j]? = some x) : i = j := by
  obtain ⟨l1, e1⟩ := List.getElem?_eq_some_iff.mp h1
  obtain ⟨l2, e2⟩ := List.getElem?_eq_some_iff.mp h2
  exact (List.getElem_inj h.nd (h₀ := l1) (h₁ := l2)).mp (e1.trans e2.symm)
theorem crown_get {b : Nat} (hb : 0 < b) (hl : b ≤ ns.length) : ns[b - 1]? = some (crown ns b) := by
  unfold crown
  rw [if_neg (by omega), List.getElem?_eq_getElem (by omega)]
  rfl
theorem ChainOk.crown_inj (h : ChainOk ns ss) {i j : Nat} (hi : i ≤ ns.length) (hj : j ≤ ns.length) (e : crown ns i = crown ns j) : i = j := by
  have key : ∀ {i : Nat}, 0 < i → i ≤ ns.length → crown ns i ≠ "" := fun {i} h1 h2 => menu_ne (h.mem _ (List.mem_of_getElem? (crown_get h1 h2)))
  by_cases a : i = 0 <;> by_cases b : j = 0
  · omega
  · subst a
    exact absurd e.symm (key (by omega) hj)
  · subst b
    exact absurd e (key (by omega) hi)
  · have h1 := crown_get (ns := ns) (b := i) (by omega) hi
    have h2 := crown_get (ns := ns) (b := j) (by omega) hj
    rw [← e] at h2
    have := h.ix h1 h2
    omega
theorem ChainOk.ok (h : ChainOk ns ss) : RowsOk (chainM "" ns ss) := by
  intro i r hr
  obtain ⟨n, s, h1, h2, rfl⟩ := chain_get hr
  have hi := (List.getElem?_eq_some_iff.mp h1).1
  refine ⟨menu_ok _ (h.mem _ (List.mem_of_getElem? h1)), amt_dok (h.dr _ (List.mem_of_getElem? h2)), fun q hq => ?_, ?_⟩
  · obtain ⟨j, hj⟩ := List.mem_iff_getElem?.mp hq
    have lj : j < i := by
      have := (List.getElem?_eq_some_iff.mp hj).1
      rw [List.length_take] at this
      omega
    rw [List.getElem?_take_of_lt lj] at hj
    obtain ⟨m, t, z1, z2, rfl⟩ := chain_get hj
    intro e
    have e : m = n := e
    subst e
    have := h.ix z1 h1
    omega
  · by_cases a : i = 0
    · exact .inl (if_pos a)
    · right
      obtain ⟨q, s', q1, q2, q3⟩ := chain_at (ab := "") h.len (i := i - 1) (by omega)
      refine ⟨q, ?_, ?_, ?_⟩
      · refine List.mem_iff_getElem?.mpr ⟨i - 1, ?_⟩
        rw [List.getElem?_take_of_lt (by omega)]
        exact q1
      · rw [q3]
        show ns[i - 1] = if i = 0 then ("" : Str) else (ns[i - 1]?).getD ""
        rw [if_neg a, List.getElem?_eq_getElem (by omega)]
        rfl
      · rw [q3]
        rfl
theorem row_crown {i : Nat} {r : RowM} (h : (chainM "" ns ss)[i]? = some r) : r.above = crown ns i := by
  obtain ⟨n, s, h1, h2, rfl⟩ := chain_get h
  rfl
theorem ChainOk.below_take (h : ChainOk ns ss) {b : Nat} (hb : b ≤ ns.length) : ∀ i, i ≤ ns.length → ((chainM "" ns ss).take i).foldl (bStep (crown ns b)) [] = (ns.take i).drop b := by
  intro i
  induction i with
  | zero => intro _; simp
  | succ i ih =>
    intro hi
    obtain ⟨r, s, h1, h2, h3⟩ := chain_at (ab := "") h.len (i := i) (by omega)
    have hc := row_crown h1
    have hn : r.name = ns[i] := by rw [h3]
    rw [List.take_add_one, h1, Option.toList_some, List.foldl_append, ih (by omega)]
    show bStep (crown ns b) ((ns.take i).drop b) r = _
    have lt : (ns.take i).length = i := by rw [List.length_take]; omega
    have et : ns.take (i + 1) = ns.take i ++ [ns[i]] := by
      rw [List.take_add_one, List.getElem?_eq_getElem (by omega)]
      rfl
    rw [et]
    unfold bStep
    by_cases c : b ≤ i
    · rw [List.drop_append_of_le_length (by omega), if_pos ?_, hn]
      rw [hc]
      by_cases e : i = b
      · exact .inl (by rw [e])
      · right
        have hg := crown_get (ns := ns) (b := i) (by omega) (by omega)
        refine List.mem_iff_getElem?.mpr ⟨i - 1 - b, ?_⟩
        rw [List.getElem?_drop, List.getElem?_take_of_lt (by omega)]
        have : b + (i - 1 - b) = i - 1 := by omega
        rw [this]
        exact hg
    · have e1 : (ns.take i).drop b = [] := List.drop_eq_nil_of_le (by omega)
      have e2 : (ns.take i ++ [ns[i]]).drop b = [] := List.drop_eq_nil_of_le (by rw [List.length_append, lt, List.length_singleton]; omega)
      rw [e1, e2, if_neg]
      rintro (z | z)
      · rw [hc] at z
        have := h.crown_inj (by omega) hb z
        omega
      · cases z
theorem ChainOk.below (h : ChainOk ns ss) {b : Nat} (hb : b ≤ ns.length) : belowL (chainM "" ns ss) (crown ns b) = ns.drop b := by
  have := h.below_take hb ns.length (Nat.le_refl _)
  rw [List.take_length, ← chain_len (ab := "") h.len, List.take_length] at this
  exact this
theorem ChainOk.kids_take (h : ChainOk ns ss) {b : Nat} (hb : b ≤ ns.length) : ∀ i, i ≤ ns.length → (((chainM "" ns ss).take i).filter fun r => decide (r.above = crown ns b)).map (·.name) = ((ns.take i).drop b).take 1 := by
  intro i
  induction i with
  | zero => intro _; simp
  | succ i ih =>
    intro hi
    obtain ⟨r, s, h1, h2, h3⟩ := chain_at (ab := "") h.len (i := i) (by omega)
    have hc := row_crown h1
    have hn : r.name = ns[i] := by rw [h3]
    rw [List.take_add_one, h1, Option.toList_some, List.filter_append, List.map_append, ih (by omega)]
    have lt : (ns.take i).length = i := by rw [List.length_take]; omega
    have et : ns.take (i + 1) = ns.take i ++ [ns[i]] := by
      rw [List.take_add_one, List.getElem?_eq_getElem (by omega)]
      rfl
    rw [et]
    by_cases e : i = b
    · have e0 : (ns.take i).drop b = [] := List.drop_eq_nil_of_le (by omega)
      rw [List.drop_append_of_le_length (by omega), e0, List.filter_cons_of_pos (by rw [hc, e]; exact decide_eq_true rfl)]
      show [r.name] = _
      rw [hn]
      rfl
    · rw [List.filter_cons_of_neg (by
        rw [hc, decide_eq_true_eq]
        exact fun z => e (h.crown_inj (by omega) hb z))]
      rw [List.filter_nil, List.map_nil, List.append_nil]
      by_cases c : b ≤ i
      · rw [List.drop_append_of_le_length (by omega)]
        have : 1 ≤ ((ns.take i).drop b).length := by rw [List.length_drop, lt]; omega
        rw [List.take_append_of_le_length this]
      · rw [List.drop_eq_nil_of_le (by omega), List.drop_eq_nil_of_le (by rw [List.length_append, lt, List.length_singleton]; omega)]
theorem ChainOk.kids (h : ChainOk ns ss) {b : Nat} (hb : b ≤ ns.length) : kidsOf (chainM "" ns ss) (Sum.inr (crown ns b)) = (ns.drop b).take 1 := by
  have := h.kids_take hb ns.length (Nat.le_refl _)
  rw [List.take_length, ← chain_len (ab := "") h.len, List.take_length] at this
  rw [kids_flt]
  exact this
theorem ChainOk.kidsAt (h : ChainOk ns ss) {i : Nat} {x : Str} (hx : ns[i]? = some x) : kidsOf (chainM "" ns ss) (Sum.inr x) = (ns.drop (i + 1)).take 1 := by
  have hi := (List.getElem?_eq_some_iff.mp hx).1
  have : crown ns (i + 1) = x := by
    have := crown_get (ns := ns) (b := i + 1) (by omega) (by omega)
    rw [Nat.add_sub_cancel, hx] at this
    exact (Option.some.inj this).symm
  rw [← this]
  exact h.kids (by omega)
end
/-! ### by place -/
def ofL : List Str → List Rat → Str → Rat
  | n :: ns, v :: vs, x => if x = n then v else ofL ns vs x
  | _, _, _ => 0
theorem ofL_get : ∀ {ns : List Str} {vs : List Rat} {i : Nat} {x : Str} {v : Rat}, ns.Nodup → ns[i]? = some x → vs[i]? = some v → ofL ns vs x = v
  | [], _, i, x, v, _, h, _ => by simp at h
  | n :: ns, [], i, x, v, _, _, h => by simp at h
  | n :: ns, w :: vs, 0, x, v, _, h1, h2 => by
    simp only [List.getElem?_cons_zero, Option.some.injEq] at h1 h2
    subst h1 h2
    exact if_pos rfl
  | n :: ns, w :: vs, i + 1, x, v, nd, h1, h2 => by
    simp only [List.getElem?_cons_succ] at h1 h2
    obtain ⟨a, b⟩ := List.nodup_cons.mp nd
    show (if x = n then w else ofL ns vs x) = v
    rw [if_neg fun e : x = n => a (by rw [← e]; exact List.mem_of_getElem? h1)]
    exact ofL_get b h1 h2
/-- the lesser of two, as the law takes it -/
def leastR (a b : Rat) : Rat := if a < b then a else b
/-- what is protected, from the child of the top down -/
def runL (h first : Bool) (v : Rat) : List Rat → List Rat
  | [] => []
  | s :: r => (if (!h || first) = true then leastR v s else v) :: runL h false (if (!h || first) = true then leastR v s else v) r
theorem run_len {h : Bool} : ∀ {f : Bool} {v : Rat} {ss : List Rat}, (runL h f v ss).length = ss.length
  | _, _, [] => rfl
  | f, v, s :: ss => by
    show _ + 1 = _ + 1
    rw [run_len]
theorem run_zero {h : Bool} {v s : Rat} {r : List Rat} : (runL h true v (s :: r))[0]? = some (leastR v s) := by
  show some (if (!h || true) = true then leastR v s else v) = _
  rw [Bool.or_true, if_pos rfl]
theorem run_head {h f : Bool} {v s : Rat} {r : List Rat} : (runL h f v (s :: r))[0]? = some (if (!h || f) = true then leastR v s else v) := rfl
theorem run_succ {h : Bool} : ∀ {ss : List Rat} {f : Bool} {v : Rat} {j : Nat} {a s : Rat}, (runL h f v ss)[j]? = some a → ss[j + 1]? = some s → (runL h f v ss)[j + 1]? = some (if h = true then a else leastR a s)
  | [], f, v, j, a, s, _, h2 => by simp at h2
  | t :: ss, f, v, 0, a, s, h1, h2 => by
    have g1 : (if (!h || f) = true then leastR v t else v) = a := Option.some.inj h1
    clear h1
    cases ss with
    | nil => simp at h2
    | cons z ss =>
      have h2 : z = s := by simpa using h2
      subst h2
      show (runL h false (if (!h || f) = true then leastR v t else v) (z :: ss))[0]? = _
      rw [g1, run_head]
      cases h <;> rfl
  | t :: ss, f, v, j + 1, a, s, h1, h2 => by
    show (runL h false (if (!h || f) = true then leastR v t else v) ss)[j + 1]? = _
    exact run_succ h1 (by simpa using h2)
theorem least_bd {a b : Rat} (ha : Drawn a) (hb : Drawn b) : Drawn (leastR a b) ∧ leastR a b ≤ a ∧ leastR a b ≤ b := by
  unfold leastR
  split
  · rename_i c
    exact ⟨ha, Rat.le_refl, Rat.le_of_lt c⟩
  · rename_i c
    exact ⟨hb, Rat.not_lt.mp c, Rat.le_refl⟩
theorem run_bd {h : Bool} : ∀ {ss : List Rat} {f : Bool} {v a : Rat}, Drawn v → (∀ s ∈ ss, Drawn s) → a ∈ runL h f v ss → Drawn a ∧ a ≤ v
  | [], f, v, a, _, _, m => by cases m
  | t :: ss, f, v, a, hv, hs, m => by
    have hw : Drawn (if (!h || f) = true then leastR v t else v) ∧ (if (!h || f) = true then leastR v t else v) ≤ v := by
      split
      · exact ⟨(least_bd hv (hs t List.mem_cons_self)).1, (least_bd hv (hs t List.mem_cons_self)).2.1⟩
      · exact ⟨hv, Rat.le_refl⟩
    rcases List.mem_cons.mp m with e | m
    · rw [e]
      exact hw
    · obtain ⟨z1, z2⟩ := run_bd hw.1 (fun s h => hs s (List.mem_cons_of_mem _ h)) m
      exact ⟨z1, Rat.le_trans z2 hw.2⟩
theorem sum_one (a : Rat) : sumQ [a] = a := by
  show 0 + a = a
  rw [Rat.zero_add]
/-- one child: what is parted -/
theorem part_one {h : Bool} {a u s : Rat} (a0 : 0 ≤ a) (au : a ≤ u) (s0 : 0 ≤ s) {U c : Str → Rat} {x : Str} (hU : U x = u) (hc : c x = if s < u then s else u) : partQ h a u (c x) U c x = if h = true then a else leastR a s := by
  unfold partQ leastR
  rw [hU]
  have cu : c x ≤ u := by rw [hc]; split <;> grind
  have cs : c x ≤ s := by rw [hc]; split <;> grind
  have c0 : 0 ≤ c x := by rw [hc]; split <;> grind
  by_cases l : a < c x
  · have ne : c x ≠ 0 := by grind
    rw [if_pos l, Rat.div_def, Rat.mul_comm a, ← Rat.mul_assoc, Rat.mul_inv_cancel _ ne, Rat.one_mul]
    split
    · rfl
    · rw [if_pos (by grind)]
  · rw [if_neg l]
    cases h with
    | false =>
      rw [if_neg (fun z => by cases z.1), if_neg (by decide)]
      rw [hc] at l ⊢
      split
      · rename_i z
        rw [if_pos z] at l
        split <;> grind
      · rename_i z
        rw [if_neg z] at l
        split <;> grind
    | true =>
      rw [if_pos rfl]
      by_cases g : c x < u
      · rw [if_pos ⟨rfl, g⟩, Rat.div_def]
        have ne : u - c x ≠ 0 := by grind
        rw [Rat.mul_comm (a - c x), ← Rat.mul_assoc, Rat.mul_inv_cancel _ ne, Rat.one_mul]
        grind
      · rw [if_neg fun z => g z.2]
        grind
theorem chain_held {ns : List Str} {ss : List Rat} (h : ChainOk ns ss) {b : Nat} (hb : b < ns.length) {hd : Bool} {u : Rat} (hu : Drawn u) :
    HeldOk (chainM "" ns ss) (crown ns b) hd (ofL ns ss) (fun _ => u) (fun x => if ofL ns ss x < u then ofL ns ss x else u) (ofL (ns.drop b) (runL hd true u (ss.drop b))) 2520 (10 ^ 13) := by
  have hB := h.below (b := b) (by omega)
  have sub : ∀ n ∈ belowL (chainM "" ns ss) (crown ns b), ∃ j s a, ns[b + j]? = some n ∧ ss[b + j]? = some s ∧ ofL ns ss n = s ∧ (ns.drop b)[j]? = some n ∧ (ss.drop b)[j]? = some s ∧ (runL hd true u (ss.drop b))[j]? = some a ∧ ofL (ns.drop b) (runL hd true u (ss.drop b)) n = a ∧ Drawn a ∧ a ≤ u := fun n hn => by
    rw [hB] at hn
    obtain ⟨j, hj⟩ := List.mem_iff_getElem?.mp hn
    have hj0 := hj
    rw [List.getElem?_drop] at hj
    have lj := (List.getElem?_eq_some_iff.mp hj).1
    obtain ⟨s, hs⟩ : ∃ s, ss[b + j]? = some s := ⟨_, List.getElem?_eq_getElem (by rw [← h.len]; exact lj)⟩
    have hs2 : (ss.drop b)[j]? = some s := by rw [List.getElem?_drop]; exact hs
    have la : j < (runL hd true u (ss.drop b)).length := by
      rw [run_len]
      exact (List.getElem?_eq_some_iff.mp hs2).1
    have ha : (runL hd true u (ss.drop b))[j]? = some (runL hd true u (ss.drop b))[j] := List.getElem?_eq_getElem la
    obtain ⟨z1, z2⟩ := run_bd hu (fun s hs => h.dr s (List.mem_of_mem_drop hs)) (List.mem_of_getElem? ha)
    exact ⟨j, _, _, hj, hs, ofL_get h.nd hj hs, hj0, hs2, ha, ofL_get (h.nd.sublist (List.drop_sublist _ _)) hj0 ha, z1, z2⟩
  have dr : ∀ n ∈ belowL (chainM "" ns ss) (crown ns b), Drawn (ofL ns ss n) := fun n hn => by
    obtain ⟨j, s, a, h1, h2, h3, _⟩ := sub n hn
    rw [h3]
    exact h.dr s (List.mem_of_getElem? h2)
  have one : ∀ {j : Nat} {n : Str}, ns[b + j]? = some n → kidsOf (chainM "" ns ss) (Sum.inr n) = (ns.drop (b + j + 1)).take 1 := fun h1 => h.kidsAt h1
  refine ⟨by decide, by decide, by decide, fun n hn => hu.ms, fun n hn => (dr n hn).ms, fun n hn hk => ?_, fun n hn => rfl, fun n hn => ?_, fun n hn x hx => ?_, fun n hn => ?_⟩
  · obtain ⟨j, s, a, h1, _⟩ := sub n hn
    rw [one h1] at hk ⊢
    cases z : ns.drop (b + j + 1) with
    | nil => rw [z] at hk; exact absurd rfl hk
    | cons y r => exact (sum_one u).symm
  · have hn0 := hn
    rw [h.kids (by omega)] at hn
    have hn1 : n ∈ belowL (chainM "" ns ss) (crown ns b) := below_top h.ok hn0
    obtain ⟨j, s, a, h1, h2, h3, h4, h5, h6, h7, h8, h9⟩ := sub n hn1
    have j0 : j = 0 := by
      have e : (ns.drop b)[0]? = some n := by
        cases z : ns.drop b with
        | nil => rw [z] at hn; cases hn
        | cons y r =>
          rw [z] at hn
          have : n = y := List.mem_singleton.mp hn
          rw [this]
          rfl
      rw [List.getElem?_drop] at e
      have := h.ix e h1
      omega
    subst j0
    rw [h7, h3]
    cases z : ss.drop b with
    | nil => rw [z] at h5; cases h5
    | cons s0 r =>
      rw [z] at h5 h6
      have e5 : s0 = s := Option.some.inj h5
      subst e5
      rw [run_zero] at h6
      cases h6
      unfold leastR
      split <;> split <;> grind
  · obtain ⟨j, s, a, h1, h2, h3, h4, h5, h6, h7, h8, h9⟩ := sub n hn
    have hx0 := hx
    rw [one h1] at hx ⊢
    cases z : ns.drop (b + j + 1) with
    | nil => rw [z] at hx; cases hx
    | cons y r =>
      rw [z] at hx
      have : x = y := List.mem_singleton.mp hx
      subst this
      have e1 : ns[b + (j + 1)]? = some x := by
        have : (ns.drop (b + j + 1))[0]? = some x := by rw [z]; rfl
        rw [List.getElem?_drop] at this
        exact this
      have e2 : (ns.drop b)[j + 1]? = some x := by rw [List.getElem?_drop]; exact e1
      have l1 := (List.getElem?_eq_some_iff.mp e1).1
      obtain ⟨s1, e3⟩ : ∃ s1, ss[b + (j + 1)]? = some s1 := ⟨_, List.getElem?_eq_getElem (by rw [← h.len]; exact l1)⟩
      have e4 : (ss.drop b)[j + 1]? = some s1 := by rw [List.getElem?_drop]; exact e3
      have e5 := run_succ h6 e4
      have e6 : ofL (ns.drop b) (runL hd true u (ss.drop b)) x = _ := ofL_get (h.nd.sublist (List.drop_sublist _ _)) e2 e5
      have e7 : ofL ns ss x = s1 := ofL_get h.nd e1 e3
      rw [e6, h7]
      show _ = partQ hd a u (sumQ [if ofL ns ss x < u then ofL ns ss x else u]) (fun _ => u) _ x
      rw [sum_one]
      exact (part_one (U := fun _ => u) (c := fun x => if ofL ns ss x < u then ofL ns ss x else u) h8.1 h9 (h.dr _ (List.mem_of_getElem? e3)).1 rfl (by rw [e7])).symm
  · obtain ⟨j, s, a, h1, h2, h3, h4, h5, h6, h7, h8, h9⟩ := sub n hn
    rw [h7]
    refine ⟨h8.1, h9, Nat.lt_of_le_of_lt (Nat.le_of_dvd (by decide) h8.2.2) (lt_up (show 2520 < 2 ^ 12 by decide) (by decide))⟩
end Bd
end

section
namespace Bd
open PySem L2 Am
open Evl hiding tCut pss_cut
section
variable {K : PySem.W.Frag} {H : Hp} {σ : L2.St}
theorem giv_eq {α : Type} (xs : List α) (p : α → Bool) (g : α → V) : given xs.length (fun i => (xs[i]?.map p).getD false) (fun i => (xs[i]?.map g).getD .non) = (xs.filter p).map g := by
  have main : ∀ n, n ≤ xs.length → given n (fun i => (xs[i]?.map p).getD false) (fun i => (xs[i]?.map g).getD .non) = ((xs.take n).filter p).map g := by
    intro n
    induction n with
    | zero => intro _; rfl
    | succ n ih =>
      intro hn
      have hl : n < xs.length := hn
      have e : xs[n]? = some xs[n] := List.getElem?_eq_getElem hl
      rw [List.take_add_one, e, Option.toList_some, List.filter_append, List.map_append, ← ih (by omega)]
      cases c : p xs[n] with
      | true =>
        rw [given_yes (by rw [e]; exact c), List.filter_cons_of_pos c, e]
        rfl
      | false =>
        rw [given_no (by rw [e]; exact c), List.filter_cons_of_neg (by rw [c]; decide)]
        simp
  have := main xs.length (Nat.le_refl _)
  rw [List.take_length] at this
  exact this
theorem lcL {α : Type} {a : Addr} {ws : List V} {tl te : TE} {t : TT} {j : Nat} {vs : List Nat} (xs : List α) (p : α → Bool) (g : α → V) (h : Ev tl σ H (.ref a)) (hx : SqL K H a ws) (hlen : ws.length = xs.length) (hz : xs.length ≤ 1000)
    (hw : ∀ x, wipe ((wipe σ vs).set j (some x)) vs = wipe σ vs) (ht : ∀ (i : Nat) (x : V) (y : α) H1, Ex H H1 → ws[i]? = some x → xs[i]? = some y → EvT t ((wipe σ vs).set j (some x)) H1 (p y))
    (he : ∀ (i : Nat) (x : V) (y : α) H1, Ex H H1 → ws[i]? = some x → xs[i]? = some y → p y = true → Ev te ((wipe σ vs).set j (some x)) H1 (g y)) : EvL (tLc (iList K tl) (gName j) t te vs) σ H ((xs.filter p).map g) := by
  rw [← giv_eq xs p g, ← hlen]
  have get : ∀ {i : Nat} {x : V}, ws[i]? = some x → ∃ y, xs[i]? = some y := fun {i x} e => by
    have := (List.getElem?_eq_some_iff.mp e).1
    exact ⟨_, List.getElem?_eq_getElem (by omega)⟩
  refine el_lcL _ _ h hx (by omega) hw (fun i x H1 e hi => ?_) fun i x H1 e hi hf => ?_
  · obtain ⟨y, hy⟩ := get hi
    rw [hy]
    exact ht i x y H1 e hi hy
  · obtain ⟨y, hy⟩ := get hi
    rw [hy] at hf ⊢
    exact he i x y H1 e hi hy hf
end
def tTupF (t : L2.TA) : TE := fun σ H Q => t σ H fun xs H1 => xs.length ≤ sizeLine ∧ ∀ (l : Addr) (o : Obj), H1 l = none → o.dict = none → Q (.ref l) (upd H1 l (.frz o (.tup xs)))
theorem pe_tupF {X : Cx} {es : List Expr} {t : L2.TA} {pos : Pos} {x1 : Nat} (h : PA X es t) : PE X (.Tuple es x1 pos) (tTupF t) := by
  refine ⟨fun pins s σ H Q I hq => ?_⟩
  refine wpAny_Tuple_spliced (thn (h.run pos pins s σ H _ I hq) fun us s1 ⟨xs, H1, I1, r, z, q⟩ => ⟨by rw [← r.length]; exact z, ?_⟩)
  have I2 := I1.laid (a := s1.heap.objs.size) (o := .frz { cls := .type "tuple", data := .seq us.toArray } (.tup xs)) (h' := s1.heap.push { cls := .type "tuple", data := .seq us.toArray }) (t' := s1.toks) (fun b u e => Heap.get?_push_of_some _ e) (Nat.le_refl _)
    (show ObjOk X.prog X.w _ _ _ (.frz _ (.tup xs)) from ⟨Heap.get?_push_size _ rfl, z, us, r, PyProof.Rows.IsTup.new _ _⟩)
  exact ⟨.ref s1.heap.objs.size, _, I2, rfl, q _ _ (I1.hok.fresh (Nat.le_refl _)) rfl⟩
section
variable {K : PySem.W.Frag} {H : Hp} {σ : L2.St} {te tx : TE} {D : Ends} {tz : TS}
theorem eq_ixL {i : Nat} {l : Addr} {vs : List V} {qs : List Rat} {j : Nat} {q : Rat} (hv : σ[i]? = some (some (.ref l))) (hx : Ev tx σ H (.int (j : Int))) (h : SqL K H l vs) (hp : Paired (AmtQ K H) vs qs) (hq : qs[j]? = some q) : EvQ K (tOp (rIxL K) (tVar i) tx) σ H q := fun H1 e Q k => by
  have lj : j < vs.length := by
    rw [Paired.length hp]
    exact (List.getElem?_eq_some_iff.mp hq).1
  have hvj : vs[j]? = some vs[j] := List.getElem?_eq_getElem lj
  obtain ⟨q', h1, h2⟩ := paired_get hp hvj
  rw [hq] at h1
  cases h1
  exact ⟨_, hv, hx H1 e _ fun H2 e2 => ⟨l, vs, (j : Int), vs[j], rfl, rfl, ex_l (e.trans e2) h, atI_nat hvj, k _ H2 e2 (h2.same (e.trans e2))⟩⟩
theorem ev_ixS {i : Nat} {l : Addr} {ns : List Str} {j : Nat} {n : Str} (hv : σ[i]? = some (some (.ref l))) (hx : Ev tx σ H (.int (j : Int))) (h : SqL K H l (ns.map .str)) (hn : ns[j]? = some n) : Ev (tOp (rIxL K) (tVar i) tx) σ H (.str n) :=
  ev_op (ev_var hv) hx (rv_ixL h (atI_nat (by rw [List.getElem?_map, hn]; rfl)))
theorem ev_row {tn ta ts : TE} {n ab : Str} {s : Rat} (hn : Ev tn σ H (.str n)) (ha : Ev ta σ H (.str ab)) (hs : EvQ K ts σ H s) {H1 : Hp} (e : Ex H H1) {Q : VK} (k : ∀ v H2, Ex H1 H2 → RowAt K H2 v ⟨n, ab, [("min", amtD s)]⟩ → Q v H2) :
    (tTup (tCons tn (tCons ta (tCons (tTupF (tCons (tTup (tCons (tC (.str "min")) (tCons ts tNil))) tNil)) tNil)))) σ H1 Q := by
  refine hn H1 e _ fun H2 e2 => ha H2 (e.trans e2) _ fun H3 e3 => ?_
  refine hs H3 ((e.trans e2).trans e3) _ fun v H4 e4 hv => ?_
  refine ⟨by show 2 ≤ sizeLine; decide, fun p hp => ⟨by show 1 ≤ sizeLine; decide, fun t o ht ho => ⟨by show 3 ≤ sizeLine; decide, fun r hr => ?_⟩⟩⟩
  have s1 := Same.new (Same.refl H4) hp (.tup [.str "min", v])
  have f1 : upd H4 p (.tup [.str "min", v]) p = some (.tup [.str "min", v]) := upd_same
  generalize upd H4 p (.tup [.str "min", v]) = H5 at s1 f1 ht hr ⊢
  have s2 := Same.new (Same.refl H5) ht (.frz o (.tup [.ref p]))
  have f2 : upd H5 t (.frz o (.tup [.ref p])) t = some (.frz o (.tup [.ref p])) := upd_same
  generalize upd H5 t (.frz o (.tup [.ref p])) = H6 at s2 f2 hr ⊢
  have s3 := Same.new (Same.refl H6) hr (.tup [.str n, .str ab, .ref t])
  have f3 : upd H6 r (.tup [.str n, .str ab, .ref t]) r = some (.tup [.str n, .str ab, .ref t]) := upd_same
  generalize upd H6 r (.tup [.str n, .str ab, .ref t]) = H7 at s3 f3 ⊢
  have e7 := (((e2.trans e3).trans e4).trans (s1.trans s2)).trans s3
  refine k _ H7 e7 ⟨r, t, rfl, SqT.of f3, [p], ⟨o, ho, s3 _ _ f2⟩, .cons ⟨v, SqT.of ((s2.trans s3) _ _ f1), ?_⟩ .nil⟩
  obtain ⟨a, rfl, h⟩ := hv.same ((s1.trans s2).trans s3)
  exact .tup h (.cons (.int _) (.cons (.int _) .nil))
end
theorem MapR.snoc {R : Hp → V → Str → Prop} {G : Hp} {kvs : List (Key × V)} {ns : List Str} {n : Str} {v : V} (m : MapR R G kvs ns) (h : R G v n) : MapR R G (kvs ++ [(Sum.inr n, v)]) (ns ++ [n]) := paired_snoc ⟨rfl, h⟩ m
theorem MapR.none {R : Hp → V → Str → Prop} {G : Hp} {kvs : List (Key × V)} {ns : List Str} {n : Str} (m : MapR R G kvs ns) (h : n ∉ ns) : valV kvs (Sum.inr n) = none := keys_none fun mm => by
  rw [m.keys] at mm
  obtain ⟨y, hy, e⟩ := List.mem_map.mp mm
  exact h (Sum.inr.inj e ▸ hy)
end Bd
end

section
namespace Bd
open PySem L2 Am
open Evl hiding tCut pss_cut
theorem eqv_ints : ∀ (xs ys : List Int), PyData.eqvAll (xs.map .int) (ys.map .int) = decide (xs = ys)
  | [], [] => by simp [PyData.eqvAll]
  | [], y :: ys => by simp [PyData.eqvAll]
  | x :: xs, [] => by simp [PyData.eqvAll]
  | x :: xs, y :: ys => by
    rw [List.map_cons, List.map_cons, PyData.eqvAll, eqv_ints xs ys, PyData.eqv]
    by_cases a : x = y
    · subst a
      simp
    · simp [a]
theorem eqv_intL (xs ys : List Int) : PyData.eqv (.list (xs.map .int)) (.list (ys.map .int)) = decide (xs = ys) := by
  rw [PyData.eqv]
  exact eqv_ints xs ys
theorem eqv_intT (xs ys : List Int) : PyData.eqv (.tuple (xs.map .int)) (.tuple (ys.map .int)) = decide (xs = ys) := by
  rw [PyData.eqv]
  exact eqv_ints xs ys
/-! words for laws of amounts: rows, trees, uses, what is protected, dicts that are compared -/
section
variable {K : PySem.W.Frag} {H : Hp} {σ : L2.St} {te ta tb tl tx : TE} {D : Ends} {tz : TS} {C CN CW : Addr} {E : XK}
def EvRows (K : PySem.W.Frag) (te : TE) (σ : L2.St) (H : Hp) (rows : List RowM) : Prop := ∀ H1, Ex H H1 → ∀ Q : VK, (∀ r ws H2, H1 r = none → Ex H1 H2 → H2 r = some (.lst ws) → Paired (RowAt K H2) ws rows → Q (.ref r) H2) → te σ H1 Q
def EvTree (K : PySem.W.Frag) (C : Addr) (te : TE) (σ : L2.St) (H : Hp) (rows : List RowM) (b : Bool) : Prop := ∀ H1, Ex H H1 → ∀ Q : VK, (∀ p tk H2, H1 p = none → Ex H1 H2 → TreeAt K H2 C p rows b tk → Q (.ref p) H2) → te σ H1 Q
theorem eTree {rows : List RowM} {b : Bool} (hl : EvRows K tl σ H rows) (hb : Ev tb σ H (.bl b)) (rok : RowsOk rows) (len : rows.length ≤ 200) : EvTree K C (tMake C (spInit K C) [] E (tCons tl (tCons tb tNil))) σ H rows b := fun H1 e Q k =>
  hl H1 e _ fun r ws H2 hr e2 f2 rw2 => hb H2 (e.trans e2) _ fun H3 e3 => fun x dx hx hdx ne =>
    ⟨H3, x, dx, r, ws, rows, b, rfl, Same.new (Same.new (Same.refl H3) hdx _) ((upd_ne ne.symm).trans hx) _, hx, upd_same, e3 _ _ f2, rows_same e3 rw2, rok, len, fun H4 tk s t _ => ⟨rfl, k x tk H4 (fresh_back (e2.trans e3) hx) ((e2.trans e3).trans s) t⟩⟩
theorem q_asgT {i : Nat} {rows : List RowM} {b : Bool} (h : EvTree K C te σ H rows b) (k : ∀ p tk H1, Ex H H1 → TreeAt K H1 C p rows b tk → tz D (σ.set i (some (.ref p))) H1) : tSeq (tAsg te (gName i)) tz D σ H := h H (Ex.refl H) _ fun p tk H1 _ e t => k p tk H1 e t
/-- {name: amount} -/
theorem em_one {f : Str → Rat} {n : Str} (hk : Ev ta σ H (.str n)) (hv : EvQ K tb σ H (f n)) : EvM K (tDisp [(ta, tb)]) σ H f [n] := fun H1 e Q k => by
  intro p hp
  have s1 := Same.new (Same.refl H1) hp (.dK [])
  refine hk _ (e.trans s1) _ fun H2 e2 => hv H2 ((Ex.trans e s1).trans e2) _ fun v H3 e3 a => ?_
  have f3 := e3 _ _ (e2 _ _ (upd_same : upd H1 p (.dK []) p = some (.dK [])))
  refine ⟨f3, [(Sum.inr n, v)], rfl, by show 1 ≤ 15; decide, ?_⟩
  have em : mergeK [] [((Sum.inr n : Key), v)] = [((Sum.inr n : Key), v)] := rfl
  rw [em]
  refine k p _ _ hp (fun b o hb => ?_) upd_same (.cons ⟨rfl, AmtQ.tk (TK.dk f3 _) a⟩ .nil)
  rw [upd_ne (ne_of_none hb hp)]
  exact e3 _ _ (e2 _ _ (s1 _ _ hb))
/-- protected(tree, {leaf: amount, ..}, top, kind) -/
theorem em_prot {i : Nat} {p : Addr} {rows : List RowM} {h : Bool} {tk : List (Key × V)} {top kd : Str} {k U c f : Str → Rat} {M S : Nat} {ns : List Str} (hv : σ[i]? = some (some (.ref p))) (ht : TreeAt K H C p rows h tk) (ok : RowsOk rows) (len : rows.length ≤ 200) (htop : top ∈ ("" : Str) :: nms rows) (htk : top = "" ∨ kidsOf rows (Sum.inr top) ≠ [])
    (hkd : kd = "min" ∨ kd = "low") (hk : KindOk rows kd k) (ho : HeldOk rows top h k U c f M S) (hd : EvM K ta σ H U ns) (hx : Ev tb σ H (.str top)) (hy : Ev tx σ H (.str kd)) (nd : ns.Nodup) (nl : ns.length ≤ 200) (hn : ∀ n ∈ ns, n ∈ leavesOf rows ∧ Sz (U n) ∧ 0 ≤ U n) (hz : ∀ n ∈ leavesOf rows, n ∉ ns → U n = 0) :
    EvM K (tCall (spProt K C) [] E (tCons (tVar i) (tCons ta (tCons tb (tCons tx tNil))))) σ H f (belowL rows top) := fun H1 e Q kk =>
  ⟨_, hv, hd H1 e _ fun d kvs H2 hd2 e2 f2 m2 => hx H2 (e.trans e2) _ fun H3 e3 => hy H3 ((e.trans e2).trans e3) _ fun H4 e4 =>
    ⟨p, d, top, kd, rows, h, tk, k, U, c, f, M, S, rfl, ht.same (((e.trans e2).trans e3).trans e4) ok, ok, len, htop, htk, hkd, hk, ho, ⟨kvs, ns, (e3.trans e4) _ _ f2, m2.mono fun _ _ z => AmtQ.same (e3.trans e4) z, nd, nl, hn, hz⟩, fun d2 k2 H5 h1 h2 h3 h4 => kk d2 k2 H5 (fresh_back ((e2.trans e3).trans e4) h1) (((e2.trans e3).trans e4).trans h2) h3 h4⟩⟩
/-! ### dicts that are compared -/
theorem shaped_amt (q : Rat) : SeqAt.shaped (amtD q) = true := shaped_ints [q.num, (q.den : Int)]
theorem dp_amt {v : V} {q : Rat} (h : AmtQ K H v q) : Dp K H v (amtD q) := by
  obtain ⟨a, rfl, ha⟩ := h
  exact .tup ha (.cons (.int _) (.cons (.int _) .nil))
theorem eqv_amt (q : Rat) : PyData.eqv (amtD q) (amtD q) = true := by
  show PyData.eqv (.tuple ([q.num, (q.den : Int)].map .int)) (.tuple ([q.num, (q.den : Int)].map .int)) = true
  rw [eqv_intT]
  simp
theorem hits_am {f : Str → Rat} {ls : List (Key × V)} : ∀ {ks : List (Key × V)} {ns : List Str}, MapR (AmR K f) H ks ns → (∀ n ∈ ns, ∃ v, valV ls (Sum.inr n) = some v ∧ AmtQ K H v (f n)) → HitsV (EqF K H 0) ls ks true
  | _, _, .nil, _ => .nil
  | _, _, .cons (a := kv) (b := n) a b, h => by
    obtain ⟨v, h1, h2⟩ := h n List.mem_cons_self
    have r1 : (true : Bool) = (true && true) := rfl
    rw [r1]
    obtain ⟨kk, kx⟩ := kv
    have e : kk = Sum.inr n := a.1
    subst e
    exact .hit h1 ⟨amtD (f n), amtD (f n), dp_amt a.2, dp_amt h2, shaped_amt _, shaped_amt _, (eqv_amt _).symm⟩ (hits_am b fun m hm => h m (List.mem_cons_of_mem _ hm))
/-- a new dict against one that is there: the same names with the same amounts -/
theorem ev_cmpM {r : R2} {z : V} {f : Str → Rat} {ns : List Str} {j : Nat} {d : Addr} {ls : List (Key × V)} (hr : ∀ (a b : Addr) (ks ls : List (Key × V)) (H1 : Hp) (Q : VK), H1 a = some (.dK ks) → H1 b = some (.dK ls) → ks.length = ls.length → HitsV (EqF K H1 0) ls ks true → Q z H1 → r (.ref a) (.ref b) H1 Q)
    (h : EvM K te σ H f ns) (hv : σ[j]? = some (some (.ref d))) (hd : H d = some (.dK ls)) (hl : ls.length = ns.length) (hA : Amts K H d ns f) : Ev (tOp r te (tVar j)) σ H z := fun H1 e Q k =>
  h H1 e _ fun a ks H2 _ e2 f2 m2 => ⟨_, hv, by
    have e12 := e.trans e2
    have fd := e12 _ _ hd
    obtain ⟨ls', h1, h2⟩ := hA.ex e12
    rw [fd] at h1
    cases h1
    exact hr a d ks ls H2 Q f2 fd (by rw [Paired.length m2, hl]) (hits_am m2 h2) (k H2 e2)⟩
theorem ne_M (a b : Addr) (ks ls : List (Key × V)) (H1 : Hp) (Q : VK) (h1 : H1 a = some (.dK ks)) (h2 : H1 b = some (.dK ls)) (hl : ks.length = ls.length) (hh : HitsV (EqF K H1 0) ls ks true) (q : Q (.bl false) H1) : rNeDk K (.ref a) (.ref b) H1 Q :=
  ⟨a, b, ks, ls, true, rfl, rfl, h1, h2, fun _ => hh, by
    rw [hl, beq_self_eq_true]
    exact q⟩
abbrev rEqF0 (K : PySem.W.Frag) : R2 := fun x y H Q => ∃ (a b : Addr) (ks ls : List (Key × V)) (q : Bool) (n : Nat), n ≤ 10 ∧ x = .ref a ∧ y = .ref b ∧ H a = some (.dK ks) ∧ H b = some (.dK ls) ∧ (ks.length = ls.length → HitsV (EqF K H n) ls ks q) ∧ Q (.bl (ks.length == ls.length && q)) H
theorem eq_M (a b : Addr) (ks ls : List (Key × V)) (H1 : Hp) (Q : VK) (h1 : H1 a = some (.dK ks)) (h2 : H1 b = some (.dK ls)) (hl : ks.length = ls.length) (hh : HitsV (EqF K H1 0) ls ks true) (q : Q (.bl true) H1) : rEqF0 K (.ref a) (.ref b) H1 Q :=
  ⟨a, b, ks, ls, true, 0, by decide, rfl, rfl, h1, h2, fun _ => hh, by
    rw [hl, beq_self_eq_true]
    exact q⟩
/-! ### lists -/
theorem el_cat {xs ys : List V} (h1 : EvL ta σ H xs) (h2 : EvL tb σ H ys) (hz : xs.length + ys.length ≤ 100000) : EvL (tOp rCat ta tb) σ H (xs ++ ys) := fun H1 e Q k =>
  h1 H1 e _ fun p H2 hp e2 f2 => h2 H2 (e.trans e2) _ fun q H3 hq e3 f3 => ⟨p, q, xs, ys, rfl, rfl, e3 _ _ f2, f3, sz_of hz, fun r hr => k r _ (fresh_back (e2.trans e3) hr) ((e2.trans e3).trans (Ex.new hr)) upd_same⟩
theorem cut_lo {xs : List V} {j : Nat} (h : j ≤ xs.length) : cutV xs none (some (j : Int)) = xs.take j := by
  unfold cutV
  have e : HT.sIx xs.length xs.length (some (j : Int)) = j := by
    show (if (j : Int) < 0 then ((j : Int) + (xs.length : Int)).toNat else min (j : Int).toNat xs.length) = j
    rw [if_neg (by omega)]
    omega
  rw [e]
  show (xs.drop 0).take (j - 0) = _
  rw [List.drop_zero, Nat.sub_zero]
theorem cut_hi {xs : List V} {j : Nat} (h : j ≤ xs.length) : cutV xs (some (j : Int)) none = xs.drop j := by
  unfold cutV
  have e : HT.sIx xs.length 0 (some (j : Int)) = j := by
    show (if (j : Int) < 0 then ((j : Int) + (xs.length : Int)).toNat else min (j : Int).toNat xs.length) = j
    rw [if_neg (by omega)]
    omega
  rw [e]
  show (xs.drop j).take (xs.length - j) = _
  rw [List.take_of_length_le (by rw [List.length_drop]; omega)]
theorem at_last {ns : List Str} {n : Str} (h : ns[ns.length - 1]? = some n) : atI (ns.map V.str) (-1) = some (.str n) := by
  have l := (List.getElem?_eq_some_iff.mp h).1
  have e : (ns.map V.str)[ns.length - 1]? = some (.str n) := by rw [List.getElem?_map, h]; rfl
  have e2 : ixN (ns.map V.str).length (-1) = some (ns.length - 1) := by
    unfold ixN
    rw [List.length_map, if_neg (by omega), if_pos (by omega)]
    congr 1
    omega
  unfold atI
  rw [e2]
  exact e
theorem ev_last {i : Nat} {l : Addr} {ns : List Str} {n : Str} (hv : σ[i]? = some (some (.ref l))) (h : SqL K H l (ns.map .str)) (hn : ns[ns.length - 1]? = some n) : Ev (tOp (rIxL K) (tVar i) (tUn (rU fun i => .int (-i)) (tC (.int 1)))) σ H (.str n) :=
  ev_op (ev_var hv) (ev_un ev_c ru_neg) (rv_ixL h (at_last hn))
end
/-! ### the leaf of a chain -/
theorem leaf_kids {rows : List RowM} {n : Str} (h : n ∈ leavesOf rows) : n ∈ nms rows ∧ kidsOf rows (Sum.inr n) = [] := by
  obtain ⟨r, hr, rfl⟩ := List.mem_map.mp h
  obtain ⟨h1, h2⟩ := List.mem_filter.mp hr
  refine ⟨List.mem_map_of_mem h1, ?_⟩
  have := kids_empty rows r.name
  have e : ((kidsOf rows (Sum.inr r.name)).map V.str).isEmpty = (kidsOf rows (Sum.inr r.name)).isEmpty := by cases kidsOf rows (Sum.inr r.name) <;> rfl
  rw [e] at this
  have h3 : (kidsOf rows (Sum.inr r.name)).isEmpty = true := this.trans h2
  simpa using h3
theorem ChainOk.leaf {ns : List Str} {ss : List Rat} (h : ChainOk ns ss) {n : Str} (hn : ns[ns.length - 1]? = some n) (x : Str) : x ∈ leavesOf (chainM "" ns ss) ↔ x = n := by
  have l := (List.getElem?_eq_some_iff.mp hn).1
  constructor
  · intro hx
    obtain ⟨h1, h2⟩ := leaf_kids hx
    rw [chain_nms h.len] at h1
    obtain ⟨i, hi⟩ := List.mem_iff_getElem?.mp h1
    rw [h.kidsAt hi] at h2
    have li := (List.getElem?_eq_some_iff.mp hi).1
    have : ns.drop (i + 1) = [] := by
      cases z : ns.drop (i + 1) with
      | nil => rfl
      | cons a b => rw [z] at h2; cases h2
    have := List.drop_eq_nil_iff.mp this
    have e : i = ns.length - 1 := by omega
    rw [e, hn] at hi
    exact (Option.some.inj hi).symm
  · rintro rfl
    refine leaf_mem (by rw [chain_nms h.len]; exact List.mem_of_getElem? hn) ?_
    rw [h.kidsAt hn, List.drop_eq_nil_of_le (by omega)]
    rfl
end Bd
end

section
namespace Bd
open PySem L2 Am
open Evl hiding tCut pss_cut

/-! drawn rows, and drawn uses -/
structure TDd (mg : Str → Option Value) : Prop where
  z_dict : mg "dict" = none
def WordsOk (words : List Str) : Prop := words.Nodup ∧ ∀ w ∈ words, w ∈ (["min", "low", "burst", "max", "quota"] : List Str)
def DuesDr (words : List Str) (dues : List (Str × PyData)) : Prop := ∃ ps : List (Str × Rat), dues = ps.map (fun z => (z.1, amtD z.2)) ∧ (ps.map (·.1)).Sublist words ∧ ∀ z ∈ ps, Drawn z.2
def RowsI (ns words : List Str) (rs : List RowM) : Prop := ∀ (j : Nat) (r : RowM), rs[j]? = some r → ns[j]? = some r.name ∧ (r.above = "" ∨ r.above ∈ ns.take j) ∧ DuesDr words r.dues
theorem words_in {w : Str} (h : w ∈ (["min", "low", "burst", "max", "quota"] : List Str)) : w ∈ leftW ∧ w ∈ (["min", "low", "burst", "max", "quota", "tops"] : List Str) ∧ w ≠ "tops" := by
  simp only [List.mem_cons, List.not_mem_nil, or_false] at h
  rcases h with rfl | rfl | rfl | rfl | rfl <;> decide +kernel
theorem dues_dok {words : List Str} {dues : List (Str × PyData)} (hw : WordsOk words) (h : DuesDr words dues) : DuesOk dues := by
  obtain ⟨ps, rfl, hs, hd⟩ := h
  refine ⟨?_, fun du hdu => ?_⟩
  · rw [List.map_map]
    exact hw.1.sublist hs
  · obtain ⟨z, hz, rfl⟩ := List.mem_map.mp hdu
    have hzw := words_in (hw.2 z.1 (hs.subset (List.mem_map_of_mem hz)))
    refine ⟨hzw.1, ?_⟩
    obtain ⟨z1, z2⟩ := (hd z hz).sz
    show ValOk z.1 (.tuple [.int z.2.num, .int (z.2.den : Int)])
    rw [nat_num (hd z hz).1]
    exact .amt hzw.2.1 z1 z.2.den_pos z2 z.2.reduced
theorem dues_tops {words : List Str} {dues : List (Str × PyData)} (hw : WordsOk words) (h : DuesDr words dues) : dueOf (fullD dues) "tops" = some (.str "endless") := by
  obtain ⟨ps, rfl, hs, hd⟩ := h
  have : dueOf (ps.map fun z => (z.1, amtD z.2)) "tops" = none := by
    unfold dueOf
    rw [Option.map_eq_none_iff, List.find?_eq_none]
    intro du hdu
    obtain ⟨z, hz, rfl⟩ := List.mem_map.mp hdu
    have := (words_in (hw.2 z.1 (hs.subset (List.mem_map_of_mem hz)))).2.2
    simpa using this
  show some ((dueOf (ps.map fun z => (z.1, amtD z.2)) "tops").getD (.str "endless")) = _
  rw [this]
  rfl
theorem rowsI_ok {ns words : List Str} {rs : List RowM} (hw : WordsOk words) (h : RowsI ns words rs) (nd : ns.Nodup) (mem : ∀ x ∈ ns, x ∈ menu) : RowsOk rs := by
  intro i r hr
  obtain ⟨h1, h2, h3⟩ := h i r hr
  have hix : ∀ {j : Nat} {q : RowM}, rs[j]? = some q → q.name = r.name → j = i := fun {j q} hq e => by
    obtain ⟨g1, _⟩ := h j q hq
    rw [e] at g1
    obtain ⟨l1, z1⟩ := List.getElem?_eq_some_iff.mp g1
    obtain ⟨l2, z2⟩ := List.getElem?_eq_some_iff.mp h1
    exact (List.getElem_inj nd (h₀ := l1) (h₁ := l2)).mp (z1.trans z2.symm)
  have li := (List.getElem?_eq_some_iff.mp hr).1
  refine ⟨menu_ok _ (mem _ (List.mem_of_getElem? h1)), dues_dok hw h3, fun q hq e => ?_, ?_⟩
  · obtain ⟨j, hj⟩ := List.mem_iff_getElem?.mp hq
    have lj := (List.getElem?_eq_some_iff.mp hj).1
    rw [List.length_take] at lj
    rw [List.getElem?_take_of_lt (by omega)] at hj
    have := hix hj e
    omega
  · rcases h2 with e | m
    · exact .inl e
    · right
      obtain ⟨j, hj⟩ := List.mem_iff_getElem?.mp m
      have lj := (List.getElem?_eq_some_iff.mp hj).1
      rw [List.length_take] at lj
      rw [List.getElem?_take_of_lt (by omega)] at hj
      have hq : rs[j]? = some rs[j] := List.getElem?_eq_getElem (by omega)
      obtain ⟨g1, _, g3⟩ := h j _ hq
      rw [hj] at g1
      refine ⟨rs[j], List.mem_iff_getElem?.mpr ⟨j, by rw [List.getElem?_take_of_lt (by omega)]; exact hq⟩, (Option.some.inj g1).symm, dues_tops hw g3⟩
def DueQ (K : PySem.W.Frag) (G : Hp) (a : Addr) (z : Str × Rat) : Prop := ∃ u, SqT K G a [.str z.1, u] ∧ AmtQ K G u z.2
theorem DueQ.tk {K : PySem.W.Frag} {G G' : Hp} {a : Addr} {z : Str × Rat} (t : TK G G') (h : DueQ K G a z) : DueQ K G' a z := by
  obtain ⟨u, h1, h2⟩ := h
  exact ⟨u, t.seqT h1, h2.tk t⟩
/-- while rows are drawn -/
structure TMX (mg : Str → Option Value) : Prop where
  z_max : mg "max" = none
  z_min : mg "min" = none
structure RSt (K : PySem.W.Frag) (H G : Hp) (p wl nl fl : Addr) (wo : HO) (words ns : List Str) (ws : List V) (rs : List RowM) : Prop where
  src : Src G p
  kept : Kept p H G
  ewl : G wl = some wo
  enl : G nl = some (.lst (ns.map .str))
  efl : G fl = some (.lst ws)
  nfl : H fl = none
  rows : Paired (RowAt K G) ws rs
  inv : RowsI ns words rs
  w0 : wl ≠ p
  n0 : nl ≠ p
  f0 : fl ≠ p
  wf : wl ≠ fl
  nf : nl ≠ fl
theorem src_tkE {H H' : Hp} {p : Addr} (h : Src H p) (k : Kept p H H') : TK H H' := by
  obtain ⟨x, y, z, h⟩ := h
  exact TK.kept h k
section
variable {K : PySem.W.Frag} {H G G' : Hp} {p wl nl fl dl : Addr} {wo : HO} {words ns : List Str} {ws : List V} {rs : List RowM}
theorem RSt.dok (h : RSt K H G p wl nl fl wo words ns ws rs) (hw : WordsOk words) : ∀ r ∈ rs, DuesOk r.dues := fun r hr => by
  obtain ⟨j, hj⟩ := List.mem_iff_getElem?.mp hr
  exact dues_dok hw (h.inv j r hj).2.2
theorem RSt.same (h : RSt K H G p wl nl fl wo words ns ws rs) (s : Same G G') : RSt K H G' p wl nl fl wo words ns ws rs := by
  obtain ⟨a, b, c, d, e, f, g, i, j, k, l, m, n⟩ := h
  obtain ⟨x, y, z, a⟩ := a
  exact ⟨⟨x, y, z, s _ _ a⟩, b.trans (Kept.of s), s _ _ c, s _ _ d, s _ _ e, f, rows_same s g, i, j, k, l, m, n⟩
theorem RSt.next (h : RSt K H G p wl nl fl wo words ns ws rs) (hw : WordsOk words) (s : Src G' p) (k : Kept p G G') : RSt K H G' p wl nl fl wo words ns ws rs := by
  have t : TK G G' := by
    obtain ⟨x, y, z, a⟩ := h.src
    exact TK.kept a k
  exact ⟨s, h.kept.trans k, k _ _ h.w0 h.ewl, k _ _ h.n0 h.enl, k _ _ h.f0 h.efl, h.nfl, paired_monoM (fun x r hr z => t.row (h.dok hw r hr) z) h.rows, h.inv, h.w0, h.n0, h.f0, h.wf, h.nf⟩
/-- a list of its own changes -/
theorem RSt.own (h : RSt K H G p wl nl fl wo words ns ws rs) (hw : WordsOk words) {xs ys : List V} (hd : G dl = some (.lst xs)) (h0 : H dl = none) (d1 : wl ≠ dl) (d2 : nl ≠ dl) (d3 : fl ≠ dl) (d4 : p ≠ dl) : RSt K H (upd G dl (.lst ys)) p wl nl fl wo words ns ws rs := by
  have t : TK G (upd G dl (.lst ys)) := TK.lst hd _
  refine ⟨src_upd h.src d4, fun b o hb e => ?_, (upd_ne d1).trans h.ewl, (upd_ne d2).trans h.enl, (upd_ne d3).trans h.efl, h.nfl, paired_monoM (fun x r hr z => t.row (h.dok hw r hr) z) h.rows, h.inv, h.w0, h.n0, h.f0, h.wf, h.nf⟩
  rw [upd_ne (ne_of_none e h0)]
  exact h.kept b o hb e
theorem RSt.put (h : RSt K H G p wl nl fl wo words ns ws rs) (hw : WordsOk words) {v : V} {r : RowM} (hv : RowAt K G v r) (hi : ns[rs.length]? = some r.name) (ha : r.above = "" ∨ r.above ∈ ns.take rs.length) (hd : DuesDr words r.dues) : RSt K H (upd G fl (.lst (ws ++ [v]))) p wl nl fl wo words ns (ws ++ [v]) (rs ++ [r]) := by
  have t : TK G (upd G fl (.lst (ws ++ [v]))) := TK.lst h.efl _
  refine ⟨src_upd h.src h.f0.symm, fun b o hb e => ?_, (upd_ne h.wf).trans h.ewl, (upd_ne h.nf).trans h.enl, upd_same, h.nfl, paired_snoc (t.row (dues_dok hw hd) hv) (paired_monoM (fun x r hr z => t.row (h.dok hw r hr) z) h.rows), fun j q hq => ?_, h.w0, h.n0, h.f0, h.wf, h.nf⟩
  · rw [upd_ne (ne_of_none e h.nfl)]
    exact h.kept b o hb e
  · by_cases c : j < rs.length
    · rw [List.getElem?_append_left c] at hq
      exact h.inv j q hq
    · have lj := (List.getElem?_eq_some_iff.mp hq).1
      rw [List.length_append, List.length_singleton] at lj
      have e : j = rs.length := by omega
      subst e
      rw [List.getElem?_append_right (Nat.le_refl _), Nat.sub_self] at hq
      cases hq
      exact ⟨hi, ha, hd⟩
end
def spLRows (K : PySem.W.Frag) : Sp := fun vs H Q _ => ∃ (s wl : Addr) (m : Nat) (words : List Str), vs = [.ref s, .int (m : Int), .ref wl] ∧ Src H s ∧ m ≤ 12 ∧ H wl = some (.lst (words.map .str)) ∧ wl ≠ s ∧ WordsOk words ∧ words.length ≤ 5 ∧
  ∀ r H' ws rs ns, H r = none → H' r = some (.lst ws) → Paired (RowAt K H') ws rs → RowsI ns words rs → ns.Nodup → (∀ x ∈ ns, x ∈ menu) → ns.length = m → rs.length = m → Src H' s → Kept s H H' → Q (.ref r) H'
def spLRowsT (K : PySem.W.Frag) : Sp := fun vs H Q _ => ∃ (s wl : Addr) (m : Nat) (words : List Str), vs = [.ref s, .int (m : Int), .ref wl] ∧ Src H s ∧ m ≤ 12 ∧ H wl = some (.tup (words.map .str)) ∧ wl ≠ s ∧ WordsOk words ∧ words.length ≤ 5 ∧
  ∀ r H' ws rs ns, H r = none → H' r = some (.lst ws) → Paired (RowAt K H') ws rs → RowsI ns words rs → ns.Nodup → (∀ x ∈ ns, x ∈ menu) → ns.length = m → rs.length = m → Src H' s → Kept s H H' → Q (.ref r) H'
def spLLeaves (K : PySem.W.Frag) : Sp := fun vs H Q _ => ∃ (l : Addr) (ws : List V) (rs : List RowM), vs = [.ref l] ∧ SqL K H l ws ∧ Paired (RowAt K H) ws rs ∧ rs.length ≤ 200 ∧ ∀ r H', H r = none → Same H H' → H' r = some (.lst ((leavesOf rs).map .str)) → Q (.ref r) H'
def spLUses (K : PySem.W.Frag) : Sp := fun vs H Q _ => ∃ (s l : Addr) (ws : List V) (rs : List RowM), vs = [.ref s, .ref l] ∧ Src H s ∧ l ≠ s ∧ SqL K H l ws ∧ Paired (RowAt K H) ws rs ∧ RowsOk rs ∧ rs.length ≤ 200 ∧
  ∀ d H' kvs ns (u : Str → Rat), H d = none → H' d = some (.dK kvs) → MapR (AmR K u) H' kvs ns → ns.Sublist (leavesOf rs) → (∀ n, n ∉ ns → u n = 0) → (∀ n, Drawn (u n)) → Src H' s → Kept s H H' → Q (.ref d) H'
theorem leaf_in (rs : List RowM) (r : RowM) : leafB rs r = !inV (V.str r.name) ((rs.map (·.above)).map V.str) := by
  rw [in_strs]
  unfold leafB
  congr 1
  induction rs with
  | nil => rfl
  | cons q rs ih =>
    rw [List.any_cons, ih, List.map_cons]
    by_cases c : q.above = r.name
    · rw [c]; simp
    · have c' : ¬ r.name = q.above := fun e => c e.symm
      simp [c, c']
theorem src_sameE {H H' : Hp} {s : Addr} (e : Same H H') (h : Src H s) : Src H' s := by
  obtain ⟨x, y, z, h⟩ := h
  exact ⟨x, y, z, e _ _ h⟩
theorem drawn0 : Drawn 0 := ⟨Rat.le_refl, by decide, by decide⟩
theorem ofL_no : ∀ {ns : List Str} {vs : List Rat} {x : Str}, x ∉ ns → ofL ns vs x = 0
  | [], _, _, _ => rfl
  | n :: ns, [], _, _ => rfl
  | n :: ns, v :: vs, x, h => by
    show (if x = n then v else ofL ns vs x) = 0
    rw [if_neg fun e : x = n => h (by rw [e]; exact List.mem_cons_self)]
    exact ofL_no fun m => h (List.mem_cons_of_mem _ m)
theorem ofL_or : ∀ (ns : List Str) (vs : List Rat) (x : Str), ofL ns vs x = 0 ∨ ofL ns vs x ∈ vs
  | [], _, _ => .inl rfl
  | n :: ns, [], _ => .inl rfl
  | n :: ns, v :: vs, x => by
    show (if x = n then v else ofL ns vs x) = 0 ∨ (if x = n then v else ofL ns vs x) ∈ v :: vs
    split
    · exact .inr List.mem_cons_self
    · exact (ofL_or ns vs x).imp id fun m => List.mem_cons_of_mem _ m
theorem dueq_kv {K : PySem.W.Frag} {G : Hp} : ∀ {as : List Addr} {ps : List (Str × Rat)}, Paired (DueQ K G) as ps → (ps.map (·.1)).Nodup → ∃ kvs : List (Key × V), Paired (fun p kv => SqT K G p [kV kv.1, kv.2]) as kvs ∧ MapR (AmR K (ofL (ps.map (·.1)) (ps.map (·.2)))) G kvs (ps.map (·.1))
  | _, _, .nil, _ => ⟨[], .nil, .nil⟩
  | _, _, .cons (a := a) (b := z) (l₂ := ps) hh bb, nd => by
    obtain ⟨u, h1, h2⟩ := hh
    obtain ⟨n1, n2⟩ := List.nodup_cons.mp (show (z.1 :: ps.map (·.1)).Nodup from nd)
    obtain ⟨kvs, k1, k2⟩ := dueq_kv bb n2
    refine ⟨(Sum.inr z.1, u) :: kvs, .cons h1 k1, .cons ⟨rfl, ?_⟩ (paired_monoM (fun kv n hn h => ⟨h.1, ?_⟩) k2)⟩
    · show AmtQ K G u (if z.1 = z.1 then z.2 else _)
      rw [if_pos rfl]
      exact h2
    · have := h.2
      show AmtQ K G kv.2 (if n = z.1 then z.2 else ofL (ps.map (·.1)) (ps.map (·.2)) n)
      rw [if_neg fun e : n = z.1 => n1 (by rw [← e]; exact hn)]
      exact this
section
variable {P : Program} {w : World} {K : PySem.W.Frag} {mg : Str → Option Value} {base : Heap}
--<LROWS
theorem row_ix {H G : Hp} {σ : L2.St} {l i : Nat} {ws : List V} {rs : List RowM} {j : Nat} {x : V} (hp : Paired (RowAt K H) ws rs) (hx : ws[j]? = some x) (e : Ex H G) (hv : σ[i]? = some (some x)) : ∃ r, rs[j]? = some r ∧ Ev (tOp (rIxT K) (tVar i) (tC (.int 0))) σ G (.str r.name) ∧ Ev (tOp (rIxT K) (tVar i) (tC (.int 1))) σ G (.str r.above) := by
  obtain ⟨r, h1, a, t, rfl, h2, _⟩ := paired_get hp hx
  exact ⟨r, h1, ev_op (ev_var hv) ev_c (rv_ixT (ex_t e h2) rfl), ev_op (ev_var hv) ev_c (rv_ixT (ex_t e h2) rfl)⟩
end
end Bd
end

section
namespace Bd
open PySem L2 Am
open Evl hiding tCut pss_cut
/-! words for laws over drawn rows: settings, a tree of rows that stand in a local, what is protected with uses that stand in a local -/
theorem due_dr {words : List Str} {dues : List (Str × PyData)} (h : DuesDr words dues) {kd : Str} (hk : kd = "min" ∨ kd = "low") : ∃ q, dueOf (fullD dues) kd = some (amtD q) ∧ Drawn q := by
  obtain ⟨ps, rfl, hs, hd⟩ := h
  have e : dueOf (fullD (ps.map fun z => (z.1, amtD z.2))) kd = some ((dueOf (ps.map fun z => (z.1, amtD z.2)) kd).getD (.tuple [.int 0, .int 1])) := by
    rcases hk with rfl | rfl <;> rfl
  rw [e]
  cases z : dueOf (ps.map fun z => (z.1, amtD z.2)) kd with
  | none => exact ⟨0, rfl, drawn0⟩
  | some d =>
    unfold dueOf at z
    obtain ⟨x, hx, rfl⟩ := Option.map_eq_some_iff.mp z
    obtain ⟨y, hy, rfl⟩ := List.mem_map.mp (List.mem_of_find?_eq_some hx)
    exact ⟨y.2, rfl, hd y hy⟩
theorem kind_ex {ns words : List Str} {rs : List RowM} (h : RowsI ns words rs) (nd : (nms rs).Nodup) {kd : Str} (hk : kd = "min" ∨ kd = "low") : ∃ k : Str → Rat, KindOk rs kd k ∧ ∀ n, Drawn (k n) := by
  have key : ∀ n : Str, ∃ q : Rat, Drawn q ∧ ∀ r ∈ rs, r.name = n → dueOf (fullD r.dues) kd = some (amtD q) := fun n => by
    by_cases c : ∃ r ∈ rs, r.name = n
    · obtain ⟨r, hr, rfl⟩ := c
      obtain ⟨j, hj⟩ := List.mem_iff_getElem?.mp hr
      obtain ⟨q, h1, h2⟩ := due_dr (h j r hj).2.2 hk
      refine ⟨q, h2, fun r' hr' e => ?_⟩
      obtain ⟨j', hj'⟩ := List.mem_iff_getElem?.mp hr'
      have := row_inj nd hj' hj e
      subst this
      rw [hj] at hj'
      cases hj'
      exact h1
    · exact ⟨0, drawn0, fun r hr e => absurd ⟨r, hr, e⟩ c⟩
  refine ⟨fun n => (key n).choose, fun r hr => (key r.name).choose_spec.2 r hr rfl, fun n => (key n).choose_spec.1⟩
theorem mapR_congr {K : PySem.W.Frag} {G : Hp} {f g : Str → Rat} : ∀ {kvs : List (Key × V)} {ns : List Str}, MapR (AmR K f) G kvs ns → (∀ n ∈ ns, f n = g n) → MapR (AmR K g) G kvs ns
  | _, _, .nil, _ => .nil
  | _, _, .cons (b := n) a b, h => .cons ⟨a.1, by have : AmtQ K G _ (f n) := a.2; rw [h n List.mem_cons_self] at this; exact this⟩ (mapR_congr b fun m hm => h m (List.mem_cons_of_mem _ hm))
/-- uses that were drawn, as what all groups use -/
theorem uses_of {K : PySem.W.Frag} {G : Hp} {d : Addr} {kvs : List (Key × V)} {rs : List RowM} {us : List Str} {u U : Str → Rat} (fd : G d = some (.dK kvs)) (m : MapR (AmR K u) G kvs us) (sub : us.Sublist (leavesOf rs)) (rok : RowsOk rs) (len : rs.length ≤ 200) (hz : ∀ n, n ∉ us → u n = 0) (hd : ∀ n, Drawn (u n))
    (hU : ∀ r ∈ rs, U r.name = if kidsOf rs (Sum.inr r.name) = [] then u r.name else sumQ ((kidsOf rs (Sum.inr r.name)).map U)) : UsesAt K G d rs U := by
  have lv : ∀ n ∈ leavesOf rs, U n = u n := fun n hn => by
    obtain ⟨h1, h2⟩ := leaf_kids hn
    obtain ⟨r, hr, rfl⟩ := List.mem_map.mp h1
    rw [hU r hr, if_pos h2]
  have ll := leaves_len (rows := rs)
  have sl := sub.length_le
  refine ⟨kvs, us, fd, mapR_congr m fun n hn => (lv n (sub.subset hn)).symm, (leaves_nd rok).sublist sub, by omega, fun n hn => ?_, fun n hn hx => ?_⟩
  · have e := lv n (sub.subset hn)
    exact ⟨sub.subset hn, e ▸ (hd n).sz, e ▸ (hd n).1⟩
  · rw [lv n hn, hz n hx]
section
variable {K : PySem.W.Frag} {H : Hp} {σ : L2.St} {ta tb te tf tl tx ty tk : TE} {D : Ends} {tz : TS} {C : Addr} {E : XK}
theorem eTreeV {i : Nat} {l : Addr} {ws : List V} {rows : List RowM} {b : Bool} (hv : σ[i]? = some (some (.ref l))) (hl : H l = some (.lst ws)) (hp : Paired (RowAt K H) ws rows) (hb : Ev tb σ H (.bl b)) (rok : RowsOk rows) (len : rows.length ≤ 200) : EvTree K C (tMake C (spInit K C) [] E (tCons (tVar i) (tCons tb tNil))) σ H rows b := fun H1 e Q k =>
  ⟨_, hv, hb H1 e _ fun H3 e3 => fun x dx hx hdx ne =>
    ⟨H3, x, dx, l, ws, rows, b, rfl, Same.new (Same.new (Same.refl H3) hdx _) ((upd_ne ne.symm).trans hx) _, hx, upd_same, (e.trans e3) _ _ hl, rows_same (e.trans e3) hp, rok, len, fun H4 tk s t _ => ⟨rfl, k x tk H4 (fresh_back e3 hx) (e3.trans s) t⟩⟩⟩
theorem el_leavesL {i : Nat} {l : Addr} {ws : List V} {rs : List RowM} (hv : σ[i]? = some (some (.ref l))) (hl : SqL K H l ws) (hp : Paired (RowAt K H) ws rs) (len : rs.length ≤ 200) : EvL (tCall (spLLeaves K) [] E (tCons (tVar i) tNil)) σ H ((leavesOf rs).map .str) :=
  el_call (ea_cons (ev_var hv) ea_nil) fun H1 e Q k E => ⟨l, ws, rs, rfl, ex_l e hl, rows_same e hp, len, fun r H' a b c => k r H' a b c⟩
/-- protected(tree, uses, top, kind), uses that stand in a local -/
theorem em_protV {i j : Nat} {p du : Addr} {rows : List RowM} {h : Bool} {tk : List (Key × V)} {top kd : Str} {k U c f : Str → Rat} {M S : Nat} (hv : σ[i]? = some (some (.ref p))) (ht : TreeAt K H C p rows h tk) (ok : RowsOk rows) (len : rows.length ≤ 200) (htop : top ∈ ("" : Str) :: nms rows) (htk : top = "" ∨ kidsOf rows (Sum.inr top) ≠ [])
    (hkd : kd = "min" ∨ kd = "low") (hk : KindOk rows kd k) (ho : HeldOk rows top h k U c f M S) (hd : σ[j]? = some (some (.ref du))) (hu : UsesAt K H du rows U) (hx : Ev tb σ H (.str top)) (hy : Ev tx σ H (.str kd)) :
    EvM K (tCall (spProt K C) [] E (tCons (tVar i) (tCons (tVar j) (tCons tb (tCons tx tNil))))) σ H f (belowL rows top) := fun H1 e Q kk =>
  ⟨_, hv, _, hd, hx H1 e _ fun H3 e3 => hy H3 (e.trans e3) _ fun H4 e4 =>
    ⟨p, du, top, kd, rows, h, tk, k, U, c, f, M, S, rfl, ht.same ((e.trans e3).trans e4) ok, ok, len, htop, htk, hkd, hk, ho, hu.same ((e.trans e3).trans e4), fun d2 k2 H5 h1 h2 h3 h4 => kk d2 k2 H5 (fresh_back (e3.trans e4) h1) ((e3.trans e4).trans h2) h3 h4⟩⟩
/-- two new dicts that tell the same -/
theorem ev_cmpMM {r : R2} {z : V} {f : Str → Rat} {ns : List Str} (hr : ∀ (a b : Addr) (ks ls : List (Key × V)) (H1 : Hp) (Q : VK), H1 a = some (.dK ks) → H1 b = some (.dK ls) → ks.length = ls.length → HitsV (EqF K H1 0) ls ks true → Q z H1 → r (.ref a) (.ref b) H1 Q)
    (h : EvM K te σ H f ns) (h2 : EvM K tf σ H f ns) (nd : ns.Nodup) : Ev (tOp r te tf) σ H z := fun H1 e Q k =>
  h H1 e _ fun a ks H2 _ e2 f2 m2 => h2 H2 (e.trans e2) _ fun d ls H3 hd e3 f3 m3 =>
    hr a d ks ls H3 Q (e3 _ _ f2) f3 (by rw [Paired.length m2, Paired.length m3]) (hits_am (m2.mono fun _ _ z => AmtQ.same e3 z) fun n hn => m3.get nd hn) (k H3 (e2.trans e3))
theorem src_ex {H H' : Hp} {p : Addr} (e : Ex H H') (h : Src H p) : Src H' p := src_sameE e h
/-- a draw -/
theorem q_draw {ta : L2.TA} {p : Addr} {m : Nat} {H : Hp} (h : EvA ta σ H [.ref p, .int (m : Int)]) (hs : Src H p) (m0 : 0 < m) (m1 : m ≤ 1000000) {Q : VK} (k : ∀ (a : Nat) H2, a < m → Src H2 p → Kept p H H2 → Q (.int (a : Int)) H2) : tCall spNext [] E ta σ H Q :=
  h H (Ex.refl H) _ fun H1 e => ⟨p, m, rfl, src_ex e hs, m0, m1, fun a H2 ha s2 k2 => k a H2 ha s2 ((Kept.of e).trans k2)⟩
end
theorem TreeAt.kept {K : PySem.W.Frag} {H H' : Hp} {s C p : Addr} {rows : List RowM} {h : Bool} {tk : List (Key × V)} (hs : Src H s) (k : Kept s H H') (ok : RowsOk rows) (t : TreeAt K H C p rows h tk) : TreeAt K H' C p rows h tk := by
  obtain ⟨dx, po, pp, pk, pt, o1, o2, o3, o4, o5, ks, k1, k2, k3⟩ := t
  have tkk := src_tkE hs k
  obtain ⟨x, y, z, es⟩ := hs
  have nl : ∀ {b : Addr} {xs : List Str}, H b = some (.lst (xs.map V.str)) → b ≠ s := fun {b xs} e => ne_of e es (by
    intro z
    cases xs with
    | nil => cases z
    | cons a b => cases z)
  have o2' : H po = some (.lst ((nms rows).map V.str)) := by
    rw [o2]
    unfold nms
    rw [List.map_map]
    rfl
  refine ⟨dx, po, pp, pk, pt, k _ _ (ne_of o1 es (by intro z; cases z)) o1, k _ _ (nl o2') o2, k _ _ (ne_of o3 es (by intro z; cases z)) o3, k _ _ (ne_of o4 es (by intro z; cases z)) o4, paired_monoM (fun kv r hr z => ?_) o5, ks, k _ _ (ne_of k1 es (by intro z; cases z)) k1, k2, fun kv hkv => ?_⟩
  · obtain ⟨z1, d, z2, kvs, z3, z4⟩ := z
    exact ⟨z1, d, z2, kvs, k _ _ (ne_of z3 es (by intro z; cases z)) z3, paired_monoM (fun kv wd hw z => ⟨z.1, tkk.val (full_val (fun x hx => ((rows_due ok r hr).2 x hx).2) wd hw) z.2⟩) z4⟩
  · obtain ⟨l, e1, e2⟩ := k3 kv hkv
    exact ⟨l, e1, k _ _ (nl e2) e2⟩
/-- drawn rows, and the tree that was made of them -/
structure DW (K : PySem.W.Frag) (C : Addr) (G : Hp) (sp r tr : Addr) (ws : List V) (rs : List RowM) (h : Bool) (tk : List (Key × V)) : Prop where
  src : Src G sp
  er : G r = some (.lst ws)
  nr : sp ≠ r
  rows : Paired (RowAt K G) ws rs
  tree : TreeAt K G C tr rs h tk
section
variable {K : PySem.W.Frag} {C : Addr} {G G' : Hp} {sp r tr : Addr} {ws : List V} {rs : List RowM} {h : Bool} {tk : List (Key × V)}
theorem DW.kept (w : DW K C G sp r tr ws rs h tk) (ok : RowsOk rs) (s : Src G' sp) (k : Kept sp G G') : DW K C G' sp r tr ws rs h tk := by
  have t := src_tkE w.src k
  exact ⟨s, k _ _ w.nr.symm w.er, w.nr, paired_monoM (fun x q hq z => t.row (rows_due ok q hq) z) w.rows, TreeAt.kept w.src k ok w.tree⟩
theorem DW.same (w : DW K C G sp r tr ws rs h tk) (ok : RowsOk rs) (s : Ex G G') : DW K C G' sp r tr ws rs h tk := ⟨src_ex s w.src, s _ _ w.er, w.nr, rows_same s w.rows, w.tree.same s ok⟩
end
section
variable {K : PySem.W.Frag} {C : Addr} {H : Hp} {σ : L2.St} {ta te tl : TE} {D : Ends} {tz : TS}
theorem el_eq {xs ys : List V} (h : EvL te σ H xs) (e : xs = ys) : EvL te σ H ys := e ▸ h
theorem q_parT {i j : Nat} {rows : List RowM} {b : Bool} {xs : List V} (ok : RowsOk rows) (h : EvTree K C te σ H rows b) (h2 : EvL tl σ H xs) (k : ∀ p tk l H1, H p = none → H l = none → Ex H H1 → TreeAt K H1 C p rows b tk → H1 l = some (.lst xs) → tz D ((σ.set i (some (.ref p))).set j (some (.ref l))) H1) : tSeq (tPar i j (tCons te (tCons tl tNil))) tz D σ H :=
  h H (Ex.refl H) _ fun p tk H1 hp e t => h2 H1 e _ fun l H2 hl e2 f2 => ⟨_, _, rfl, k p tk l H2 hp (fresh_back e hl) (e.trans e2) (t.same e2 ok) f2⟩
end
theorem leaf_is {rs : List RowM} {r : RowM} (hr : r ∈ rs) : inV (V.str r.name) ((leavesOf rs).map V.str) = leafB rs r := by
  rw [in_strs]
  have e : (r.name ∈ leavesOf rs) ↔ leafB rs r = true := by
    constructor
    · intro h
      obtain ⟨q, hq, e⟩ := List.mem_map.mp h
      have := (List.mem_filter.mp hq).2
      unfold leafB at this ⊢
      rw [e] at this
      exact this
    · exact fun h => List.mem_map_of_mem (List.mem_filter.mpr ⟨hr, h⟩)
  rw [Bool.eq_iff_iff, ← e]
  simp
/-- the groups with children, and the root -/
def crowns (rs : List RowM) : List Str := "" :: (rs.filter fun r => !leafB rs r).map (·.name)
theorem crown_ok {rs : List RowM} {t : Str} (h : t ∈ crowns rs) : t ∈ ("" : Str) :: nms rs ∧ (t = "" ∨ kidsOf rs (Sum.inr t) ≠ []) := by
  rcases List.mem_cons.mp h with rfl | m
  · exact ⟨List.mem_cons_self, .inl rfl⟩
  · obtain ⟨r, hr, rfl⟩ := List.mem_map.mp m
    obtain ⟨h1, h2⟩ := List.mem_filter.mp hr
    refine ⟨List.mem_cons_of_mem _ (List.mem_map_of_mem h1), .inr fun e => ?_⟩
    have h3 := kids_empty rs r.name
    rw [e] at h3
    have h3 : (true : Bool) = leafB rs r := h3
    rw [← h3] at h2
    cases h2
theorem crowns_len (rs : List RowM) : (crowns rs).length ≤ rs.length + 1 := by
  unfold crowns
  rw [List.length_cons, List.length_map]
  exact Nat.succ_le_succ (List.length_filter_le _ _)
end Bd
end

section
namespace Bd
open PySem L2 Am PySem.Spec PyProof.Rows
open Evl hiding tCut pss_cut

/-! the law's own fractions -/
theorem hu65 {A : Around} {k : Nat} (hr : Room k A) : A.units + 65 < cLine := by
  have := hu100 hr
  omega
def rInDT (K : PySem.W.Frag) : R2 := fun x y H Q => ∃ d ds, Dp K H x d ∧ Dp K H y (.tuple ds) ∧ SeqAt.shaped d = true ∧ SeqAt.shaped (.tuple ds) = true ∧ Q (.bl (ds.any fun z => PyData.eqv z d)) H
theorem op_inDT {X : Cx} (hu : X.A.units + 65 < cLine) : OpR X (compareOp .In) (rInDT X.K) := by
  intro pins s σ H x y v u Q I rx ry h
  obtain ⟨d, ds, hd, he, sd, se, q⟩ := h
  obtain ⟨as, r1⟩ := Dp.reads I d x v hd rx
  obtain ⟨bs, r2⟩ := Dp.reads I (.tuple ds) y u he ry
  exact SeqAt.in_tuple_reads r2 r1 (SeqAt.canLay_of_shaped se) (SeqAt.canLay_of_shaped sd) (room_in_shaped sd hu) ⟨.bl _, H, I, rfl, q⟩
theorem rv_div9 {H : Hp} {a b : Nat} (hb : 0 < b) (h : b < 2 ^ 9000) : RV (rI CDivW fun i j => V.int (i / j)) (.int (a : Int)) (.int (b : Int)) H (.int ((a / b : Nat) : Int)) := by
  rw [← div_nat]
  exact rv_I ⟨by omega, by
    rw [Int.natAbs_natCast]
    by_cases e : b = 0
    · subst e
      decide
    · exact (Nat.log2_lt e).mpr h⟩
def spFrac2 (K : PySem.W.Frag) : Sp := fun vs H Q _ => ∃ n b : Nat, vs = [.int (n : Int), .int (b : Int)] ∧ 0 < b ∧ b < 2 ^ 9000 ∧ ∀ v H', Same H H' → AmtQ K H' v (mkRat (n : Int) b) → Q v H'
def spQ (K : PySem.W.Frag) (P : Rat → Rat → Prop) (f : Rat → Rat → Rat) : Sp := fun vs H Q _ => ∃ (va vb : V) (a b : Rat), vs = [va, vb] ∧ AmtQ K H va a ∧ AmtQ K H vb b ∧ Sz a ∧ Sz b ∧ 0 ≤ a ∧ 0 ≤ b ∧ P a b ∧ ∀ v H', Same H H' → AmtQ K H' v (f a b) → Q v H'
abbrev spLPlus (K : PySem.W.Frag) : Sp := spQ K (fun _ _ => True) (· + ·)
abbrev spLMinus (K : PySem.W.Frag) : Sp := spQ K (fun a b => b ≤ a) (· - ·)
abbrev spLTimes (K : PySem.W.Frag) : Sp := spQ K (fun _ _ => True) (· * ·)
abbrev spLOver (K : PySem.W.Frag) : Sp := spQ K (fun _ b => 0 < b) (· / ·)
def spLSum (K : PySem.W.Frag) : Sp := fun vs H Q _ => ∃ (l : Addr) (ws : List V) (qs : List Rat) (M S : Nat), vs = [.ref l] ∧ SqL K H l ws ∧ Paired (AmtQ K H) ws qs ∧ 0 < M ∧ M < 2 ^ 2700 ∧ S < 2 ^ 200 ∧ qs.length ≤ 200 ∧ (∀ q ∈ qs, InMS M S q) ∧ ∀ v H', Same H H' → AmtQ K H' v (sumQ qs) → Q v H'
theorem eq_lq {K : PySem.W.Frag} {H : Hp} {σ : L2.St} {ta tb : TE} {E : XK} {P : Rat → Rat → Prop} {f : Rat → Rat → Rat} {a b : Rat} (ha : EvQ K ta σ H a) (hb : EvQ K tb σ H b) (za : Sz a) (zb : Sz b) (a0 : 0 ≤ a) (b0 : 0 ≤ b) (hp : P a b) : EvQ K (tCall (spQ K P f) [] E (tCons ta (tCons tb tNil))) σ H (f a b) := fun H1 e Q k =>
  ea_two ha hb e fun va vb H2 e2 qa qb => ⟨va, vb, a, b, rfl, qa, qb, za, zb, a0, b0, hp, fun v H' s h => k v H' (e2.trans s) h⟩
theorem eq_lleast {K : PySem.W.Frag} {H : Hp} {σ : L2.St} {ta tb : TE} {E : XK} {a b : Rat} (ha : EvQ K ta σ H a) (hb : EvQ K tb σ H b) (za : Sz a) (zb : Sz b) : EvQ K (tCall (spLeast K) [] E (tCons ta (tCons tb tNil))) σ H (if a < b then a else b) := fun H1 e Q k =>
  ea_two ha hb e fun va vb H2 e2 qa qb => ⟨va, vb, a, b, rfl, qa, qb, za, zb, fun v H' s h => k v H' (e2.trans s) h⟩
theorem ev_lunder {K : PySem.W.Frag} {H : Hp} {σ : L2.St} {ta tb : TE} {E : XK} {a b : Rat} (ha : EvQ K ta σ H a) (hb : EvQ K tb σ H b) (za : Sz a) (zb : Sz b) : Ev (tCall (spUnder K) [] E (tCons ta (tCons tb tNil))) σ H (.bl (decide (a < b))) := fun H1 e Q k =>
  ea_two ha hb e fun va vb H2 e2 qa qb => ⟨va, vb, a, b, rfl, qa, qb, za, zb, fun H' s => k H' (e2.trans s)⟩
theorem eq_lsum {K : PySem.W.Frag} {H : Hp} {σ : L2.St} {tl : TE} {E : XK} {ws : List V} {qs : List Rat} {M S : Nat} (h : EvL tl σ H ws) (hp : ∀ H1, Ex H H1 → Paired (AmtQ K H1) ws qs) (M0 : 0 < M) (hM : M < 2 ^ 200) (hS : S < 2 ^ 200) (hl : qs.length ≤ 200) (hd : ∀ q ∈ qs, InMS M S q) :
    EvQ K (tCall (spLSum K) [] E (tCons tl tNil)) σ H (sumQ qs) := fun H1 e Q k => h H1 e _ fun p H2 _ e2 f2 => ⟨p, ws, qs, M, S, rfl, SqL.of f2, hp H2 (e.trans e2), M0, lt_up hM (by decide), hS, hl, hd, fun v H' s hv => k v H' (e2.trans s) hv⟩
theorem eq_lsumB {K : PySem.W.Frag} {H : Hp} {σ : L2.St} {tl : TE} {E : XK} {ws : List V} {qs : List Rat} {M S : Nat} (h : EvL tl σ H ws) (hp : ∀ H1, Ex H H1 → Paired (AmtQ K H1) ws qs) (M0 : 0 < M) (hM : M < 2 ^ 2700) (hS : S < 2 ^ 200) (hl : qs.length ≤ 200) (hd : ∀ q ∈ qs, InMS M S q) :
    EvQ K (tCall (spLSum K) [] E (tCons tl tNil)) σ H (sumQ qs) := fun H1 e Q k => h H1 e _ fun p H2 _ e2 f2 => ⟨p, ws, qs, M, S, rfl, SqL.of f2, hp H2 (e.trans e2), M0, hM, hS, hl, hd, fun v H' s hv => k v H' (e2.trans s) hv⟩
theorem eq_frac {K : PySem.W.Frag} {H : Hp} {σ : L2.St} {ta tb : TE} {E : XK} {n b : Nat} (h1 : Ev ta σ H (.int (n : Int))) (h2 : Ev tb σ H (.int (b : Int))) (b0 : 0 < b) (hb : b < 2 ^ 9000) : EvQ K (tCall (spFrac2 K) [] E (tCons ta (tCons tb tNil))) σ H (mkRat (n : Int) b) := fun H1 e Q k =>
  h1 H1 e _ fun H2 e2 => h2 H2 (e.trans e2) _ fun H3 e3 => ⟨n, b, rfl, b0, hb, fun v H' s hv => k v H' ((e2.trans e3).trans s) hv⟩
theorem s_retQ {K : PySem.W.Frag} {H : Hp} {σ : L2.St} {te : TE} {D : Ends} {q : Rat} (h : EvQ K te σ H q) (k : ∀ v H1, Ex H H1 → AmtQ K H1 v q → D.rt v H1) : tRet te D σ H := h H (Ex.refl H) _ k
theorem big_mul {x y : Nat} (h1 : x < 2 ^ 3000) (h2 : y < 2 ^ 3000) : x * y < 2 ^ 9000 := lt_up (lt_mul2 h1 h2) (by decide)
theorem add_mk (a b : Rat) : mkRat (a.num * (b.den : Int) + b.num * (a.den : Int)) (a.den * b.den) = a + b := by
  rw [← Rat.mkRat_add_mkRat _ _ (Rat.den_nz a) (Rat.den_nz b), Rat.mkRat_self, Rat.mkRat_self]
theorem sub_mk (a b : Rat) : mkRat (a.num * (b.den : Int) - b.num * (a.den : Int)) (a.den * b.den) = a - b := by
  have e : a.num * (b.den : Int) - b.num * (a.den : Int) = a.num * (b.den : Int) + (-b.num) * (a.den : Int) := by grind
  rw [e, ← Rat.mkRat_add_mkRat _ _ (Rat.den_nz a) (Rat.den_nz b), Rat.mkRat_self, ← Rat.neg_mkRat, Rat.mkRat_self, Rat.sub_eq_add_neg]
theorem mul_mk (a b : Rat) : mkRat (a.num * b.num) (a.den * b.den) = a * b := by
  rw [← Rat.mkRat_mul_mkRat, Rat.mkRat_self, Rat.mkRat_self]
theorem div_mk {a b : Rat} (hb : 0 < b) : mkRat (a.num * (b.den : Int)) (a.den * b.num.natAbs) = a / b := by
  obtain ⟨i1, i2⟩ := inv_low hb
  rw [Rat.div_def, ← i1, ← i2, mul_mk]
/-- an amount's data -/
def amtDD (q : Rat) : PyData := .tuple [.int q.num, .int (q.den : Int)]
theorem shaped_two (a b : Rat) : SeqAt.shaped (.tuple [amtDD a, amtDD b]) = true := by
  simp [SeqAt.shaped, amtDD, PyData.canLay0, PyData.canLayAll0, PyData.depth, PyData.depthAll]
section
variable {P : Program} {w : World} {K : PySem.W.Frag} {mg : Str → Option Value} {base : Heap}
theorem ok_frac2 {f g : Addr} {fd gd : FuncData} (F : Fun K "_law_fraction" "_law_fraction" sFraction f fd) (T : TA mg) (cC : Cal P w K mg base "_law_common" ["_law_one_here", "_law_other"] 1 spCommon g gd) : FnOk P w K mg base CX0 2 f fd ["_law_top", "_law_bottom"] (spFrac2 K) := by
  refine F.ok scFraction (fun vs H Q E h => ?_) (fun cdv A outer s H vs Q E hr h => ?_)
  · obtain ⟨a, b, rfl, _⟩ := h
    rfl
  obtain ⟨n, c, rfl, c0, hc, q⟩ := h
  refine ⟨_, (pss_cons (ps_set (i := 2) scFraction.nd rfl (Or.inl rfl) (pe_call cC.ok (hr.mono (by decide)) rfl cC.mg cC.kp cC.bd .nil pass0 (pa_cons (pv 0) (pa_cons (pv 1) pa_nil)))) (pss_one (ps_ret (pe_tup (pa_cons (pe_op op_fdivW (pv 0) (pv 2)) (pa_cons (pe_op op_fdivW (pv 1) (pv 2)) pa_nil)))))), ?_⟩
  have hg : 0 < Nat.gcd n c := Nat.gcd_pos_of_pos_right n c0
  have gl : Nat.gcd n c < 2 ^ 9000 := Nat.lt_of_le_of_lt (Nat.gcd_le_right n c0) hc
  refine q_asg (v := .int ((Nat.gcd n c : Nat) : Int)) (ev_call (vs := [.int (n : Int), .int (c : Int)]) (ea_cons (ev_var rfl) (ea_cons (ev_var rfl) ea_nil)) fun H3 e3 Q3 k3 E3 => ⟨n, c, rfl, k3 H3 (Ex.refl H3)⟩) fun H2 e2 => ?_
  refine s_retU (eu_tup (ea_cons (ev_op (ev_var rfl) (ev_var rfl) (rv_div9 hg gl)) (ea_cons (ev_op (ev_var rfl) (ev_var rfl) (rv_div9 hg gl)) ea_nil)) (by show 2 ≤ 100000; decide)) fun p H3 _ e3 f => ?_
  have hk : Nat.Coprime (n / Nat.gcd n c) (c / Nat.gcd n c) := Nat.coprime_div_gcd_div_gcd hg
  have hm : mkRat ((n / Nat.gcd n c : Nat) : Int) (c / Nat.gcd n c) = mkRat (n : Int) c := by
    rw [← div_nat]
    exact mk_div hg (Int.natCast_dvd_natCast.mpr (Nat.gcd_dvd_left _ _)) (Nat.gcd_dvd_right _ _)
  obtain ⟨z1, z2⟩ := mk_low (n := ((n / Nat.gcd n c : Nat) : Int)) (Nat.div_pos (Nat.le_of_dvd c0 (Nat.gcd_dvd_right _ _)) hg) (by rw [Int.natAbs_natCast]; exact hk)
  rw [hm] at z1 z2
  refine q _ H3 (Same.trans e2 e3) ⟨p, rfl, ?_⟩
  rw [z1, z2]
  exact SqT.of f
end
end Bd
end

section
namespace Bd
open PySem L2 Am
open Evl hiding tCut pss_cut

/-! what the law reckons of a tree -/
theorem dp_amts {K : PySem.W.Frag} {H : Hp} : ∀ {ws : List V} {qs : List Rat}, Paired (AmtQ K H) ws qs → DpAll K H ws (qs.map amtD)
  | _, _, .nil => .nil
  | _, _, .cons a b => .cons (dp_amt a) (dp_amts b)
theorem lay_amts : ∀ qs : List Rat, PyData.canLayAll0 (qs.map amtD) = true
  | [] => by simp [PyData.canLayAll0]
  | q :: qs => by
    rw [List.map_cons, PyData.canLayAll0, lay_amts qs]
    simp [amtD, PyData.canLay0, PyData.canLayAll0]
theorem dep_amts : ∀ qs : List Rat, PyData.depthAll (qs.map amtD) ≤ 2
  | [] => by simp [PyData.depthAll]
  | q :: qs => by
    rw [List.map_cons, PyData.depthAll]
    have := dep_amts qs
    have e : (amtD q).depth ≤ 2 := by simp [amtD, PyData.depth, PyData.depthAll]
    omega
theorem shaped_amts (qs : List Rat) : SeqAt.shaped (.list (qs.map amtD)) = true := by
  unfold SeqAt.shaped
  have := dep_amts qs
  rw [PyData.canLay0, lay_amts, Bool.true_and, decide_eq_true_eq, PyData.depth]
  omega
theorem eqv_nil (qs : List Rat) : PyData.eqv (.list (qs.map amtD)) (.list []) = qs.isEmpty := by
  cases qs <;> simp [PyData.eqv, PyData.eqvAll]
section
variable {K : PySem.W.Frag} {H : Hp} {σ : L2.St} {ta tb te tl tx : TE} {E : XK}
theorem et_empty {i : Nat} {l : Addr} {ws : List V} {qs : List Rat} (hv : σ[i]? = some (some (.ref l))) (hl : SqL K H l ws) (hp : Paired (AmtQ K H) ws qs) : EvT (tTest (tOp (rEqD K) (tVar i) (tLst tNil))) σ H qs.isEmpty :=
  et_test (ev_opL (xs := []) (ev_var hv) (el_lst ea_nil (Nat.zero_le _)) fun p H1 h1 e1 => rv_val fun H2 e2 Q k => ⟨.list (qs.map amtD), .list [], .lst (ex_l (e1.trans e2) hl) (dp_amts (paired_mono (fun _ _ z => AmtQ.same (e1.trans e2) z) hp)), .lst (SqL.of (e2 _ _ h1)) .nil, shaped_amts qs, by simp [SeqAt.shaped, PyData.canLay0, PyData.canLayAll0, PyData.depth, PyData.depthAll], by
    rw [eqv_nil]
    exact k⟩)
theorem eq_lsumV {l : Addr} {ws : List V} {qs : List Rat} {M S : Nat} (h : Ev tl σ H (.ref l)) (hl : SqL K H l ws) (hp : Paired (AmtQ K H) ws qs) (M0 : 0 < M) (hM : M < 2 ^ 200) (hS : S < 2 ^ 200) (hn : qs.length ≤ 200) (hd : ∀ q ∈ qs, InMS M S q) :
    EvQ K (tCall (spLSum K) [] E (tCons tl tNil)) σ H (sumQ qs) := fun H1 e Q k => h H1 e _ fun H2 e2 => ⟨l, ws, qs, M, S, rfl, ex_l (e.trans e2) hl, paired_mono (fun _ _ z => AmtQ.same (e.trans e2) z) hp, M0, lt_up hM (by decide), hS, hn, hd, fun v H' s hv => k v H' (e2.trans s) hv⟩
/-- d.get(name, (0, 1)) -/
theorem eq_get0 {i : Nat} {d : Addr} {kvs : List (Key × V)} {ns : List Str} {f : Str → Rat} {n : Str} (hv : σ[i]? = some (some (.ref d))) (hy : Ev tx σ H (.str n)) (fd : H d = some (.dK kvs)) (m : MapR (AmR K f) H kvs ns) (nd : ns.Nodup) (hz : n ∉ ns → f n = 0) :
    EvQ K (tDGet2 (tVar i) tx (tTup (tCons (tC (.int 0)) (tCons (tC (.int 1)) tNil)))) σ H (f n) := fun H1 e Q k =>
  ⟨_, hv, d, rfl, .inl ⟨kvs, .inl (e _ _ fd)⟩, hy H1 e _ fun H2 e2 => ⟨by show 2 ≤ sizeLine; decide, fun p hp => by
    have s3 := Same.new (Same.refl H2) hp (.tup [.int 0, .int 1])
    have f3 : upd H2 p (.tup [.int 0, .int 1]) p = some (.tup [.int 0, .int 1]) := upd_same
    generalize upd H2 p (.tup [.int 0, .int 1]) = H3 at s3 f3 ⊢
    refine ⟨_, DGet.k (k := Sum.inr n) (s3 _ _ (e2 _ _ (e _ _ fd))), ?_⟩
    by_cases c : n ∈ ns
    · obtain ⟨v, h1, h2⟩ := m.get nd c
      rw [h1]
      exact k v H3 (e2.trans s3) (AmtQ.same ((e.trans e2).trans s3) h2)
    · rw [m.none c]
      refine k _ H3 (e2.trans s3) ⟨p, rfl, ?_⟩
      rw [hz c]
      exact SqT.of f3⟩⟩
/-- dict(dues).get(kind, (0, 1)) -/
theorem eq_settingE {t : Addr} {dues : List (Str × PyData)} {kd : Str} {q : Rat} (hv : Ev te σ H (.ref t)) (ht : DuesAt K H t dues) (dok : DuesOk dues) (hx : Ev tx σ H (.str kd)) (hk : kd = "min" ∨ kd = "low") (hq : dueOf (fullD dues) kd = some (amtD q)) :
    EvQ K (tDGet2 (tCB (fun xs H Q => ∃ (a : Addr) (ps : List Addr) (kvs : List (Key × V)), xs = [.ref a] ∧ FrT H a (ps.map V.ref) ∧ Paired (fun p kv => SqT K H p [kV kv.1, kv.2]) ps kvs ∧ ∀ p, H p = none → Q (.ref p) (upd H p (.dK (mergeK [] kvs)))) (tCons te tNil)) tx (tTup (tCons (tC (.int 0)) (tCons (tC (.int 1)) tNil)))) σ H q := fun H0 e0 Q k => by
  refine hv H0 e0 _ fun H1 e1 => ?_
  have e := e0.trans e1
  obtain ⟨ps, p1, p2⟩ := ht
  have p1' := FrT.same e p1
  obtain ⟨dk, k1, k2⟩ := dk_of_dues (paired_mono (fun _ _ z => DueAt.same e z) p2)
  have ndk : (dk.map (·.1)).Nodup := by
    rw [pv_keys k2]
    have := nodup_inr dok.1
    rwa [List.map_map] at this
  refine ⟨t, ps, dk, rfl, p1', k1, fun d hd => ?_⟩
  have em : mergeK [] dk = dk := by
    rw [mergeK_app _ [] (by simpa using ndk)]
    rfl
  rw [em]
  have s2 := Same.new (Same.refl H1) hd (.dK dk)
  have f2 : upd H1 d (.dK dk) d = some (.dK dk) := upd_same
  have val := val_due kd k2
  generalize upd H1 d (.dK dk) = H2 at s2 f2 ⊢
  refine ⟨d, rfl, .inl ⟨dk, .inl f2⟩, hx H2 (e.trans s2) _ fun H3 e3 => ⟨by show 2 ≤ sizeLine; decide, fun p hp => ?_⟩⟩
  have s4 := Same.new (Same.refl H3) hp (.tup [.int 0, .int 1])
  have f4 : upd H3 p (.tup [.int 0, .int 1]) p = some (.tup [.int 0, .int 1]) := upd_same
  generalize upd H3 p (.tup [.int 0, .int 1]) = H4 at s4 f4 ⊢
  have hq2 : dueOf (fullD dues) kd = some ((dueOf dues kd).getD (.tuple [.int 0, .int 1])) := by
    rcases hk with rfl | rfl <;> rfl
  rw [hq] at hq2
  refine ⟨_, DGet.k (k := Sum.inr kd) (s4 _ _ (e3 _ _ f2)), ?_⟩
  have e14 := ((e1.trans s2).trans e3).trans s4
  rcases val with ⟨v1, v2⟩ | ⟨v, d2, v1, v2, v3⟩
  · rw [v2] at hq2
    rw [v1]
    refine k _ H4 e14 ⟨p, rfl, ?_⟩
    have hq3 : amtD q = .tuple [.int 0, .int 1] := Option.some.inj hq2
    simp only [amtD, PyData.tuple.injEq, List.cons.injEq, PyData.int.injEq, and_true] at hq3
    rw [hq3.1, hq3.2]
    exact SqT.of f4
  · rw [v2] at hq2
    rw [v1]
    have hq3 : amtD q = d2 := Option.some.inj hq2
    rw [← hq3] at v3
    exact k v H4 e14 (AmtQ.same ((s2.trans e3).trans s4) (amt_dp v3))
theorem eq_setting {i : Nat} {t : Addr} {dues : List (Str × PyData)} {kd : Str} {q : Rat} (hv : σ[i]? = some (some (.ref t))) (ht : DuesAt K H t dues) (dok : DuesOk dues) (hx : Ev tx σ H (.str kd)) (hk : kd = "min" ∨ kd = "low") (hq : dueOf (fullD dues) kd = some (amtD q)) :
    EvQ K (tDGet2 (tCB (fun xs H Q => ∃ (a : Addr) (ps : List Addr) (kvs : List (Key × V)), xs = [.ref a] ∧ FrT H a (ps.map V.ref) ∧ Paired (fun p kv => SqT K H p [kV kv.1, kv.2]) ps kvs ∧ ∀ p, H p = none → Q (.ref p) (upd H p (.dK (mergeK [] kvs)))) (tCons (tVar i) tNil)) tx (tTup (tCons (tC (.int 0)) (tCons (tC (.int 1)) tNil)))) σ H q :=
  eq_settingE (ev_var hv) ht dok hx hk hq
end
/-! pairs of a use and a claim -/
def PairQ (K : PySem.W.Frag) (H : Hp) (v : V) (z : Rat × Rat) : Prop := ∃ (p : Addr) (u w : V), v = .ref p ∧ SqT K H p [u, w] ∧ AmtQ K H u z.1 ∧ AmtQ K H w z.2
theorem PairQ.tk {K : PySem.W.Frag} {G G' : Hp} {v : V} {z : Rat × Rat} (t : TK G G') (h : PairQ K G v z) : PairQ K G' v z := by
  obtain ⟨p, u, w, e, h1, h2, h3⟩ := h
  exact ⟨p, u, w, e, t.seqT h1, h2.tk t, h3.tk t⟩
theorem PairQ.same {K : PySem.W.Frag} {G G' : Hp} {v : V} {z : Rat × Rat} (s : Ex G G') (h : PairQ K G v z) : PairQ K G' v z := h.tk (.of s)
def PrR (K : PySem.W.Frag) (U c : Str → Rat) (G : Hp) (v : V) (n : Str) : Prop := PairQ K G v (U n, c n)
theorem pairs_split {K : PySem.W.Frag} {H : Hp} : ∀ {ws : List V} {zs : List (Rat × Rat)}, Paired (PairQ K H) ws zs → ∃ us : List (V × V), us.length = ws.length ∧ (∀ (i : Nat) (x : V) (y : V × V), ws[i]? = some x → us[i]? = some y → ∃ p, x = .ref p ∧ SqT K H p [y.1, y.2]) ∧ Paired (AmtQ K H) (us.map (·.1)) (zs.map (·.1)) ∧ Paired (AmtQ K H) (us.map (·.2)) (zs.map (·.2))
  | _, _, .nil => ⟨[], rfl, fun i x y h => by simp at h, .nil, .nil⟩
  | _, _, .cons a b => by
    obtain ⟨p, u, w, e, h1, h2, h3⟩ := a
    obtain ⟨us, l, g, q1, q2⟩ := pairs_split b
    refine ⟨(u, w) :: us, congrArg (· + 1) l, fun i x y hx hy => ?_, .cons h2 q1, .cons h3 q2⟩
    cases i with
    | zero =>
      cases hx
      cases hy
      exact ⟨p, e, h1⟩
    | succ i => exact g i x y hx hy
/-- a dict that tells these names' values, and may tell others -/
def DictR (R : Hp → V → Str → Prop) (G : Hp) (d : Addr) (names : List Str) : Prop := ∃ kvs, G d = some (.dK kvs) ∧ ∀ n ∈ names, ∃ v, valV kvs (Sum.inr n) = some v ∧ R G v n
theorem DictR.ex {R : Hp → V → Str → Prop} (hR : ∀ {G G' : Hp} {v : V} {n : Str}, TK G G' → R G v n → R G' v n) {G G' : Hp} {d : Addr} {names : List Str} (s : Ex G G') (h : DictR R G d names) : DictR R G' d names := by
  obtain ⟨kvs, h1, h2⟩ := h
  exact ⟨kvs, s _ _ h1, fun n hn => let ⟨v, a, b⟩ := h2 n hn; ⟨v, a, hR (.of s) b⟩⟩
theorem DictR.sub {R : Hp → V → Str → Prop} {G : Hp} {d : Addr} {names ns : List Str} (h : DictR R G d names) (s : ∀ n ∈ ns, n ∈ names) : DictR R G d ns := by
  obtain ⟨kvs, h1, h2⟩ := h
  exact ⟨kvs, h1, fun n hn => h2 n (s n hn)⟩
theorem DictR.put {R : Hp → V → Str → Prop} (hR : ∀ {G G' : Hp} {v : V} {n : Str}, TK G G' → R G v n → R G' v n) {H : Hp} {d : Addr} {kvs : List (Key × V)} {names : List Str} {n : Str} {v : V} (h : DictR R H d names) (fd : H d = some (.dK kvs)) (hv : R H v n) : DictR R (upd H d (.dK (putK kvs (Sum.inr n) v))) d (n :: names) := by
  have t : TK H (upd H d (.dK (putK kvs (Sum.inr n) v))) := TK.dk fd _
  obtain ⟨ks, h1, h2⟩ := h
  rw [fd] at h1
  cases h1
  refine ⟨_, upd_same, fun m hm => ?_⟩
  rw [valV_put]
  by_cases c : (Sum.inr m : Key) = Sum.inr n
  · rw [if_pos c]
    have := Sum.inr.inj c
    subst this
    exact ⟨v, rfl, hR t hv⟩
  · rw [if_neg c]
    rcases List.mem_cons.mp hm with e | hm
    · exact absurd (congrArg Sum.inr e) c
    · obtain ⟨u, a, b⟩ := h2 m hm
      exact ⟨u, a, hR t b⟩
theorem below_grow (top : Str) : ∀ {rows : List RowM} {acc : List Str} {x : Str}, x ∈ acc → x ∈ rows.foldl (bStep top) acc
  | [], _, _, h => h
  | r :: rs, acc, x, h => by
    rw [List.foldl_cons]
    refine below_grow top ?_
    unfold bStep
    split
    · exact List.mem_append_left _ h
    · exact h
theorem below_pre {rows : List RowM} {top : Str} (i : Nat) : ∀ x ∈ (rows.take i).foldl (bStep top) [], x ∈ belowL rows top := fun x hx => by
  unfold belowL
  rw [← List.take_append_drop i rows, List.foldl_append]
  exact below_grow top hx
theorem bStep_pos {top : Str} {acc : List Str} {r : RowM} (h : r.above = top ∨ r.above ∈ acc) : bStep top acc r = acc ++ [r.name] := if_pos h
theorem bStep_neg {top : Str} {acc : List Str} {r : RowM} (h : ¬ (r.above = top ∨ r.above ∈ acc)) : bStep top acc r = acc := if_neg h
theorem Amts.kept {K : PySem.W.Frag} {G G' : Hp} {d : Addr} {names : List Str} {f : Str → Rat} (t : TK G G') (e : ∀ o, G d = some o → G' d = some o) (h : Amts K G d names f) : Amts K G' d names f := by
  obtain ⟨kvs, h1, h2⟩ := h
  exact ⟨kvs, e _ h1, fun n hn => let ⟨v, a, b⟩ := h2 n hn; ⟨v, a, b.tk t⟩⟩
theorem prR {K : PySem.W.Frag} {U c : Str → Rat} {G G' : Hp} {v : V} {n : Str} (t : TK G G') (h : PrR K U c G v n) : PrR K U c G' v n := PairQ.tk t h
theorem pairs_list {K : PySem.W.Frag} {H : Hp} {d : Addr} {names : List Str} {U c : Str → Rat} (h : DictR (PrR K U c) H d names) : ∃ g : Str → V, (∀ n ∈ names, ∀ H1, Ex H H1 → DGet H1 d (.str n) (some (g n))) ∧ ∀ ns : List Str, (∀ n ∈ ns, n ∈ names) → ∀ H1, Ex H H1 → Paired (PairQ K H1) (ns.map g) (ns.map fun n => (U n, c n)) := by
  obtain ⟨kvs, h1, h2⟩ := h
  refine ⟨fun n => (valV kvs (Sum.inr n)).getD .non, fun n hn H1 e => ?_, fun ns => ?_⟩
  · obtain ⟨v, h3, _⟩ := h2 n hn
    show DGet H1 d (.str n) (some ((valV kvs (Sum.inr n)).getD .non))
    rw [h3]
    exact dget_of (k := Sum.inr n) (e _ _ h1) h3
  · induction ns with
    | nil => exact fun _ _ _ => .nil
    | cons n ns ih =>
      intro hs H1 e
      obtain ⟨v, h3, h4⟩ := h2 n (hs n List.mem_cons_self)
      refine .cons ?_ (ih (fun m hm => hs m (List.mem_cons_of_mem _ hm)) H1 e)
      show PairQ K H1 ((valV kvs (Sum.inr n)).getD .non) (U n, c n)
      rw [h3]
      exact PairQ.same e h4
section
variable {K : PySem.W.Frag} {H : Hp} {σ : L2.St} {ta tb tk te ty : TE} {D : Ends} {tz : TS}
theorem eq_ixT {i : Nat} {p : Addr} {xs : List V} {j : Int} {v : V} {q : Rat} (hv : σ[i]? = some (some (.ref p))) (hs : SqT K H p xs) (hj : atI xs j = some v) (ha : AmtQ K H v q) : EvQ K (tOp (rIxT K) (tVar i) (tC (.int j))) σ H q := fun H1 e Q k => ⟨_, hv, p, xs, j, v, rfl, rfl, ex_t e hs, hj, k v H1 (Ex.refl H1) (ha.same e)⟩
theorem eq_ix0 {i : Nat} {p : Addr} {u w : V} {q : Rat} (hv : σ[i]? = some (some (.ref p))) (hs : SqT K H p [u, w]) (ha : AmtQ K H u q) : EvQ K (tOp (rIxT K) (tVar i) (tC (.int 0))) σ H q := eq_ixT hv hs rfl ha
theorem eq_ix1 {i : Nat} {p : Addr} {u w : V} {q : Rat} (hv : σ[i]? = some (some (.ref p))) (hs : SqT K H p [u, w]) (ha : AmtQ K H w q) : EvQ K (tOp (rIxT K) (tVar i) (tC (.int 1))) σ H q := eq_ixT hv hs rfl ha
theorem q_parQ {i j : Nat} {a b : Rat} (ha : EvQ K ta σ H a) (hb : EvQ K tb σ H b) (k : ∀ va vb H1, Ex H H1 → AmtQ K H1 va a → AmtQ K H1 vb b → tz D ((σ.set i (some va)).set j (some vb)) H1) : tSeq (tPar i j (tCons ta (tCons tb tNil))) tz D σ H :=
  ea_two (Q := fun vs H1 => ∃ v w, vs = [v, w] ∧ tz D ((σ.set i (some v)).set j (some w)) H1) ha hb (Ex.refl H) fun va vb H2 e2 qa qb => ⟨va, vb, rfl, k va vb H2 e2 qa qb⟩
theorem s_dputP {i : Nat} {d : Addr} {kvs : List (Key × V)} {n : Str} {a b : Rat} (hv : σ[i]? = some (some (.ref d))) (hk : Ev tk σ H (.str n)) (ha : EvQ K ta σ H a) (hb : EvQ K tb σ H b) (fd : H d = some (.dK kvs)) (len : kvs.length ≤ 900)
    (k : ∀ v H1, Ex H H1 → PairQ K H1 v (a, b) → D.nx σ (upd H1 d (.dK (putK kvs (Sum.inr n) v)))) : sDPut (tVar i) tk (tTup (tCons ta (tCons tb tNil))) D σ H :=
  ea_two (Q := fun xs H1 => xs.length ≤ sizeLine ∧ ∀ l, H1 l = none → tVar i σ (upd H1 l (.tup xs)) fun x H2 => tk σ H2 fun y H3 => ∃ a H4, x = .ref a ∧ DPut H3 a y (.ref l) H4 ∧ D.nx σ H4) ha hb (Ex.refl H) fun va vb H1 e1 qa qb => ⟨by show 2 ≤ sizeLine; decide, fun p hp => by
    have s1 := Same.new (Same.refl H1) hp (.tup [va, vb])
    have f1 : upd H1 p (.tup [va, vb]) p = some (.tup [va, vb]) := upd_same
    generalize upd H1 p (.tup [va, vb]) = H2 at s1 f1 ⊢
    exact ⟨_, hv, hk H2 (e1.trans s1) _ fun H3 e3 => ⟨d, _, rfl, .inl ⟨kvs, Sum.inr n, e3 _ _ (s1 _ _ (e1 _ _ fd)), rfl, small1000 (by omega), rfl⟩, k _ H3 ((e1.trans s1).trans e3) ⟨p, va, vb, rfl, SqT.of (e3 _ _ f1), qa.same (s1.trans e3), qb.same (s1.trans e3)⟩⟩⟩⟩
theorem eq_claim {i : Nat} {d : Addr} {names : List Str} {U c : Str → Rat} {n : Str} (hv : σ[i]? = some (some (.ref d))) (hy : Ev ty σ H (.str n)) (h : DictR (PrR K U c) H d names) (hn : n ∈ names) : EvQ K (tOp (rIxT K) (tDGet (tVar i) ty) (tC (.int 1))) σ H (c n) := fun H1 e Q k =>
  ⟨_, hv, hy H1 e _ fun H2 e2 => by
    obtain ⟨kvs, h1, h2⟩ := DictR.ex (R := PrR K U c) (fun t z => prR t z) (e.trans e2) h
    obtain ⟨v, h3, p, u, w, rfl, h5, h6, h7⟩ := h2 n hn
    exact ⟨d, _, rfl, dget_of (k := Sum.inr n) h1 h3, p, _, 1, w, rfl, rfl, h5, rfl, k w H2 e2 h7⟩⟩
end
theorem mul_ms {M N S T : Nat} {a b : Rat} (M0 : 0 < M) (N0 : 0 < N) (ha : InMS M S a) (hb : InMS N T b) : InMS (M * N) (S * T) (a * b) := by
  refine ⟨of_den (Nat.mul_pos M0 N0) ((ha.of M0).mul (hb.of N0)), Rat.mul_nonneg ha.lo hb.lo, ?_⟩
  have h1 := Rat.mul_le_mul_of_nonneg_left hb.hi ha.lo
  have h2 := Rat.mul_le_mul_of_nonneg_right ha.hi (show (0 : Rat) ≤ (T : Rat) by exact_mod_cast Nat.zero_le T)
  have h3 := Rat.le_trans h1 h2
  push_cast
  exact h3
def spLPart (K : PySem.W.Frag) : Sp := fun vs H Q _ => ∃ (va vm : V) (l : Addr) (ws : List V) (h : Bool) (a : Rat) (x : Str) (kids : List Str) (U c : Str → Rat) (M S : Nat), vs = [va, vm, .ref l, .bl h] ∧ AmtQ K H va a ∧ PairQ K H vm (U x, c x) ∧ SqL K H l ws ∧ Paired (PairQ K H) ws (kids.map fun n => (U n, c n)) ∧ x ∈ kids ∧
  PartOk M S a (sumQ (kids.map U)) kids U c ∧ ∀ v H', Same H H' → AmtQ K H' v (partQ h a (sumQ (kids.map U)) (sumQ (kids.map c)) U c x) → Q v H'
def spLShares (K : PySem.W.Frag) : Sp := fun vs H Q _ => ∃ (l du : Addr) (top kd : Str) (h : Bool) (ws : List V) (rs : List RowM) (ku : List (Key × V)) (us : List Str) (k u U c p : Str → Rat), vs = [.ref l, .ref du, .str top, .str kd, .bl h] ∧ SqL K H l ws ∧ Paired (RowAt K H) ws rs ∧ RowsOk rs ∧ rs.length ≤ 12 ∧
  H du = some (.dK ku) ∧ MapR (AmR K u) H ku us ∧ us.Nodup ∧ (∀ n, n ∉ us → u n = 0) ∧ (∀ n, Drawn (u n)) ∧ (∀ n, Drawn (k n)) ∧ (kd = "min" ∨ kd = "low") ∧ KindOk rs kd k ∧ Reck rs top h k u U c p ∧
  ∀ d kvs H', H d = none → Same H H' → H' d = some (.dK kvs) → MapR (AmR K p) H' kvs (belowL rs top) → Q (.ref d) H'
def spLUsed (K : PySem.W.Frag) : Sp := fun vs H Q _ => ∃ (l du : Addr) (ws : List V) (rs : List RowM) (ku : List (Key × V)) (us : List Str) (u U : Str → Rat) (M S : Nat), vs = [.ref l, .ref du] ∧ SqL K H l ws ∧ Paired (RowAt K H) ws rs ∧ RowsOk rs ∧ rs.length ≤ 200 ∧ H du = some (.dK ku) ∧ MapR (AmR K u) H ku us ∧ us.Nodup ∧ (∀ n, n ∉ us → u n = 0) ∧
  (∀ r ∈ rs, U r.name = if kidsOf rs (Sum.inr r.name) = [] then u r.name else sumQ ((kidsOf rs (Sum.inr r.name)).map U)) ∧ 0 < M ∧ M < 2 ^ 200 ∧ S < 2 ^ 200 ∧ (∀ r ∈ rs, InMS M S (U r.name)) ∧ ∀ d H', H d = none → Same H H' → Amts K H' d (nms rs) U → Q (.ref d) H'
section
variable {P : Program} {w : World} {K : PySem.W.Frag} {mg : Str → Option Value} {base : Heap}
end
end Bd
end

section
namespace Bd
open PySem L2 Am
open Evl hiding tCut pss_cut

/-! a drawn top -/
def spLTop (K : PySem.W.Frag) : Sp := fun vs H Q _ => ∃ (s l : Addr) (ws : List V) (rs : List RowM), vs = [.ref s, .ref l] ∧ Src H s ∧ l ≠ s ∧ SqL K H l ws ∧ Paired (RowAt K H) ws rs ∧ rs.length ≤ 200 ∧
  ∀ top H', top ∈ crowns rs → Src H' s → Kept s H H' → Q (.str top) H'
section
variable {P : Program} {w : World} {K : PySem.W.Frag} {mg : Str → Option Value} {base : Heap}
end
end Bd
end

section
namespace Bd
open PySem L2 Am
open Evl hiding tCut pss_cut
/-! walks over dicts, dicts that are read while they are walked, amounts that are compared -/
theorem lock_ex {H G : Hp} {d : Addr} {kvs : List (Key × V)} {od : Obj} (fd : H d = some (.dK kvs)) (e : Ex (upd H d (.frz od (.dK kvs))) G) : Ex H (upd G d (.dK kvs)) := fun b o hb => by
  by_cases c : b = d
  · subst c
    rw [fd] at hb
    cases hb
    exact upd_same
  · rw [upd_ne c]
    exact e b o (by rw [upd_ne c]; exact hb)
theorem lock_tk {H : Hp} {d : Addr} {kvs : List (Key × V)} (fd : H d = some (.dK kvs)) (od : Obj) : TK H (upd H d (.frz od (.dK kvs))) := TK.dk fd _
section
variable {K : PySem.W.Frag} {H : Hp} {σ : L2.St} {ta tb tc te tl tx ty : TE} {t : TT} {tu : TS} {D : Ends} {tz : TS}
/-- for name in d, d a dict that stands in a local -/
theorem q_forKeys {i j : Nat} {d : Addr} {kvs : List (Key × V)} (hv : σ[i]? = some (some (.ref d))) (fd : H d = some (.dK kvs)) (Pv : Nat → L2.St → Prop) (h0 : Pv 0 σ)
    (hs : ∀ (m : Nat) (kv : Key × V) (σ' : L2.St) (od : Obj) (G : Hp) (D2 : Ends), kvs[m]? = some kv → Pv m σ' → Ex (upd H d (.frz od (.dK kvs))) G → (∀ σ2 G2, Pv (m + 1) σ2 → Ex (upd H d (.frz od (.dK kvs))) G2 → D2.nx σ2 G2) → tu D2 (σ'.set j (some (kV kv.1))) G)
    (hd : ∀ σ' G, Pv kvs.length σ' → Ex H G → G d = some (.dK kvs) → tz D σ' G) : tSeq (tLock (tFor (iKeys (tVar i)) (gName j) tu)) tz D σ H := by
  refine ⟨d, _, fd, trivial, fun od => ?_⟩
  have fL : upd H d (.frz od (.dK kvs)) d = some (.frz od (.dK kvs)) := upd_same
  refine ⟨_, hv, d, od, rfl, .inl ⟨kvs, fL, ?_⟩⟩
  refine for_it walk_keys (fun m σ' G => Pv m σ' ∧ Ex (upd H d (.frz od (.dK kvs))) G) ⟨h0, Ex.refl _⟩ ?_ ?_ ?_
  · rintro m σ' G _ ⟨_, e⟩
    exact e _ _ fL
  · rintro m x σ' G G' hm ⟨p, e⟩ ⟨rfl, kk, v, hkv, rfl⟩
    exact hs m (kk, v) σ' od _ _ hkv p e fun σ2 G2 a b => ⟨a, b⟩
  · rintro σ' G ⟨p, e⟩
    exact ⟨e _ _ fL, hd _ _ p (lock_ex fd e) upd_same⟩
/-- [.. for name in d if ..] -/
theorem el_lockLc {i j : Nat} {d : Addr} {kvs : List (Key × V)} {vs : List Nat} (p : Key × V → Bool) (g : Key × V → V) (hi : σ[i]? = some (some (.ref d))) (fd : H d = some (.dK kvs)) (len : kvs.length ≤ 900) (hw : ∀ x, wipe ((wipe σ vs).set j (some x)) vs = wipe σ vs)
    (ht : ∀ H1, Ex H H1 → ∀ od, ∀ kv ∈ kvs, ∀ G, Ex (upd H1 d (.frz od (.dK kvs))) G → EvT t ((wipe σ vs).set j (some (kV kv.1))) G (p kv))
    (he : ∀ H1, Ex H H1 → ∀ od, ∀ kv ∈ kvs, p kv = true → ∀ G, Ex (upd H1 d (.frz od (.dK kvs))) G → Ev te ((wipe σ vs).set j (some (kV kv.1))) G (g kv)) : EvL (tLockE (tLc (iKeys (tVar i)) (gName j) t te vs)) σ H ((kvs.filter p).map g) := by
  intro H1 e Q k
  have fd1 := e _ _ fd
  refine ⟨d, _, fd1, trivial, fun od => ?_⟩
  have fL : upd H1 d (.frz od (.dK kvs)) d = some (.frz od (.dK kvs)) := upd_same
  refine ⟨_, hi, d, od, rfl, .inl ⟨kvs, fL, fun Dl hD => ?_⟩⟩
  have ne : Dl ≠ d := fun z => by rw [z, fL] at hD; cases hD
  have hD1 : H1 Dl = none := by rw [upd_ne ne] at hD; exact hD
  refine lc_it walk_keys (fun m G => Ex (upd H1 d (.frz od (.dK kvs))) G ∧ G Dl = some (.lst (((kvs.take m).filter p).map g))) ⟨Ex.new hD, upd_same⟩ ?_ ?_ ?_
  · rintro m G _ ⟨a, _⟩
    exact a _ _ fL
  · rintro m x G G' hm ⟨a, b⟩ ⟨rfl, kk, v, hkv, rfl⟩
    refine ⟨hw _, ?_⟩
    have hmem := List.mem_of_getElem? hkv
    refine ht H1 e od (kk, v) hmem G' a G' (Ex.refl _) _ fun G3 e3 => ?_
    have et : kvs.take (m + 1) = kvs.take m ++ [(kk, v)] := by
      rw [List.take_add_one, hkv]
      rfl
    cases c : p (kk, v) with
    | true =>
      refine iteT (he H1 e od (kk, v) hmem c G3 (a.trans e3) G3 (Ex.refl _) _ fun G4 e4 => ⟨_, (e3.trans e4) _ _ b, ?_, Ex.mut ((a.trans e3).trans e4) hD, ?_⟩)
      · rw [List.length_map]
        have h1 := List.length_filter_le p (kvs.take m)
        rw [List.length_take] at h1
        exact small1000 (by omega)
      · rw [upd_same, et, List.filter_append, List.filter_cons_of_pos c, List.map_append]
        rfl
    | false =>
      refine iteF ⟨a.trans e3, ?_⟩
      rw [et, List.filter_append, List.filter_cons_of_neg (by rw [c]; decide)]
      rw [e3 _ _ b]
      simp
  · rintro G ⟨a, b⟩
    rw [List.take_length] at b
    refine ⟨a _ _ fL, ?_⟩
    have ed : Ex H1 (upd G d (.dK kvs)) := lock_ex fd1 a
    exact k Dl _ hD1 ed (by rw [upd_ne ne]; exact b)
/-- a dict that may be locked -/
def AmtsR (K : PySem.W.Frag) (G : Hp) (d : Addr) (names : List Str) (f : Str → Rat) : Prop := ∃ kvs, Rd G d (.dK kvs) ∧ ∀ n ∈ names, ∃ v, valV kvs (Sum.inr n) = some v ∧ AmtQ K G v (f n)
theorem Amts.rd {d : Addr} {names : List Str} {f : Str → Rat} (h : Amts K H d names f) : AmtsR K H d names f := by
  obtain ⟨kvs, h1, h2⟩ := h
  exact ⟨kvs, .inl h1, h2⟩
theorem AmtsR.ex {G G' : Hp} {d : Addr} {names : List Str} {f : Str → Rat} (s : Ex G G') (h : AmtsR K G d names f) : AmtsR K G' d names f := by
  obtain ⟨kvs, h1, h2⟩ := h
  exact ⟨kvs, ex_rd s h1, fun n hn => let ⟨v, a, b⟩ := h2 n hn; ⟨v, a, b.same s⟩⟩
theorem AmtsR.lock {d : Addr} {kvs : List (Key × V)} {names : List Str} {f : Str → Rat} (fd : H d = some (.dK kvs)) (m : MapR (AmR K f) H kvs names) (nd : names.Nodup) (od : Obj) : AmtsR K (upd H d (.frz od (.dK kvs))) d names f :=
  ⟨kvs, .inr ⟨od, upd_same⟩, fun n hn => let ⟨v, a, b⟩ := m.get nd hn; ⟨v, a, AmtQ.tk (lock_tk fd od) b⟩⟩
theorem eq_getR {i : Nat} {d : Addr} {names : List Str} {f : Str → Rat} {n : Str} (hv : σ[i]? = some (some (.ref d))) (hy : Ev ty σ H (.str n)) (h : AmtsR K H d names f) (hn : n ∈ names) : EvQ K (tDGet (tVar i) ty) σ H (f n) := fun H1 e Q k =>
  ⟨_, hv, hy H1 e _ fun H2 e2 => by
    obtain ⟨kvs, h1, h2⟩ := h.ex (e.trans e2)
    obtain ⟨v, h3, h4⟩ := h2 n hn
    exact ⟨d, v, rfl, .inl ⟨kvs, Sum.inr n, h1, rfl, h3.symm⟩, k v H2 e2 h4⟩⟩
theorem eqv_amt2 (a b : Rat) : PyData.eqv (amtD a) (amtD b) = decide (a = b) := by
  show PyData.eqv (.tuple ([a.num, (a.den : Int)].map .int)) (.tuple ([b.num, (b.den : Int)].map .int)) = _
  rw [eqv_intT]
  refine decide_eq_decide.mpr ⟨fun h => ?_, fun h => by rw [h]⟩
  simp only [List.cons.injEq, and_true] at h
  exact Rat.ext h.1 (by omega)
theorem ev_eqQ {a b : Rat} (ha : EvQ K ta σ H a) (hb : EvQ K tb σ H b) : Ev (tOp (rEqD K) ta tb) σ H (.bl (decide (a = b))) := fun H1 e Q k =>
  ha H1 e _ fun va H2 e2 qa => hb H2 (e.trans e2) _ fun vb H3 e3 qb => ⟨amtD a, amtD b, dp_amt (qa.same e3), dp_amt qb, shaped_amt _, shaped_amt _, by rw [eqv_amt2]; exact k H3 (e2.trans e3)⟩
theorem ev_neQ {a b : Rat} (ha : EvQ K ta σ H a) (hb : EvQ K tb σ H b) : Ev (tOp (rNeD K) ta tb) σ H (.bl (!decide (a = b))) := fun H1 e Q k =>
  ha H1 e _ fun va H2 e2 qa => hb H2 (e.trans e2) _ fun vb H3 e3 qb => ⟨amtD a, amtD b, dp_amt (qa.same e3), dp_amt qb, shaped_amt _, shaped_amt _, by rw [eqv_amt2]; exact k H3 (e2.trans e3)⟩
/-- [..] == [], where nothing is in it -/
theorem ev_nilL (h : EvL tl σ H []) : Ev (tOp (rEqD K) tl (tLst tNil)) σ H (.bl true) :=
  ev_opLL h (el_lst ea_nil (Nat.zero_le _)) fun p q H1 h1 h2 e1 => rv_val fun H2 e2 Q k => ⟨.list [], .list [], .lst (SqL.of (e2 _ _ h1)) .nil, .lst (SqL.of (e2 _ _ h2)) .nil, by simp [SeqAt.shaped, PyData.canLay0, PyData.canLayAll0, PyData.depth, PyData.depthAll], by simp [SeqAt.shaped, PyData.canLay0, PyData.canLayAll0, PyData.depth, PyData.depthAll], by
    have : PyData.eqv (.list []) (.list []) = true := by simp [PyData.eqv, PyData.eqvAll]
    rw [this]
    exact k⟩
/-- triples of amounts -/
def TriQ (K : PySem.W.Frag) (H : Hp) (v : V) (z : Rat × Rat × Rat) : Prop := ∃ (p : Addr) (a b c : V), v = .ref p ∧ SqT K H p [a, b, c] ∧ AmtQ K H a z.1 ∧ AmtQ K H b z.2.1 ∧ AmtQ K H c z.2.2
theorem TriQ.tk {G G' : Hp} {v : V} {z : Rat × Rat × Rat} (t : TK G G') (h : TriQ K G v z) : TriQ K G' v z := by
  obtain ⟨p, a, b, c, e, h1, h2, h3, h4⟩ := h
  exact ⟨p, a, b, c, e, t.seqT h1, h2.tk t, h3.tk t, h4.tk t⟩
theorem TriQ.same {G G' : Hp} {v : V} {z : Rat × Rat × Rat} (s : Ex G G') (h : TriQ K G v z) : TriQ K G' v z := h.tk (.of s)
theorem ea_three {a b c : Rat} (ha : EvQ K ta σ H a) (hb : EvQ K tb σ H b) (hc : EvQ K tc σ H c) {H1 : Hp} (e : Ex H H1) {Q : List V → Hp → Prop} (k : ∀ va vb vc H2, Ex H1 H2 → AmtQ K H2 va a → AmtQ K H2 vb b → AmtQ K H2 vc c → Q [va, vb, vc] H2) : tCons ta (tCons tb (tCons tc tNil)) σ H1 Q :=
  ha H1 e _ fun va H2 e2 qa => hb H2 (e.trans e2) _ fun vb H3 e3 qb => hc H3 ((e.trans e2).trans e3) _ fun vc H4 e4 qc => k va vb vc H4 ((e2.trans e3).trans e4) (qa.same (e3.trans e4)) (qb.same e4) qc
theorem s_appT3 {l : Addr} {xs : List V} {a b c : Rat} (hl : H l = some (.lst xs)) (ho : Ev te σ H (.ref l)) (ha : EvQ K ta σ H a) (hb : EvQ K tb σ H b) (hc : EvQ K tc σ H c) (hz : xs.length ≤ 900) (k : ∀ v H1, Ex H H1 → TriQ K H1 v (a, b, c) → D.nx σ (upd H1 l (.lst (xs ++ [v])))) :
    tDrop (tBM K "list" rAppend te (tCons (tTup (tCons ta (tCons tb (tCons tc tNil)))) tNil)) D σ H := ho H (Ex.refl H) _ fun H1 e1 =>
  ⟨Or.inl ⟨rfl, xs, sq_of (e1 l _ hl)⟩, ea_three (Q := fun ys H1 => ys.length ≤ sizeLine ∧ ∀ p, H1 p = none → tNil σ (upd H1 p (.tup ys)) fun zs H2 => rAppend (.ref l) (.ref p :: zs) H2 fun _ H3 => D.nx σ H3) ha hb hc e1 fun va vb vc H2 e2 qa qb qc => ⟨by show 3 ≤ sizeLine; decide, fun p hp => by
    have s3 := Same.new (Same.refl H2) hp (.tup [va, vb, vc])
    have f3 : upd H2 p (.tup [va, vb, vc]) p = some (.tup [va, vb, vc]) := upd_same
    generalize upd H2 p (.tup [va, vb, vc]) = H3 at s3 f3 ⊢
    exact ⟨l, xs, .ref p, rfl, rfl, s3 _ _ (e2 _ _ (e1 _ _ hl)), small1000 (by omega), k _ H3 ((e1.trans e2).trans s3) ⟨p, va, vb, vc, rfl, SqT.of f3, qa.same s3, qb.same s3, qc.same s3⟩⟩⟩⟩
end
theorem sub_sz {a b : Rat} {m n s : Nat} (ha : 0 ≤ a) (hb : 0 ≤ b) (h : b ≤ a) (da : a.den < 2 ^ m) (db : b.den < 2 ^ n) {S : Nat} (hS : S < 2 ^ s) (as : a ≤ (S : Rat)) (z : s + (m + n) ≤ 3000) : Sz (a - b) := by
  have d0 : 0 < a.den * b.den := Nat.mul_pos a.den_pos b.den_pos
  have d1 : Of (a.den * b.den) (a - b) := (den_of (Nat.dvd_mul_right _ _) d0).sub d0 (den_of (Nat.dvd_mul_left _ _) d0)
  have i : InMS (a.den * b.den) S (a - b) := ⟨of_den d0 d1, by grind, by grind⟩
  exact i.sz d0 (lt_mul2 da db) hS z
end Bd
end

section
namespace Bd
open PySem L2 Am
open Evl hiding tCut pss_cut
/-! words for what the laws draw, one behind the other -/
/-- drawn rows -/
structure RD (K : PySem.W.Frag) (G : Hp) (sp r : Addr) (ws : List V) (rs : List RowM) : Prop where
  src : Src G sp
  er : G r = some (.lst ws)
  nr : sp ≠ r
  rows : Paired (RowAt K G) ws rs
/-- drawn uses -/
structure UD (K : PySem.W.Frag) (G : Hp) (sp d : Addr) (kvs : List (Key × V)) (us : List Str) (u : Str → Rat) : Prop where
  fd : G d = some (.dK kvs)
  m : MapR (AmR K u) G kvs us
  ne : sp ≠ d
section
variable {K : PySem.W.Frag} {C : Addr} {G G' : Hp} {sp r tr d : Addr} {ws : List V} {rs : List RowM} {h : Bool} {tk : List (Key × V)} {kvs : List (Key × V)} {us : List Str} {u : Str → Rat}
theorem RD.kept (w : RD K G sp r ws rs) (ok : RowsOk rs) (s : Src G' sp) (k : Kept sp G G') : RD K G' sp r ws rs := by
  have t := src_tkE w.src k
  exact ⟨s, k _ _ w.nr.symm w.er, w.nr, paired_monoM (fun x q hq z => t.row (rows_due ok q hq) z) w.rows⟩
theorem RD.same (w : RD K G sp r ws rs) (s : Ex G G') : RD K G' sp r ws rs := ⟨src_ex s w.src, s _ _ w.er, w.nr, rows_same s w.rows⟩
theorem RD.wl (w : RD K G sp r ws rs) : ws.length = rs.length := Paired.length w.rows
theorem UD.kept (w : UD K G sp d kvs us u) (hs : Src G sp) (k : Kept sp G G') : UD K G' sp d kvs us u := by
  have t := src_tkE hs k
  exact ⟨k _ _ w.ne.symm w.fd, w.m.mono fun _ _ z => AmtQ.tk t z, w.ne⟩
theorem UD.same (w : UD K G sp d kvs us u) (s : Ex G G') : UD K G' sp d kvs us u := ⟨s _ _ w.fd, w.m.mono fun _ _ z => AmtQ.same s z, w.ne⟩
end
section
variable {K : PySem.W.Frag} {H : Hp} {σ : L2.St} {E E2 : XK}
theorem e_rows {i : Nat} {sp : Addr} {c n : Nat} (hv : σ[i]? = some (some (.ref sp))) (hs : Src H sp) (n0 : 0 < n) (hc : c + n ≤ 13) {Q : VK}
    (k : ∀ r H' ws rs nn, RD K H' sp r ws rs → H r = none → RowsOk rs → RowsI nn ["min", "low"] rs → rs.length ≤ 12 → c ≤ rs.length → Kept sp H H' → Q (.ref r) H') :
    tCall (spLRows K) [] E (tCons (tVar i) (tCons (tOp (rI0 fun i j => V.int (i + j)) (tC (.int (c : Int))) (tCall spNext [] E2 (tCons (tVar i) (tCons (tC (.int (n : Int))) tNil)))) (tCons (tLst (tCons (tC (.str "min")) (tCons (tC (.str "low")) tNil))) tNil))) σ H Q := by
  refine ⟨_, hv, _, hv, sp, n, rfl, hs, n0, by omega, fun d H3 hd s3 k3 => ?_⟩
  refine ⟨_, _, rfl, rfl, by show 2 ≤ sizeLine; decide, fun wl hwl => ?_⟩
  have nwl := src_ne s3 hwl
  have k3' : Kept sp H (upd H3 wl (.lst [.str "min", .str "low"])) := k3.new hwl _
  have src3 := src_new s3 hwl (o := .lst [.str "min", .str "low"])
  refine ⟨sp, wl, c + d, ["min", "low"], congrArg (fun z => [V.ref sp, V.int z, V.ref wl]) (by push_cast; rfl), src3, by omega, upd_same, nwl.symm, ⟨by decide +kernel, by decide +kernel⟩, by decide, fun r H4 ws rs nn hr4 er4 rows4 hI ndn hmem hnl hrl s4 k4 => ?_⟩
  have nr := src_ne src3 hr4
  have hrH : H r = none := by
    have h1 : upd H3 wl (.lst [.str "min", .str "low"]) r = none := hr4
    exact k3'.free nr.symm h1
  exact k r H4 ws rs nn ⟨s4, er4, nr, rows4⟩ hrH (rowsI_ok ⟨by decide +kernel, by decide +kernel⟩ hI ndn hmem) hI (by omega) (by omega) (k3'.trans k4)
theorem e_rowsT {i : Nat} {sp : Addr} {c n : Nat} (hv : σ[i]? = some (some (.ref sp))) (hs : Src H sp) (n0 : 0 < n) (hc : c + n ≤ 13) {Q : VK}
    (k : ∀ r H' ws rs nn, RD K H' sp r ws rs → H r = none → RowsOk rs → RowsI nn ["min", "low"] rs → rs.length < c + n → c ≤ rs.length → Kept sp H H' → Q (.ref r) H') :
    tCall (spLRowsT K) [] E (tCons (tVar i) (tCons (tOp (rI0 fun i j => V.int (i + j)) (tC (.int (c : Int))) (tCall spNext [] E2 (tCons (tVar i) (tCons (tC (.int (n : Int))) tNil)))) (tCons (tTup (tCons (tC (.str "min")) (tCons (tC (.str "low")) tNil))) tNil))) σ H Q := by
  refine ⟨_, hv, _, hv, sp, n, rfl, hs, n0, by omega, fun d H3 hd s3 k3 => ?_⟩
  refine ⟨_, _, rfl, rfl, by show 2 ≤ sizeLine; decide, fun wl hwl => ?_⟩
  have nwl := src_ne s3 hwl
  have k3' : Kept sp H (upd H3 wl (.tup [.str "min", .str "low"])) := k3.new hwl _
  have src3 := src_new s3 hwl (o := .tup [.str "min", .str "low"])
  refine ⟨sp, wl, c + d, ["min", "low"], congrArg (fun z => [V.ref sp, V.int z, V.ref wl]) (by push_cast; rfl), src3, by omega, upd_same, nwl.symm, ⟨by decide +kernel, by decide +kernel⟩, by decide, fun r H4 ws rs nn hr4 er4 rows4 hI ndn hmem hnl hrl s4 k4 => ?_⟩
  have nr := src_ne src3 hr4
  have hrH : H r = none := by
    have h1 : upd H3 wl (.tup [.str "min", .str "low"]) r = none := hr4
    exact k3'.free nr.symm h1
  exact k r H4 ws rs nn ⟨s4, er4, nr, rows4⟩ hrH (rowsI_ok ⟨by decide +kernel, by decide +kernel⟩ hI ndn hmem) hI (by omega) (by omega) (k3'.trans k4)
theorem e_uses {i j : Nat} {sp r : Addr} {ws : List V} {rs : List RowM} (hv : σ[i]? = some (some (.ref sp))) (hw : σ[j]? = some (some (.ref r))) (w : RD K H sp r ws rs) (ok : RowsOk rs) (len : rs.length ≤ 200) {Q : VK}
    (k : ∀ d H' kvs us u, UD K H' sp d kvs us u → us.Sublist (leavesOf rs) → (∀ n, n ∉ us → u n = 0) → (∀ n, Drawn (u n)) → RD K H' sp r ws rs → H d = none → Kept sp H H' → Q (.ref d) H') :
    tCall (spLUses K) [] E (tCons (tVar i) (tCons (tVar j) tNil)) σ H Q :=
  ⟨_, hv, _, hw, sp, r, ws, rs, rfl, w.src, w.nr.symm, SqL.of w.er, w.rows, ok, len, fun d H' kvs us u hd fd m sub hz hu s' k' => k d H' kvs us u ⟨fd, m, src_ne w.src hd⟩ sub hz hu (w.kept ok s' k') hd k'⟩
theorem e_top {i j : Nat} {sp r : Addr} {ws : List V} {rs : List RowM} (hv : σ[i]? = some (some (.ref sp))) (hw : σ[j]? = some (some (.ref r))) (w : RD K H sp r ws rs) (ok : RowsOk rs) (len : rs.length ≤ 200) {Q : VK}
    (k : ∀ (top : Str) H', top ∈ crowns rs → RD K H' sp r ws rs → Kept sp H H' → Q (.str top) H') : tCall (spLTop K) [] E (tCons (tVar i) (tCons (tVar j) tNil)) σ H Q :=
  ⟨_, hv, _, hw, sp, r, ws, rs, rfl, w.src, w.nr.symm, SqL.of w.er, w.rows, len, fun top H' ht s' k' => k top H' ht (w.kept ok s' k') k'⟩
theorem e_kind {i : Nat} {sp : Addr} (hv : σ[i]? = some (some (.ref sp))) (hs : Src H sp) {Q : VK} (k : ∀ (kd : Str) H', kd = "min" ∨ kd = "low" → Src H' sp → Kept sp H H' → Q (.str kd) H') :
    tCall (spOne K) [] E (tCons (tVar i) (tCons (tLst (tCons (tC (.str "min")) (tCons (tC (.str "low")) tNil))) tNil)) σ H Q :=
  ⟨_, hv, by show 2 ≤ sizeLine; decide, fun kl hkl => ⟨sp, kl, [.str "min", .str "low"], rfl, src_new hs hkl, SqL.of upd_same, (src_ne hs hkl).symm, by simp, by decide, fun v H' hm s' k' => by
    have kk : Kept sp H H' := ((Kept.refl sp H).new hkl _).trans k'
    rcases List.mem_cons.mp hm with rfl | hm
    · exact k "min" H' (.inl rfl) s' kk
    · rw [List.mem_singleton.mp hm]
      exact k "low" H' (.inr rfl) s' kk⟩⟩
theorem e_flag {i : Nat} {sp : Addr} (hv : σ[i]? = some (some (.ref sp))) (hs : Src H sp) {Q : VK} (k : ∀ (b : Bool) H', Src H' sp → Kept sp H H' → Q (.bl b) H') :
    tOp rEq (tCall spNext [] E (tCons (tVar i) (tCons (tC (.int 2)) tNil))) (tC (.int 0)) σ H Q :=
  ⟨_, hv, sp, 2, rfl, hs, by decide, by decide, fun a H' ha s' k' => ⟨rfl, k _ H' s' k'⟩⟩
end
end Bd
end

section
namespace Bd
open PySem L2 Am
open Evl hiding tCut pss_cut
/-! uses of all groups, what is protected in a new tree, lists that are asked whether they are empty -/
section
variable {K : PySem.W.Frag} {H : Hp} {σ : L2.St} {ta tb tx te tl : TE} {E E2 : XK} {C : Addr}
theorem uz_of {rs : List RowM} {u U : Str → Rat} (rok : RowsOk rs) (len : rs.length ≤ 12) (hu0 : ∀ n, Drawn (u n)) (hU : ∀ r ∈ rs, U r.name = if kidsOf rs (Sum.inr r.name) = [] then u r.name else sumQ ((kidsOf rs (Sum.inr r.name)).map U)) : ∀ r ∈ rs, InMS 2520 (10 ^ 13 * 12 ^ 12) (U r.name) := by
  obtain ⟨p, R⟩ := reck_of rok "" false (fun _ => 0) u U hU
  exact R.uz rok len hu0
theorem e_used {i j : Nat} {sp r d : Addr} {ws : List V} {rs : List RowM} {kvs : List (Key × V)} {us : List Str} {u U : Str → Rat} (hv : σ[i]? = some (some (.ref r))) (hw : σ[j]? = some (some (.ref d))) (w : RD K H sp r ws rs) (wu : UD K H sp d kvs us u) (rok : RowsOk rs) (len : rs.length ≤ 12) (sub : us.Sublist (leavesOf rs)) (hz : ∀ n, n ∉ us → u n = 0) (hu0 : ∀ n, Drawn (u n))
    (hU : ∀ r ∈ rs, U r.name = if kidsOf rs (Sum.inr r.name) = [] then u r.name else sumQ ((kidsOf rs (Sum.inr r.name)).map U)) {Q : VK} (k : ∀ ud H', H ud = none → Same H H' → Amts K H' ud (nms rs) U → Q (.ref ud) H') : tCall (spLUsed K) [] E (tCons (tVar i) (tCons (tVar j) tNil)) σ H Q :=
  ⟨_, hv, _, hw, r, d, ws, rs, kvs, us, u, U, 2520, 10 ^ 13 * 12 ^ 12, rfl, SqL.of w.er, w.rows, rok, by omega, wu.fd, wu.m, (leaves_nd rok).sublist sub, hz, hU, by decide, by decide, lt_up S_lt (by decide), uz_of rok len hu0 hU, k⟩
/-- Tree(rows, flag), rows in a local: any flag -/
theorem eTreeR {i : Nat} {sp r : Addr} {ws : List V} {rs : List RowM} {b : Bool} (hv : σ[i]? = some (some (.ref r))) (w : RD K H sp r ws rs) (hb : Ev tb σ H (.bl b)) (rok : RowsOk rs) (len : rs.length ≤ 200) : EvTree K C (tMake C (spInit K C) [] E (tCons (tVar i) (tCons tb tNil))) σ H rs b := eTreeV hv w.er w.rows hb rok len
theorem e_treeR {i : Nat} {sp r : Addr} {ws : List V} {rs : List RowM} {b : Bool} (hv : σ[i]? = some (some (.ref r))) (w : RD K H sp r ws rs) (hb : Ev tb σ H (.bl b)) (rok : RowsOk rs) (len : rs.length ≤ 200) {Q : VK} (k : ∀ p tk H2, H p = none → Ex H H2 → TreeAt K H2 C p rs b tk → Q (.ref p) H2) : tMake C (spInit K C) [] E (tCons (tVar i) (tCons tb tNil)) σ H Q := eTreeR hv w hb rok len H (Ex.refl H) Q k
theorem q_parT1 {i j : Nat} {rows : List RowM} {b : Bool} {D : Ends} {tz : TS} (h : EvTree K C te σ H rows b) (k : ∀ p tk H1, H p = none → Ex H H1 → TreeAt K H1 C p rows b tk → tl σ H1 fun v H2 => ∃ a c, [V.ref p, v] = [a, c] ∧ tz D ((σ.set i (some a)).set j (some c)) H2) : tSeq (tPar i j (tCons te (tCons tl tNil))) tz D σ H :=
  h H (Ex.refl H) _ fun p tk H1 hp e t => k p tk H1 hp e t
/-- Tree(rows) -/
theorem eTree1 {i : Nat} {sp r : Addr} {ws : List V} {rs : List RowM} (hv : σ[i]? = some (some (.ref r))) (w : RD K H sp r ws rs) (rok : RowsOk rs) (len : rs.length ≤ 200) : EvTree K C (tMake C (spInit K C) [.bl false] E (tCons (tVar i) tNil)) σ H rs false := fun H1 e Q k =>
  ⟨_, hv, fun x dx hx hdx ne =>
    ⟨H1, x, dx, r, ws, rs, false, rfl, Same.new (Same.new (Same.refl H1) hdx _) ((upd_ne ne.symm).trans hx) _, hx, upd_same, e _ _ w.er, rows_same e w.rows, rok, len, fun H4 tk s t _ => ⟨rfl, k x tk H4 hx s t⟩⟩⟩
theorem em_protT {j : Nat} {du : Addr} {rows : List RowM} {h : Bool} {top kd : Str} {k U c f : Str → Rat} {M S : Nat} (ht : EvTree K C ta σ H rows h) (ok : RowsOk rows) (len : rows.length ≤ 200) (htop : top ∈ ("" : Str) :: nms rows) (htk : top = "" ∨ kidsOf rows (Sum.inr top) ≠ [])
    (hkd : kd = "min" ∨ kd = "low") (hk : KindOk rows kd k) (ho : HeldOk rows top h k U c f M S) (hd : σ[j]? = some (some (.ref du))) (hu : UsesAt K H du rows U) (hx : Ev tb σ H (.str top)) (hy : Ev tx σ H (.str kd)) :
    EvM K (tCall (spProt K C) [] E (tCons ta (tCons (tVar j) (tCons tb (tCons tx tNil))))) σ H f (belowL rows top) := fun H1 e Q kk =>
  ht H1 e _ fun p tk H2 hp e2 t2 => ⟨_, hd, hx H2 (e.trans e2) _ fun H3 e3 => hy H3 ((e.trans e2).trans e3) _ fun H4 e4 =>
    ⟨p, du, top, kd, rows, h, tk, k, U, c, f, M, S, rfl, t2.same (e3.trans e4) ok, ok, len, htop, htk, hkd, hk, ho, hu.same (((e.trans e2).trans e3).trans e4), fun d2 k2 H5 h1 h2 h3 h4 => kk d2 k2 H5 (fresh_back ((e2.trans e3).trans e4) h1) (((e2.trans e3).trans e4).trans h2) h3 h4⟩⟩
theorem UD.uses {sp d : Addr} {kvs : List (Key × V)} {us : List Str} {u U : Str → Rat} {rs : List RowM} (w : UD K H sp d kvs us u) (sub : us.Sublist (leavesOf rs)) (rok : RowsOk rs) (len : rs.length ≤ 200) (hz : ∀ n, n ∉ us → u n = 0) (hd : ∀ n, Drawn (u n))
    (hU : ∀ r ∈ rs, U r.name = if kidsOf rs (Sum.inr r.name) = [] then u r.name else sumQ ((kidsOf rs (Sum.inr r.name)).map U)) : UsesAt K H d rs U := uses_of w.fd w.m sub rok len hz hd hU
def triD (z : Rat × Rat × Rat) : PyData := .tuple [amtD z.1, amtD z.2.1, amtD z.2.2]
theorem dp_tri {v : V} {z : Rat × Rat × Rat} (h : TriQ K H v z) : Dp K H v (triD z) := by
  obtain ⟨p, a, b, c, rfl, h1, h2, h3, h4⟩ := h
  exact .tup h1 (.cons (dp_amt h2) (.cons (dp_amt h3) (.cons (dp_amt h4) .nil)))
theorem dp_tris : ∀ {ws : List V} {zs : List (Rat × Rat × Rat)}, Paired (TriQ K H) ws zs → DpAll K H ws (zs.map triD)
  | _, _, .nil => .nil
  | _, _, .cons a b => .cons (dp_tri a) (dp_tris b)
theorem lay_tris : ∀ zs : List (Rat × Rat × Rat), PyData.canLayAll0 (zs.map triD) = true
  | [] => by simp [PyData.canLayAll0]
  | z :: zs => by
    rw [List.map_cons, PyData.canLayAll0, lay_tris zs]
    simp [triD, amtD, PyData.canLay0, PyData.canLayAll0]
theorem dep_tris : ∀ zs : List (Rat × Rat × Rat), PyData.depthAll (zs.map triD) ≤ 3
  | [] => by simp [PyData.depthAll]
  | z :: zs => by
    rw [List.map_cons, PyData.depthAll]
    have := dep_tris zs
    have e : (triD z).depth ≤ 3 := by simp [triD, amtD, PyData.depth, PyData.depthAll]
    omega
theorem shaped_tris (zs : List (Rat × Rat × Rat)) : SeqAt.shaped (.list (zs.map triD)) = true := by
  unfold SeqAt.shaped
  have := dep_tris zs
  rw [PyData.canLay0, lay_tris, Bool.true_and, decide_eq_true_eq, PyData.depth]
  omega
theorem eqv_tnil (zs : List (Rat × Rat × Rat)) : PyData.eqv (.list (zs.map triD)) (.list []) = zs.isEmpty := by
  cases zs <;> simp [PyData.eqv, PyData.eqvAll]
theorem et_full3 {i : Nat} {l : Addr} {ws : List V} {zs : List (Rat × Rat × Rat)} (hv : σ[i]? = some (some (.ref l))) (hl : SqL K H l ws) (hp : Paired (TriQ K H) ws zs) : EvT (tTest (tOp (rNeD K) (tVar i) (tLst tNil))) σ H (!zs.isEmpty) :=
  et_test (ev_opL (xs := []) (ev_var hv) (el_lst ea_nil (Nat.zero_le _)) fun p H1 h1 e1 => rv_val fun H2 e2 Q k => ⟨.list (zs.map triD), .list [], .lst (ex_l (e1.trans e2) hl) (dp_tris (paired_mono (fun _ _ z => TriQ.same (e1.trans e2) z) hp)), .lst (SqL.of (e2 _ _ h1)) .nil, shaped_tris zs, by simp [SeqAt.shaped, PyData.canLay0, PyData.canLayAll0, PyData.depth, PyData.depthAll], by
    rw [eqv_tnil]
    exact k⟩)
end
end Bd
end

section
namespace Bd
open PySem L2 Am
open Evl hiding tCut pss_cut
/-! dict([(name, amount) for ..]), name in d, lists of amounts that are asked whether they are empty -/
def PairN (K : PySem.W.Frag) (f : Str → Rat) (G : Hp) (a : Addr) (n : Str) : Prop := ∃ u, SqT K G a [.str n, u] ∧ AmtQ K G u (f n)
theorem PairN.tk {K : PySem.W.Frag} {f : Str → Rat} {G G' : Hp} {a : Addr} {n : Str} (t : TK G G') (h : PairN K f G a n) : PairN K f G' a n := by
  obtain ⟨u, h1, h2⟩ := h
  exact ⟨u, t.seqT h1, h2.tk t⟩
theorem sqT_unlock {K : PySem.W.Frag} {G : Hp} {d x : Addr} {od : Obj} {kvs : List (Key × V)} {xs : List V} (a : G d = some (.frz od (.dK kvs))) (h : SqT K G x xs) : SqT K (upd G d (.dK kvs)) x xs := by
  rcases h with (h | ⟨o, h⟩) | h
  · exact .inl (.inl (by
      have : x ≠ d := fun z => by rw [z, a] at h; cases h
      rw [upd_ne this]
      exact h))
  · exact .inl (.inr ⟨o, by
      have : x ≠ d := fun z => by rw [z, a] at h; cases h
      rw [upd_ne this]
      exact h⟩)
  · exact .inr h
theorem AmtQ.unlock {K : PySem.W.Frag} {G : Hp} {d : Addr} {od : Obj} {kvs : List (Key × V)} {v : V} {q : Rat} (a : G d = some (.frz od (.dK kvs))) (h : AmtQ K G v q) : AmtQ K (upd G d (.dK kvs)) v q := by
  obtain ⟨p, e, h⟩ := h
  exact ⟨p, e, sqT_unlock a h⟩
theorem PairN.unlock {K : PySem.W.Frag} {f : Str → Rat} {G : Hp} {d : Addr} {od : Obj} {kvs : List (Key × V)} {x : Addr} {n : Str} (a : G d = some (.frz od (.dK kvs))) (h : PairN K f G x n) : PairN K f (upd G d (.dK kvs)) x n := by
  obtain ⟨u, h1, h2⟩ := h
  exact ⟨u, sqT_unlock a h1, h2.unlock a⟩
def EvPL (K : PySem.W.Frag) (te : TE) (σ : L2.St) (H : Hp) (f : Str → Rat) (ns : List Str) : Prop := ∀ H1, Ex H H1 → ∀ Q : VK, (∀ l as H2, H1 l = none → Ex H1 H2 → H2 l = some (.lst (as.map V.ref)) → Paired (PairN K f H2) as ns → Q (.ref l) H2) → te σ H1 Q
theorem pairN_kv {K : PySem.W.Frag} {f : Str → Rat} {G : Hp} : ∀ {as : List Addr} {ns : List Str}, Paired (PairN K f G) as ns → ∃ kvs : List (Key × V), Paired (fun p kv => SqT K G p [kV kv.1, kv.2]) as kvs ∧ MapR (AmR K f) G kvs ns
  | _, _, .nil => ⟨[], .nil, .nil⟩
  | _, _, .cons (b := n) a b => by
    obtain ⟨u, h1, h2⟩ := a
    obtain ⟨kvs, k1, k2⟩ := pairN_kv b
    exact ⟨(Sum.inr n, u) :: kvs, .cons h1 k1, .cons ⟨rfl, h2⟩ k2⟩
section
variable {K : PySem.W.Frag} {H : Hp} {σ : L2.St} {ta tb tc te tl tv tx ty tk : TE} {t : TT} {tu : TS} {D : Ends} {tz : TS}
theorem em_dict {f : Str → Rat} {ns : List Str} (h : EvPL K te σ H f ns) (nd : ns.Nodup) : EvM K (tCB (fun xs H Q => ∃ (a : Addr) (ps : List Addr) (kvs : List (Key × V)), xs = [.ref a] ∧ SqL K H a (ps.map V.ref) ∧ Paired (fun p kv => SqT K H p [kV kv.1, kv.2]) ps kvs ∧ ∀ p, H p = none → Q (.ref p) (upd H p (.dK (mergeK [] kvs)))) (tCons te tNil)) σ H f ns := fun H1 e Q k =>
  h H1 e _ fun l as H2 hl e2 f2 p2 => by
    obtain ⟨kvs, k1, k2⟩ := pairN_kv p2
    refine ⟨l, as, kvs, rfl, SqL.of f2, k1, fun d hd => ?_⟩
    have ndk : (kvs.map (·.1)).Nodup := by
      rw [k2.keys]
      exact nodup_inr nd
    have em : mergeK [] kvs = kvs := by
      rw [mergeK_app _ [] (by simpa using ndk)]
      rfl
    rw [em]
    have s3 := Same.new (Same.refl H2) hd (.dK kvs)
    exact k d kvs _ (fresh_back e2 hd) (e2.trans s3) upd_same (k2.mono fun _ _ z => AmtQ.same s3 z)
/-- one pair more -/
theorem pl_step {f : Str → Rat} {n : Str} {G H1 : Hp} {Dl : Addr} {as : List Addr} {ns : List Str} (hk : Ev tk σ G (.str n)) (hv : EvQ K tv σ G (f n)) (hD : H1 Dl = none) (a : Ex H1 G) (b : G Dl = some (.lst (as.map V.ref))) (p : Paired (PairN K f G) as ns) (len : as.length ≤ 900) {Q : Hp → Prop}
    (k : ∀ G4 as', Ex H1 G4 → G4 Dl = some (.lst (as'.map V.ref)) → Paired (PairN K f G4) as' (ns ++ [n]) → Q G4) : tTup (tCons tk (tCons tv tNil)) σ G fun y G4 => ∃ acc, G4 Dl = some (.lst acc) ∧ acc.length < sizeLine ∧ Q (upd G4 Dl (.lst (acc ++ [y]))) :=
  hk G (Ex.refl G) _ fun G2 e2 => hv G2 e2 _ fun u G3 e3 hu => ⟨by show 2 ≤ sizeLine; decide, fun tp htp => by
    have s4 := Same.new (Same.refl G3) htp (.tup [.str n, u])
    have f4 : upd G3 tp (.tup [.str n, u]) tp = some (.tup [.str n, u]) := upd_same
    generalize upd G3 tp (.tup [.str n, u]) = G4 at s4 f4 ⊢
    have e4 := (e2.trans e3).trans s4
    have b4 := e4 _ _ b
    have tX : TK G4 (upd G4 Dl (.lst (as.map V.ref ++ [V.ref tp]))) := TK.lst b4 _
    refine ⟨_, b4, by rw [List.length_map]; exact small1000 (by omega), k _ (as ++ [tp]) (Ex.mut (a.trans e4) hD) (by rw [upd_same, List.map_append]; rfl) (paired_snoc ⟨u, tX.seqT (SqT.of f4), (hu.same s4).tk tX⟩ (paired_mono (fun _ _ z => PairN.tk (TK.trans (.of e4) tX) z) p))⟩⟩
/-- [(g n, amount) for n in d if p n], d a dict that stands in a local -/
theorem epl_keys {i j : Nat} {d : Addr} {kvs : List (Key × V)} {vs : List Nat} {ns : List Str} {f : Str → Rat} (p : Str → Bool) (g : Str → Str) (hi : σ[i]? = some (some (.ref d))) (fd : H d = some (.dK kvs)) (hk : kvs.map (·.1) = ns.map fun n => (Sum.inr n : Key)) (len : ns.length ≤ 900) (hw : ∀ x, wipe ((wipe σ vs).set j (some x)) vs = wipe σ vs)
    (ht : ∀ H1, Ex H H1 → ∀ od, ∀ n ∈ ns, ∀ G, Ex (upd H1 d (.frz od (.dK kvs))) G → EvT t ((wipe σ vs).set j (some (.str n))) G (p n))
    (hn : ∀ H1, Ex H H1 → ∀ od, ∀ n ∈ ns, p n = true → ∀ G, Ex (upd H1 d (.frz od (.dK kvs))) G → Ev tk ((wipe σ vs).set j (some (.str n))) G (.str (g n)))
    (hv : ∀ H1, Ex H H1 → ∀ od, ∀ n ∈ ns, p n = true → ∀ G, Ex (upd H1 d (.frz od (.dK kvs))) G → EvQ K tv ((wipe σ vs).set j (some (.str n))) G (f (g n))) : EvPL K (tLockE (tLc (iKeys (tVar i)) (gName j) t (tTup (tCons tk (tCons tv tNil))) vs)) σ H f ((ns.filter p).map g) := by
  intro H1 e Q k
  have fd1 := e _ _ fd
  have hlen : kvs.length = ns.length := by
    have := congrArg List.length hk
    rwa [List.length_map, List.length_map] at this
  refine ⟨d, _, fd1, trivial, fun od => ?_⟩
  have fL : upd H1 d (.frz od (.dK kvs)) d = some (.frz od (.dK kvs)) := upd_same
  refine ⟨_, hi, d, od, rfl, .inl ⟨kvs, fL, fun Dl hD => ?_⟩⟩
  have ne : Dl ≠ d := fun z => by rw [z, fL] at hD; cases hD
  have hD1 : H1 Dl = none := by rw [upd_ne ne] at hD; exact hD
  refine lc_it walk_keys (fun m G => Ex (upd H1 d (.frz od (.dK kvs))) G ∧ ∃ as, G Dl = some (.lst (as.map V.ref)) ∧ Paired (PairN K f G) as (((ns.take m).filter p).map g)) ⟨Ex.new hD, [], upd_same, .nil⟩ ?_ ?_ ?_
  · rintro m G _ ⟨a, _⟩
    exact a _ _ fL
  · rintro m x G G' hm ⟨a, as, b, pp⟩ ⟨rfl, kk, v, hkv, rfl⟩
    have hkn : (kvs.map (·.1))[m]? = some kk := by rw [List.getElem?_map, hkv]; rfl
    rw [hk, List.getElem?_map] at hkn
    obtain ⟨n, hn1, e1⟩ := Option.map_eq_some_iff.mp hkn
    subst e1
    have hmem := List.mem_of_getElem? hn1
    refine ⟨hw _, ?_⟩
    have et : ns.take (m + 1) = ns.take m ++ [n] := by
      rw [List.take_add_one, hn1]
      rfl
    have al : as.length ≤ 900 := by
      have h1 := Paired.length pp
      rw [List.length_map] at h1
      have h2 := List.length_filter_le p (ns.take m)
      rw [List.length_take] at h2
      omega
    refine ht H1 e od n hmem G' a G' (Ex.refl _) _ fun G3 e3 => ?_
    have a3 := a.trans e3
    have pp3 := paired_mono (fun _ _ z => PairN.tk (.of e3) z) pp
    cases c : p n with
    | true =>
      refine iteT (pl_step (Q := fun G5 => Ex (upd H1 d (.frz od (.dK kvs))) G5 ∧ ∃ as, G5 Dl = some (.lst (as.map V.ref)) ∧ Paired (PairN K f G5) as (((ns.take (m + 1)).filter p).map g)) (f := f) (n := g n) (hn H1 e od n hmem c G3 a3) (hv H1 e od n hmem c G3 a3) hD a3 (e3 _ _ b) pp3 al fun G4 as' a4 b4 p4 => ⟨a4, as', b4, ?_⟩)
      rw [et, List.filter_append, List.filter_cons_of_pos c, List.map_append]
      exact p4
    | false =>
      refine iteF ⟨a3, as, e3 _ _ b, ?_⟩
      rw [et, List.filter_append, List.filter_cons_of_neg (by rw [c]; decide)]
      simpa using pp3
  · rintro G ⟨a, as, b, pp⟩
    rw [hlen, List.take_length] at pp
    refine ⟨a _ _ fL, ?_⟩
    have ed : Ex H1 (upd G d (.dK kvs)) := lock_ex fd1 a
    exact k Dl as _ hD1 ed (by rw [upd_ne ne]; exact b) (paired_mono (fun _ _ z => PairN.unlock (a _ _ fL) z) pp)
/-- the same over a list that stands in a local, or is new -/
theorem epl_list {a : Addr} {j : Nat} {vs : List Nat} {ns : List Str} {f : Str → Rat} (p : Str → Bool) (g : Str → Str) (hl : Ev tl σ H (.ref a)) (hs : SqL K H a (ns.map V.str)) (len : ns.length ≤ 900) (hw : ∀ x, wipe ((wipe σ vs).set j (some x)) vs = wipe σ vs)
    (ht : ∀ n ∈ ns, ∀ G, Ex H G → EvT t ((wipe σ vs).set j (some (.str n))) G (p n)) (hn : ∀ n ∈ ns, p n = true → ∀ G, Ex H G → Ev tk ((wipe σ vs).set j (some (.str n))) G (.str (g n)))
    (hv : ∀ n ∈ ns, p n = true → ∀ G, Ex H G → EvQ K tv ((wipe σ vs).set j (some (.str n))) G (f (g n))) : EvPL K (tLc (iList K tl) (gName j) t (tTup (tCons tk (tCons tv tNil))) vs) σ H f ((ns.filter p).map g) := by
  intro H0 e0 Q k
  refine hl H0 e0 _ fun H1 e1 => ?_
  have e := e0.trans e1
  refine ⟨a, rfl, ⟨_, ex_l e hs⟩, fun Dl hD => ?_⟩
  refine lc_it (walk_list (K := K) (a := a) (xs := ns.map V.str)) (fun m G => Ex H1 G ∧ ∃ as, G Dl = some (.lst (as.map V.ref)) ∧ Paired (PairN K f G) as (((ns.take m).filter p).map g)) ⟨Ex.new hD, [], upd_same, .nil⟩ ?_ ?_ ?_
  · rintro m G _ ⟨a, _⟩
    exact ex_l (e.trans a) hs
  · rintro m x G G' hm ⟨a, as, b, pp⟩ ⟨rfl, hx⟩
    rw [List.getElem?_map] at hx
    obtain ⟨n, hn1, rfl⟩ := Option.map_eq_some_iff.mp hx
    have hmem := List.mem_of_getElem? hn1
    refine ⟨hw _, ?_⟩
    have et : ns.take (m + 1) = ns.take m ++ [n] := by
      rw [List.take_add_one, hn1]
      rfl
    have al : as.length ≤ 900 := by
      have h1 := Paired.length pp
      rw [List.length_map] at h1
      have h2 := List.length_filter_le p (ns.take m)
      rw [List.length_take] at h2
      omega
    refine ht n hmem G' (e.trans a) G' (Ex.refl _) _ fun G3 e3 => ?_
    have a3 := a.trans e3
    have pp3 := paired_mono (fun _ _ z => PairN.tk (.of e3) z) pp
    cases c : p n with
    | true =>
      refine iteT (pl_step (Q := fun G5 => Ex H1 G5 ∧ ∃ as, G5 Dl = some (.lst (as.map V.ref)) ∧ Paired (PairN K f G5) as (((ns.take (m + 1)).filter p).map g)) (f := f) (n := g n) (hn n hmem c G3 (e.trans a3)) (hv n hmem c G3 (e.trans a3)) hD a3 (e3 _ _ b) pp3 al fun G4 as' a4 b4 p4 => ⟨a4, as', b4, ?_⟩)
      rw [et, List.filter_append, List.filter_cons_of_pos c, List.map_append]
      exact p4
    | false =>
      refine iteF ⟨a3, as, e3 _ _ b, ?_⟩
      rw [et, List.filter_append, List.filter_cons_of_neg (by rw [c]; decide)]
      simpa using pp3
  · rintro G ⟨a, as, b, pp⟩
    rw [List.length_map, List.take_length] at pp
    exact k Dl as _ (fresh_back e1 hD) (e1.trans a) b pp
theorem epl_listN {j : Nat} {vs : List Nat} {ns : List Str} {f : Str → Rat} (p : Str → Bool) (g : Str → Str) (hl : EvL tl σ H (ns.map V.str)) (len : ns.length ≤ 900) (hw : ∀ x, wipe ((wipe σ vs).set j (some x)) vs = wipe σ vs)
    (ht : ∀ n ∈ ns, ∀ G, Ex H G → EvT t ((wipe σ vs).set j (some (.str n))) G (p n)) (hn : ∀ n ∈ ns, p n = true → ∀ G, Ex H G → Ev tk ((wipe σ vs).set j (some (.str n))) G (.str (g n)))
    (hv : ∀ n ∈ ns, p n = true → ∀ G, Ex H G → EvQ K tv ((wipe σ vs).set j (some (.str n))) G (f (g n))) : EvPL K (tLc (iList K tl) (gName j) t (tTup (tCons tk (tCons tv tNil))) vs) σ H f ((ns.filter p).map g) := fun H1 e Q k =>
  hl H1 e _ fun l H2 hl2 e2 f2 => epl_list (K := K) (H := H2) (tl := tC (.ref l)) (a := l) p g ev_c (sq_of f2) len hw (fun n hn G e3 => ht n hn G ((e.trans e2).trans e3)) (fun n hm c G e3 => hn n hm c G ((e.trans e2).trans e3)) (fun n hm c G e3 => hv n hm c G ((e.trans e2).trans e3)) H2 (Ex.refl _) Q fun l2 as H3 a b c d => k l2 as H3 (fresh_back e2 a) (e2.trans b) c d
theorem el_rev {xs : List V} (h : EvL te σ H xs) : EvL (tRevL K te) σ H xs.reverse := fun H1 e Q k => h H1 e _ fun p H2 hp e2 f2 => ⟨p, xs, rfl, sq_of f2, fun r hr => k r _ (fresh_back e2 hr) (e2.trans (Ex.new hr)) upd_same⟩
/-- name in d -/
theorem et_din {i : Nat} {n : Str} {d : Addr} {kvs : List (Key × V)} {ns : List Str} {R : Hp → V → Str → Prop} (hk : Ev ty σ H (.str n)) (hv : σ[i]? = some (some (.ref d))) (fd : Rd H d (.dK kvs)) (m : MapR R H kvs ns) (nd : ns.Nodup) : EvT (tTest (tDIn ty (tVar i))) σ H (decide (n ∈ ns)) :=
  et_test fun H1 e1 Q k => hk H1 e1 _ fun H2 e2 => ⟨_, hv, d, valV kvs (Sum.inr n), rfl, .inl ⟨kvs, Sum.inr n, ex_rd (e1.trans e2) fd, rfl, rfl⟩, by
    have : (valV kvs (Sum.inr n)).isSome = decide (n ∈ ns) := by
      by_cases c : n ∈ ns
      · obtain ⟨v, h1, _⟩ := m.get nd c
        rw [h1, decide_eq_true c]
        rfl
      · rw [m.none c, decide_eq_false c]
        rfl
    rw [this]
    exact k H2 e2⟩
theorem et_fullA {i : Nat} {l : Addr} {ws : List V} {qs : List Rat} (hv : σ[i]? = some (some (.ref l))) (hl : SqL K H l ws) (hp : Paired (AmtQ K H) ws qs) : EvT (tTest (tOp (rNeD K) (tVar i) (tLst tNil))) σ H (!qs.isEmpty) :=
  et_test (ev_opL (xs := []) (ev_var hv) (el_lst ea_nil (Nat.zero_le _)) fun p H1 h1 e1 => rv_val fun H2 e2 Q k => ⟨.list (qs.map amtD), .list [], .lst (ex_l (e1.trans e2) hl) (dp_amts (paired_mono (fun _ _ z => AmtQ.same (e1.trans e2) z) hp)), .lst (SqL.of (e2 _ _ h1)) .nil, shaped_amts qs, by simp [SeqAt.shaped, PyData.canLay0, PyData.canLayAll0, PyData.depth, PyData.depthAll], by
    rw [eqv_nil]
    exact k⟩)
theorem eq_zero : EvQ K (tTup (tCons (tC (.int 0)) (tCons (tC (.int 1)) tNil))) σ H 0 := fun H1 e Q k => ⟨by show 2 ≤ sizeLine; decide, fun p hp => k _ _ (Ex.new hp) ⟨p, rfl, SqT.of upd_same⟩⟩
theorem em_new {f : Str → Rat} : EvM K tDNewK σ H f [] := fun H1 e Q k p hp => k p [] _ hp (Ex.new hp) upd_same .nil
/-- d.get(name, (0, 1)) -/
theorem eq_getD {i : Nat} {d : Addr} {kvs : List (Key × V)} {ns : List Str} {f : Str → Rat} {n : Str} (hv : σ[i]? = some (some (.ref d))) (hy : Ev tx σ H (.str n)) (fd : Rd H d (.dK kvs)) (m : MapR (AmR K f) H kvs ns) (nd : ns.Nodup) (hz : n ∉ ns → f n = 0) :
    EvQ K (tDGet2 (tVar i) tx (tTup (tCons (tC (.int 0)) (tCons (tC (.int 1)) tNil)))) σ H (f n) := fun H1 e Q k =>
  ⟨_, hv, d, rfl, .inl ⟨kvs, ex_rd e fd⟩, hy H1 e _ fun H2 e2 => ⟨by show 2 ≤ sizeLine; decide, fun p hp => by
    have s3 := Same.new (Same.refl H2) hp (.tup [.int 0, .int 1])
    have f3 : upd H2 p (.tup [.int 0, .int 1]) p = some (.tup [.int 0, .int 1]) := upd_same
    generalize upd H2 p (.tup [.int 0, .int 1]) = H3 at s3 f3 ⊢
    refine ⟨_, .inl ⟨kvs, Sum.inr n, ex_rd ((e.trans e2).trans s3) fd, rfl, rfl⟩, ?_⟩
    by_cases c : n ∈ ns
    · obtain ⟨v, h1, h2⟩ := m.get nd c
      rw [h1]
      exact k v H3 (e2.trans s3) (AmtQ.same ((e.trans e2).trans s3) h2)
    · rw [m.none c]
      refine k _ H3 (e2.trans s3) ⟨p, rfl, ?_⟩
      rw [hz c]
      exact SqT.of f3⟩⟩
end
end Bd
end

section
namespace Bd
open PySem L2 Am
open Evl hiding tCut pss_cut
/-! sorted names, lists of pairs joined, the pairs of a dict -/
theorem rising_pw : ∀ (r : List Str) (x : Str), PyProof.Rows.risingS x r = true → (x :: r).Pairwise (fun a b => a.cps.toList ≤ b.cps.toList)
  | [], x, _ => List.pairwise_singleton _ _
  | y :: r, x, h => by
    have h : (!PySem.Spec.ltCps y.cps.toList x.cps.toList && PyProof.Rows.risingS y r) = true := h
    rw [Bool.and_eq_true, PyProof.Rows.ltCps_eq] at h
    have ih := rising_pw r y h.2
    have hxy : x.cps.toList ≤ y.cps.toList := by
      have h1 := h.1
      rw [Bool.not_eq_true', decide_eq_false_iff_not] at h1
      exact List.not_lt.mp h1
    refine List.pairwise_cons.mpr ⟨fun z hz => ?_, ih⟩
    rcases List.mem_cons.mp hz with rfl | hz
    · exact hxy
    · exact List.le_trans hxy ((List.pairwise_cons.mp ih).1 z hz)
theorem sorted_pw {xs : List Str} (h : PyProof.Rows.sortedS xs = true) : xs.Pairwise (fun a b => a.cps.toList ≤ b.cps.toList) := by
  cases xs with
  | nil => exact List.Pairwise.nil
  | cons x r => exact rising_pw r x h
theorem sorted_one {xs ys : List Str} (hx : PyProof.Rows.sortedS xs = true) (hy : PyProof.Rows.sortedS ys = true) (p : xs.Perm ys) : xs = ys :=
  List.Perm.eq_of_pairwise (le := fun a b : Str => a.cps.toList ≤ b.cps.toList) (fun a b _ _ h1 h2 => by
    have e := List.le_antisymm h1 h2
    have : a.cps = b.cps := Array.ext' e
    cases a
    cases b
    congr) (sorted_pw hx) (sorted_pw hy) p
section
variable {K : PySem.W.Frag} {H : Hp} {σ : L2.St} {ta tb te : TE}
abbrev rSortD : List V → Hp → VK → Prop := fun xs H Q => ∃ (a : Addr) (kvs : List (Key × V)) (ks : List Str), xs = [.ref a] ∧ Rd H a (.dK kvs) ∧ kvs.map (·.1) = ks.map Sum.inr ∧ ks.length < 64 ∧
  ∀ ys p, ys.Perm ks → PyProof.Rows.sortedS ys = true → H p = none → Q (.ref p) (upd H p (.lst (ys.map V.str)))
/-- sorted(d) != sorted(names), where the names are d's keys -/
theorem ev_sorts {i j : Nat} {d a : Addr} {kvs : List (Key × V)} {ks : List Str} (hv : σ[i]? = some (some (.ref d))) (fd : H d = some (.dK kvs)) (hk : kvs.map (·.1) = ks.map Sum.inr) (len : ks.length < 64) (hw : σ[j]? = some (some (.ref a))) (fa : SqL K H a (ks.map V.str)) (lay : ∀ x ∈ ks, PyData.canLay0 (.str x) = true) :
    Ev (tOp (rNeD K) (tCB rSortD (tCons (tVar i) tNil)) (tCB (rSortedS K) (tCons (tVar j) tNil))) σ H (.bl false) := fun H1 e Q k =>
  ⟨_, hv, d, kvs, ks, rfl, .inl (e _ _ fd), hk, len, fun ys p hy sy hp => by
    have s1 := Same.new (Same.refl H1) hp (.lst (ys.map V.str))
    have f1 : upd H1 p (.lst (ys.map V.str)) p = some (.lst (ys.map V.str)) := upd_same
    generalize upd H1 p (.lst (ys.map V.str)) = H2 at s1 f1 ⊢
    refine ⟨_, hw, a, ks, rfl, ex_l (e.trans s1) fa, len, fun zs p2 hz sz hp2 => ?_⟩
    have s2 := Same.new (Same.refl H2) hp2 (.lst (zs.map V.str))
    have f2 : upd H2 p2 (.lst (zs.map V.str)) p2 = some (.lst (zs.map V.str)) := upd_same
    generalize upd H2 p2 (.lst (zs.map V.str)) = H3 at s2 f2 ⊢
    have ez : zs = ys := sorted_one sz sy (hz.trans hy.symm)
    subst ez
    refine ⟨.list (zs.map .str), .list (zs.map .str), .lst (SqL.of (s2 _ _ f1)) (dp_strs zs), .lst (SqL.of f2) (dp_strs zs), shaped_strs fun x hx => lay x (hz.subset hx), shaped_strs fun x hx => lay x (hz.subset hx), ?_⟩
    have : PyData.eqv (.list (zs.map .str)) (.list (zs.map .str)) = true := by
      rw [PyData.eqv, eqv_strs, decide_eq_true rfl]
    rw [this]
    exact k H3 (s1.trans s2)⟩
theorem q_parL1 {i j : Nat} {xs : List V} {D : Ends} {tz : TS} {tl : TE} (h : EvL te σ H xs) (k : ∀ p H1, H p = none → Ex H H1 → H1 p = some (.lst xs) → tl σ H1 fun v H2 => ∃ a c, [V.ref p, v] = [a, c] ∧ tz D ((σ.set i (some a)).set j (some c)) H2) : tSeq (tPar i j (tCons te (tCons tl tNil))) tz D σ H :=
  h H (Ex.refl H) _ fun p H1 hp e f => k p H1 hp e f
theorem epl_cat {f : Str → Rat} {ns ms : List Str} (h1 : EvPL K ta σ H f ns) (h2 : EvPL K tb σ H f ms) (len : ns.length + ms.length ≤ 1000) : EvPL K (tOp rCat ta tb) σ H f (ns ++ ms) := fun H1 e Q k =>
  h1 H1 e _ fun l as H2 hl e2 f2 p2 => h2 H2 (e.trans e2) _ fun m bs H3 hm e3 f3 p3 => ⟨l, m, as.map V.ref, bs.map V.ref, rfl, rfl, e3 _ _ f2, f3, by
    rw [List.length_map, List.length_map, Paired.length p2, Paired.length p3]
    exact sz_of (by omega), fun r hr => by
    have s4 := Same.new (Same.refl H3) hr (.lst (as.map V.ref ++ bs.map V.ref))
    refine k r (as ++ bs) _ (fresh_back (e2.trans e3) hr) ((e2.trans e3).trans s4) (by rw [upd_same, List.map_append]) ?_
    have pa := paired_mono (fun _ _ z => PairN.tk (.of (Ex.trans e3 s4)) z) p2
    have pb := paired_mono (fun _ _ z => PairN.tk (.of s4) z) p3
    have app : ∀ {xs ys : List Addr} {us vs : List Str} {F : Addr → Str → Prop}, Paired F xs us → Paired F ys vs → Paired F (xs ++ ys) (us ++ vs) := by
      intro xs ys us vs F a b
      induction a with
      | nil => exact b
      | cons h _ ih => exact .cons h ih
    exact app pa pb⟩
/-- list(d.items()) -/
theorem epl_items {i : Nat} {d : Addr} {kvs : List (Key × V)} {f : Str → Rat} {ns : List Str} (hv : σ[i]? = some (some (.ref d))) (fd : H d = some (.dK kvs)) (m : MapR (AmR K f) H kvs ns) : EvPL K (LiI.tListItems (tVar i)) σ H f ns := fun H1 e Q k =>
  ⟨_, hv, d, kvs, rfl, e _ _ fd, fun H' p ts hH hp hts hpt hl hpair => by
    refine k p ts H' hp hH hl ?_
    have m' : MapR (AmR K f) H' kvs ns := m.mono fun _ _ z => AmtQ.same (e.trans hH) z
    have main : ∀ {ts : List Addr} {kvs : List (Key × V)} {ns : List Str}, Paired (fun (t : Addr) (q : Key × V) => H' t = some (.tup [kV q.1, q.2])) ts kvs → MapR (AmR K f) H' kvs ns → Paired (PairN K f H') ts ns := by
      intro ts kvs ns a b
      induction a generalizing ns with
      | nil => cases b; exact .nil
      | cons h _ ih =>
        cases b with
        | cons g gs =>
          rw [g.1] at h
          exact .cons ⟨_, SqT.of h, g.2⟩ (ih gs)
    exact main hpair m'⟩
theorem epl_is {f : Str → Rat} {xs ys : List Str} (h : EvPL K te σ H f xs) (e : xs = ys) : EvPL K te σ H f ys := e ▸ h
theorem epl_congr {f g : Str → Rat} {xs : List Str} (h : EvPL K te σ H f xs) (e : ∀ n ∈ xs, f n = g n) : EvPL K te σ H g xs := fun H1 e1 Q k => h H1 e1 Q fun l as H2 a b c p => k l as H2 a b c (by
    have main : ∀ {as : List Addr} {xs : List Str}, Paired (PairN K f H2) as xs → (∀ n ∈ xs, f n = g n) → Paired (PairN K g H2) as xs := by
      intro as xs a
      induction a with
      | nil => exact fun _ => .nil
      | cons h _ ih =>
        intro e
        obtain ⟨u, h1, h2⟩ := h
        exact .cons ⟨u, h1, by rw [← e _ List.mem_cons_self]; exact h2⟩ (ih fun n hn => e n (List.mem_cons_of_mem _ hn))
    exact main p e)
theorem em_is {f : Str → Rat} {xs ys : List Str} (h : EvM K te σ H f xs) (e : xs = ys) : EvM K te σ H f ys := e ▸ h
theorem em_congr {f g : Str → Rat} {xs : List Str} (h : EvM K te σ H f xs) (e : ∀ n ∈ xs, f n = g n) : EvM K te σ H g xs := fun H1 e1 Q k => h H1 e1 Q fun d kvs H2 a b c m => k d kvs H2 a b c (mapR_congr m e)
theorem fid {xs : List Str} : (xs.filter fun _ => true).map id = xs := by rw [List.filter_eq_self.mpr fun _ _ => rfl, List.map_id]
end
end Bd
end

section
namespace Bd
open PySem L2 Am
open Evl hiding tCut pss_cut
/-! k17: lists of drawn numbers, comprehensions over zip of three, dict(.. list(zip(..))) -/
section
variable {K : PySem.W.Frag} {H : Hp} {σ : L2.St} {ta tb tc te tl : TE} {D : Ends} {tz : TS} {E : XK}
/-- [a drawn number below M for x in xs] -/
theorem kept_mutN {sp : Addr} {H G : Hp} {a : Addr} {o : HO} (e : Kept sp H G) (h : H a = none) : Kept sp H (upd G a o) := fun b u hb hu => by
  rw [upd_ne (ne_of_none hu h)]
  exact e b u hb hu
theorem q_draws {sp a : Addr} {j l M : Nat} {vs : List Nat} {xs : List V} (hl : Ev tl σ H (.ref a)) (hx : H a = some (.lst xs)) (na : a ≠ sp) (hs : Src H sp) (hn : xs.length ≤ 900) (hw : ∀ v, wipe ((wipe σ vs).set j (some v)) vs = wipe σ vs)
    (he : ∀ v G, Src G sp → Kept sp H G → ∀ Q : VK, (∀ (n : Nat) G', n < M → Src G' sp → Kept sp G G' → Q (.int (n : Int)) G') → te ((wipe σ vs).set j (some v)) G Q)
    (k : ∀ r (ns : List Nat) G, H r = none → r ≠ sp → Src G sp → Kept sp H G → G r = some (.lst (ns.map fun n : Nat => V.int (n : Int))) → ns.length = xs.length → (∀ n ∈ ns, n < M) → tz D (σ.set l (some (.ref r))) G) :
    tSeq (tAsg (tLc (iList K tl) (gName j) tYes te vs) (gName l)) tz D σ H := by
  refine hl H (Ex.refl H) _ fun H1 e1 => ⟨a, rfl, ⟨_, SqL.of (e1 _ _ hx)⟩, fun Dl hD => ?_⟩
  have s1 := hs
  have hs1 : Src H1 sp := by
    obtain ⟨x, y, z, h⟩ := hs
    exact ⟨x, y, z, e1 _ _ h⟩
  have nD : Dl ≠ sp := (src_ne hs1 hD).symm
  have hDH : H Dl = none := fresh_back e1 hD
  have k1 : Kept sp H H1 := Kept.of e1
  refine lc_it (walk_list (K := K) (a := a) (xs := xs)) (fun n G => ∃ ns : List Nat, Src G sp ∧ Kept sp H G ∧ G Dl = some (.lst (ns.map fun n : Nat => V.int (n : Int))) ∧ ns.length = n ∧ n ≤ xs.length ∧ ∀ q ∈ ns, q < M) ⟨[], src_new hs1 hD, k1.new hD _, upd_same, rfl, Nat.zero_le _, fun q hq => by cases hq⟩ ?_ ?_ ?_
  · rintro n G _ ⟨ns, _, kG, _⟩
    exact SqL.of (kG _ _ na hx)
  · rintro n x G G' hn' ⟨ns, sG, kG, fG, lG, _, dG⟩ ⟨rfl, hxn⟩
    refine ⟨hw _, et_yes G' (Ex.refl _) _ fun G2 e2 => iteT ?_⟩
    have sG2 : Src G2 sp := by
      obtain ⟨x, y, z, h⟩ := sG
      exact ⟨x, y, z, e2 _ _ h⟩
    refine he x G2 sG2 (kG.trans (Kept.of e2)) _ fun q G3 hq s3 k3 => ?_
    have f3 := k3 _ _ nD (e2 _ _ fG)
    refine ⟨_, f3, small1000 (by rw [List.length_map]; omega), ns ++ [q], ?_, kept_mutN ((kG.trans (Kept.of e2)).trans k3) hDH, by rw [upd_same, List.map_append]; rfl, by rw [List.length_append, lG]; rfl, by omega, fun q' hq' => ?_⟩
    · exact src_upd s3 nD.symm
    · rcases List.mem_append.mp hq' with h | h
      · exact dG q' h
      · rw [List.mem_singleton.mp h]
        exact hq
  · rintro G ⟨ns, sG, kG, fG, lG, _, dG⟩
    exact k Dl ns G hDH nD sG kG fG lG dG
/-- list(zip(names, amounts)) -/
theorem epl_zip {i j : Nat} {a b : Addr} {ns : List Str} {ws : List V} {f : Str → Rat} (hi : σ[i]? = some (some (.ref a))) (hj : σ[j]? = some (some (.ref b))) (ha : SqL K H a (ns.map V.str)) (hb : SqL K H b ws) (hp : Paired (AmR K f H) ws ns) (len : ns.length ≤ 1000) : EvPL K (tListZip K (tCons (tVar i) (tCons (tVar j) tNil))) σ H f ns := fun H1 e Q k =>
  ⟨_, hi, _, hj, a, b, _, _, rfl, ex_l e ha, ex_l e hb, by rw [List.length_map]; exact Paired.length hp, by rw [List.length_map]; exact len, fun H' p ts hH hp' hts hpt hl hpair => by
    refine k p ts H' hp' hH hl ?_
    have p' : Paired (AmR K f H') ws ns := paired_mono (fun _ _ z => AmtQ.same (e.trans hH) z) hp
    have main : ∀ {ts : List Addr} {ws : List V} {ns : List Str}, Paired (fun (t : Addr) (q : V × V) => H' t = some (.tup [q.1, q.2])) ts ((ns.map V.str).zip ws) → Paired (AmR K f H') ws ns → Paired (PairN K f H') ts ns := by
      intro ts ws ns h1 h2
      induction h2 generalizing ts with
      | nil => cases h1; exact .nil
      | cons g _ ih =>
        cases h1 with
        | cons h hs => exact .cons ⟨_, SqT.of h, g⟩ (ih hs)
    exact main hpair p'⟩
/-- [.. for x, y, z in zip(xs, ys, zs)] with values -/
theorem q_zip3 {a b c : Addr} {i j m l n : Nat} {vs : List Nat} {xs ys zs : List V} {g : Nat → V} (ha : Ev ta σ H (.ref a)) (hb : Ev tb σ H (.ref b)) (hc : Ev tc σ H (.ref c)) (hx : SqL K H a xs) (hy : SqL K H b ys) (hz : SqL K H c zs) (lx : n = xs.length) (ly : ys.length = n) (lz : zs.length = n) (hn : n ≤ 900)
    (hw : ∀ u v w, wipe ((((wipe σ vs).set i (some u)).set j (some v)).set m (some w)) vs = wipe σ vs)
    (he : ∀ q u v w G, xs[q]? = some u → ys[q]? = some v → zs[q]? = some w → Ex H G → Ev te ((((wipe σ vs).set i (some u)).set j (some v)).set m (some w)) G (g q))
    (k : ∀ r H2, H r = none → Ex H H2 → H2 r = some (.lst ((List.range n).map g)) → tz D (σ.set l (some (.ref r))) H2) :
    tSeq (tAsg (tLc (iZip3 K (tCons ta (tCons tb (tCons tc tNil)))) (gTup K 3 (gCons (gName i) (gCons (gName j) (gCons (gName m) gNil)))) tYes te vs) (gName l)) tz D σ H := by
  refine ha H (Ex.refl H) _ fun H1 e1 => hb H1 e1 _ fun H2 e2 => hc H2 (e1.trans e2) _ fun H3 e3 => ?_
  have e := e1.trans (e2.trans e3)
  refine ⟨a, b, c, xs, ys, zs, rfl, ex_l e hx, ex_l e hy, ex_l e hz, fun Dl hD => ?_⟩
  refine lc_it (walk_zip3 (K := K) (a := a) (b := b) (c := c) (xs := xs) (ys := ys) (zs := zs) (n := n) lx ly lz) (fun q G => Ex H3 G ∧ q ≤ n ∧ G Dl = some (.lst ((List.range q).map g))) ⟨Ex.new hD, Nat.zero_le _, upd_same⟩ ?_ ?_ ?_
  · rintro q G _ ⟨z, _⟩
    exact ⟨ex_l (e.trans z) hx, ex_l (e.trans z) hy, ex_l (e.trans z) hz⟩
  · rintro q v G G' hq ⟨z, _, fw⟩ ⟨T, u, y, w, rfl, hT, rfl, hu, hv, hw'⟩
    have sT := Same.new (Same.refl G) hT (.tup [u, y, w])
    refine ⟨T, _, rfl, SqT.of upd_same, rfl, _, _, rfl, _, _, rfl, _, _, rfl, rfl, hw _ _ _, et_yes _ (Ex.refl _) _ fun G3 e4 => iteT ?_⟩
    have zG := z.trans (Ex.trans sT e4)
    refine he q u y w G3 hu hv hw' (e.trans zG) G3 (Ex.refl _) _ fun G4 e5 => ⟨_, e5 _ _ (e4 _ _ (sT _ _ fw)), small1000 (by rw [List.length_map, List.length_range]; omega), Ex.mut (zG.trans e5) hD, by omega, ?_⟩
    rw [upd_same, List.range_succ, List.map_append]
    rfl
  · rintro G ⟨z, _, fw⟩
    exact k Dl G (fresh_back e hD) (e.trans z) fw
/-- [(name, (number, 1)) for name, number in zip(names, numbers)] -/
theorem epl_zipN {i j p q : Nat} {a b : Addr} {vs : List Nat} {ns : List Str} {us : List Nat} {f : Str → Rat} (hi : σ[p]? = some (some (.ref a))) (hj : σ[q]? = some (some (.ref b))) (ha : SqL K H a (ns.map V.str)) (hb : SqL K H b (us.map fun n : Nat => V.int (n : Int))) (ll : us.length = ns.length) (len : ns.length ≤ 900) (hf : ∀ (m : Nat) x u, ns[m]? = some x → us[m]? = some u → f x = ((u : Nat) : Rat))
    (hw : ∀ u v, wipe (((wipe σ vs).set i (some u)).set j (some v)) vs = wipe σ vs) (h1 : ∀ u v, (((wipe σ vs).set i (some u)).set j (some v))[i]? = some (some u)) (h2 : ∀ u v, (((wipe σ vs).set i (some u)).set j (some v))[j]? = some (some v)) :
    EvPL K (tLc (iZip K (tCons (tVar p) (tCons (tVar q) tNil))) (gTup K 2 (gCons (gName i) (gCons (gName j) gNil))) tYes (tTup (tCons (tVar i) (tCons (tTup (tCons (tVar j) (tCons (tC (.int 1)) tNil))) tNil))) vs) σ H f ns := by
  intro H1 e Q k
  refine ⟨_, hi, _, hj, a, b, _, _, rfl, ex_l e ha, ex_l e hb, fun Dl hD => ?_⟩
  refine lc_it (walk_zip (K := K) (a := a) (b := b) (xs := ns.map V.str) (ys := us.map fun n : Nat => V.int (n : Int)) (n := ns.length) (by rw [List.length_map, List.length_map, ll, Nat.min_self])) (fun m G => Ex H1 G ∧ m ≤ ns.length ∧ ∃ as, G Dl = some (.lst (as.map V.ref)) ∧ Paired (PairN K f G) as (ns.take m)) ⟨Ex.new hD, Nat.zero_le _, [], upd_same, .nil⟩ ?_ ?_ ?_
  · rintro m G _ ⟨z, _⟩
    exact ⟨ex_l (e.trans z) ha, ex_l (e.trans z) hb⟩
  · rintro m v G G' hm ⟨z, _, as, fw, pp⟩ ⟨T, u, y, rfl, hT, rfl, hu, hv⟩
    have hu : (ns.map V.str)[m]? = some u := hu
    have hv : (us.map fun n : Nat => V.int (n : Int))[m]? = some y := hv
    rw [List.getElem?_map] at hu hv
    obtain ⟨x, hx, rfl⟩ := Option.map_eq_some_iff.mp hu
    obtain ⟨c, hc, rfl⟩ := Option.map_eq_some_iff.mp hv
    have sT := Same.new (Same.refl G) hT (.tup [V.str x, V.int (c : Int)])
    refine ⟨T, _, rfl, SqT.of upd_same, rfl, _, _, rfl, _, _, rfl, rfl, hw _ _, et_yes _ (Ex.refl _) _ fun G3 e4 => iteT ?_⟩
    have zG := z.trans (Ex.trans sT e4)
    have al : as.length ≤ 900 := by
      rw [Paired.length pp, List.length_take]
      omega
    refine pl_step (Q := fun G5 => Ex H1 G5 ∧ m + 1 ≤ ns.length ∧ ∃ as, G5 Dl = some (.lst (as.map V.ref)) ∧ Paired (PairN K f G5) as (ns.take (m + 1))) (f := f) (n := x) (ev_var (h1 _ _)) (fun G4 e5 Q2 k2 => ⟨_, h2 _ _, by show 2 ≤ sizeLine; decide, fun tp htp => ?_⟩) hD zG (e4 _ _ (sT _ _ fw)) (paired_mono (fun _ _ w => PairN.tk (TK.of (Ex.trans sT e4)) w) pp) al fun G4 as' a4 b4 p4 => ⟨a4, by omega, as', b4, ?_⟩
    · rw [List.take_add_one, hx]
      exact p4
    · refine k2 _ _ (Ex.new htp) ⟨tp, rfl, ?_⟩
      rw [hf m x c hx hc, Rat.num_natCast, Rat.den_natCast]
      exact SqT.of upd_same
  · rintro G ⟨z, _, as, fw, pp⟩
    rw [List.take_length] at pp
    exact k Dl as G hD z fw pp
end
end Bd
end

section
namespace Bd
open PySem L2 Am
/-! sums, and what the children of a group get together -/
theorem foldl_add0 : ∀ (xs : List Rat) (a : Rat), xs.foldl (· + ·) a = a + sumQ xs
  | [], a => by show a = a + 0; rw [Rat.add_zero]
  | x :: xs, a => by
    unfold sumQ
    rw [List.foldl_cons, List.foldl_cons, foldl_add0 xs, foldl_add0 xs (0 + x)]
    grind
theorem sum_cons (q : Rat) (qs : List Rat) : sumQ (q :: qs) = q + sumQ qs := by
  show (q :: qs).foldl (· + ·) 0 = _
  rw [List.foldl_cons, foldl_add0]
  grind
theorem sum_mulR {α : Type} (xs : List α) (f : α → Rat) (r : Rat) : sumQ (xs.map fun x => f x * r) = sumQ (xs.map f) * r := by
  induction xs with
  | nil => show (0 : Rat) = 0 * r; rw [Rat.zero_mul]
  | cons x xs ih => rw [List.map_cons, List.map_cons, sum_cons, sum_cons, ih]; grind
theorem sum_add {α : Type} (xs : List α) (f g : α → Rat) : sumQ (xs.map fun x => f x + g x) = sumQ (xs.map f) + sumQ (xs.map g) := by
  induction xs with
  | nil => show (0 : Rat) = 0 + 0; rw [Rat.add_zero]
  | cons x xs ih => rw [List.map_cons, List.map_cons, List.map_cons, sum_cons, sum_cons, sum_cons, ih]; grind
theorem sum_sub {α : Type} (xs : List α) (f g : α → Rat) : sumQ (xs.map fun x => f x - g x) = sumQ (xs.map f) - sumQ (xs.map g) := by
  induction xs with
  | nil => show (0 : Rat) = 0 - 0; grind
  | cons x xs ih => rw [List.map_cons, List.map_cons, List.map_cons, sum_cons, sum_cons, sum_cons, ih]; grind
theorem sum_zero {α : Type} (xs : List α) : sumQ (xs.map fun _ => (0 : Rat)) = 0 := by
  induction xs with
  | nil => rfl
  | cons x xs ih => rw [List.map_cons, sum_cons, ih]; grind
section
variable {M S : Nat} {a : Rat} {kids : List Str} {U c : Str → Rat} {h : Bool}
theorem parts_sum (po : PartOk M S a (sumQ (kids.map U)) kids U c) : sumQ (kids.map (partQ h a (sumQ (kids.map U)) (sumQ (kids.map c)) U c)) ≤ a ∧ (h = true → sumQ (kids.map (partQ h a (sumQ (kids.map U)) (sumQ (kids.map c)) U c)) = a) := by
  have cle : sumQ (kids.map c) ≤ sumQ (kids.map U) := sum_le fun x hx => po.cu x hx
  by_cases l : a < sumQ (kids.map c)
  · have e : kids.map (partQ h a (sumQ (kids.map U)) (sumQ (kids.map c)) U c) = kids.map fun x => c x * (a / sumQ (kids.map c)) := List.map_congr_left fun x _ => if_pos l
    have := po.clp l
    have e2 : sumQ (kids.map c) * (a / sumQ (kids.map c)) = a := by
      rw [Rat.mul_comm, Rat.div_mul_cancel (by grind)]
    rw [e, sum_mulR, e2]
    exact ⟨Rat.le_refl, fun _ => rfl⟩
  · by_cases g : h = true ∧ sumQ (kids.map c) < sumQ (kids.map U)
    · have e : kids.map (partQ h a (sumQ (kids.map U)) (sumQ (kids.map c)) U c) = kids.map fun x => c x + (U x - c x) * ((a - sumQ (kids.map c)) / (sumQ (kids.map U) - sumQ (kids.map c))) := List.map_congr_left fun x _ => by
        unfold partQ
        rw [if_neg l, if_pos g]
      have e2 : (sumQ (kids.map U) - sumQ (kids.map c)) * ((a - sumQ (kids.map c)) / (sumQ (kids.map U) - sumQ (kids.map c))) = a - sumQ (kids.map c) := by
        rw [Rat.mul_comm, Rat.div_mul_cancel (by have := g.2; grind)]
      rw [e, sum_add, sum_mulR kids (fun x => U x - c x), sum_sub, e2]
      exact ⟨by grind, fun _ => by grind⟩
    · have e : kids.map (partQ h a (sumQ (kids.map U)) (sumQ (kids.map c)) U c) = kids.map c := List.map_congr_left fun x _ => by
        unfold partQ
        rw [if_neg l, if_neg g]
      rw [e]
      refine ⟨by grind, fun hh => ?_⟩
      have g2 : ¬ sumQ (kids.map c) < sumQ (kids.map U) := fun z => g ⟨hh, z⟩
      have := po.au
      grind
theorem parts_sumF {un : Rat} (po : PartOk M S a un kids U c) : sumQ (kids.map (partQ false a un (sumQ (kids.map c)) U c)) = if a < sumQ (kids.map c) then a else sumQ (kids.map c) := by
  by_cases l : a < sumQ (kids.map c)
  · have e : kids.map (partQ false a un (sumQ (kids.map c)) U c) = kids.map fun x => c x * (a / sumQ (kids.map c)) := List.map_congr_left fun x _ => if_pos l
    have := po.clp l
    rw [e, sum_mulR, if_pos l, Rat.mul_comm, Rat.div_mul_cancel (by grind)]
  · have e : kids.map (partQ false a un (sumQ (kids.map c)) U c) = kids.map c := List.map_congr_left fun x _ => by
      unfold partQ
      rw [if_neg l, if_neg (fun z => by cases z.1)]
    rw [e, if_neg l]
/-- the parts have a bottom in common that is not too long -/
theorem parts_ms {un : Rat} (po : PartOk M S a un kids U c) (hM : M < 2 ^ 12) (hS : S < 2 ^ 87) (clu : sumQ (kids.map c) ≤ (S : Rat)) : ∃ N : Nat, 0 < N ∧ N < 2 ^ 2700 ∧ ∀ x ∈ kids, InMS N S (partQ h a un (sumQ (kids.map c)) U c x) := by
  have pb : ∀ x ∈ kids, 0 ≤ partQ h a un (sumQ (kids.map c)) U c x ∧ partQ h a un (sumQ (kids.map c)) U c x ≤ (S : Rat) := fun x hx => by
    obtain ⟨h1, h2, _⟩ := part_bd (h := h) po hM hS clu hx
    exact ⟨h1, Rat.le_trans h2 (po.ku x hx).hi⟩
  by_cases l : a < sumQ (kids.map c)
  · obtain ⟨q1, q2⟩ := quot_sz po.a0 (po.clp l)
    generalize hr : a / sumQ (kids.map c) = r at q1 q2
    have rd : r.den < 2 ^ 2100 := Nat.lt_of_le_of_lt q2 (lt_up (lt_mul2 po.ad (po.cl.nlt po.M0 po.hM po.s1)) (by decide))
    refine ⟨M * r.den, Nat.mul_pos po.M0 r.den_pos, lt_up (lt_mul2 hM rd) (by decide), fun x hx => ⟨?_, (pb x hx).1, (pb x hx).2⟩⟩
    have e : partQ h a un (sumQ (kids.map c)) U c x = c x * r := by
      unfold partQ
      rw [if_pos l, hr]
    rw [e]
    exact of_den (Nat.mul_pos po.M0 r.den_pos) (((po.kc x hx).of po.M0).mul (den_of (Nat.dvd_refl _) r.den_pos))
  · by_cases g : h = true ∧ sumQ (kids.map c) < un
    · obtain ⟨_, _, _, rd⟩ := po.rr l g.2
      generalize hr : (a - sumQ (kids.map c)) / (un - sumQ (kids.map c)) = r at rd
      have pm : 0 < M * r.den := Nat.mul_pos po.M0 r.den_pos
      refine ⟨M * r.den, pm, lt_up (lt_mul2 hM rd) (by decide), fun x hx => ⟨?_, (pb x hx).1, (pb x hx).2⟩⟩
      have e : partQ h a un (sumQ (kids.map c)) U c x = c x + (U x - c x) * r := by
        unfold partQ
        rw [if_neg l, if_pos g, hr]
      rw [e]
      exact of_den pm ((((po.kc x hx).of po.M0).up _ r.den_pos).add pm (((po.beyond hx).of po.M0).mul (den_of (Nat.dvd_refl _) r.den_pos)))
    · refine ⟨M, po.M0, lt_up hM (by decide), fun x hx => ?_⟩
      have e : partQ h a un (sumQ (kids.map c)) U c x = c x := by
        unfold partQ
        rw [if_neg l, if_neg g]
      rw [e]
      exact po.kc x hx
/-- without handing on nobody gets more than its claim -/
theorem part_le {un : Rat} {x : Str} (po : PartOk M S a un kids U c) (hx : x ∈ kids) : partQ false a un (sumQ (kids.map c)) U c x ≤ c x := by
  unfold partQ
  by_cases l : a < sumQ (kids.map c)
  · rw [if_pos l]
    have cp := po.clp l
    have h1 : a / sumQ (kids.map c) ≤ 1 := by
      rw [Rat.div_def]
      have := Rat.mul_le_mul_of_nonneg_right (Rat.le_of_lt l) (Rat.le_of_lt (Rat.inv_pos.mpr cp))
      rwa [Rat.mul_inv_cancel _ (by grind)] at this
    have h2 := Rat.mul_le_mul_of_nonneg_left h1 (po.kc x hx).lo
    rwa [Rat.mul_one] at h2
  · rw [if_neg l, if_neg (fun z => by cases z.1)]
    exact Rat.le_refl
end
end Bd
end

section
namespace Bd
open PySem L2 Am
open Evl hiding tCut pss_cut
/-! rows whose amounts are all so many times -/
def DuesAm (words : List Str) (dues : List (Str × PyData)) : Prop := ∃ ps : List (Str × Rat), dues = ps.map (fun z => (z.1, amtD z.2)) ∧ (ps.map (·.1)).Sublist words ∧ ∀ z ∈ ps, 0 ≤ z.2 ∧ Sz z.2
theorem dues_dokA {words : List Str} {dues : List (Str × PyData)} (hw : WordsOk words) (h : DuesAm words dues) : DuesOk dues := by
  obtain ⟨ps, rfl, hs, hd⟩ := h
  refine ⟨?_, fun du hdu => ?_⟩
  · rw [List.map_map]
    exact hw.1.sublist hs
  · obtain ⟨z, hz, rfl⟩ := List.mem_map.mp hdu
    have hzw := words_in (hw.2 z.1 (hs.subset (List.mem_map_of_mem hz)))
    refine ⟨hzw.1, ?_⟩
    obtain ⟨z0, z1, z2⟩ := hd z hz
    show ValOk z.1 (.tuple [.int z.2.num, .int (z.2.den : Int)])
    rw [nat_num z0]
    exact .amt hzw.2.1 z1 z.2.den_pos z2 z.2.reduced
theorem dues_topsA {words : List Str} {dues : List (Str × PyData)} (hw : WordsOk words) (h : DuesAm words dues) : dueOf (fullD dues) "tops" = some (.str "endless") := by
  obtain ⟨ps, rfl, hs, hd⟩ := h
  have : dueOf (ps.map fun z => (z.1, amtD z.2)) "tops" = none := by
    unfold dueOf
    rw [Option.map_eq_none_iff, List.find?_eq_none]
    intro du hdu
    obtain ⟨z, hz, rfl⟩ := List.mem_map.mp hdu
    have := (words_in (hw.2 z.1 (hs.subset (List.mem_map_of_mem hz)))).2.2
    simpa using this
  show some ((dueOf (ps.map fun z => (z.1, amtD z.2)) "tops").getD (.str "endless")) = _
  rw [this]
  rfl
theorem w2ok : WordsOk ["min", "low"] := ⟨by decide +kernel, by decide +kernel⟩
/-- other rows of the same shape, with dues that are amounts -/
theorem rows_like {rs : List RowM} {g : RowM → RowM} (rok : RowsOk rs) (hn : ∀ r, (g r).name = r.name) (ha : ∀ r, (g r).above = r.above) (hd : ∀ r ∈ rs, DuesAm ["min", "low"] (g r).dues) : RowsOk (rs.map g) := by
  intro i r hr
  rw [List.getElem?_map] at hr
  obtain ⟨q, hq, rfl⟩ := Option.map_eq_some_iff.mp hr
  obtain ⟨h1, h2, h3, h4⟩ := rok i q hq
  have hqm := List.mem_of_getElem? hq
  refine ⟨by rw [hn]; exact h1, dues_dokA w2ok (hd q hqm), fun z hz => ?_, ?_⟩
  · rw [← List.map_take] at hz
    obtain ⟨y, hy, rfl⟩ := List.mem_map.mp hz
    rw [hn, hn]
    exact h3 y hy
  · rw [ha]
    rcases h4 with e | ⟨y, hy, e, _⟩
    · exact .inl e
    · refine .inr ⟨g y, ?_, by rw [hn]; exact e, dues_topsA w2ok (hd y (List.mem_of_mem_take hy))⟩
      rw [← List.map_take]
      exact List.mem_map_of_mem hy
section
variable {rs : List RowM} {g : RowM → RowM}
theorem like_nms (hn : ∀ r, (g r).name = r.name) : nms (rs.map g) = nms rs := by
  unfold nms
  rw [List.map_map]
  exact List.map_congr_left fun r _ => hn r
theorem like_kids (hn : ∀ r, (g r).name = r.name) (ha : ∀ r, (g r).above = r.above) (n : Str) : kidsOf (rs.map g) (Sum.inr n) = kidsOf rs (Sum.inr n) := by
  rw [kids_flt, kids_flt, List.filter_map, List.map_map]
  have : rs.filter ((fun r => decide (r.above = n)) ∘ g) = rs.filter fun r => decide (r.above = n) := List.filter_congr fun r _ => by
    show decide ((g r).above = n) = _
    rw [ha]
  rw [this]
  exact List.map_congr_left fun r _ => hn r
theorem like_below (hn : ∀ r, (g r).name = r.name) (ha : ∀ r, (g r).above = r.above) (top : Str) : belowL (rs.map g) top = belowL rs top := by
  unfold belowL
  rw [List.foldl_map]
  congr 1
  funext acc r
  unfold bStep
  rw [hn, ha]
theorem like_leaves (hn : ∀ r, (g r).name = r.name) (ha : ∀ r, (g r).above = r.above) : leavesOf (rs.map g) = leavesOf rs := by
  unfold leavesOf
  rw [List.filter_map, List.map_map]
  have : rs.filter (leafB (rs.map g) ∘ g) = rs.filter (leafB rs) := List.filter_congr fun r _ => by
    show leafB (rs.map g) (g r) = _
    unfold leafB
    rw [List.any_map]
    congr 1
    congr 1
    funext q
    show decide ((g q).above = (g r).name) = _
    rw [ha, hn]
  rw [this]
  exact List.map_congr_left fun r _ => hn r
end
def scD (f : Rat) : PyData → PyData
  | .tuple [.int n, .int m] => amtD (mkRat n m.toNat * f)
  | d => d
theorem scD_amt (f q : Rat) : scD f (amtD q) = amtD (q * f) := by
  show amtD (mkRat q.num ((q.den : Int)).toNat * f) = _
  rw [Int.toNat_natCast, Rat.mkRat_self]
def scR (f : Rat) (r : RowM) : RowM := ⟨r.name, r.above, r.dues.map fun du => (du.1, scD f du.2)⟩
theorem sc_ms {q f : Rat} (hq : Drawn q) (hf : InMS 420 9 f) : InMS (2520 * 420) (10 ^ 13 * 9) (q * f) := by
  have := mul_ms (by decide) (by decide) hq.ms hf
  exact this
theorem sc_dues {f : Rat} (hf : InMS 420 9 f) {words : List Str} {dues : List (Str × PyData)} (h : DuesDr words dues) : ∃ ps : List (Str × Rat), dues = ps.map (fun z => (z.1, amtD z.2)) ∧ (dues.map fun du => (du.1, scD f du.2)) = ps.map (fun z => (z.1, amtD (z.2 * f))) ∧ (ps.map (·.1)).Sublist words ∧ (∀ z ∈ ps, Drawn z.2) ∧ DuesAm words (dues.map fun du => (du.1, scD f du.2)) := by
  obtain ⟨ps, rfl, hs, hd⟩ := h
  have e : ((ps.map fun z => (z.1, amtD z.2)).map fun du : Str × PyData => (du.1, scD f du.2)) = ps.map (fun z => (z.1, amtD (z.2 * f))) := by
    rw [List.map_map]
    exact List.map_congr_left fun z _ => by
      show (z.1, scD f (amtD z.2)) = _
      rw [scD_amt]
  refine ⟨ps, rfl, e, hs, hd, ps.map fun z => (z.1, z.2 * f), by rw [e, List.map_map]; rfl, by rw [List.map_map]; exact hs, fun z hz => ?_⟩
  obtain ⟨y, hy, rfl⟩ := List.mem_map.mp hz
  have := sc_ms (hd y hy) hf
  exact ⟨this.lo, this.sz (m := 30) (s := 50) (by decide) (by decide) (by decide) (by decide)⟩
theorem due_map (g : PyData → PyData) (dues : List (Str × PyData)) (x : Str) : dueOf (dues.map fun du => (du.1, g du.2)) x = (dueOf dues x).map g := by
  unfold dueOf
  rw [List.find?_map, Option.map_map, Option.map_map]
  rfl
theorem sc_kind {rs : List RowM} {kd : Str} {k : Str → Rat} {f : Rat} (hk : kd = "min" ∨ kd = "low") (h : KindOk rs kd k) : KindOk (rs.map (scR f)) kd fun n => k n * f := fun r hr => by
  obtain ⟨q, hq, rfl⟩ := List.mem_map.mp hr
  have h1 := h q hq
  show dueOf (fullD (q.dues.map fun du => (du.1, scD f du.2))) kd = some (amtD (k q.name * f))
  have e : ∀ dues : List (Str × PyData), dueOf (fullD dues) kd = some ((dueOf dues kd).getD (.tuple [.int 0, .int 1])) := fun dues => by
    rcases hk with rfl | rfl <;> rfl
  rw [e] at h1 ⊢
  rw [due_map]
  have h1 : (dueOf q.dues kd).getD (.tuple [.int 0, .int 1]) = amtD (k q.name) := Option.some.inj h1
  cases z : dueOf q.dues kd with
  | none =>
    rw [z] at h1
    have h2 : amtD 0 = amtD (k q.name) := h1
    have h3 : k q.name = 0 := by
      have := eqv_amt2 0 (k q.name)
      rw [← h2, eqv_amt] at this
      exact (of_decide_eq_true this.symm).symm
    rw [h3, Rat.zero_mul]
    rfl
  | some d =>
    rw [z] at h1
    have h2 : d = amtD (k q.name) := h1
    rw [h2]
    show some (scD f (amtD (k q.name))) = _
    rw [scD_amt]
theorem part_sc {h : Bool} {a un cl f : Rat} {U c : Str → Rat} {x : Str} (f0 : 0 < f) : partQ h (a * f) (un * f) (cl * f) (fun n => U n * f) (fun n => c n * f) x = partQ h a un cl U c x * f := by
  have lt : ∀ a b : Rat, a * f < b * f ↔ a < b := fun a b => ⟨fun z => by
      by_cases y : a < b
      · exact y
      · have := Rat.mul_le_mul_of_nonneg_right (show b ≤ a by grind) (Rat.le_of_lt f0)
        grind, fun z => Rat.mul_lt_mul_of_pos_right z f0⟩
  have dv : ∀ a b : Rat, (a * f) / (b * f) = a / b := fun a b => by
    by_cases z : b = 0
    · rw [z, Rat.zero_mul, Rat.div_def, Rat.div_def]
      have : (0 : Rat)⁻¹ = 0 := Rat.inv_zero
      rw [this, Rat.mul_zero, Rat.mul_zero]
    · have : f ≠ 0 := by grind
      grind
  unfold partQ
  by_cases l : a < cl
  · rw [if_pos l, if_pos ((lt a cl).mpr l), dv]
    grind
  · rw [if_neg l, if_neg (fun z => l ((lt a cl).mp z))]
    by_cases g : h = true ∧ cl < un
    · rw [if_pos g, if_pos ⟨g.1, (lt cl un).mpr g.2⟩]
      have e1 : a * f - cl * f = (a - cl) * f := by grind
      have e2 : un * f - cl * f = (un - cl) * f := by grind
      rw [e1, e2, dv]
      grind
    · rw [if_neg g, if_neg (fun z => g ⟨z.1, (lt cl un).mp z.2⟩)]
/-- all amounts so many times: what is protected is so many times -/
theorem held_sc {rs : List RowM} {top : Str} {h : Bool} {k U c p : Str → Rat} {f : Rat} (o : HeldOk rs top h k U c p 2520 (10 ^ 13 * 12 ^ 12)) (f0 : 0 < f) (hf : InMS 420 9 f) (hb : ∀ n ∈ belowL rs top, (p n).den < 2 ^ 1490) :
    HeldOk (rs.map (scR f)) top h (fun n => k n * f) (fun n => U n * f) (fun n => c n * f) (fun n => p n * f) (2520 * 420) (10 ^ 13 * 12 ^ 12 * 9) := by
  have hn : ∀ r, (scR f r).name = r.name := fun _ => rfl
  have ha : ∀ r, (scR f r).above = r.above := fun _ => rfl
  have eb := like_below (rs := rs) hn ha top
  have ek := fun n => like_kids (rs := rs) hn ha n
  have ms : ∀ {q : Rat}, InMS 2520 (10 ^ 13 * 12 ^ 12) q → InMS (2520 * 420) (10 ^ 13 * 12 ^ 12 * 9) (q * f) := fun h => mul_ms (by decide) (by decide) h hf
  have lt : ∀ a b : Rat, a * f < b * f ↔ a < b := fun a b => ⟨fun z => by
      by_cases y : a < b
      · exact y
      · have := Rat.mul_le_mul_of_nonneg_right (show b ≤ a by grind) (Rat.le_of_lt f0)
        grind, fun z => Rat.mul_lt_mul_of_pos_right z f0⟩
  refine ⟨by decide, by decide, ?_, fun n hn => ?_, fun n hn => ?_, fun n hn hk0 => ?_, fun n hn => ?_, fun n hn => ?_, fun n hn x hx => ?_, fun n hn => ?_⟩
  · exact lt_up (lt_mul2 S_lt (show 9 < 2 ^ 4 by decide)) (by decide)
  · rw [eb] at hn
    exact ms (o.uz n hn)
  · rw [eb] at hn
    exact ms (o.kz n hn)
  · rw [eb] at hn
    rw [ek] at hk0 ⊢
    show U n * f = _
    rw [o.sum n hn hk0, sum_mulR]
  · rw [eb] at hn
    show c n * f = if k n * f < U n * f then k n * f else U n * f
    rw [o.cl n hn]
    by_cases z : k n < U n
    · rw [if_pos z, if_pos ((lt _ _).mpr z)]
    · rw [if_neg z, if_neg (fun y => z ((lt _ _).mp y))]
  · rw [ek] at hn
    show p n * f = c n * f
    rw [o.tp n hn]
  · rw [eb] at hn
    rw [ek] at hx ⊢
    show p x * f = _
    rw [o.part n hn x hx, sum_mulR, part_sc f0]
  · rw [eb] at hn
    obtain ⟨a, b, d⟩ := o.p0 n hn
    refine ⟨Rat.mul_nonneg a hf.lo, Rat.mul_le_mul_of_nonneg_right b hf.lo, ?_⟩
    have h1 : (p n * f).den ∣ (p n).den * f.den := of_den (Nat.mul_pos (p n).den_pos f.den_pos) ((den_of (Nat.dvd_refl _) (p n).den_pos).mul (den_of (Nat.dvd_refl _) f.den_pos))
    have h2 := Nat.le_of_dvd (Nat.mul_pos (p n).den_pos f.den_pos) h1
    have h3 : f.den < 2 ^ 9 := Nat.lt_of_le_of_lt (hf.denle (by decide)) (by decide)
    exact Nat.lt_of_le_of_lt h2 (lt_up (lt_mul2 (hb n hn) h3) (by decide))
end Bd
end

section
namespace Bd
open PySem L2 Am
open Evl hiding tCut pss_cut
/-! k10: words (those of G36), draws of great bounds, names, what a child is protected -/
abbrev sNextB : Stmt := (top 59)
theorem scNextB : FnScope ["_law_source_here", "_law_many", "_law_found"] ["_law_source_here", "_law_many"] (defScope sNextB) := ⟨rfl, rfl, rfl, by decide +kernel, rfl, by decide +kernel, by decide +kernel⟩
abbrev sTitles10 : Stmt := (top 63)
theorem scTitles10 : FnScope ["_law_many", "_law_found", "_law_one_here", "_law_other"] ["_law_many"] (defScope sTitles10) := ⟨rfl, rfl, rfl, by decide +kernel, rfl, by decide +kernel, by decide +kernel⟩
abbrev sChild : Stmt := (top 64)
theorem scChild : FnScope ["_law_given", "_law_whole", "_law_wish", "_law_pair", "_law_flag", "_law_use", "_law_claim", "_law_top", "_law_bottom", "_law_rest"] ["_law_given", "_law_whole", "_law_wish", "_law_pair", "_law_flag"] (defScope sChild) := ⟨rfl, rfl, rfl, by decide +kernel, rfl, by decide +kernel, by decide +kernel⟩

structure TZ3 (mg : Str → Option Value) : Prop where
  z_zip : mg "zip" = none
structure TSm (mg : Str → Option Value) : Prop where
  z_sum : mg "sum" = none
structure TMm (mg : Str → Option Value) : Prop where
  z_max : mg "max" = none
  z_min : mg "min" = none
abbrev rAddS : R2 := fun x y H Q => ∃ i j, x = .str i ∧ y = .str j ∧ i.length + j.length ≤ sizeLine ∧ Q (.str (i ++ j)) H
def spNextB : Sp := fun vs H Q _ => ∃ (p : Addr) (m : Nat), vs = [.ref p, .int (m : Int)] ∧ Src H p ∧ 0 < m ∧ m < 2 ^ 200 ∧ ∀ (v : Nat) H', v < m → Src H' p → Kept p H H' → Q (.int (v : Int)) H'
section
variable {K : PySem.W.Frag} {H : Hp} {σ : L2.St} {ta tb te tl : TE} {D : Ends} {tz : TS} {E : XK}
theorem sum_le3 {c : Nat} : ∀ {ss : List Nat}, (∀ s ∈ ss, s ≤ c) → ss.sum ≤ ss.length * c
  | [], _ => by simp
  | a :: t, h => by
    have h1 := h a List.mem_cons_self
    have h2 := sum_le3 (ss := t) fun s hs => h s (List.mem_cons_of_mem _ hs)
    rw [List.sum_cons, List.length_cons, Nat.succ_mul]
    omega
theorem sum_int : ∀ ss : List Nat, (ss.map fun s : Nat => (s : Int)).sum = ((ss.sum : Nat) : Int)
  | [] => rfl
  | a :: t => by rw [List.map_cons, List.sum_cons, List.sum_cons, sum_int t, Int.natCast_add]
theorem paired_byIx {α β : Type} {F : α → β → Prop} : ∀ {xs : List α} {ys : List β}, xs.length = ys.length → (∀ (m : Nat) x y, xs[m]? = some x → ys[m]? = some y → F x y) → Paired F xs ys
  | [], [], _, _ => .nil
  | x :: xs, y :: ys, l, h => .cons (h 0 x y rfl rfl) (paired_byIx (by simpa using l) fun m a b h1 h2 => h (m + 1) a b (by simpa using h1) (by simpa using h2))
theorem ev_sumN {i : Nat} {a : Addr} {bs : List Nat} (hv : σ[i]? = some (some (.ref a))) (hs : SqL K H a (bs.map fun n : Nat => V.int (n : Int))) : Ev (tCB (rSum K) (tCons (tVar i) tNil)) σ H (.int ((bs.sum : Nat) : Int)) := fun H1 e Q k =>
  ⟨_, hv, a, bs.map fun n : Nat => (n : Int), rfl, by rw [List.map_map]; exact ex_l e hs, by rw [sum_int]; exact k H1 (Ex.refl _)⟩
theorem ev_max2 {x y : Int} (ha : Ev ta σ H (.int x)) (hb : Ev tb σ H (.int y)) : Ev (tCB (fun xs H Q => ∃ i j, xs = [V.int i, V.int j] ∧ Q (.int (if j > i then j else i)) H) (tCons ta (tCons tb tNil))) σ H (.int (if y > x then y else x)) := fun H1 e Q k =>
  ha H1 e _ fun H2 e2 => hb H2 (e.trans e2) _ fun H3 e3 => ⟨x, y, rfl, k H3 (e2.trans e3)⟩
theorem ev_min2 {x y : Int} (ha : Ev ta σ H (.int x)) (hb : Ev tb σ H (.int y)) : Ev (tCB (fun xs H Q => ∃ i j, xs = [V.int i, V.int j] ∧ Q (.int (if j < i then j else i)) H) (tCons ta (tCons tb tNil))) σ H (.int (if y < x then y else x)) := fun H1 e Q k =>
  ha H1 e _ fun H2 e2 => hb H2 (e.trans e2) _ fun H3 e3 => ⟨x, y, rfl, k H3 (e2.trans e3)⟩
theorem elr_zip {a b : Addr} {i j n : Nat} {vs : List Nat} {xs ys : List V} {R : Nat → Hp → V → Prop} (hR : ∀ m G G' v, TK G G' → R m G v → R m G' v) (ha : Ev ta σ H (.ref a)) (hb : Ev tb σ H (.ref b)) (hx : SqL K H a xs) (hy : SqL K H b ys) (lx : xs.length = n) (ly : ys.length = n) (hn : n ≤ 900)
    (hw : ∀ u v, wipe (((wipe σ vs).set i (some u)).set j (some v)) vs = wipe σ vs)
    (he : ∀ m u v G, xs[m]? = some u → ys[m]? = some v → Ex H G → ∀ Q : VK, (∀ w G2, Ex G G2 → R m G2 w → Q w G2) → te (((wipe σ vs).set i (some u)).set j (some v)) G Q)
    {Q : VK} (k : ∀ r ws H2, H r = none → Ex H H2 → H2 r = some (.lst ws) → ws.length = n → (∀ m w, ws[m]? = some w → R m H2 w) → Q (.ref r) H2) :
    tLc (iZip K (tCons ta (tCons tb tNil))) (gTup K 2 (gCons (gName i) (gCons (gName j) gNil))) tYes te vs σ H Q := by
  refine ha H (Ex.refl H) _ fun H1 e1 => hb H1 e1 _ fun H2 e2 => ?_
  have e := e1.trans e2
  refine ⟨a, b, xs, ys, rfl, ex_l e hx, ex_l e hy, fun Dl hD => ?_⟩
  refine lc_it (walk_zip (K := K) (a := a) (b := b) (xs := xs) (ys := ys) (n := n) (by omega)) (fun m G => Ex H2 G ∧ ∃ ws, G Dl = some (.lst ws) ∧ ws.length = m ∧ m ≤ n ∧ ∀ j w, ws[j]? = some w → R j G w) ⟨Ex.new hD, [], upd_same, rfl, Nat.zero_le _, fun j w h => by cases h⟩ ?_ ?_ ?_
  · rintro m G _ ⟨z, _⟩
    exact ⟨ex_l (e.trans z) hx, ex_l (e.trans z) hy⟩
  · rintro m v G G' hm ⟨z, ws, fw, lw, _, hws⟩ ⟨T, u, y, rfl, hT, rfl, hu, hv⟩
    have sT := Same.new (Same.refl G) hT (.tup [u, y])
    refine ⟨T, _, rfl, SqT.of upd_same, rfl, _, _, rfl, _, _, rfl, rfl, hw _ _, et_yes _ (Ex.refl _) _ fun G3 e3 => iteT ?_⟩
    have zG := z.trans (Ex.trans sT e3)
    refine he m u y G3 hu hv (e.trans zG) _ fun w G4 e4 hr => ⟨ws, e4 _ _ (e3 _ _ (sT _ _ fw)), small1000 (by omega), Ex.mut (zG.trans e4) hD, ws ++ [w], upd_same, by rw [List.length_append, lw]; rfl, by omega, fun j w' hj => ?_⟩
    have f4 := e4 _ _ (e3 _ _ (sT _ _ fw))
    have tX : TK G4 (upd G4 Dl (.lst (ws ++ [w]))) := TK.lst f4 _
    rcases Nat.lt_trichotomy j ws.length with l | l | l
    · rw [List.getElem?_append_left l] at hj
      exact hR _ _ _ _ ((TK.of (Ex.trans sT (Ex.trans e3 e4))).trans tX) (hws j w' hj)
    · rw [l, List.getElem?_concat_length] at hj
      cases hj
      rw [l, lw]
      exact hR _ _ _ _ tX hr
    · rw [List.getElem?_eq_none (by rw [List.length_append, List.length_singleton]; omega)] at hj
      cases hj
  · rintro G ⟨z, ws, fw, lw, _, hws⟩
    exact k Dl ws G (fresh_back e hD) (e.trans z) fw lw hws
theorem q_zip {l : Nat} {a b : Addr} {i j n : Nat} {vs : List Nat} {xs ys : List V} {R : Nat → Hp → V → Prop} (hR : ∀ m G G' v, TK G G' → R m G v → R m G' v) (ha : Ev ta σ H (.ref a)) (hb : Ev tb σ H (.ref b)) (hx : SqL K H a xs) (hy : SqL K H b ys) (lx : xs.length = n) (ly : ys.length = n) (hn : n ≤ 900)
    (hw : ∀ u v, wipe (((wipe σ vs).set i (some u)).set j (some v)) vs = wipe σ vs)
    (he : ∀ m u v G, xs[m]? = some u → ys[m]? = some v → Ex H G → ∀ Q : VK, (∀ w G2, Ex G G2 → R m G2 w → Q w G2) → te (((wipe σ vs).set i (some u)).set j (some v)) G Q)
    (k : ∀ r ws H2, H r = none → Ex H H2 → H2 r = some (.lst ws) → ws.length = n → (∀ m w, ws[m]? = some w → R m H2 w) → tz D (σ.set l (some (.ref r))) H2) :
    tSeq (tAsg (tLc (iZip K (tCons ta (tCons tb tNil))) (gTup K 2 (gCons (gName i) (gCons (gName j) gNil))) tYes te vs) (gName l)) tz D σ H := elr_zip (Q := fun v H2 => tz D (σ.set l (some v)) H2) hR ha hb hx hy lx ly hn hw he k
theorem r_zip {a b : Addr} {i j n : Nat} {vs : List Nat} {xs ys : List V} {R : Nat → Hp → V → Prop} (hR : ∀ m G G' v, TK G G' → R m G v → R m G' v) (ha : Ev ta σ H (.ref a)) (hb : Ev tb σ H (.ref b)) (hx : SqL K H a xs) (hy : SqL K H b ys) (lx : xs.length = n) (ly : ys.length = n) (hn : n ≤ 900)
    (hw : ∀ u v, wipe (((wipe σ vs).set i (some u)).set j (some v)) vs = wipe σ vs)
    (he : ∀ m u v G, xs[m]? = some u → ys[m]? = some v → Ex H G → ∀ Q : VK, (∀ w G2, Ex G G2 → R m G2 w → Q w G2) → te (((wipe σ vs).set i (some u)).set j (some v)) G Q)
    (k : ∀ r ws H2, H r = none → Ex H H2 → H2 r = some (.lst ws) → ws.length = n → (∀ m w, ws[m]? = some w → R m H2 w) → D.rt (.ref r) H2) :
    tRet (tLc (iZip K (tCons ta (tCons tb tNil))) (gTup K 2 (gCons (gName i) (gCons (gName j) gNil))) tYes te vs) D σ H := elr_zip (Q := fun v H2 => D.rt v H2) hR ha hb hx hy lx ly hn hw he k
end
def ltrs8 : Str := "abcdefgh"
def ltrs26 : Str := "abcdefghijklmnopqrstuvwxyz"
def titL10 : List Str := (ltrs8.cps.toList.map fun a => ltrs26.cps.toList.map fun b => (⟨#[a]⟩ : Str) ++ ⟨#[b]⟩).flatten
def spTitles10 : Sp := fun vs H Q _ => ∃ m : Nat, vs = [.int (m : Int)] ∧ m ≤ 208 ∧ ∀ r H', H r = none → Same H H' → H' r = some (.lst ((titL10.take m).map V.str)) → Q (.ref r) H'
/-- what a child with a use and a claim is protected, of so much that its group is -/
def childQ (h : Bool) (a un cl u c : Rat) : Rat := if a < cl then c * (a / cl) else if h = true ∧ cl < un then c + (u - c) * ((a - cl) / (un - cl)) else c
def spChild (K : PySem.W.Frag) : Sp := fun vs H Q _ => ∃ (v : V) (q : Rat) (un cl u c : Nat) (t : Addr) (h : Bool), vs = [v, .int (un : Int), .int (cl : Int), .ref t, .bl h] ∧ AmtQ K H v q ∧ 0 ≤ q ∧ q.den < 2 ^ 1500 ∧ q.num.toNat < 2 ^ 3000 ∧ SqT K H t [.int (u : Int), .int (c : Int)] ∧ c ≤ u ∧ u < 2 ^ 150 ∧ cl ≤ un ∧ un < 2 ^ 150 ∧ ∀ v' H', Same H H' → AmtQ K H' v' (childQ h q un cl u c) → Q v' H'
section
variable {K : PySem.W.Frag} {H : Hp} {σ : L2.St} {ta tb te tl : TE} {D : Ends} {tz : TS} {E : XK}
theorem el_lcStrF {z : Str} {f : Nat → Str} {j : Nat} {vs : List Nat} (hl : Ev tl σ H (.str z)) (hw : ∀ v, wipe ((wipe σ vs).set j (some v)) vs = wipe σ vs) (hz : z.cps.size ≤ 900)
    (he : ∀ c G, Ex H G → Ev te ((wipe σ vs).set j (some (.str ⟨#[c]⟩))) G (.str (f c))) :
    EvL (tLc (iStr tl) (gName j) tYes te vs) σ H (z.cps.toList.map fun c => V.str (f c)) := by
  intro H1 e Q k
  refine hl H1 e _ fun H2 e2 => ⟨z, rfl, fun Dl hD => ?_⟩
  refine lc_it (walk_str (z := z)) (fun m G => Ex H2 G ∧ G Dl = some (.lst ((z.cps.toList.take m).map fun c => V.str (f c)))) ⟨Ex.new hD, upd_same⟩ (fun _ _ _ _ => trivial) ?_ ?_
  · rintro m v G G' hm ⟨a, b⟩ ⟨rfl, c, hc, rfl⟩
    refine ⟨hw _, et_yes G' (Ex.refl _) _ fun G3 e3 => iteT (he c G3 ((e.trans e2).trans (a.trans e3)) G3 (Ex.refl _) _ fun G4 e4 => ⟨_, (e3.trans e4) _ _ b, ?_, Ex.mut (a.trans (e3.trans e4)) hD, ?_⟩)⟩
    · rw [List.length_map, List.length_take]
      exact small1000 (by omega)
    · have hc' : z.cps.toList[m]? = some c := by rw [Array.getElem?_toList]; exact hc
      rw [upd_same, List.take_add_one, hc', List.map_append]
      rfl
  · rintro G ⟨a, b⟩
    have e4 : z.cps.toList.take z.cps.size = z.cps.toList := by
      rw [← Array.length_toList]
      exact List.take_length
    rw [e4] at b
    exact k Dl G (fresh_back e2 hD) (e2.trans a) b
end
section
variable {K : PySem.W.Frag} {H : Hp} {σ : L2.St} {ta : TE}
theorem eq_n1 {n : Nat} (h : Ev ta σ H (.int (n : Int))) : EvQ K (tTup (tCons ta (tCons (tC (.int 1)) tNil))) σ H ((n : Nat) : Rat) := fun H1 e Q k =>
  h H1 e _ fun H2 e2 => ⟨by show 2 ≤ sizeLine; decide, fun t ht => k _ _ (e2.trans (Same.new (Same.refl H2) ht _)) ⟨t, rfl, by
    rw [Rat.num_natCast, Rat.den_natCast]
    exact SqT.of upd_same⟩⟩
end
theorem mk_div {n b : Nat} (b0 : 0 < b) : mkRat (n : Int) b = ((n : Nat) : Rat) / ((b : Nat) : Rat) := by
  rw [Rat.mkRat_eq_div]
  rfl
theorem num_nat {q : Rat} (q0 : 0 ≤ q) : q.num = ((q.num.toNat : Nat) : Int) ∧ q = ((q.num.toNat : Nat) : Rat) / ((q.den : Nat) : Rat) := by
  have h : 0 ≤ q.num := Rat.num_nonneg.mpr q0
  have e : q.num = ((q.num.toNat : Nat) : Int) := (Int.toNat_of_nonneg h).symm
  refine ⟨e, ?_⟩
  rw [← mk_div q.den_pos, ← e, Rat.mkRat_self]
theorem nat_ne {n : Nat} (h : 0 < n) : ((n : Nat) : Rat) ≠ 0 := fun e => by
  have : n = 0 := by exact_mod_cast e
  omega
/-- a part of a claim -/
theorem child_cut {q : Rat} {cl c : Nat} (q0 : 0 ≤ q) (cl0 : 0 < cl) : mkRat ((c * q.num.toNat : Nat) : Int) (cl * q.den) = ((c : Nat) : Rat) * (q / ((cl : Nat) : Rat)) := by
  have d0 : 0 < cl * q.den := Nat.mul_pos cl0 q.den_pos
  obtain ⟨_, e⟩ := num_nat q0
  have hd := nat_ne q.den_pos
  have hc := nat_ne cl0
  rw [mk_div d0, Rat.natCast_mul, Rat.natCast_mul]
  generalize ((q.num.toNat : Nat) : Rat) = N at e ⊢
  generalize ((q.den : Nat) : Rat) = d at e hd ⊢
  rw [e]
  grind
/-- a claim, and what is handed on -/
theorem child_more {q : Rat} {un cl u c : Nat} (q0 : 0 ≤ q) (h1 : cl * q.den ≤ q.num.toNat) (h2 : cl < un) (h3 : c ≤ u) : mkRat ((c * q.den * (un - cl) + (q.num.toNat - cl * q.den) * (u - c) : Nat) : Int) (q.den * (un - cl)) = ((c : Nat) : Rat) + (((u : Nat) : Rat) - ((c : Nat) : Rat)) * ((q - ((cl : Nat) : Rat)) / (((un : Nat) : Rat) - ((cl : Nat) : Rat))) := by
  have w0 : 0 < un - cl := by omega
  have d0 : 0 < q.den * (un - cl) := Nat.mul_pos q.den_pos w0
  obtain ⟨_, e⟩ := num_nat q0
  have hd := nat_ne q.den_pos
  have hw := nat_ne w0
  have e1 : ((un : Nat) : Rat) = ((un - cl : Nat) : Rat) + ((cl : Nat) : Rat) := by
    rw [← Rat.natCast_add]
    congr 1
    omega
  have e2 : ((u : Nat) : Rat) = ((u - c : Nat) : Rat) + ((c : Nat) : Rat) := by
    rw [← Rat.natCast_add]
    congr 1
    omega
  have e3 : ((q.num.toNat : Nat) : Rat) = ((q.num.toNat - cl * q.den : Nat) : Rat) + ((cl : Nat) : Rat) * ((q.den : Nat) : Rat) := by
    rw [← Rat.natCast_mul, ← Rat.natCast_add]
    congr 1
    omega
  rw [mk_div d0, Rat.natCast_add, Rat.natCast_mul, Rat.natCast_mul, Rat.natCast_mul, Rat.natCast_mul, e1, e2]
  rw [e3] at e
  generalize ((q.num.toNat - cl * q.den : Nat) : Rat) = R at e ⊢
  generalize ((un - cl : Nat) : Rat) = W at hw ⊢
  generalize ((u - c : Nat) : Rat) = B
  generalize ((q.den : Nat) : Rat) = d at e hd ⊢
  generalize ((cl : Nat) : Rat) = L at e ⊢
  have e4 : W + L - L = W := by grind
  have e5 : B + ((c : Nat) : Rat) - ((c : Nat) : Rat) = B := by grind
  have e6 : q - L = R / d := by
    rw [e]
    grind
  rw [e4, e5, e6]
  generalize ((c : Nat) : Rat) = Z
  grind
section
variable {P : Program} {w : World} {K : PySem.W.Frag} {mg : Str → Option Value} {base : Heap} {C CN CW aL : Addr} {left : List (Key × V)}
theorem ok_nextB {f g : Addr} {fd gd : FuncData} (F : Fun K "_law_next" "_law_next" sNextB f fd) (T : TA mg) (cM : Cal P w K mg base "_law_mixed" ["_law_cell", "_law_k"] 1 spMixed g gd) : FnOk P w K mg base CX0 2 f fd ["_law_source_here", "_law_many"] spNextB := by
  refine F.ok scNextB (fun vs H Q E h => ?_) (fun cdv A outer s H vs Q E hr h => ?_)
  · obtain ⟨p, m, rfl, _⟩ := h
    rfl
  obtain ⟨p, m, rfl, ⟨x, y, z, hp⟩, h0, h1, q⟩ := h
  have hd : CDivW x (m : Int) := ⟨by omega, by
    rw [Int.natAbs_natCast]
    exact (Nat.log2_lt (by omega)).mpr (lt_up h1 (by decide))⟩
  refine ⟨_, (pss_cons (ps_if (pt_cmpR op_ge (pe_ix ix_list (pv 0) pe_int (fun _ _ => rfl)) (pe_op op_pow pe_int pe_int) (nomark _)) (pss_cons (ps_set (i := 2) scNextB.nd rfl (Or.inl rfl) (pe_op op_modN (pe_callTy call_int1 (by rfl) T.z_int (by decide +kernel) (pa_cons (pe_ix ix_list (pv 0) pe_int (fun _ _ => rfl)) pa_nil)) (pv 1))) (pss_cons (ps_asg (pe_op op_fdivW (pe_ix ix_list (pv 0) pe_int (fun _ _ => rfl)) (pv 1)) (pg_sub (pv 0) pe_int set_list)) (pss_one (ps_ret (pv 2))))) pss_nil) (pss_cons (ps_asg (pe_op op_add (pe_ix ix_list (pv 0) pe_int (fun _ _ => rfl)) pe_int) (pg_sub (pv 0) pe_int set_list)) (pss_one (ps_ret (pe_op op_modN (pe_callTy call_int1 (by rfl) T.z_int (by decide +kernel) (pa_cons (pe_call cM.ok (hr.mono (by decide)) rfl cM.mg cM.kp cM.bd .nil pass0 (pa_cons (pe_ix ix_list (pv 0) pe_int (fun _ _ => rfl)) (pa_cons (pe_ix ix_list (pv 0) pe_int (fun _ _ => rfl)) pa_nil))) pa_nil)) (pv 1)))))), ?_⟩
  refine ⟨_, rfl, p, _, _, _, rfl, rfl, SqL.of hp, rfl, _, _, rfl, rfl, ⟨by decide, by decide, by decide⟩, _, _, rfl, rfl, _, rfl, ?_⟩
  refine ite2 (fun c => ?_) (fun c => ?_)
  · obtain ⟨v, ev, hv⟩ := fm_nat (x := x) (m := m) h0
    refine ⟨_, rfl, p, _, _, _, rfl, rfl, SqL.of hp, rfl, .inl ⟨_, rfl, _, rfl, _, _, rfl, rfl, by show (m : Int) ≠ 0; omega, ?_⟩⟩
    refine ⟨_, rfl, p, _, _, _, rfl, rfl, SqL.of hp, rfl, _, rfl, _, _, rfl, rfl, hd, _, rfl, p, _, _, _, rfl, rfl, hp, rfl, ?_⟩
    refine ⟨_, rfl, ?_⟩
    show Q (.int (x.fmod (m : Int))) _
    rw [ev]
    exact q v _ hv ⟨_, _, _, upd_same⟩ ((Kept.refl p H).upd _)
  · refine ⟨_, rfl, p, _, _, _, rfl, rfl, SqL.of hp, rfl, _, _, rfl, rfl, _, rfl, p, _, _, _, rfl, rfl, hp, rfl, ?_⟩
    refine ⟨_, rfl, p, _, _, _, rfl, rfl, SqL.of upd_same, rfl, _, rfl, p, _, _, _, rfl, rfl, SqL.of upd_same, rfl, _, _, rfl, fun u hu => .inl ⟨_, rfl, _, rfl, _, _, rfl, rfl, by show (m : Int) ≠ 0; omega, ?_⟩⟩
    obtain ⟨v, ev, hv⟩ := fm_nat (x := u) (m := m) h0
    show Q (.int (u.fmod (m : Int))) _
    rw [ev]
    exact q v _ hv ⟨_, _, _, upd_same⟩ ((Kept.refl p H).upd _)
theorem ok_titles10 {f : Addr} {fd : FuncData} (F : Fun K "_law_titles" "_law_titles" sTitles10 f fd) : FnOk P w K mg base CX0 1 f fd ["_law_many"] spTitles10 := by
  refine F.ok scTitles10 (fun vs H Q E h => ?_) (fun cdv A outer s H vs Q E hr h => ?_)
  · obtain ⟨m, rfl, _⟩ := h
    rfl
  obtain ⟨m, rfl, hm, q⟩ := h
  refine ⟨_, (pss_cons (ps_set (i := 1) scTitles10.nd rfl (Or.inl rfl) (pe_lst pa_nil)) (pss_cons (ps_for PassesOwn.never rfl (pi_str pe_str) (pg_name (i := 2) scTitles10.nd rfl (Or.inr rfl)) (pss_one (ps_expr (pe_bm PySem.F.plainAttrs_list PySem.F.slot_list_extend PySem.F.type_list_extend mt_extend (pv 1) (pa_cons (pe_lc (own := [("_law_other", 3)]) (g := gName 3) (tt := tYes) (te := (tOp rAddS (tVar 2) (tVar 3))) rfl scTitles10.nd (pi_str pe_str) (blkOk_by (own := [("_law_other", 3)]) (N := ["_law_many", "_law_found", "_law_one_here", "_law_other"]) (sc := defScope sTitles10) (by decide +kernel)) (fun _ _ _ _ _ => (pg_name (i := 3) scTitles10.nd rfl (Or.inl rfl))) (fun _ _ _ _ _ => pts_nil) (fun _ _ _ _ _ => (pe_op op_add_str (pv 2) (pv 3)))) pa_nil))))) (pss_one (ps_ret (pe_slice sl_list (pv 1) po_none (po_some (pv 0))))))), ?_⟩
  show tSeq (tAsg _ _) _ _ [some (.int (m : Int)), none, none, none] H
  refine q_asgL (xs := []) (el_lst ea_nil (Nat.zero_le _)) fun l H1 hl e1 f1 => ?_
  try dsimp only [gName]
  show tSeq (tFor _ _ _) _ _ [some (.int (m : Int)), some (.ref l), none, none] H1
  have hz : ltrs26.cps.size = 26 := by decide +kernel
  have hz8 : ltrs8.cps.size = 8 := by decide +kernel
  refine ⟨ltrs8, rfl, ?_⟩
  refine for_it (walk_str (z := ltrs8)) (fun i σ' G => ∃ o2 : Option V, σ' = [some (.int (m : Int)), some (.ref l), o2, none] ∧ Ex H G ∧ i ≤ 8 ∧ G l = some (.lst (((ltrs8.cps.toList.take i).map fun a => ltrs26.cps.toList.map fun b => V.str ((⟨#[a]⟩ : Str) ++ ⟨#[b]⟩)).flatten))) ⟨none, rfl, e1, Nat.zero_le _, f1⟩ (fun _ _ _ _ _ => trivial) ?_ ?_
  · rintro i v σ' G G' hi ⟨o2, rfl, eG, _, fG⟩ ⟨rfl, c, hc, rfl⟩
    try dsimp only [gName]
    show tDrop _ _ [some (.int (m : Int)), some (.ref l), some (.str ⟨#[c]⟩), none] G'
    have hc' : ltrs8.cps.toList[i]? = some c := by rw [Array.getElem?_toList]; exact hc
    refine ⟨_, rfl, Or.inl ⟨rfl, _, sq_of fG⟩, el_lcStrF (z := ltrs26) (f := fun b => (⟨#[c]⟩ : Str) ++ ⟨#[b]⟩) ev_c (fun _ => rfl) (by omega) (fun b G2 _ G3 e3 Q k => ⟨_, rfl, _, rfl, _, _, rfl, rfl, by show 1 + 1 ≤ sizeLine; decide, k G3 (Ex.refl _)⟩) G' (Ex.refl _) _ fun r G4 hr e4 f4 => ⟨l, r, _, _, rfl, rfl, e4 _ _ fG, f4, ?_, _, rfl, Ex.mut (eG.trans e4) hl, by omega, ?_⟩⟩
    · have l8 : ((((ltrs8.cps.toList.take i).map fun a => ltrs26.cps.toList.map fun b => V.str ((⟨#[a]⟩ : Str) ++ ⟨#[b]⟩)).flatten)).length ≤ 8 * 26 := by
        rw [List.length_flatten]
        refine Nat.le_trans (sum_le3 (c := 26) fun s hs => ?_) (Nat.mul_le_mul_right _ ?_)
        · obtain ⟨y, hy, rfl⟩ := List.mem_map.mp hs
          obtain ⟨a, _, rfl⟩ := List.mem_map.mp hy
          rw [List.length_map, Array.length_toList, hz]
          exact Nat.le_refl _
        · rw [List.length_map, List.length_map, List.length_take]
          omega
      have l26 : (ltrs26.cps.toList.map fun b => V.str ((⟨#[c]⟩ : Str) ++ ⟨#[b]⟩)).length = 26 := by rw [List.length_map, Array.length_toList, hz]
      have : (1000 : Nat) ≤ sizeLine := by decide
      omega
    · rw [upd_same, List.take_add_one, hc', List.map_append, List.flatten_append]
      simp
  · rintro σ' G ⟨o2, rfl, eG, _, fG⟩
    rw [hz8, List.take_of_length_le (by rw [Array.length_toList, hz8]; exact Nat.le_refl _)] at fG
    dsimp only
    show tRet _ _ [some (.int (m : Int)), some (.ref l), o2, none] G
    refine ⟨_, rfl, _, rfl, (m : Int), rfl, l, _, rfl, SqL.of fG, fun r hr' => ?_⟩
    have s3 := Same.new (Same.refl G) hr' (.lst (cutV (((ltrs8.cps.toList.map fun a => ltrs26.cps.toList.map fun b => V.str ((⟨#[a]⟩ : Str) ++ ⟨#[b]⟩)).flatten)) none (some (m : Int))))
    refine q r _ (fresh_back eG hr') (Same.trans eG s3) (upd_same.trans ?_)
    congr 2
    have ex : ((ltrs8.cps.toList.map fun a => ltrs26.cps.toList.map fun b => V.str ((⟨#[a]⟩ : Str) ++ ⟨#[b]⟩)).flatten) = titL10.map V.str := by
      unfold titL10
      rw [List.map_flatten, List.map_map]
      congr 1
    rw [ex, List.map_take]
    have hl : (titL10.map V.str).length = 208 := by decide +kernel
    show ((titL10.map V.str).drop 0).take (HT.sIx (titL10.map V.str).length (titL10.map V.str).length (some (m : Int)) - 0) = _
    rw [List.drop_zero, Nat.sub_zero]
    congr 1
    show (if (m : Int) < 0 then ((m : Int) + ((titL10.map V.str).length : Int)).toNat else min (m : Int).toNat (titL10.map V.str).length) = m
    rw [if_neg (by omega), Int.toNat_natCast, hl]
    omega
theorem lt_num {q : Rat} (q0 : 0 ≤ q) {cl : Nat} : q < ((cl : Nat) : Rat) ↔ q.num.toNat < cl * q.den := by
  obtain ⟨_, e⟩ := num_nat q0
  have hd : (0 : Rat) < ((q.den : Nat) : Rat) := by exact_mod_cast q.den_pos
  rw [← Rat.natCast_lt_natCast, Rat.natCast_mul]
  have h : q * ((q.den : Nat) : Rat) = ((q.num.toNat : Nat) : Rat) := by
    conv => lhs; arg 1; rw [e]
    exact Rat.div_mul_cancel (nat_ne q.den_pos)
  rw [← h]
  exact (Rat.mul_lt_mul_right hd).symm
theorem ok_child {f gF : Addr} {fd dF : FuncData} (F : Fun K "_law_child" "_law_child" sChild f fd) (cF : Cal P w K mg base "_law_fraction" ["_law_top", "_law_bottom"] 2 (spFrac2 K) gF dF) : FnOk P w K mg base CX0 3 f fd ["_law_given", "_law_whole", "_law_wish", "_law_pair", "_law_flag"] (spChild K) := by
  refine F.ok scChild (fun vs H Q E h => ?_) (fun cdv A outer s H vs Q E hr h => ?_)
  · obtain ⟨v, q, un, cl, u, c, t, g, rfl, _⟩ := h
    rfl
  obtain ⟨v, q, un, cl, u, c, t, g, rfl, hv, q0, qd, qn, ht, cu, uzz0, clun, unz, k⟩ := h
  refine ⟨_, (pss_cons (ps_asg (pv 3) (pg_tup (by rfl) (pgs_cons (pg_name (i := 5) scChild.nd rfl (Or.inl rfl)) (pgs_cons (pg_name (i := 6) scChild.nd rfl (Or.inl rfl)) pgs_nil)))) (pss_cons (ps_asg (pv 0) (pg_tup (by rfl) (pgs_cons (pg_name (i := 7) scChild.nd rfl (Or.inl rfl)) (pgs_cons (pg_name (i := 8) scChild.nd rfl (Or.inl rfl)) pgs_nil)))) (pss_cons (ps_if (pt_cmpR op_gt (pe_op op_mulW (pv 2) (pv 8)) (pv 7) (nomark _)) (pss_one (ps_ret (pe_call cF.ok (hr.mono (by decide)) rfl cF.mg cF.kp cF.bd .nil pass0 (pa_cons (pe_op op_mulW (pv 6) (pv 7)) (pa_cons (pe_op op_mulW (pv 2) (pv 8)) pa_nil))))) pss_nil) (pss_cons (ps_if (PW.pt (pw_or (pt_not (pt_val (pv 4))) (pw_or1 (pt_cmpR op_eq (pv 1) (pv 2) (nomark _))))) (pss_one (ps_ret (pe_tup (pa_cons (pv 6) (pa_cons pe_int pa_nil))))) pss_nil) (pss_cons (ps_set (i := 9) scChild.nd rfl (Or.inl rfl) (pe_op op_sub (pv 7) (pe_op op_mulW (pv 2) (pv 8)))) (pss_one (ps_ret (pe_call cF.ok (hr.mono (by decide)) rfl cF.mg cF.kp cF.bd .nil pass0 (pa_cons (pe_op op_add (pe_op op_mulW (pe_op op_mulW (pv 6) (pv 8)) (pe_op op_sub (pv 1) (pv 2))) (pe_op op_mulW (pv 9) (pe_op op_sub (pv 5) (pv 6)))) (pa_cons (pe_op op_mulW (pv 8) (pe_op op_sub (pv 1) (pv 2))) pa_nil)))))))))), ?_⟩
  obtain ⟨a, rfl, ha⟩ := hv
  obtain ⟨en, eq⟩ := num_nat q0
  rw [en] at ha
  refine ⟨_, rfl, t, _, rfl, ht, rfl, _, _, rfl, _, _, rfl, rfl, ?_⟩
  refine ⟨_, rfl, a, _, rfl, ha, rfl, _, _, rfl, _, _, rfl, rfl, ?_⟩
  try dsimp only [gName]
  show tSeq (tIfS _ _ _) _ _ [some (.ref a), some (.int (un : Int)), some (.int (cl : Int)), some (.ref t), some (.bl g), some (.int (u : Int)), some (.int (c : Int)), some (.int (q.num.toNat : Int)), some (.int (q.den : Int)), none] H
  have qdz : q.den < 2 ^ 8000 := lt_up qd (by decide)
  have clz : cl < 2 ^ 150 := by omega
  have cmn : ∀ {x y : Nat}, x < 2 ^ 300000 → y < 2 ^ 300000 → CMulW (x : Int) (y : Int) := fun h1 h2 => wide_mul (a := 300000) (b := 300000) (by rw [Int.natAbs_natCast]; exact h1) (by rw [Int.natAbs_natCast]; exact h2) (by decide) (by decide) (by decide)
  have nz : q.num.toNat < 2 ^ 300000 := Nat.lt_of_lt_of_le qn (Nat.pow_le_pow_right (by decide) (by decide))
  have dz : q.den < 2 ^ 300000 := Nat.lt_of_lt_of_le qd (Nat.pow_le_pow_right (by decide) (by decide))
  have up : ∀ {x : Nat}, x < 2 ^ 150 → x < 2 ^ 300000 := fun h => Nat.lt_of_lt_of_le h (Nat.pow_le_pow_right (by decide) (by decide))
  have up2 : ∀ {x : Nat}, x < 2 ^ 6000 → x < 2 ^ 300000 := fun h => Nat.lt_of_lt_of_le h (Nat.pow_le_pow_right (by decide) (by decide))
  have e9 : (2 : Nat) ^ 1500 * 2 ^ 150 < 2 ^ 9000 := by rw [← Nat.pow_add]; exact Nat.pow_lt_pow_right (by decide) (by decide)
  have ewb : ((cl : Int) * (q.den : Int)) = ((cl * q.den : Nat) : Int) := (Int.natCast_mul ..).symm
  refine q_when (et_test (ev_op (ev_is (ev_op (ev_var (i := 2) rfl) (ev_var (i := 8) rfl) (rv_I (cmn (up clz) dz))) (congrArg V.int ewb)) (ev_var (i := 7) rfl) rv_I0)) (fun hb G e => ?_) (fun hb G e => ?_)
  · have hlt : q.num.toNat < cl * q.den := by
      have := of_decide_eq_true hb
      omega
    have cl0 : 0 < cl := by
      refine Nat.pos_of_ne_zero fun z => ?_
      rw [z] at hlt
      omega
    refine s_retQ (K := K) (eq_frac (K := K) (n := c * q.num.toNat) (b := cl * q.den) (ev_is (ev_op (ev_var (i := 6) rfl) (ev_var (i := 7) rfl) (rv_I (cmn (up (by omega)) nz))) (by rw [Int.natCast_mul])) (ev_is (ev_op (ev_var (i := 2) rfl) (ev_var (i := 8) rfl) (rv_I (cmn (up clz) dz))) (by rw [Int.natCast_mul])) (Nat.mul_pos cl0 q.den_pos) ?_) fun v' G2 e2 hv' => k v' G2 (Same.trans e e2) ?_
    · rw [Nat.mul_comm]
      exact Nat.lt_trans (Nat.mul_lt_mul_of_lt_of_lt qd clz) e9
    · rw [child_cut q0 cl0] at hv'
      unfold childQ
      rw [if_pos ((lt_num q0).mpr hlt)]
      exact hv'
  have hge : ¬ q.num.toNat < cl * q.den := by
    have := of_decide_eq_false hb
    omega
  have hge' : ¬ q < ((cl : Nat) : Rat) := fun z => hge ((lt_num q0).mp z)
  refine q_when (et_or (et_not (et_B (ev_var (i := 4) rfl))) (fun _ => et_test (ev_op (ev_var (i := 1) rfl) (ev_var (i := 2) rfl) (rv_eq rfl)))) (fun hb2 G2 e2 => ?_) (fun hb2 G2 e2 => ?_)
  · refine s_retQ (K := K) (eq_n1 (ev_var (i := 6) rfl)) fun v' G3 e3 hv' => k v' G3 (Same.trans e (Same.trans e2 e3)) ?_
    unfold childQ
    rw [if_neg hge', if_neg ?_]
    · exact hv'
    · rintro ⟨rfl, h2⟩
      have h2 : cl < un := by exact_mod_cast h2
      rw [Bool.or_eq_true] at hb2
      rcases hb2 with z | z
      · cases z
      · have := V.int.inj (of_decide_eq_true z)
        omega
  rw [Bool.or_eq_false_iff] at hb2
  obtain ⟨hg, hne⟩ := hb2
  have hg : g = true := by
    cases g
    · cases hg
    · rfl
  have hlt : cl < un := by
    have : (un : Int) ≠ (cl : Int) := fun z => of_decide_eq_false hne (by rw [z])
    omega
  have ewu : ((un : Int) - (cl : Int)) = ((un - cl : Nat) : Int) := (Int.ofNat_sub clun).symm
  have euc : ((u : Int) - (c : Int)) = ((u - c : Nat) : Int) := (Int.ofNat_sub cu).symm
  try dsimp only [gName]
  show tSeq (tAsg _ _) _ _ [some (.ref a), some (.int (un : Int)), some (.int (cl : Int)), some (.ref t), some (.bl g), some (.int (u : Int)), some (.int (c : Int)), some (.int (q.num.toNat : Int)), some (.int (q.den : Int)), none] G2
  refine q_asg (v := .int ((q.num.toNat - cl * q.den : Nat) : Int)) (ev_is (ev_op (ev_var (i := 7) rfl) (ev_is (ev_op (ev_var (i := 2) rfl) (ev_var (i := 8) rfl) (rv_I (cmn (up clz) dz))) (congrArg V.int ewb)) rv_I0) (congrArg V.int (Int.ofNat_sub (by omega)).symm)) fun G3 e3 => ?_
  try dsimp only [gName]
  show tRet _ _ [some (.ref a), some (.int (un : Int)), some (.int (cl : Int)), some (.ref t), some (.bl g), some (.int (u : Int)), some (.int (c : Int)), some (.int (q.num.toNat : Int)), some (.int (q.den : Int)), some (.int ((q.num.toNat - cl * q.den : Nat) : Int))] G3
  have uz : u < 2 ^ 300000 := up uzz0
  have cd : c * q.den < 2 ^ 300000 := up2 (Nat.lt_trans (Nat.mul_lt_mul_of_lt_of_lt (show c < 2 ^ 150 by omega) qd) (by rw [← Nat.pow_add]; exact Nat.pow_lt_pow_right (by decide) (by decide)))
  refine s_retQ (K := K) (eq_frac (K := K) (n := c * q.den * (un - cl) + (q.num.toNat - cl * q.den) * (u - c)) (b := q.den * (un - cl))
    (ev_is (ev_op (ev_op (ev_is (ev_op (ev_var (i := 6) rfl) (ev_var (i := 8) rfl) (rv_I (cmn (up (by omega)) dz))) (congrArg V.int (Int.natCast_mul c q.den).symm)) (ev_is (ev_op (ev_var (i := 1) rfl) (ev_var (i := 2) rfl) rv_I0) (congrArg V.int ewu)) (rv_I (cmn cd (up (by omega))))) (ev_op (ev_var (i := 9) rfl) (ev_is (ev_op (ev_var (i := 5) rfl) (ev_var (i := 6) rfl) rv_I0) (congrArg V.int euc)) (rv_I (cmn (Nat.lt_of_le_of_lt (Nat.sub_le _ _) nz) (Nat.lt_of_le_of_lt (Nat.sub_le _ _) uz)))) rv_I0) (congrArg V.int (by rw [Int.natCast_add, Int.natCast_mul (c * q.den), Int.natCast_mul c, Int.natCast_mul (q.num.toNat - cl * q.den)])))
    (ev_is (ev_op (ev_var (i := 8) rfl) (ev_is (ev_op (ev_var (i := 1) rfl) (ev_var (i := 2) rfl) rv_I0) (congrArg V.int ewu)) (rv_I (cmn dz (up (by omega))))) (by rw [Int.natCast_mul])) (Nat.mul_pos q.den_pos (Nat.sub_pos_of_lt hlt)) ?_) fun v' G4 e4 hv' => k v' G4 (Same.trans e (Same.trans e2 (Same.trans e3 e4))) ?_
  · exact Nat.lt_trans (Nat.mul_lt_mul_of_lt_of_lt qd (show un - cl < 2 ^ 150 by omega)) e9
  · rw [child_more q0 (by omega) hlt cu] at hv'
    unfold childQ
    rw [if_neg hge', if_pos ⟨hg, by exact_mod_cast hlt⟩]
    exact hv'
end
end Bd
end

section
namespace Bd
open PySem L2 Am
/-! sizes, with any bounds (LM has them for what the laws mostly draw) -/
section
variable {rows : List RowM}
/-- how great uses grow -/
theorem uzG {M B L : Nat} {u U : Str → Rat} (M0 : 0 < M) (L0 : 0 < L) (hU : ∀ r ∈ rows, U r.name = if kidsOf rows (Sum.inr r.name) = [] then u r.name else sumQ ((kidsOf rows (Sum.inr r.name)).map U)) (ok : RowsOk rows) (len : rows.length ≤ L) (hu : ∀ n, InMS M B (u n)) : ∀ r ∈ rows, InMS M (B * L ^ L) (U r.name) := by
  have key : ∀ i, ∀ j r, rows[j]? = some r → rows.length ≤ j + i → InMS M (B * L ^ i) (U r.name) := by
    intro i
    induction i with
    | zero =>
      intro j r hj hl
      have := (List.getElem?_eq_some_iff.mp hj).1
      omega
    | succ i ih =>
      intro j r hj hl
      rw [hU r (List.mem_of_getElem? hj)]
      split
      · exact (hu _).up (Nat.dvd_refl _) (Nat.le_mul_of_pos_right _ (Nat.pow_pos L0))
      · have kin : ∀ x ∈ kidsOf rows (Sum.inr r.name), InMS M (B * L ^ i) (U x) := fun x hx => by
          obtain ⟨m, z, hm, rfl, _, hlt⟩ := kid_ix ok hj hx
          exact ih m z hm (by omega)
        have h1 : Of M (sumQ ((kidsOf rows (Sum.inr r.name)).map U)) := sum_of M0 of_zero fun q hq => by
          obtain ⟨x, hx, rfl⟩ := List.mem_map.mp hq
          exact (kin x hx).of M0
        have h2 := sum_bd (S := B * L ^ i) (qs := (kidsOf rows (Sum.inr r.name)).map U) (s := 0) (k := 0) Rat.le_refl (by simp) fun q hq => by
          obtain ⟨x, hx, rfl⟩ := List.mem_map.mp hq
          exact ⟨(kin x hx).lo, (kin x hx).hi⟩
        refine ⟨of_den M0 h1, h2.1, Rat.le_trans h2.2 ?_⟩
        have hk := kids_le rows (Sum.inr r.name)
        have : B * L ^ i * (0 + ((kidsOf rows (Sum.inr r.name)).map U).length) ≤ B * L ^ (i + 1) := by
          show B * L ^ i * _ ≤ B * (L ^ i * L)
          rw [← Nat.mul_assoc, List.length_map]
          exact Nat.mul_le_mul_left _ (by omega)
        exact_mod_cast this
  intro r hr
  obtain ⟨j, hj⟩ := List.mem_iff_getElem?.mp hr
  exact key L j r hj (by omega)
end
/-- what a child gets: within its use, and not too long -/
theorem part_bdG {M S m s : Nat} {a un : Rat} {kids : List Str} {U c : Str → Rat} {h : Bool} (o : PartOk M S a un kids U c) (hM : M < 2 ^ m) (hS : S < 2 ^ s) (clu : sumQ (kids.map c) ≤ (S : Rat)) {x : Str} (hx : x ∈ kids) :
    0 ≤ partQ h a un (sumQ (kids.map c)) U c x ∧ partQ h a un (sumQ (kids.map c)) U c x ≤ U x ∧ (partQ h a un (sumQ (kids.map c)) U c x).den ≤ a.den * 2 ^ (3 * m + s) := by
  have hc := o.kc x hx
  have hU := o.ku x hx
  have cu := o.cu x hx
  have clin : InMS M S (sumQ (kids.map c)) := ⟨o.cl.den, o.cl.lo, clu⟩
  have cd : ∀ {q : Rat}, InMS M S q → q.den < 2 ^ m := fun h => Nat.lt_of_le_of_lt (h.denle o.M0) hM
  have cn : ∀ {q : Rat}, InMS M S q → q.num.natAbs < 2 ^ (s + m) := fun h => h.nlt o.M0 hM hS
  have one : ∀ {q : Rat}, q.den < 2 ^ m → q.den ≤ a.den * 2 ^ (3 * m + s) := fun {q} h => by
    have := Nat.le_mul_of_pos_left (2 ^ (3 * m + s)) a.den_pos
    have : (2 : Nat) ^ m ≤ 2 ^ (3 * m + s) := Nat.pow_le_pow_right (by decide) (by omega)
    omega
  unfold partQ
  by_cases l : a < sumQ (kids.map c)
  · rw [if_pos l]
    have lp := o.clp l
    have r0 : 0 ≤ a / sumQ (kids.map c) := by
      rw [Rat.div_def]
      exact Rat.mul_nonneg o.a0 (Rat.le_of_lt (Rat.inv_pos.mpr lp))
    have r1 : a / sumQ (kids.map c) ≤ 1 := by
      rw [Rat.div_def]
      have := Rat.mul_le_mul_of_nonneg_right (Rat.le_of_lt l) (Rat.le_of_lt (Rat.inv_pos.mpr lp))
      rwa [Rat.mul_inv_cancel _ (fun e => by rw [e] at lp; exact absurd lp (by decide))] at this
    have m1 := Rat.mul_le_mul_of_nonneg_left r1 hc.lo
    rw [Rat.mul_one] at m1
    refine ⟨Rat.mul_nonneg hc.lo r0, Rat.le_trans m1 cu, ?_⟩
    obtain ⟨q1, q2⟩ := quot_sz o.a0 lp
    have e1 : (c x * (a / sumQ (kids.map c))).den ∣ M * (a / sumQ (kids.map c)).den := of_den (Nat.mul_pos o.M0 (Rat.den_pos _)) ((hc.of o.M0).mul (den_of (Nat.dvd_refl _) (Rat.den_pos _)))
    have e2 := Nat.le_of_dvd (Nat.mul_pos o.M0 (Rat.den_pos _)) e1
    refine Nat.le_trans e2 (Nat.le_trans (Nat.mul_le_mul (Nat.le_of_lt hM) (Nat.le_trans q2 (Nat.mul_le_mul_left _ (Nat.le_of_lt (cn clin))))) ?_)
    have : 2 ^ m * (a.den * 2 ^ (s + m)) = a.den * 2 ^ (2 * m + s) := by
      rw [Nat.mul_left_comm, ← Nat.pow_add]
      congr 2
      omega
    rw [this]
    exact Nat.mul_le_mul_left _ (Nat.pow_le_pow_right (by decide) (by omega))
  · rw [if_neg l]
    by_cases g : h = true ∧ sumQ (kids.map c) < un
    · rw [if_pos g]
      obtain ⟨r0, r1, _, _⟩ := o.rr l g.2
      have d1 := o.d1 l
      have d2 := o.d2 g.2
      have p1 : 0 ≤ a - sumQ (kids.map c) := d1.lo
      have p2 : 0 < un - sumQ (kids.map c) := by have := g.2; grind
      obtain ⟨q1, q2⟩ := quot_sz p1 p2
      generalize hr : (a - sumQ (kids.map c)) / (un - sumQ (kids.map c)) = r at r0 r1 q1 q2 ⊢
      have b := o.beyond hx
      have m1 := Rat.mul_le_mul_of_nonneg_left r1 b.lo
      rw [Rat.mul_one] at m1
      have m0 := Rat.mul_nonneg b.lo r0
      have c0 := hc.lo
      refine ⟨by grind, by grind, ?_⟩
      have pm : 0 < M * r.den := Nat.mul_pos o.M0 r.den_pos
      have e1 : Of (M * r.den) ((U x - c x) * r) := (b.of o.M0).mul (den_of (Nat.dvd_refl _) r.den_pos)
      have e2 : Of (M * r.den) (c x) := (hc.of o.M0).up _ r.den_pos
      have e3 := Nat.le_of_dvd pm (of_den pm (e2.add pm e1))
      have e4 : r.den ≤ (a.den * 2 ^ m) * 2 ^ (s + m) := Nat.le_trans q2 (Nat.mul_le_mul (Nat.le_trans (d1.denle o.m1.1) (Nat.mul_le_mul_left _ (Nat.le_of_lt hM))) (Nat.le_of_lt (cn d2)))
      refine Nat.le_trans e3 (Nat.le_trans (Nat.mul_le_mul (Nat.le_of_lt hM) e4) ?_)
      have : 2 ^ m * (a.den * 2 ^ m * 2 ^ (s + m)) = a.den * 2 ^ (3 * m + s) := by
        rw [Nat.mul_assoc, ← Nat.pow_add, Nat.mul_left_comm, ← Nat.pow_add]
        congr 2
        omega
      rw [this]
      exact Nat.le_refl _
    · rw [if_neg g]
      exact ⟨hc.lo, cu, one (cd hc)⟩

/-- groups with two children and more -/
def wideB (rows : List RowM) (r : RowM) : Bool := decide (2 ≤ (kidsOf rows (Sum.inr r.name)).length)
def wideN (rows : List RowM) : Nat := (rows.filter (wideB rows)).length
structure Bds (rows : List RowM) (M S m s : Nat) (k U : Str → Rat) : Prop where
  M0 : 0 < M
  hM : M < 2 ^ m
  hS : S < 2 ^ s
  hm : m ≤ 199
  hs : s ≤ 199
  ll : (3 * m + s) * rows.length ≤ 1499 ∨ (3 * m + s) * (wideN rows + 1) ≤ 1499
  len : rows.length ≤ 200
  uz : ∀ r ∈ rows, InMS M S (U r.name)
  kz : ∀ r ∈ rows, InMS M S (k r.name)
section
variable {rows : List RowM} {top : Str} {h : Bool} {k u U c p : Str → Rat} {M S m s : Nat}
theorem Bds.cz (B : Bds rows M S m s k U) (R : Reck rows top h k u U c p) {r : RowM} (hr : r ∈ rows) : InMS M S (c r.name) ∧ c r.name ≤ U r.name := by
  rw [R.cl r hr]
  split
  · rename_i z
    exact ⟨B.kz r hr, Rat.le_of_lt z⟩
  · exact ⟨B.uz r hr, Rat.le_refl⟩
theorem Bds.clu (B : Bds rows M S m s k U) (R : Reck rows top h k u U c p) {r : RowM} (hr : r ∈ rows) {x : Str} (hx : x ∈ kidsOf rows (Sum.inr r.name)) : sumQ ((kidsOf rows (Sum.inr r.name)).map c) ≤ U r.name := by
  rw [R.use r hr, if_neg (fun e => by rw [e] at hx; cases hx)]
  exact sum_le fun y hy => by
    obtain ⟨m, z, hm, rfl, _⟩ := kid_row hy
    exact (B.cz R (List.mem_of_getElem? hm)).2
theorem Bds.po (B : Bds rows M S m s k U) (R : Reck rows top h k u U c p) {r : RowM} (hr : r ∈ rows) (p0 : 0 ≤ p r.name) (p1 : p r.name ≤ U r.name) (p2 : (p r.name).den < 2 ^ 1500) : PartOk M S (p r.name) (U r.name) (kidsOf rows (Sum.inr r.name)) U c := by
  have kr : ∀ x ∈ kidsOf rows (Sum.inr r.name), ∃ q ∈ rows, q.name = x := fun x hx => by
    obtain ⟨m, z, hm, e, _⟩ := kid_row hx
    exact ⟨z, List.mem_of_getElem? hm, e⟩
  refine ⟨B.M0, lt_up B.hM (by have := B.hm; omega), lt_up B.hS (by have := B.hs; omega), Nat.le_trans (kids_le rows _) B.len, fun x hx => ?_, fun x hx => ?_, fun x hx => ?_, B.uz r hr, p0, p1, p2⟩
  · obtain ⟨q, hq, rfl⟩ := kr x hx
    exact B.uz q hq
  · obtain ⟨q, hq, rfl⟩ := kr x hx
    exact (B.cz R hq).1
  · obtain ⟨q, hq, rfl⟩ := kr x hx
    exact (B.cz R hq).2
theorem ll_lt {n L j : Nat} (h : n * L ≤ 1499) (hj : j < L) : n * (j + 1) < 1500 := by
  have : n * (j + 1) ≤ n * L := Nat.mul_le_mul_left _ hj
  omega
theorem Bds.pz (hll : (3 * m + s) * rows.length ≤ 1499) (B : Bds rows M S m s k U) (R : Reck rows top h k u U c p) (ok : RowsOk rows) : ∀ (j : Nat) (r : RowM), rows[j]? = some r → r.name ∈ belowL rows top → 0 ≤ p r.name ∧ p r.name ≤ U r.name ∧ (p r.name).den ≤ 2 ^ ((3 * m + s) * (j + 1)) := by
  intro j
  induction j using Nat.strongRecOn with
  | ind j ih =>
    intro r hj hb
    have hr := List.mem_of_getElem? hj
    have lj := (List.getElem?_eq_some_iff.mp hj).1
    obtain ⟨hc, cu⟩ := B.cz R hr
    rw [R.up r hr]
    by_cases e : r.above = top
    · rw [if_pos e]
      refine ⟨hc.lo, cu, Nat.le_trans (hc.denle B.M0) ?_⟩
      refine Nat.le_trans (Nat.le_of_lt B.hM) (Nat.pow_le_pow_right (by decide) ?_)
      rw [Nat.mul_add, Nat.mul_one]
      omega
    · rw [if_neg e]
      obtain ⟨l, hl⟩ := List.mem_iff_getElem?.mp hb
      obtain ⟨r', hr', en, hup⟩ := below_up ok hl
      have : r' = r := by
        obtain ⟨j', hj'⟩ := List.mem_iff_getElem?.mp hr'
        have := row_inj (nms_nd ok) hj' hj en
        subst this
        rw [hj] at hj'
        exact (Option.some.inj hj').symm
      subst this
      have hab : r'.above ∈ belowL rows top := List.mem_of_mem_take (hup.resolve_left e)
      rcases row_up ok hj with z | ⟨i, y, hi, hy, z⟩
      · have := below_nms hab
        rw [z] at this
        exact absurd this (nms_ne ok)
      · obtain ⟨q0, q1, q2⟩ := ih i hi y hy (by rw [z]; exact hab)
        have hym := List.mem_of_getElem? hy
        have ly := (List.getElem?_eq_some_iff.mp hy).1
        have bl : (p y.name).den < 2 ^ 1500 := Nat.lt_of_le_of_lt q2 (Nat.pow_lt_pow_right (by decide) (ll_lt hll ly))
        have kx : r'.name ∈ kidsOf rows (Sum.inr y.name) := by rw [z]; exact kid_of hr
        have po := B.po R hym q0 q1 bl
        have := part_bdG (h := h) po B.hM B.hS (Rat.le_trans (B.clu R hym kx) (B.uz y hym).hi) kx
        rw [← z]
        refine ⟨this.1, this.2.1, Nat.le_trans this.2.2 ?_⟩
        refine Nat.le_trans (Nat.mul_le_mul_right _ q2) ?_
        rw [← Nat.pow_add]
        refine Nat.pow_le_pow_right (by decide) ?_
        have : (3 * m + s) * (i + 1) + (3 * m + s) = (3 * m + s) * (i + 2) := by rw [Nat.mul_add, Nat.mul_add]; omega
        rw [this]
        exact Nat.mul_le_mul_left _ (by omega)
def wn (rows : List RowM) (j : Nat) : Nat := ((rows.take j).filter (wideB rows)).length
theorem wn_mono {i j : Nat} (h : i ≤ j) : wn rows i ≤ wn rows j :=
  ((List.take_sublist_take_left h).filter _).length_le
theorem wn_le (i : Nat) : wn rows i ≤ wideN rows := ((List.take_sublist i rows).filter _).length_le
theorem wn_step {i j : Nat} {y : RowM} (h : i < j) (hy : rows[i]? = some y) (w : wideB rows y = true) : wn rows i + 1 ≤ wn rows j := by
  refine Nat.le_trans (Nat.le_of_eq ?_) (wn_mono (show i + 1 ≤ j from h))
  unfold wn
  rw [List.take_add_one, hy, List.filter_append, List.length_append]
  show _ = _ + ([y].filter (wideB rows)).length
  rw [List.filter_cons_of_pos w]
  rfl
theorem one_kid {y : RowM} {x : Str} (kx : x ∈ kidsOf rows (Sum.inr y.name)) (w : ¬ wideB rows y = true) : kidsOf rows (Sum.inr y.name) = [x] := by
  unfold wideB at w
  have w : ¬ 2 ≤ (kidsOf rows (Sum.inr y.name)).length := fun z => w (decide_eq_true z)
  cases e : kidsOf rows (Sum.inr y.name) with
  | nil => rw [e] at kx; cases kx
  | cons a t =>
    cases t with
    | nil =>
      rw [e] at kx
      rw [List.mem_singleton.mp kx]
    | cons b t =>
      rw [e] at w
      exact absurd (by simp) w
/-- an only child has what the group has, or its claim -/
theorem part_only {a un : Rat} {x : Str} (a0 : 0 ≤ a) (a1 : a ≤ un) (eU : un = U x) (c0 : 0 ≤ c x) (cu : c x ≤ U x) : partQ h a un (c x) U c x = a ∨ partQ h a un (c x) U c x = c x := by
  unfold partQ
  by_cases l : a < c x
  · rw [if_pos l]
    left
    rw [Rat.mul_comm]
    exact Rat.div_mul_cancel (by grind)
  · rw [if_neg l]
    by_cases g : h = true ∧ c x < un
    · rw [if_pos g]
      left
      have : (a - c x) / (un - c x) * (un - c x) = a - c x := Rat.div_mul_cancel (by have := g.2; grind)
      rw [← eU, Rat.mul_comm, this]
      grind
    · rw [if_neg g]
      right
      rfl
theorem Bds.pz2 (hll : (3 * m + s) * (wideN rows + 1) ≤ 1499) (B : Bds rows M S m s k U) (R : Reck rows top h k u U c p) (ok : RowsOk rows) : ∀ (j : Nat) (r : RowM), rows[j]? = some r → r.name ∈ belowL rows top → 0 ≤ p r.name ∧ p r.name ≤ U r.name ∧ (p r.name).den ≤ 2 ^ ((3 * m + s) * (wn rows j + 1)) := by
  intro j
  induction j using Nat.strongRecOn with
  | ind j ih =>
    intro r hj hb
    have hr := List.mem_of_getElem? hj
    have lj := (List.getElem?_eq_some_iff.mp hj).1
    obtain ⟨hc, cu⟩ := B.cz R hr
    rw [R.up r hr]
    by_cases e : r.above = top
    · rw [if_pos e]
      refine ⟨hc.lo, cu, Nat.le_trans (hc.denle B.M0) ?_⟩
      refine Nat.le_trans (Nat.le_of_lt B.hM) (Nat.pow_le_pow_right (by decide) ?_)
      rw [Nat.mul_add, Nat.mul_one]
      omega
    · rw [if_neg e]
      obtain ⟨l, hl⟩ := List.mem_iff_getElem?.mp hb
      obtain ⟨r', hr', en, hup⟩ := below_up ok hl
      have : r' = r := by
        obtain ⟨j', hj'⟩ := List.mem_iff_getElem?.mp hr'
        have := row_inj (nms_nd ok) hj' hj en
        subst this
        rw [hj] at hj'
        exact (Option.some.inj hj').symm
      subst this
      have hab : r'.above ∈ belowL rows top := List.mem_of_mem_take (hup.resolve_left e)
      rcases row_up ok hj with z | ⟨i, y, hi, hy, z⟩
      · have := below_nms hab
        rw [z] at this
        exact absurd this (nms_ne ok)
      · obtain ⟨q0, q1, q2⟩ := ih i hi y hy (by rw [z]; exact hab)
        have hym := List.mem_of_getElem? hy
        have ly := (List.getElem?_eq_some_iff.mp hy).1
        have bl : (p y.name).den < 2 ^ 1500 := Nat.lt_of_le_of_lt q2 (Nat.pow_lt_pow_right (by decide) (ll_lt hll (Nat.lt_succ_of_le (wn_le i))))
        have kx : r'.name ∈ kidsOf rows (Sum.inr y.name) := by rw [z]; exact kid_of hr
        have po := B.po R hym q0 q1 bl
        have hwn : wn rows i ≤ wn rows j := wn_mono (by omega)
        by_cases wd : wideB rows y = true
        · have hwi : wn rows i + 1 ≤ wn rows j := wn_step hi hy wd
          have := part_bdG (h := h) po B.hM B.hS (Rat.le_trans (B.clu R hym kx) (B.uz y hym).hi) kx
          rw [← z]
          refine ⟨this.1, this.2.1, Nat.le_trans this.2.2 ?_⟩
          refine Nat.le_trans (Nat.mul_le_mul_right _ q2) ?_
          rw [← Nat.pow_add]
          refine Nat.pow_le_pow_right (by decide) ?_
          have : (3 * m + s) * (wn rows i + 1) + (3 * m + s) = (3 * m + s) * (wn rows i + 2) := by rw [Nat.mul_add, Nat.mul_add]; omega
          rw [this]
          exact Nat.mul_le_mul_left _ (by omega)
        · have e1 : kidsOf rows (Sum.inr y.name) = [r'.name] := one_kid kx wd
          have eU : U y.name = U r'.name := by
            rw [R.use y hym, e1, if_neg (by simp)]
            show 0 + U r'.name = _
            grind
          have up : (2 : Nat) ^ ((3 * m + s) * (wn rows i + 1)) ≤ 2 ^ ((3 * m + s) * (wn rows j + 1)) := Nat.pow_le_pow_right (by decide) (Nat.mul_le_mul_left _ (by omega))
          rw [← z, e1]
          have es : sumQ (([r'.name] : List Str).map c) = c r'.name := by
            show 0 + c r'.name = _
            grind
          rw [es]
          have c0 := hc.lo
          rcases part_only (h := h) q0 q1 eU c0 cu with e2 | e2
          · rw [e2]
            exact ⟨q0, by rw [← eU]; exact q1, Nat.le_trans q2 up⟩
          · rw [e2]
            refine ⟨c0, cu, Nat.le_trans (hc.denle B.M0) (Nat.le_trans (Nat.le_of_lt B.hM) (Nat.pow_le_pow_right (by decide) ?_))⟩
            rw [Nat.mul_add, Nat.mul_one]
            omega
theorem Bds.p0 (B : Bds rows M S m s k U) (R : Reck rows top h k u U c p) (ok : RowsOk rows) : ∀ n ∈ belowL rows top, 0 ≤ p n ∧ p n ≤ U n ∧ (p n).den < 2 ^ 1500 ∧ Sz (p n) := fun n hn => by
  obtain ⟨r, hr, rfl⟩ := List.mem_map.mp (below_nms hn)
  obtain ⟨j, hj⟩ := List.mem_iff_getElem?.mp hr
  have lj := (List.getElem?_eq_some_iff.mp hj).1
  obtain ⟨a, b, d2⟩ : 0 ≤ p r.name ∧ p r.name ≤ U r.name ∧ (p r.name).den < 2 ^ 1500 := by
    rcases B.ll with hll | hll
    · obtain ⟨a, b, d⟩ := B.pz hll R ok j r hj hn
      exact ⟨a, b, Nat.lt_of_le_of_lt d (Nat.pow_lt_pow_right (by decide) (ll_lt hll lj))⟩
    · obtain ⟨a, b, d⟩ := B.pz2 hll R ok j r hj hn
      exact ⟨a, b, Nat.lt_of_le_of_lt d (Nat.pow_lt_pow_right (by decide) (ll_lt hll (Nat.lt_succ_of_le (wn_le j))))⟩
  refine ⟨a, b, d2, Nat.lt_of_le_of_lt (num_le a (Rat.le_trans b (B.uz r hr).hi)) ?_, lt_up d2 (by decide)⟩
  have := B.hs
  exact lt_up (lt_mul2 B.hS d2) (by omega)
theorem Bds.held (B : Bds rows M S m s k U) (R : Reck rows top h k u U c p) (ok : RowsOk rows) : HeldOk rows top h k U c p M S := by
  have row : ∀ {n : Str}, n ∈ nms rows → ∃ r ∈ rows, r.name = n := fun h => by
    obtain ⟨r, hr, e⟩ := List.mem_map.mp h
    exact ⟨r, hr, e⟩
  refine ⟨B.M0, lt_up B.hM (by have := B.hm; omega), lt_up B.hS (by have := B.hs; omega), fun n hn => ?_, fun n hn => ?_, fun n hn hk0 => ?_, fun n hn => ?_, fun n hn => ?_, fun n hn x hx => ?_, fun n hn => ?_⟩
  · obtain ⟨r, hr, rfl⟩ := row (below_nms hn)
    exact B.uz r hr
  · obtain ⟨r, hr, rfl⟩ := row (below_nms hn)
    exact B.kz r hr
  · obtain ⟨r, hr, rfl⟩ := row (below_nms hn)
    rw [R.use r hr, if_neg hk0]
  · obtain ⟨r, hr, rfl⟩ := row (below_nms hn)
    exact R.cl r hr
  · obtain ⟨m, z, hm, rfl, ha⟩ := kid_row hn
    rw [R.up z (List.mem_of_getElem? hm), if_pos ha]
  · obtain ⟨m, z, hm, rfl, ha⟩ := kid_row hx
    have hz := List.mem_of_getElem? hm
    have ne : z.above ≠ top := fun e => by
      rw [ha] at e
      subst e
      exact top_nin ok n hn
    rw [R.up z hz, if_neg ne, ha]
  · obtain ⟨a, b, d, _⟩ := B.p0 R ok n hn
    exact ⟨a, b, d⟩
end
end Bd
end

section
namespace Bd
open PySem L2 Am
/-! few groups have two children -/
def cntL (rs : List RowM) (n : Str) : Nat := (rs.filter fun r => decide (r.above = n)).length
theorem one_cnt (x : Str) : ∀ {ys : List Str}, ys.Nodup → ((ys.map fun y => if x = y then 1 else 0).sum : Nat) ≤ 1
  | [], _ => by simp
  | y :: ys, nd => by
    obtain ⟨h1, h2⟩ := List.nodup_cons.mp nd
    have ih := one_cnt x h2
    rw [List.map_cons, List.sum_cons]
    by_cases c : x = y
    · subst c
      have z : ∀ {zs : List Str}, x ∉ zs → ((zs.map fun y => if x = y then 1 else 0).sum : Nat) = 0 := by
        intro zs
        induction zs with
        | nil => intro _; rfl
        | cons b t ih2 =>
          intro hz
          rw [List.map_cons, List.sum_cons, if_neg (fun (e : x = b) => hz (e ▸ List.mem_cons_self)), ih2 fun m => hz (List.mem_cons_of_mem _ m)]
      rw [if_pos rfl, z h1]
      omega
    · rw [if_neg c]
      omega
theorem cnt_le {ys : List Str} (nd : ys.Nodup) : ∀ rs : List RowM, ((ys.map (cntL rs)).sum : Nat) ≤ rs.length
  | [] => by
    have : ∀ zs : List Str, ((zs.map (cntL [])).sum : Nat) = 0 := by
      intro zs
      induction zs with
      | nil => rfl
      | cons b t ih => rw [List.map_cons, List.sum_cons, ih]; rfl
    rw [this]
    exact Nat.zero_le _
  | r :: rs => by
    have ih := cnt_le nd rs
    have h1 := one_cnt r.above nd
    have e : ∀ zs : List Str, ((zs.map (cntL (r :: rs))).sum : Nat) = (zs.map (cntL rs)).sum + (zs.map fun y => if r.above = y then 1 else 0).sum := by
      intro zs
      induction zs with
      | nil => rfl
      | cons b t ih2 =>
        rw [List.map_cons, List.sum_cons, ih2, List.map_cons, List.sum_cons, List.map_cons, List.sum_cons]
        have : cntL (r :: rs) b = cntL rs b + if r.above = b then 1 else 0 := by
          unfold cntL
          by_cases c : r.above = b
          · rw [List.filter_cons_of_pos (by rw [decide_eq_true c]), List.length_cons, if_pos c]
          · rw [List.filter_cons_of_neg (by rw [decide_eq_false c]; decide), if_neg c]
            rfl
        omega
    rw [e, List.length_cons]
    omega
theorem wide_few {rs : List RowM} (rok : RowsOk rs) : 2 * wideN rs ≤ rs.length := by
  have h := cnt_le (nms_nd rok) rs
  have kc : ∀ r : RowM, (kidsOf rs (Sum.inr r.name)).length = cntL rs r.name := fun r => by
    unfold kidsOf cntL
    rw [List.length_map]
    congr 1
    exact List.filter_congr fun z _ => by simp
  have e : ∀ zs : List RowM, 2 * (zs.filter (wideB rs)).length ≤ ((zs.map fun r => cntL rs r.name).sum : Nat) := by
    intro zs
    induction zs with
    | nil => exact Nat.zero_le _
    | cons b t ih =>
      rw [List.map_cons, List.sum_cons]
      by_cases c : wideB rs b = true
      · rw [List.filter_cons_of_pos c, List.length_cons]
        have := of_decide_eq_true c
        rw [kc] at this
        omega
      · rw [List.filter_cons_of_neg c]
        omega
  have h2 := e rs
  unfold wideN
  unfold nms at h
  rw [List.map_map] at h
  exact Nat.le_trans h2 h
theorem sum_natQ : ∀ {xs : List Nat}, sumQ (xs.map fun n : Nat => (n : Rat)) = ((xs.sum : Nat) : Rat)
  | [] => rfl
  | a :: t => by
    have e : sumQ ((a :: t).map fun n : Nat => (n : Rat)) = (a : Rat) + sumQ (t.map fun n : Nat => (n : Rat)) := by
      rw [List.map_cons]
      exact sum_cons _ _
    rw [e, sum_natQ, List.sum_cons, Rat.natCast_add]
theorem rows_okA {rs : List RowM} (nd : (nms rs).Nodup) (hn : ∀ r ∈ rs, NameOk r.name) (hd : ∀ r ∈ rs, DuesAm ["min", "low"] r.dues) (ha : ∀ (i : Nat) r, rs[i]? = some r → r.above = "" ∨ r.above ∈ nms (rs.take i)) : RowsOk rs := by
  intro i r hr
  have hm := List.mem_of_getElem? hr
  refine ⟨hn r hm, dues_dokA w2ok (hd r hm), fun q hq e => ?_, ?_⟩
  · obtain ⟨j, hj⟩ := List.mem_iff_getElem?.mp hq
    have lj := (List.getElem?_eq_some_iff.mp hj).1
    rw [List.length_take] at lj
    rw [List.getElem?_take_of_lt (by omega)] at hj
    have h1 : (nms rs)[j]? = some q.name := by
      unfold nms
      rw [List.getElem?_map, hj]
      rfl
    have h2 : (nms rs)[i]? = some r.name := by
      unfold nms
      rw [List.getElem?_map, hr]
      rfl
    rw [e] at h1
    obtain ⟨l1, z1⟩ := List.getElem?_eq_some_iff.mp h1
    obtain ⟨l2, z2⟩ := List.getElem?_eq_some_iff.mp h2
    have := (List.getElem_inj nd (h₀ := l1) (h₁ := l2)).mp (z1.trans z2.symm)
    omega
  · rcases ha i r hr with e | m
    · exact .inl e
    · obtain ⟨q, hq, e⟩ := List.mem_map.mp m
      exact .inr ⟨q, hq, e, dues_topsA w2ok (hd q (List.mem_of_mem_take hq))⟩
def natAt (ns : List Str) (vs : List Nat) (x : Str) : Rat := (((vs[ns.idxOf x]?).getD 0 : Nat) : Rat)
theorem nat_at {ns : List Str} {vs : List Nat} (nd : ns.Nodup) {i : Nat} {x : Str} (h : ns[i]? = some x) : natAt ns vs x = (((vs[i]?).getD 0 : Nat) : Rat) := by
  obtain ⟨l, e⟩ := List.getElem?_eq_some_iff.mp h
  unfold natAt
  rw [← e, nd.idxOf_getElem]
theorem nat_off {ns : List Str} {vs : List Nat} {x : Str} (h : x ∉ ns) (ll : vs.length = ns.length) : natAt ns vs x = 0 := by
  unfold natAt
  rw [List.idxOf_eq_length h, List.getElem?_eq_none (by omega)]
  rfl
def at0 (vs : List Nat) (i : Nat) : Nat := (vs[i]?).getD 0

theorem at_range {k : Nat} {f : Nat → Nat} {i : Nat} (h : i < k) : at0 ((List.range k).map f) i = f i := by
  unfold at0
  rw [List.getElem?_map, List.getElem?_range h]
  rfl
theorem at_off {vs : List Nat} {i : Nat} (h : vs.length ≤ i) : at0 vs i = 0 := by
  unfold at0
  rw [List.getElem?_eq_none h]
  rfl
theorem at_some {vs : List Nat} {m v : Nat} (h : vs[m]? = some v) : at0 vs m = v := by
  unfold at0
  rw [h]
  rfl
theorem at_lt {vs : List Nat} {S m : Nat} (h : ∀ v ∈ vs, v ≤ S) : at0 vs m ≤ S := by
  unfold at0
  cases z : vs[m]? with
  | none => exact Nat.zero_le _
  | some v => exact h v (List.mem_of_getElem? z)
theorem nat_ms1 {c S : Nat} (h : c ≤ S) : InMS 1 S ((c : Nat) : Rat) := ⟨by rw [Rat.den_natCast]; exact Nat.one_dvd _, Rat.natCast_nonneg, Rat.natCast_le_natCast.mpr h⟩
theorem min_castQ {a b : Nat} : (if ((b : Nat) : Rat) < ((a : Nat) : Rat) then ((b : Nat) : Rat) else ((a : Nat) : Rat)) = ((min a b : Nat) : Rat) := by
  by_cases c : ((b : Nat) : Rat) < ((a : Nat) : Rat)
  · have : b < a := by exact_mod_cast c
    rw [if_pos c, Nat.min_eq_right (by omega)]
  · have : ¬ b < a := fun z => c (by exact_mod_cast z)
    rw [if_neg c, Nat.min_eq_left (by omega)]
/-! the wide group -/
def rowW (n : Str) (m : Nat) : RowM := ⟨n, "p", [("min", amtD ((m : Nat) : Rat))]⟩
def kidsW (ns : List Str) (ss : List Nat) : List RowM := (List.range ns.length).map fun i => rowW ((ns[i]?).getD "") (at0 ss i)
def rowsW (own : Nat) (ns : List Str) (ss : List Nat) : List RowM := ⟨"p", "", [("min", amtD ((own : Nat) : Rat))]⟩ :: kidsW ns ss
def kW (own : Nat) (ns : List Str) (ss : List Nat) (x : Str) : Rat := if x = "p" then ((own : Nat) : Rat) else natAt ns ss x
def clW (n : Nat) (us ss : List Nat) : List Nat := (List.range n).map fun i => min (at0 us i) (at0 ss i)
structure WideOk (ns : List Str) : Prop where
  nd : ns.Nodup
  np : ("p" : Str) ∉ ns
  ne : ns ≠ []
  nm : ∀ x ∈ ns, NameOk x
  n0 : ("" : Str) ∉ ns
section
variable {own : Nat} {ns : List Str} {ss us : List Nat}
theorem kidsW_nms : nms (kidsW ns ss) = ns := by
  unfold nms kidsW
  rw [List.map_map]
  apply List.ext_getElem?
  intro i
  rw [List.getElem?_map]
  by_cases h : i < ns.length
  · rw [List.getElem?_range h, List.getElem?_eq_getElem h]
    show some (((ns[i]?).getD "" : Str)) = some ns[i]
    rw [List.getElem?_eq_getElem h]
    rfl
  · rw [List.getElem?_eq_none (by rw [List.length_range]; omega), List.getElem?_eq_none (by omega)]
    rfl
theorem rowsW_nms : nms (rowsW own ns ss) = ("p" : Str) :: ns := by
  show ("p" : Str) :: nms (kidsW ns ss) = _
  rw [kidsW_nms]
theorem kidW_at {r : RowM} (h : r ∈ kidsW ns ss) : ∃ i : Nat, ns[i]? = some r.name ∧ r = rowW r.name (at0 ss i) := by
  obtain ⟨i, hi, rfl⟩ := List.mem_map.mp h
  have l := List.mem_range.mp hi
  refine ⟨i, ?_, rfl⟩
  show ns[i]? = some ((ns[i]?).getD "")
  rw [List.getElem?_eq_getElem l]
  rfl
theorem rowsW_at {i : Nat} {x : Str} {m : Nat} (h : ns[i]? = some x) (hm : ss[i]? = some m) : (rowsW own ns ss)[i + 1]? = some (rowW x m) := by
  have l := (List.getElem?_eq_some_iff.mp h).1
  show (kidsW ns ss)[i]? = _
  unfold kidsW
  rw [List.getElem?_map, List.getElem?_range l]
  show some (rowW ((ns[i]?).getD "") (at0 ss i)) = _
  rw [h, at_some hm]
  rfl
theorem amW {a : Nat} (ha : a < 2 ^ 200) : DuesAm ["min", "low"] [("min", amtD ((a : Nat) : Rat))] := by
  refine ⟨[("min", ((a : Nat) : Rat))], rfl, by show (["min"] : List Str).Sublist ["min", "low"]; decide, fun z hz => ?_⟩
  rw [List.mem_singleton.mp hz]
  refine ⟨Rat.natCast_nonneg, ?_, ?_⟩
  · rw [Rat.num_natCast, Int.natAbs_natCast]
    exact lt_up ha (by decide)
  · rw [Rat.den_natCast]
    decide
theorem WideOk.rok (w : WideOk ns) (ho : own < 2 ^ 200) (hs : ∀ x ∈ ss, x < 2 ^ 200) : RowsOk (rowsW own ns ss) := by
  have at2 : ∀ i, at0 ss i < 2 ^ 200 := fun i => by
    unfold at0
    cases z : ss[i]? with
    | none => exact Nat.two_pow_pos _
    | some v => exact hs v (List.mem_of_getElem? z)
  refine rows_okA (by rw [rowsW_nms]; exact List.nodup_cons.mpr ⟨w.np, w.nd⟩) (fun r hr => ?_) (fun r hr => ?_) fun i r hr => ?_
  · rcases List.mem_cons.mp hr with rfl | hr
    · show NameOk ("p" : Str)
      have : 1 ≤ ("p" : Str).length ∧ ("p" : Str).length ≤ 10 ∧ ∀ c ∈ ("p" : Str).cps.toList, 97 ≤ c ∧ c ≤ 122 := by decide +kernel
      exact this
    · obtain ⟨i, hi, _⟩ := kidW_at hr
      exact w.nm _ (List.mem_of_getElem? hi)
  · rcases List.mem_cons.mp hr with rfl | hr
    · exact amW ho
    · obtain ⟨i, hi, rfl⟩ := List.mem_map.mp hr
      exact amW (at2 i)
  · match i, hr with
    | 0, hr => cases Option.some.inj hr; exact .inl rfl
    | j + 1, hr =>
      have hr : (kidsW ns ss)[j]? = some r := hr
      obtain ⟨i, _, rfl⟩ := List.mem_map.mp (List.mem_of_getElem? hr)
      exact .inr (List.mem_map.mpr ⟨_, List.mem_cons_self, rfl⟩)
theorem kidsW_p : kidsOf (rowsW own ns ss) (Sum.inr ("p" : Str)) = ns := by
  have : (rowsW own ns ss).filter (fun r => decide ((Sum.inr r.above : Key) = Sum.inr ("p" : Str))) = kidsW ns ss := by
    unfold rowsW
    rw [List.filter_cons_of_neg (by show ¬ decide ((Sum.inr ("" : Str) : Key) = Sum.inr ("p" : Str)) = true; decide)]
    refine List.filter_eq_self.mpr fun r hr => ?_
    obtain ⟨i, _, rfl⟩ := List.mem_map.mp hr
    exact decide_eq_true rfl
  unfold kidsOf
  rw [this]
  exact kidsW_nms
theorem abvW {r : RowM} (hr : r ∈ rowsW own ns ss) : r.above = "" ∧ r.name = "p" ∨ r.above = "p" ∧ r ∈ kidsW ns ss := by
  rcases List.mem_cons.mp hr with rfl | hr
  · exact .inl ⟨rfl, rfl⟩
  · obtain ⟨i, hi, rfl⟩ := List.mem_map.mp hr
    exact .inr ⟨rfl, List.mem_map.mpr ⟨i, hi, rfl⟩⟩
theorem kidsW_x {x : Str} (h0 : x ≠ "") (hp : x ≠ "p") : kidsOf (rowsW own ns ss) (Sum.inr x) = [] := by
  unfold kidsOf
  rw [List.map_eq_nil_iff, List.filter_eq_nil_iff]
  intro r hr h
  have e : r.above = x := Sum.inr.inj (of_decide_eq_true h)
  rcases abvW hr with z | z
  · exact h0 (e ▸ z.1)
  · exact hp (e ▸ z.1)
theorem WideOk.leaves (w : WideOk ns) : leavesOf (rowsW own ns ss) = ns := by
  have hp : leafB (rowsW own ns ss) ⟨"p", "", [("min", amtD ((own : Nat) : Rat))]⟩ = false := by
    unfold leafB
    rw [Bool.not_eq_false', List.any_eq_true]
    cases hn : ns with
    | nil => exact absurd hn w.ne
    | cons x t => exact ⟨rowW x (at0 ss 0), List.mem_cons_of_mem _ (List.mem_map.mpr ⟨0, List.mem_range.mpr (Nat.succ_pos _), rfl⟩), decide_eq_true rfl⟩
  have hk : (kidsW ns ss).filter (leafB (rowsW own ns ss)) = kidsW ns ss := by
    refine List.filter_eq_self.mpr fun r hr => ?_
    have hn : r.name ∈ nms (kidsW ns ss) := List.mem_map_of_mem hr
    rw [kidsW_nms] at hn
    unfold leafB
    rw [Bool.not_eq_true', List.any_eq_false]
    intro q hq h
    have e : q.above = r.name := of_decide_eq_true h
    rcases abvW hq with z | z
    · exact w.n0 (by rw [← z.1, e]; exact hn)
    · exact w.np (by rw [← z.1, e]; exact hn)
  unfold leavesOf
  show (List.filter _ (_ :: kidsW ns ss)).map _ = _
  rw [List.filter_cons_of_neg (by rw [hp]; decide), hk]
  exact kidsW_nms
theorem below_accW : ∀ {rs : List RowM} {acc : List Str}, ("p" : Str) ∈ acc → (∀ r ∈ rs, r.above = "p") → rs.foldl (bStep "") acc = acc ++ nms rs
  | [], acc, _, _ => by simp [nms]
  | r :: rs, acc, hp, h => by
    have e : bStep "" acc r = acc ++ [r.name] := if_pos (.inr (by rw [h r List.mem_cons_self]; exact hp))
    show rs.foldl (bStep "") (bStep "" acc r) = _
    rw [e, below_accW (List.mem_append_left _ hp) fun q hq => h q (List.mem_cons_of_mem _ hq), List.append_assoc]
    rfl
theorem belowW : belowL (rowsW own ns ss) "" = ("p" : Str) :: ns := by
  show (kidsW ns ss).foldl (bStep "") (bStep "" [] ⟨"p", "", [("min", amtD ((own : Nat) : Rat))]⟩) = _
  have e : bStep "" [] ⟨"p", "", [("min", amtD ((own : Nat) : Rat))]⟩ = ([("p" : Str)] : List Str) := if_pos (Or.inl rfl)
  rw [e, below_accW List.mem_cons_self fun r hr => by
    obtain ⟨i, _, rfl⟩ := List.mem_map.mp hr
    rfl, kidsW_nms]
  rfl
theorem due_minW {a : Rat} : dueOf (fullD [("min", amtD a)]) "min" = some (amtD a) := rfl
theorem natAt_at (nd : ns.Nodup) {vs : List Nat} {i : Nat} {x : Str} (h : ns[i]? = some x) : natAt ns vs x = ((at0 vs i : Nat) : Rat) := nat_at nd h
theorem WideOk.kind (w : WideOk ns) : KindOk (rowsW own ns ss) "min" (kW own ns ss) := by
  intro r hr
  rcases List.mem_cons.mp hr with rfl | hr
  · exact due_minW
  · obtain ⟨i, hi, e⟩ := kidW_at hr
    have hne : r.name ≠ "p" := fun z => w.np (z ▸ List.mem_of_getElem? hi)
    have e2 : kW own ns ss r.name = ((at0 ss i : Nat) : Rat) := by
      unfold kW
      rw [if_neg hne]
      exact natAt_at w.nd hi
    show dueOf (fullD r.dues) "min" = some (amtD (kW own ns ss r.name))
    rw [e2, e]
    exact due_minW
theorem map_natAt (nd : ns.Nodup) {vs : List Nat} (l : vs.length = ns.length) : ns.map (natAt ns vs) = vs.map fun n : Nat => (n : Rat) := by
  apply List.ext_getElem?
  intro i
  rw [List.getElem?_map, List.getElem?_map]
  by_cases h : i < ns.length
  · have e1 := List.getElem?_eq_getElem h
    have e2 := List.getElem?_eq_getElem (l := vs) (i := i) (by omega)
    rw [e1, e2]
    show some (natAt ns vs ns[i]) = some _
    rw [natAt_at nd e1, at_some e2]
  · rw [List.getElem?_eq_none (by omega), List.getElem?_eq_none (l := vs) (by omega)]
    rfl
theorem WideOk.wide (w : WideOk ns) : wideN (rowsW own ns ss) ≤ 1 := by
  have hk : (kidsW ns ss).filter (wideB (rowsW own ns ss)) = [] := by
    rw [List.filter_eq_nil_iff]
    intro r hr h
    obtain ⟨i, hi, _⟩ := kidW_at hr
    have hm := List.mem_of_getElem? hi
    have := of_decide_eq_true h
    rw [kidsW_x (fun z => w.n0 (z ▸ hm)) (fun z => w.np (z ▸ hm))] at this
    exact absurd this (by decide)
  unfold wideN
  show (List.filter _ (_ :: kidsW ns ss)).length ≤ 1
  by_cases c : wideB (rowsW own ns ss) ⟨"p", "", [("min", amtD ((own : Nat) : Rat))]⟩ = true
  · rw [List.filter_cons_of_pos c, hk]
    exact Nat.le_refl _
  · rw [List.filter_cons_of_neg c, hk]
    exact Nat.zero_le _
/-- what is protected in the wide tree -/
theorem WideOk.math (w : WideOk ns) {S : Nat} {g : Bool} (len : ns.length ≤ 100) (lu : us.length = ns.length) (ls : ss.length = ns.length) (hu : ∀ x ∈ us, x ≤ S) (hs : ∀ x ∈ ss, x ≤ S) (ho : own ≤ S * 100) (hS : S < 2 ^ 134) :
    ∃ U c p, HeldOk (rowsW own ns ss) "" g (kW own ns ss) U c p 1 (S * 100) ∧ (∀ n ∈ ns, U n = natAt ns us n) ∧ p "p" = ((min us.sum own : Nat) : Rat) ∧
      ∀ (i : Nat) x, ns[i]? = some x → p x = childQ g ((min us.sum own : Nat) : Rat) ((us.sum : Nat) : Rat) (((clW ns.length us ss).sum : Nat) : Rat) ((at0 us i : Nat) : Rat) ((min (at0 us i) (at0 ss i) : Nat) : Rat) := by
  have S100 : S * 100 < 2 ^ 141 := by omega
  have rok : RowsOk (rowsW own ns ss) := w.rok (lt_up (Nat.lt_of_le_of_lt ho S100) (by decide)) fun x hx => lt_up (Nat.lt_of_le_of_lt (hs x hx) hS) (by decide)
  obtain ⟨U, hU⟩ := use_ex rok (natAt ns us)
  obtain ⟨p, R⟩ := reck_of rok "" g (kW own ns ss) (natAt ns us) U hU
  have hne : ∀ {x : Str}, x ∈ ns → x ≠ "" ∧ x ≠ "p" := fun hx => ⟨fun z => w.n0 (z ▸ hx), fun z => w.np (z ▸ hx)⟩
  have rowK : ∀ {i : Nat} {x : Str}, ns[i]? = some x → rowW x (at0 ss i) ∈ rowsW own ns ss := fun {i x} h => by
    have l := (List.getElem?_eq_some_iff.mp h).1
    refine List.mem_cons_of_mem _ (List.mem_map.mpr ⟨i, List.mem_range.mpr l, ?_⟩)
    rw [h]
    rfl
  have rowP : (⟨"p", "", [("min", amtD ((own : Nat) : Rat))]⟩ : RowM) ∈ rowsW own ns ss := List.mem_cons_self
  have leafU : ∀ x ∈ ns, U x = natAt ns us x := fun x hx => by
    obtain ⟨i, hi⟩ := List.mem_iff_getElem?.mp hx
    have h := hU _ (rowK hi)
    rw [show (rowW x (at0 ss i)).name = x from rfl, if_pos (kidsW_x (hne hx).1 (hne hx).2)] at h
    exact h
  have leafU2 : ∀ {i : Nat} {x : Str}, ns[i]? = some x → U x = ((at0 us i : Nat) : Rat) := fun {i x} h => by
    rw [leafU x (List.mem_of_getElem? h), natAt_at w.nd h]
  have topU : U "p" = ((us.sum : Nat) : Rat) := by
    have h := hU _ rowP
    rw [show (⟨"p", "", [("min", amtD ((own : Nat) : Rat))]⟩ : RowM).name = "p" from rfl, kidsW_p, if_neg w.ne, map_eq leafU, map_natAt w.nd lu, sum_natQ] at h
    exact h
  have kP : kW own ns ss "p" = ((own : Nat) : Rat) := if_pos rfl
  have kL : ∀ {i : Nat} {x : Str}, ns[i]? = some x → kW own ns ss x = ((at0 ss i : Nat) : Rat) := fun {i x} h => by
    unfold kW
    rw [if_neg (hne (List.mem_of_getElem? h)).2, natAt_at w.nd h]
  have us100 : us.sum ≤ S * 100 := by
    have := sum_le3 (c := S) (ss := us) hu
    rw [lu] at this
    refine Nat.le_trans this ?_
    rw [Nat.mul_comm]
    exact Nat.mul_le_mul_left _ len
  have cases : ∀ r ∈ rowsW own ns ss, r.name = "p" ∨ ∃ i, ns[i]? = some r.name := fun r hr => by
    rcases List.mem_cons.mp hr with rfl | hr
    · exact .inl rfl
    · obtain ⟨i, hi, _⟩ := kidW_at hr
      exact .inr ⟨i, hi⟩
  have B : Bds (rowsW own ns ss) 1 (S * 100) 1 141 (kW own ns ss) U := by
    refine ⟨by decide, by decide, S100, by decide, by decide, .inr ?_, ?_, fun r hr => ?_, fun r hr => ?_⟩
    · have := w.wide (own := own) (ss := ss)
      exact Nat.le_trans (Nat.mul_le_mul_left _ (Nat.succ_le_succ this)) (by decide)
    · have : (rowsW own ns ss).length = ns.length + 1 := by
        unfold rowsW kidsW
        rw [List.length_cons, List.length_map, List.length_range]
      omega
    · rcases cases r hr with e | ⟨i, hi⟩
      · rw [e, topU]
        exact nat_ms1 us100
      · rw [leafU2 hi]
        exact nat_ms1 (Nat.le_trans (at_lt hu) (by omega))
    · rcases cases r hr with e | ⟨i, hi⟩
      · rw [e, kP]
        exact nat_ms1 ho
      · rw [kL hi]
        exact nat_ms1 (Nat.le_trans (at_lt hs) (by omega))
  have pP : p "p" = ((min us.sum own : Nat) : Rat) := by
    have h := R.up _ rowP
    rw [show (⟨"p", "", [("min", amtD ((own : Nat) : Rat))]⟩ : RowM).name = "p" from rfl, if_pos rfl, kP, topU, min_castQ] at h
    exact h
  refine ⟨U, _, p, B.held R rok, leafU, pP, fun i x h => ?_⟩
  have hr := R.up _ (rowK h)
  rw [show (rowW x (at0 ss i)).name = x from rfl, show (rowW x (at0 ss i)).above = "p" from rfl, if_neg (by decide), kidsW_p, pP, topU] at hr
  have cs : sumQ (ns.map fun n => if kW own ns ss n < U n then kW own ns ss n else U n) = (((clW ns.length us ss).sum : Nat) : Rat) := by
    rw [← sum_natQ]
    congr 1
    apply List.ext_getElem?
    intro j
    rw [List.getElem?_map, List.getElem?_map]
    unfold clW
    rw [List.getElem?_map]
    by_cases l : j < ns.length
    · have e1 := List.getElem?_eq_getElem l
      rw [e1, List.getElem?_range l]
      show some (if kW own ns ss ns[j] < U ns[j] then kW own ns ss ns[j] else U ns[j]) = some ((min (at0 us j) (at0 ss j) : Nat) : Rat)
      rw [kL e1, leafU2 e1, min_castQ]
    · rw [List.getElem?_eq_none (by omega), List.getElem?_eq_none (by rw [List.length_range]; omega)]
      rfl
  rw [cs] at hr
  rw [hr]
  show childQ g _ _ _ (U x) (if kW own ns ss x < U x then kW own ns ss x else U x) = _
  rw [kL h, leafU2 h, min_castQ]
end
end Bd
end

section
namespace Bd
open PySem L2 Am
open Evl hiding tCut pss_cut
/-! k10: the wide group -/
abbrev sWide10 : Stmt := (top 65)
theorem scWide10 : FnScope ["_law_source_here", "_law_span", "_law_titles_here", "_law_flag", "_law_one_here", "_law_uses", "_law_settings", "_law_own", "_law_claims", "_law_given", "_law_rows", "_law_due", "_law_pair", "_law_told", "_law_use", "_law_own_so"] ["_law_source_here", "_law_span"] (defScope sWide10) := ⟨rfl, rfl, rfl, by decide +kernel, rfl, by decide +kernel, by decide +kernel⟩

abbrev rMin2 : List V → Hp → VK → Prop := fun xs H Q => ∃ i j, xs = [V.int i, V.int j] ∧ Q (.int (if j < i then j else i)) H
def EvRow (K : PySem.W.Frag) (te : TE) (σ : L2.St) (H : Hp) (row : RowM) : Prop := ∀ H1, Ex H H1 → ∀ Q : VK, (∀ r H2, H1 r = none → RowAt K H2 (.ref r) row → Same H1 H2 → Q (.ref r) H2) → te σ H1 Q
section
variable {K : PySem.W.Frag} {H : Hp} {σ : L2.St} {ta tb te tx ty tq td tk tn t1 t2 t3 : TE} {t : TT} {tu : TS} {E : XK} {C : Addr} {D : Ends} {tz : TS}
theorem e_rowN {n ab w : Str} {q : Rat} (hn : Ev tn σ H (.str n)) (ha : Ev ta σ H (.str ab)) (hd : EvQ K td σ H q) :
    EvRow K (tTup (tCons tn (tCons ta (tCons (tTupF (tCons (tTup (tCons (tC (.str w)) (tCons td tNil))) tNil)) tNil)))) σ H ⟨n, ab, [(w, amtD q)]⟩ := by
  intro H0 e0 Q k
  refine hn H0 e0 _ fun Ha ea => ha Ha (e0.trans ea) _ fun Hb eb => hd Hb ((e0.trans ea).trans eb) _ fun v H4 e3 hq => ⟨by show 2 ≤ sizeLine; decide, fun t2 h2 => ?_⟩
  have a5 := Same.new (Same.refl H4) h2 (.tup [.str w, v])
  have f2 : upd H4 t2 (.tup [.str w, v]) t2 = some (.tup [.str w, v]) := upd_same
  generalize upd H4 t2 (.tup [.str w, v]) = H5 at a5 f2 ⊢
  refine ⟨by show 1 ≤ sizeLine; decide, fun t3 o h3 ho => ?_⟩
  have a6 := Same.new (Same.refl H5) h3 (.frz o (.tup [.ref t2]))
  have f3 : upd H5 t3 (.frz o (.tup [.ref t2])) t3 = some (.frz o (.tup [.ref t2])) := upd_same
  generalize upd H5 t3 (.frz o (.tup [.ref t2])) = H6 at a6 f3 ⊢
  refine ⟨by show 3 ≤ sizeLine; decide, fun r hr => ?_⟩
  have a7 := Same.new (Same.refl H6) hr (.tup [.str n, .str ab, .ref t3])
  have f4 : upd H6 r (.tup [.str n, .str ab, .ref t3]) r = some (.tup [.str n, .str ab, .ref t3]) := upd_same
  have e6 : Ex H0 H6 := (ea.trans eb).trans (e3.trans (a5.trans a6))
  generalize upd H6 r (.tup [.str n, .str ab, .ref t3]) = H7 at a7 f4 ⊢
  exact k r H7 (fresh_back e6 hr) ⟨r, t3, rfl, SqT.of f4, [t2], ⟨o, ho, a7 _ _ f3⟩, .cons ⟨v, SqT.of ((a6.trans a7) _ _ f2), dp_amt (hq.same (a5.trans (a6.trans a7)))⟩ .nil⟩ (e6.trans a7)
theorem q_asgRow1 {row : RowM} {i : Nat} (h : EvRow K te σ H row) (k : ∀ fl r H1, H fl = none → RowAt K H1 (.ref r) row → Same H H1 → H1 fl = some (.lst [.ref r]) → tz D (σ.set i (some (.ref fl))) H1) : tSeq (tAsg (tLst (tCons te tNil)) (gName i)) tz D σ H :=
  h H (Ex.refl H) _ fun r H1 hr hrow s1 => ⟨by show 1 ≤ sizeLine; decide, fun fl hfl => by
    have s2 := Same.new (Same.refl H1) hfl (.lst [.ref r])
    exact k fl r _ (fresh_back s1 hfl) (RowAt.same s2 hrow) (Same.trans s1 s2) upd_same⟩
/-- protected of a tree and of uses that are made there -/
theorem em_protN {rows : List RowM} {h : Bool} {top kd : Str} {k U c f : Str → Rat} {M S : Nat} {ns : List Str} (ht : EvTree K C te σ H rows h) (ok : RowsOk rows) (len : rows.length ≤ 200) (htop : top ∈ ("" : Str) :: nms rows) (htk : top = "" ∨ kidsOf rows (Sum.inr top) ≠ [])
    (hkd : kd = "min" ∨ kd = "low") (hk : KindOk rows kd k) (ho : HeldOk rows top h k U c f M S) (hd : EvM K td σ H U ns) (hx : Ev tx σ H (.str top)) (hy : Ev ty σ H (.str kd)) (nd : ns.Nodup) (nl : ns.length ≤ 200) (hn : ∀ n ∈ ns, n ∈ leavesOf rows ∧ Sz (U n) ∧ 0 ≤ U n) (hz : ∀ n ∈ leavesOf rows, n ∉ ns → U n = 0) :
    EvM K (tCall (spProt K C) [] E (tCons te (tCons td (tCons tx (tCons ty tNil))))) σ H f (belowL rows top) := fun H1 e Q kk =>
  ht H1 e _ fun p tk H2 hp e2 t2 => hd H2 (e.trans e2) _ fun d kvs H3 hd3 e3 f3 m3 => hx H3 ((e.trans e2).trans e3) _ fun H4 e4 => hy H4 (((e.trans e2).trans e3).trans e4) _ fun H5 e5 =>
    ⟨p, d, top, kd, rows, h, tk, k, U, c, f, M, S, rfl, t2.same ((e3.trans e4).trans e5) ok, ok, len, htop, htk, hkd, hk, ho, ⟨kvs, ns, (e4.trans e5) _ _ f3, m3.mono fun _ _ z => AmtQ.same (e4.trans e5) z, nd, nl, hn, hz⟩, fun d2 k2 H6 h1 h2 h3 h4 => kk d2 k2 H6 (fresh_back (((e2.trans e3).trans e4).trans e5) h1) ((((e2.trans e3).trans e4).trans e5).trans h2) h3 h4⟩
theorem ev_cmpVV2 {r : R2} {z : V} {f : Str → Rat} {ns : List Str} {i j : Nat} {a b : Addr} {ks ls : List (Key × V)} (hr : ∀ (a b : Addr) (ks ls : List (Key × V)) (H1 : Hp) (Q : VK), H1 a = some (.dK ks) → H1 b = some (.dK ls) → ks.length = ls.length → HitsV (EqF K H1 0) ls ks true → Q z H1 → r (.ref a) (.ref b) H1 Q)
    (hi : σ[i]? = some (some (.ref a))) (hj : σ[j]? = some (some (.ref b))) (ha : H a = some (.dK ks)) (hb : H b = some (.dK ls)) (m : MapR (AmR K f) H ks ns) (m2 : MapR (AmR K f) H ls ns) (nd : ns.Nodup) : Ev (tOp r (tVar i) (tVar j)) σ H z := fun H1 e Q k =>
  ⟨_, hi, _, hj, hr a b ks ls H1 Q (e _ _ ha) (e _ _ hb) (by rw [Paired.length m, Paired.length m2]) (hits_am (m.mono fun _ _ z => AmtQ.same e z) fun n hn => (m2.mono fun _ _ z => AmtQ.same e z).get nd hn) (k H1 (Ex.refl H1))⟩
theorem e_flagB {i : Nat} {sp : Addr} (hv : σ[i]? = some (some (.ref sp))) (hs : Src H sp) {Q : VK} (k : ∀ (b : Bool) H', Src H' sp → Kept sp H H' → Q (.bl b) H') :
    tOp rEq (tCall spNextB [] E (tCons (tVar i) (tCons (tC (.int 2)) tNil))) (tC (.int 0)) σ H Q :=
  ⟨_, hv, sp, 2, rfl, hs, by decide, by decide, fun a H' ha s' k' => ⟨rfl, k _ H' s' k'⟩⟩
theorem next_one10 {E2 : XK} {p : Addr} {sp : Nat} (hv : σ[0]? = some (some (.ref p))) (hw : σ[1]? = some (some (.int (sp : Int)))) (h0 : 0 < sp) (h1 : sp ≤ 10 ^ 40) (hs : Src H p) {Q : VK} (k : ∀ (n : Nat) H', n < 10 ^ 40 → Src H' p → Kept p H H' → Q (.int (n : Int)) H') :
    tCall spNextB [] E (tCons (tVar 0) (tCons (tCall (spOne K) [] E2 (tCons (tVar 0) (tCons (tLst (tCons (tC (.int 1)) (tCons (tC (.int 10)) (tCons (tVar 1) tNil)))) tNil))) tNil)) σ H Q := by
  refine ⟨_, hv, _, hv, _, hw, by show 3 ≤ sizeLine; decide, fun l hl => ?_⟩
  have e := Same.new (Same.refl H) hl (.lst [.int 1, .int 10, .int (sp : Int)])
  refine ⟨p, l, [.int 1, .int 10, .int (sp : Int)], rfl, src_sameE e hs, SqL.of upd_same, (src_ne hs hl).symm, by simp, by simp, fun v G hm s2 k2 => ?_⟩
  have hm : ∃ m : Nat, v = .int (m : Int) ∧ 0 < m ∧ m ≤ 10 ^ 40 := by
    simp only [List.mem_cons, List.not_mem_nil, or_false] at hm
    rcases hm with rfl | rfl | rfl
    · exact ⟨1, rfl, by decide, by decide⟩
    · exact ⟨10, rfl, by decide, by decide⟩
    · exact ⟨sp, rfl, h0, h1⟩
  obtain ⟨m, rfl, m0, m1⟩ := hm
  exact ⟨p, m, rfl, s2, m0, Nat.lt_of_le_of_lt m1 (by decide), fun n G2 hn s3 k3 => k n G2 (by omega) s3 (((Kept.of e).trans k2).trans k3)⟩
end
theorem mapR_new {K : PySem.W.Frag} {G : Hp} {f : Str → Rat} {kvs : List (Key × V)} {ns : List Str} {n : Str} {v : V} (m : MapR (AmR K f) G kvs ns) (hn : n ∉ ns) (hv : AmtQ K G v (f n)) : MapR (AmR K f) G (putK kvs (Sum.inr n) v) (ns ++ [n]) := by
  have hk : ¬ (kvs.any fun kv => decide (kv.1 = (Sum.inr n : Key))) = true := fun h => by
    obtain ⟨kv, h1, h2⟩ := List.any_eq_true.mp h
    have e : kv.1 = Sum.inr n := of_decide_eq_true h2
    have : kv.1 ∈ kvs.map (·.1) := List.mem_map_of_mem h1
    rw [m.keys, e] at this
    obtain ⟨x, hx, e2⟩ := List.mem_map.mp this
    exact hn (Sum.inr.inj e2 ▸ hx)
  have e : putK kvs (Sum.inr n) v = kvs ++ [(Sum.inr n, v)] := by
    unfold putK
    exact if_neg hk
  rw [e]
  exact paired_snoc ⟨rfl, hv⟩ m
def spWide10 (K : PySem.W.Frag) : Sp := fun vs H Q _ => ∃ (p : Addr) (sp : Nat), vs = [.ref p, .int (sp : Int)] ∧ Src H p ∧ 0 < sp ∧ sp ≤ 10 ^ 40 ∧ ∀ H', Src H' p → Kept p H H' → Q (.bl true) H'
theorem titL10_ok : (∀ x ∈ titL10, 1 ≤ x.length ∧ x.length ≤ 10 ∧ ∀ c ∈ x.cps.toList, 97 ≤ c ∧ c ≤ 122) ∧ (("p" : Str) :: "" :: titL10).Nodup ∧ titL10.length = 208 := by decide +kernel
theorem wide_tit {n : Nat} (n0 : 0 < n) (h : n ≤ 208) : WideOk (titL10.take n) ∧ (titL10.take n).length = n := by
  obtain ⟨t1, t2, t3⟩ := titL10_ok
  have sub : (titL10.take n).Sublist titL10 := List.take_sublist _ _
  obtain ⟨p1, nd1⟩ := List.nodup_cons.mp (t2.sublist ((sub.cons_cons _).cons_cons _))
  obtain ⟨e1, nd⟩ := List.nodup_cons.mp nd1
  have ln : (titL10.take n).length = n := by
    rw [List.length_take, t3]
    omega
  refine ⟨⟨nd, fun z => p1 (List.mem_cons_of_mem _ z), fun z => ?_, fun x hx => t1 x (sub.subset hx), e1⟩, ln⟩
  rw [z] at ln
  have : 0 = n := ln
  omega
section
variable {P : Program} {w : World} {K : PySem.W.Frag} {mg : Str → Option Value} {base : Heap} {C CN CW aL aK aZ : Addr} {left : List (Key × V)}
theorem ok_wide10 {f e gT gX gO gC gP : Addr} {fd ed dT dX dO dC dP : FuncData} (F : Fun K "_law_wide_right" "_law_wide_right" sWide10 f fd) (T : TA mg) (Tzi : TZ3 mg) (Tsu : TSm mg) (Tn : TMm mg) (Td : TDd mg) (TCl : TC K mg C) (M : Mk K C e) (FI : FnOk P w K mg base CX0 7 e ed ["self", "rows", "handing"] (spInit K C)) (bI : Binds K ed ["self", "rows", "handing"] [])
    (cT : Cal P w K mg base "_law_titles" ["_law_many"] 1 spTitles10 gT dT) (cX : Cal P w K mg base "_law_next" ["_law_source_here", "_law_many"] 2 spNextB gX dX) (cO : Cal P w K mg base "_law_one" ["_law_source_here", "_law_things"] 3 (spOne K) gO dO) (cC : Cal P w K mg base "_law_child" ["_law_given", "_law_whole", "_law_wish", "_law_pair", "_law_flag"] 3 (spChild K) gC dC)
    (cPr : Cal P w K mg base "protected" ["tree", "uses", "top", "kind"] 7 (spProt K C) gP dP) : FnOk P w K mg base CX0 9 f fd ["_law_source_here", "_law_span"] (spWide10 K) := by
  refine F.ok scWide10 (fun vs H Q E h => ?_) (fun cdv A outer s H vs Q E hr h => ?_)
  · obtain ⟨p, sp, rfl, _⟩ := h
    rfl
  obtain ⟨p, sp, rfl, src, h0, h1, q⟩ := h
  have hu := hu_of hr
  refine ⟨_, (pss_cons (ps_par (i := 2) (j := 3) (by rfl) scWide10.nd rfl rfl (by decide) rfl rfl (pa_cons (pe_call cT.ok (hr.mono (by decide)) rfl cT.mg cT.kp cT.bd .nil pass0 (pa_cons (pe_op op_add pe_int (pe_call cX.ok (hr.mono (by decide)) rfl cX.mg cX.kp cX.bd .nil pass0 (pa_cons (pv 0) (pa_cons pe_int pa_nil)))) pa_nil)) (pa_cons (pe_cmpR op_eq (pe_call cX.ok (hr.mono (by decide)) rfl cX.mg cX.kp cX.bd .nil pass0 (pa_cons (pv 0) (pa_cons pe_int pa_nil))) pe_int (nomark _)) pa_nil)) (by rfl)) (pss_cons (ps_setLc (i := 5) (own := [("_law_one_here", 4)]) (g := gName 4) (tt := tYes) (te := (tCall spNextB [] E0 (tCons (tVar 0) (tCons (tVar 1) tNil)))) rfl scWide10.nd rfl rfl (sw_true rfl rfl rfl (by decide +kernel)) (pi_list (pv 2)) (blkOk_by (own := [("_law_one_here", 4)]) (N := ["_law_source_here", "_law_span", "_law_titles_here", "_law_flag", "_law_one_here", "_law_uses", "_law_settings", "_law_own", "_law_claims", "_law_given", "_law_rows", "_law_due", "_law_pair", "_law_told", "_law_use", "_law_own_so"]) (sc := defScope sWide10) (by decide +kernel)) (fun _ _ _ _ _ => (pg_name (i := 4) scWide10.nd rfl (Or.inl rfl))) (fun _ _ _ _ _ => pts_nil) (fun _ _ _ _ _ => (pe_call cX.ok (hr.mono (by decide)) rfl cX.mg cX.kp cX.bd .nil pass0 (pa_cons (pv 0) (pa_cons (pv 1) pa_nil))))) (pss_cons (ps_setLc (i := 6) (own := [("_law_one_here", 4)]) (g := gName 4) (tt := tYes) (te := (tCall spNextB [] E0 (tCons (tVar 0) (tCons (tCall (spOne K) [] E0 (tCons (tVar 0) (tCons (tLst (tCons (tC (.int 1)) (tCons (tC (.int 10)) (tCons (tVar 1) tNil)))) tNil))) tNil)))) rfl scWide10.nd rfl rfl (sw_true rfl rfl rfl (by decide +kernel)) (pi_list (pv 2)) (blkOk_by (own := [("_law_one_here", 4)]) (N := ["_law_source_here", "_law_span", "_law_titles_here", "_law_flag", "_law_one_here", "_law_uses", "_law_settings", "_law_own", "_law_claims", "_law_given", "_law_rows", "_law_due", "_law_pair", "_law_told", "_law_use", "_law_own_so"]) (sc := defScope sWide10) (by decide +kernel)) (fun _ _ _ _ _ => (pg_name (i := 4) scWide10.nd rfl (Or.inl rfl))) (fun _ _ _ _ _ => pts_nil) (fun _ _ _ _ _ => (pe_call cX.ok (hr.mono (by decide)) rfl cX.mg cX.kp cX.bd .nil pass0 (pa_cons (pv 0) (pa_cons (pe_call cO.ok (hr.mono (by decide)) rfl cO.mg cO.kp cO.bd .nil pass0 (pa_cons (pv 0) (pa_cons (pe_lst (pa_cons pe_int (pa_cons pe_int (pa_cons (pv 1) pa_nil)))) pa_nil))) pa_nil))))) (pss_cons (ps_set (i := 7) scWide10.nd rfl (Or.inl rfl) (pe_call cO.ok (hr.mono (by decide)) rfl cO.mg cO.kp cO.bd .nil pass0 (pa_cons (pv 0) (pa_cons (pe_lst (pa_cons (pe_call cX.ok (hr.mono (by decide)) rfl cX.mg cX.kp cX.bd .nil pass0 (pa_cons (pv 0) (pa_cons (pv 1) pa_nil))) (pa_cons (pe_callB (cr_sum rfl) (by rfl) Tsu.z_sum (by decide +kernel) (pa_cons (pv 6) pa_nil)) (pa_cons (pe_callB (cr_sum rfl) (by rfl) Tsu.z_sum (by decide +kernel) (pa_cons (pv 5) pa_nil)) (pa_cons (pe_op op_fdivW (pe_callB (cr_sum rfl) (by rfl) Tsu.z_sum (by decide +kernel) (pa_cons (pv 6) pa_nil)) pe_int) (pa_cons pe_int pa_nil)))))) pa_nil)))) (pss_cons (ps_setLc (i := 8) (own := [("_law_use", 14), ("_law_own_so", 15)]) (g := gTup K 2 (gCons (gName 14) (gCons (gName 15) gNil))) (tt := tYes) (te := (tCB rMin2 (tCons (tVar 14) (tCons (tVar 15) tNil)))) rfl scWide10.nd rfl rfl (sw_true rfl rfl rfl (by decide +kernel)) (pi_zip rfl Tzi.z_zip (pa_cons (pv 5) (pa_cons (pv 6) pa_nil))) (blkOk_by (own := [("_law_use", 14), ("_law_own_so", 15)]) (N := ["_law_source_here", "_law_span", "_law_titles_here", "_law_flag", "_law_one_here", "_law_uses", "_law_settings", "_law_own", "_law_claims", "_law_given", "_law_rows", "_law_due", "_law_pair", "_law_told", "_law_use", "_law_own_so"]) (sc := defScope sWide10) (by decide +kernel)) (fun _ _ _ _ _ => (pg_tup (by rfl) (pgs_cons (pg_name (i := 14) scWide10.nd rfl (Or.inl rfl)) (pgs_cons (pg_name (i := 15) scWide10.nd rfl (Or.inl rfl)) pgs_nil)))) (fun _ _ _ _ _ => pts_nil) (fun _ _ _ _ _ => (pe_callB (call_min2 rfl) (by rfl) Tn.z_min (by decide +kernel) (pa_cons (pv 14) (pa_cons (pv 15) pa_nil))))) (pss_cons (ps_set (i := 9) scWide10.nd rfl (Or.inl rfl) (pe_tup (pa_cons (pe_callB (call_min2 rfl) (by rfl) Tn.z_min (by decide +kernel) (pa_cons (pe_callB (cr_sum rfl) (by rfl) Tsu.z_sum (by decide +kernel) (pa_cons (pv 5) pa_nil)) (pa_cons (pv 7) pa_nil))) (pa_cons pe_int pa_nil)))) (pss_cons (ps_set (i := 10) scWide10.nd rfl (Or.inl rfl) (pe_lst (pa_cons (pe_tup (pa_cons pe_str (pa_cons pe_str (pa_cons (pe_tupF (pa_cons (pe_tup (pa_cons pe_str (pa_cons (pe_tup (pa_cons (pv 7) (pa_cons pe_int pa_nil))) pa_nil))) pa_nil)) pa_nil)))) pa_nil))) (pss_cons (ps_set (i := 10) scWide10.nd rfl (Or.inl rfl) (pe_op op_cat (pv 10) (pe_lc (own := [("_law_one_here", 4), ("_law_own_so", 15)]) (g := gTup K 2 (gCons (gName 4) (gCons (gName 15) gNil))) (tt := tYes) (te := (tTup (tCons (tVar 4) (tCons (tC (.str "p")) (tCons (tTupF (tCons (tTup (tCons (tC (.str "min")) (tCons (tTup (tCons (tVar 15) (tCons (tC (.int 1)) tNil))) tNil))) tNil)) tNil))))) rfl scWide10.nd (pi_zip rfl Tzi.z_zip (pa_cons (pv 2) (pa_cons (pv 6) pa_nil))) (blkOk_by (own := [("_law_one_here", 4), ("_law_own_so", 15)]) (N := ["_law_source_here", "_law_span", "_law_titles_here", "_law_flag", "_law_one_here", "_law_uses", "_law_settings", "_law_own", "_law_claims", "_law_given", "_law_rows", "_law_due", "_law_pair", "_law_told", "_law_use", "_law_own_so"]) (sc := defScope sWide10) (by decide +kernel)) (fun _ _ _ _ _ => (pg_tup (by rfl) (pgs_cons (pg_name (i := 4) scWide10.nd rfl (Or.inl rfl)) (pgs_cons (pg_name (i := 15) scWide10.nd rfl (Or.inl rfl)) pgs_nil)))) (fun _ _ _ _ _ => pts_nil) (fun _ _ _ _ _ => (pe_tup (pa_cons (pv 4) (pa_cons pe_str (pa_cons (pe_tupF (pa_cons (pe_tup (pa_cons pe_str (pa_cons (pe_tup (pa_cons (pv 15) (pa_cons pe_int pa_nil))) pa_nil))) pa_nil)) pa_nil)))))))) (pss_cons (ps_set (i := 11) scWide10.nd rfl (Or.inl rfl) (pe_disp (pps_cons pe_str (pv 9) pps_nil) (by rfl) (by rfl) (fun z => by cases z) (by decide))) (pss_cons (ps_for PassesOwn.never rfl (pi_zz rfl Tzi.z_zip (pv 2) (pa_cons (pv 5) (pa_cons (pv 8) pa_nil))) (pg_tup (by rfl) (pgs_cons (pg_name (i := 4) scWide10.nd rfl (Or.inl rfl)) (pgs_cons (pg_name (i := 12) scWide10.nd rfl (Or.inl rfl)) pgs_nil))) (pss_one (ps_dput hu (pv 11) (pv 4) (pe_call cC.ok (hr.mono (by decide)) rfl cC.mg cC.kp cC.bd .nil pass0 (pa_cons (pv 9) (pa_cons (pe_callB (cr_sum rfl) (by rfl) Tsu.z_sum (by decide +kernel) (pa_cons (pv 5) pa_nil)) (pa_cons (pe_callB (cr_sum rfl) (by rfl) Tsu.z_sum (by decide +kernel) (pa_cons (pv 8) pa_nil)) (pa_cons (pv 12) (pa_cons (pv 3) pa_nil)))))) rfl))) (pss_cons (ps_set (i := 13) scWide10.nd rfl (Or.inl rfl) (pe_call cPr.ok (hr.mono (by decide)) rfl cPr.mg cPr.kp cPr.bd .nil pass0 (pa_cons (pe_make M FI (hr.mono (by decide)) rfl TCl.g_Tree bI .nil pass0 (pa_cons (pv 10) (pa_cons (pv 3) pa_nil))) (pa_cons (pe_callTy (call_dictP rfl) (by rfl) Td.z_dict (by decide +kernel) (pa_cons (pe_lc (own := [("_law_one_here", 4), ("_law_use", 14)]) (g := gTup K 2 (gCons (gName 4) (gCons (gName 14) gNil))) (tt := tYes) (te := (tTup (tCons (tVar 4) (tCons (tTup (tCons (tVar 14) (tCons (tC (.int 1)) tNil))) tNil)))) rfl scWide10.nd (pi_zip rfl Tzi.z_zip (pa_cons (pv 2) (pa_cons (pv 5) pa_nil))) (blkOk_by (own := [("_law_one_here", 4), ("_law_use", 14)]) (N := ["_law_source_here", "_law_span", "_law_titles_here", "_law_flag", "_law_one_here", "_law_uses", "_law_settings", "_law_own", "_law_claims", "_law_given", "_law_rows", "_law_due", "_law_pair", "_law_told", "_law_use", "_law_own_so"]) (sc := defScope sWide10) (by decide +kernel)) (fun _ _ _ _ _ => (pg_tup (by rfl) (pgs_cons (pg_name (i := 4) scWide10.nd rfl (Or.inl rfl)) (pgs_cons (pg_name (i := 14) scWide10.nd rfl (Or.inl rfl)) pgs_nil)))) (fun _ _ _ _ _ => pts_nil) (fun _ _ _ _ _ => (pe_tup (pa_cons (pv 4) (pa_cons (pe_tup (pa_cons (pv 14) (pa_cons pe_int pa_nil))) pa_nil))))) pa_nil)) (pa_cons pe_str (pa_cons pe_str pa_nil)))))) (pss_one (ps_ret (pe_cmpR (op_eqF (hu100 hr)) (pv 13) (pv 11) (nomark _))))))))))))))), ?_⟩
  have S200 : sp < 2 ^ 200 := Nat.lt_of_le_of_lt h1 (by decide)
  refine ⟨_, rfl, p, 58, rfl, src, by decide, by decide, fun d G1 hd s1 k1 => ?_⟩
  refine ⟨_, _, rfl, rfl, 1 + d, congrArg (fun z => [V.int z]) (by push_cast; rfl), by omega, fun tl G2 htl e2 f2 => ?_⟩
  obtain ⟨n, hn⟩ : ∃ n, n = 1 + d := ⟨_, rfl⟩
  rw [← hn] at f2
  have n58 : n ≤ 58 := by omega
  have n0 : 0 < n := by omega
  have s2 := src_sameE e2 s1
  have ntl : tl ≠ p := (src_ne s1 htl).symm
  refine e_flagB (i := 0) rfl s2 fun g G3 s3 k3 => ⟨_, _, rfl, ?_⟩
  have f3 := k3 _ _ ntl f2
  have k03 : Kept p H G3 := (k1.trans (Kept.of e2)).trans k3
  obtain ⟨ns, hns⟩ : ∃ ns, ns = titL10.take n := ⟨_, rfl⟩
  obtain ⟨wok, ln⟩ := wide_tit n0 (show n ≤ 208 by omega)
  rw [← hns] at f3 wok ln
  clear k1 e2 k3 f2 s1 s2 htl
  try dsimp only [gName]
  show tSeq (tAsg _ _) _ _ [some (.ref p), some (.int (sp : Int)), some (.ref tl), some (.bl g), none, none, none, none, none, none, none, none, none, none, none, none] G3
  refine q_draws (M := sp) (sp := p) (ev_var (i := 2) rfl) f3 ntl s3 (by rw [List.length_map]; omega) (fun _ => rfl) (fun v G sG kG Q' k' => ⟨_, rfl, _, rfl, p, sp, rfl, sG, h0, S200, fun m G' hm s' k2 => k' m G' hm s' k2⟩) fun ul us G4 hul nul s4 k4 f4 lus dus => ?_
  rw [List.length_map, ln] at lus
  have f34 := k4 _ _ ntl f3
  try dsimp only [gName]
  show tSeq (tAsg _ _) _ _ [some (.ref p), some (.int (sp : Int)), some (.ref tl), some (.bl g), none, some (.ref ul), none, none, none, none, none, none, none, none, none, none] G4
  refine q_draws (M := 10 ^ 40) (sp := p) (ev_var (i := 2) rfl) f34 ntl s4 (by rw [List.length_map]; omega) (fun _ => rfl) (fun v G sG kG Q' k' => next_one10 (p := p) (sp := sp) rfl rfl h0 h1 sG k') fun sl ss G5 hsl nsl s5 k5 f5 lss dss => ?_
  rw [List.length_map, ln] at lss
  have t5 := k5 _ _ ntl f34
  have u5 := k5 _ _ nul f4
  have k05 : Kept p H G5 := (k03.trans k4).trans k5
  have us40 : ∀ v ∈ us, v ≤ 10 ^ 40 := fun v hv => Nat.le_trans (Nat.le_of_lt (dus v hv)) h1
  have ss40 : ∀ v ∈ ss, v ≤ 10 ^ 40 := fun v hv => Nat.le_of_lt (dss v hv)
  have usum : us.sum ≤ 58 * 10 ^ 40 := Nat.le_trans (sum_le3 us40) (Nat.mul_le_mul_right _ (by omega))
  have ssum : ss.sum ≤ 58 * 10 ^ 40 := Nat.le_trans (sum_le3 ss40) (Nat.mul_le_mul_right _ (by omega))
  clear k03 k4 k5 s3 s4 f3 f34 f4 hul hsl
  try dsimp only [gName]
  show tSeq (tAsg _ _) _ _ [some (.ref p), some (.int (sp : Int)), some (.ref tl), some (.bl g), none, some (.ref ul), some (.ref sl), none, none, none, none, none, none, none, none, none] G5
  refine ⟨_, rfl, _, rfl, _, rfl, p, sp, rfl, s5, h0, S200, fun x1 G6 hx1 s6 k6 => ?_⟩
  have u6 := k6 _ _ nul u5
  have w6 := k6 _ _ nsl f5
  have ehalf : ((ss.sum : Nat) : Int) / 2 = ((ss.sum / 2 : Nat) : Int) := by omega
  refine ev_sumN (i := 6) rfl (SqL.of w6) G6 (Ex.refl _) _ fun G7 e7 => ev_sumN (i := 5) rfl (SqL.of (e7 _ _ u6)) G7 (Ex.refl _) _ fun G8 e8 => ev_is (ev_op (ev_sumN (i := 6) rfl (SqL.of (e8 _ _ (e7 _ _ w6)))) (ev_c (v := .int 2)) (rv_I ⟨by decide, by decide⟩)) (congrArg V.int ehalf) G8 (Ex.refl _) _ fun G9 e9 => ⟨by show 5 ≤ sizeLine; decide, fun ml hml => ?_⟩
  have s9 := src_sameE ((e7.trans e8).trans e9) s6
  have e10 := Same.new (Same.refl G9) hml (.lst [.int (x1 : Int), .int ((ss.sum : Nat) : Int), .int ((us.sum : Nat) : Int), .int ((ss.sum / 2 : Nat) : Int), .int 0])
  refine ⟨p, ml, _, rfl, src_sameE e10 s9, SqL.of upd_same, (src_ne s9 hml).symm, by simp, by simp, fun v G11 hv s11 k11 => ?_⟩
  have hva : ∃ a : Nat, v = .int (a : Int) ∧ a ≤ 58 * 10 ^ 40 := by
    simp only [List.mem_cons, List.not_mem_nil, or_false] at hv
    rcases hv with rfl | rfl | rfl | rfl | rfl
    · exact ⟨x1, rfl, by omega⟩
    · exact ⟨ss.sum, rfl, ssum⟩
    · exact ⟨us.sum, rfl, usum⟩
    · exact ⟨ss.sum / 2, rfl, by omega⟩
    · exact ⟨0, rfl, Nat.zero_le _⟩
  obtain ⟨own, rfl, hown⟩ := hva
  have k511 : Kept p G5 G11 := k6.trans ((Kept.of (((e7.trans e8).trans e9).trans e10)).trans k11)
  have t11 := k511 _ _ ntl t5
  have u11 := k511 _ _ nul u5
  have w11 := k511 _ _ nsl f5
  have k011 := k05.trans k511
  clear k05 k511 k6 k11 u6 w6 e7 e8 e9 e10 hml s5 s6 s9 t5 u5 f5 hv
  try dsimp only [gName]
  show tSeq (tAsg _ _) _ _ [some (.ref p), some (.int (sp : Int)), some (.ref tl), some (.bl g), none, some (.ref ul), some (.ref sl), some (.int (own : Int)), none, none, none, none, none, none, none, none] G11
  have at_of : ∀ {vs : List Nat} {m v : Nat}, vs[m]? = some v → at0 vs m = v := at_some
  refine q_zip (K := K) (i := 14) (j := 15) (n := n) (R := fun m _ v => v = V.int ((min (at0 us m) (at0 ss m) : Nat) : Int)) (fun _ _ _ _ _ z => z) (ev_var (i := 5) rfl) (ev_var (i := 6) rfl) (SqL.of u11) (SqL.of w11) (by rw [List.length_map, lus]) (by rw [List.length_map, lss]) (by omega) (fun _ _ => rfl) (fun i u v G hu hv eG Q' k' => ?_) fun cl cs G12 hcl e12 f12 lcs hcs => ?_
  · rw [List.getElem?_map] at hu hv
    obtain ⟨x, hx', rfl⟩ := Option.map_eq_some_iff.mp hu
    obtain ⟨y, hy', rfl⟩ := Option.map_eq_some_iff.mp hv
    rw [at_of hx', at_of hy'] at k'
    refine ev_is (ev_min2 (ev_var (i := 14) rfl) (ev_var (i := 15) rfl)) (congrArg V.int ?_) G (Ex.refl G) _ fun G2 e2 => k' _ G2 e2 rfl
    split <;> omega
  have ecs : cs = (clW n us ss).map fun m : Nat => V.int (m : Int) := by
    apply List.ext_getElem?
    intro i
    rw [List.getElem?_map]
    unfold clW
    rw [List.getElem?_map]
    by_cases l : i < n
    · rw [List.getElem?_range l, List.getElem?_eq_getElem (by omega)]
      rw [hcs i _ (List.getElem?_eq_getElem (by omega))]
      rfl
    · rw [List.getElem?_eq_none (by omega), List.getElem?_eq_none (by rw [List.length_range]; omega)]
      rfl
  rw [ecs] at f12
  have u12 := e12 _ _ u11
  have csum : (clW n us ss).sum ≤ us.sum := by
    have key : ∀ {vs : List Nat}, vs.length = n → (∀ i, at0 vs i ≤ at0 us i) → vs.sum ≤ us.sum := by
      have gen : ∀ {xs ys : List Nat}, xs.length = ys.length → (∀ i, at0 xs i ≤ at0 ys i) → xs.sum ≤ ys.sum := by
        intro xs
        induction xs with
        | nil => intro ys _ _; exact Nat.zero_le _
        | cons a t ih =>
          intro ys l h
          cases ys with
          | nil => cases l
          | cons b t2 =>
            have h0 : a ≤ b := h 0
            have := ih (ys := t2) (by simpa using l) fun i => h (i + 1)
            rw [List.sum_cons, List.sum_cons]
            omega
      intro vs l h
      exact gen (l.trans lus.symm) h
    refine key (by unfold clW; rw [List.length_map, List.length_range]) fun i => ?_
    by_cases l : i < n
    · unfold clW
      rw [at_range l]
      exact Nat.min_le_left _ _
    · rw [at_off (vs := clW n us ss) (by unfold clW; rw [List.length_map, List.length_range]; omega)]
      exact Nat.zero_le _
  try dsimp only [gName]
  show tSeq (tAsg _ _) _ _ [some (.ref p), some (.int (sp : Int)), some (.ref tl), some (.bl g), none, some (.ref ul), some (.ref sl), some (.int (own : Int)), some (.ref cl), none, none, none, none, none, none, none] G12
  refine q_asgQ (K := K) (eq_n1 (n := min us.sum own) (ev_is (ev_min2 (ev_sumN (i := 5) rfl (SqL.of u12)) (ev_var (i := 7) rfl)) (congrArg V.int (by split <;> omega)))) fun gv G13 e13 hgv => ?_
  have e1113 := e12.trans e13
  have w13 := e1113 _ _ w11
  have t13 := e1113 _ _ t11
  have u13 := e1113 _ _ u11
  have f13 := e13 _ _ f12
  have s13 := src_sameE e1113 s11
  obtain ⟨rs, hrs⟩ : ∃ rs, rs = rowsW own ns ss := ⟨_, rfl⟩
  have rok : RowsOk rs := hrs ▸ wok.rok (Nat.lt_of_le_of_lt hown (by decide)) fun x hx => Nat.lt_of_le_of_lt (ss40 x hx) (by decide)
  try dsimp only [gName]
  show tSeq (tAsg _ _) _ _ [some (.ref p), some (.int (sp : Int)), some (.ref tl), some (.bl g), none, some (.ref ul), some (.ref sl), some (.int (own : Int)), some (.ref cl), some gv, none, none, none, none, none, none] G13
  refine q_asgRow1 (K := K) (row := ⟨"p", "", [("min", amtD ((own : Nat) : Rat))]⟩) (e_rowN ev_c ev_c (eq_n1 (ev_var (i := 7) rfl))) fun r0 x0 G14 hr0 row14 e14 fr0 => ?_
  try dsimp only [gName]
  show tSeq (tAsg _ _) _ _ [some (.ref p), some (.int (sp : Int)), some (.ref tl), some (.bl g), none, some (.ref ul), some (.ref sl), some (.int (own : Int)), some (.ref cl), some gv, some (.ref r0), none, none, none, none, none] G14
  refine ⟨_, rfl, elr_zip (K := K) (i := 4) (j := 15) (n := n) (R := fun m G v => ∃ x y, ns[m]? = some x ∧ ss[m]? = some y ∧ RowAt K G v (rowW x y)) (fun m Ga Gb v t z => ?_) (ev_var (i := 2) rfl) (ev_var (i := 6) rfl) (SqL.of (e14 _ _ t13)) (SqL.of (e14 _ _ w13)) (by rw [List.length_map, ln]) (by rw [List.length_map, lss]) (by omega) (fun _ _ => rfl) (fun m u v G hu hv eG Q' k' => ?_) fun r1 ws1 G15 hr1 e15 fr1 lw1 hw1 => ?_⟩
  · obtain ⟨x, y, hx', hy', hrow⟩ := z
    refine ⟨x, y, hx', hy', t.row (rows_due rok (rowW x y) ?_) hrow⟩
    rw [hrs]
    exact List.mem_of_getElem? (rowsW_at hx' hy')
  · rw [List.getElem?_map] at hu hv
    obtain ⟨x, hx', rfl⟩ := Option.map_eq_some_iff.mp hu
    obtain ⟨y, hy', rfl⟩ := Option.map_eq_some_iff.mp hv
    exact e_rowN (K := K) (n := x) (ab := "p") (w := "min") (q := ((y : Nat) : Rat)) (ev_var (i := 4) rfl) ev_c (eq_n1 (ev_var (i := 15) rfl)) G (Ex.refl G) _ fun r G2 _ hrow e2 => k' _ G2 e2 ⟨x, y, hx', hy', hrow⟩
  refine ⟨r0, r1, [.ref x0], ws1, rfl, rfl, e15 _ _ fr0, fr1, ?_, fun rl hrl => ?_⟩
  · have : (1000 : Nat) ≤ sizeLine := by decide
    rw [lw1]
    show 1 + n ≤ sizeLine
    omega
  have sT := Same.new (Same.refl G15) hrl (.lst ([V.ref x0] ++ ws1))
  have frl : upd G15 rl (.lst ([V.ref x0] ++ ws1)) rl = some (.lst ([V.ref x0] ++ ws1)) := upd_same
  generalize upd G15 rl (.lst ([V.ref x0] ++ ws1)) = G16 at sT frl ⊢
  have rowsP : Paired (RowAt K G16) ([V.ref x0] ++ ws1) rs := by
    rw [hrs]
    refine .cons (RowAt.same (Ex.trans e15 sT) row14) (paired_byIx ?_ fun m v r hv hr => ?_)
    · show ws1.length = _
      unfold kidsW
      rw [lw1, List.length_map, List.length_range, ln]
    · obtain ⟨x, y, hx', hy', hrow⟩ := hw1 m v hv
      have := rowsW_at (own := own) hx' hy'
      have this : (kidsW ns ss)[m]? = some (rowW x y) := this
      rw [hr] at this
      rw [Option.some.inj this]
      exact RowAt.same sT hrow
  have e1116 := e1113.trans (e14.trans (e15.trans sT))
  have t16 := e1116 _ _ t11
  have u16 := e1116 _ _ u11
  have c16 := (e13.trans (e14.trans (e15.trans sT))) _ _ f12
  have g16 : AmtQ K G16 gv ((min us.sum own : Nat) : Rat) := hgv.same (e14.trans (e15.trans sT))
  have s16 := src_sameE e1116 s11
  have k016 : Kept p H G16 := k011.trans (Kept.of e1116)
  clear e1113 e12 e13 e14 e15 e1116 sT hw1 row14 fr0 fr1 t13 u13 w13 f13 f12 u12 t11 u11 w11 s11 s13 hgv hcs k011 hr0 hr1 hrl hcl
  obtain ⟨U, c, pf, ho, hU, pP, pL⟩ := wok.math (own := own) (ss := ss) (us := us) (g := g) (S := 10 ^ 40) (by omega) (by omega) (by omega) us40 ss40 (by omega) (by decide)
  rw [ln] at pL
  rw [← hrs] at ho
  have lrs : rs.length = n + 1 := by
    rw [hrs]
    unfold rowsW kidsW
    rw [List.length_cons, List.length_map, List.length_range, ln]
  try dsimp only [gName]
  show tSeq (tAsg _ _) _ _ [some (.ref p), some (.int (sp : Int)), some (.ref tl), some (.bl g), none, some (.ref ul), some (.ref sl), some (.int (own : Int)), some (.ref cl), some gv, some (.ref rl), none, none, none, none, none] G16
  refine q_asgM (K := K) (f := pf) (em_one (K := K) (n := "p") ev_c (eq_var (i := 9) rfl (by rw [pP]; exact g16))) fun dd kv0 G17 hdd e17 fdd mdd => ?_
  try dsimp only [gName]
  show tSeq (tFor _ _ _) _ _ [some (.ref p), some (.int (sp : Int)), some (.ref tl), some (.bl g), none, some (.ref ul), some (.ref sl), some (.int (own : Int)), some (.ref cl), some gv, some (.ref rl), some (.ref dd), none, none, none, none] G17
  refine ⟨_, rfl, _, rfl, _, rfl, tl, ul, cl, _, _, _, rfl, rfl, SqL.of (e17 _ _ t16), SqL.of (e17 _ _ u16), SqL.of (e17 _ _ c16), ?_⟩
  refine for_it (walk_zz (K := K) (l0 := tl) (l1 := ul) (l2 := cl) (ws := ns.map V.str) (xs := us.map fun n : Nat => V.int (n : Int)) (ys := (clW n us ss).map fun m : Nat => V.int (m : Int)) (n := n) (by rw [List.length_map, ln]) (by rw [List.length_map, lus]) (by unfold clW; rw [List.length_map, List.length_map, List.length_range])) (fun m σ' G => ∃ (o4 o12 : Option V) (kvs : List (Key × V)), σ' = [some (.ref p), some (.int (sp : Int)), some (.ref tl), some (.bl g), o4, some (.ref ul), some (.ref sl), some (.int (own : Int)), some (.ref cl), some gv, some (.ref rl), some (.ref dd), o12, none, none, none] ∧ Ex G16 G ∧ m ≤ n ∧ G dd = some (.dK kvs) ∧ MapR (AmR K pf) G kvs (("p" : Str) :: ns.take m)) ⟨none, none, kv0, rfl, e17, Nat.zero_le _, fdd, mdd⟩ ?_ ?_ ?_
  · rintro m σ' G _ ⟨_, _, _, _, eG, _⟩
    exact ⟨SqL.of (eG _ _ t16), SqL.of (eG _ _ u16), SqL.of (eG _ _ c16)⟩
  · rintro m v σ' G G' hm ⟨o4, o12, kvs, rfl, eG, _, fd', md⟩ ⟨Ti, t, x, y, z, rfl, hTi, ht, nT, rfl, ex, ey, ez⟩
    have ex : (ns.map V.str)[m]? = some x := ex
    have ey : (us.map fun n : Nat => V.int (n : Int))[m]? = some y := ey
    have ez : ((clW n us ss).map fun m : Nat => V.int (m : Int))[m]? = some z := ez
    rw [List.getElem?_map] at ex ey ez
    obtain ⟨x, hx', rfl⟩ := Option.map_eq_some_iff.mp ex
    obtain ⟨y, hy', rfl⟩ := Option.map_eq_some_iff.mp ey
    obtain ⟨z, hz', rfl⟩ := Option.map_eq_some_iff.mp ez
    have hz2 : z = min (at0 us m) (at0 ss m) := by
      unfold clW at hz'
      rw [List.getElem?_map, List.getElem?_range hm] at hz'
      exact (Option.some.inj hz').symm
    have hy2 : y = at0 us m := (at_of hy').symm
    have sT := Same.trans (Same.new (Same.refl G) hTi (.tup [V.int (y : Int), V.int (z : Int)])) (Same.new (Same.refl (upd G Ti (.tup [V.int (y : Int), V.int (z : Int)]))) ((upd_ne nT.symm).trans ht) (.tup [V.str x, .ref Ti]))
    have fTi : (upd (upd G Ti (.tup [V.int (y : Int), V.int (z : Int)])) t (.tup [V.str x, .ref Ti])) Ti = some (.tup [V.int (y : Int), V.int (z : Int)]) := (upd_ne nT).trans upd_same
    refine ⟨t, _, rfl, SqT.of upd_same, rfl, _, _, rfl, _, _, rfl, rfl, ?_⟩
    generalize upd (upd G Ti (.tup [V.int (y : Int), V.int (z : Int)])) t (.tup [V.str x, .ref Ti]) = G8 at sT fTi ⊢
    have fd8 := sT _ _ fd'
    have md8 : MapR (AmR K pf) G8 kvs (("p" : Str) :: ns.take m) := md.mono fun _ _ z => AmtQ.same sT z
    have eG8 : Ex G16 G8 := Ex.trans eG sT
    have u8 := eG8 _ _ u16
    have c8 := eG8 _ _ c16
    have lm : (("p" : Str) :: ns.take m).length ≤ 60 := by
      rw [List.length_cons, List.length_take]
      omega
    have yb : y ≤ 10 ^ 40 := us40 _ (List.mem_of_getElem? hy')
    refine s_dputQ (K := K) (q := pf x) (i := 11) rfl (ev_var (i := 4) rfl) (fun H1 e1 Q1 k1 => ⟨_, rfl, ev_sumN (i := 5) rfl (SqL.of (e1 _ _ u8)) H1 (Ex.refl _) _ fun H2 e2 => ev_sumN (i := 8) rfl (SqL.of ((e1.trans e2) _ _ c8)) H2 (Ex.refl _) _ fun H3 e3 => ⟨_, rfl, _, rfl, gv, ((min us.sum own : Nat) : Rat), us.sum, (clW n us ss).sum, y, z, Ti, g, rfl, g16.same (Ex.trans eG8 (e1.trans (e2.trans e3))), Rat.natCast_nonneg, by rw [Rat.den_natCast]; decide, ?_, SqT.of ((e1.trans (e2.trans e3)) _ _ fTi), by omega, Nat.lt_of_le_of_lt yb (by decide), csum, Nat.lt_of_le_of_lt usum (by decide), fun v' H4 e4 hv' => k1 v' H4 ((e2.trans e3).trans e4) (by rw [pL m x hx', ← hz2, ← hy2]; exact hv')⟩⟩) fd8 (by rw [Paired.length md8]; omega) fun v' Gb eb hv' => ⟨_, _, _, rfl, Ex.mut (eG8.trans eb) hdd, by omega, upd_same, ?_⟩
    · rw [Rat.num_natCast, Int.toNat_natCast]
      exact Nat.lt_of_le_of_lt (Nat.le_trans (Nat.min_le_left _ _) usum) (lt_up (show 58 * 10 ^ 40 < 2 ^ 150 by decide) (by decide))
    · have fdb := eb _ _ fd8
      have tX : TK Gb (upd Gb dd (.dK (putK kvs (Sum.inr x) v'))) := TK.dk fdb _
      have et : ("p" : Str) :: ns.take (m + 1) = (("p" : Str) :: ns.take m) ++ [x] := by
        rw [List.take_add_one, hx']
        rfl
      rw [et]
      refine mapR_new ((md8.mono fun _ _ z => AmtQ.same eb z).mono fun _ _ z => AmtQ.tk tX z) (fun hin => ?_) (hv'.tk tX)
      rcases List.mem_cons.mp hin with e | hin
      · exact wok.np (e ▸ List.mem_of_getElem? hx')
      · obtain ⟨j, hj⟩ := List.mem_iff_getElem?.mp hin
        have lj := (List.getElem?_eq_some_iff.mp hj).1
        rw [List.length_take] at lj
        rw [List.getElem?_take_of_lt (by omega)] at hj
        obtain ⟨l1, z1⟩ := List.getElem?_eq_some_iff.mp hj
        obtain ⟨l2, z2⟩ := List.getElem?_eq_some_iff.mp hx'
        have := (List.getElem_inj wok.nd (h₀ := l1) (h₁ := l2)).mp (z1.trans z2.symm)
        omega
  rintro σ18 G18 ⟨o4, o12, kvs, rfl, e18, _, fd18, md18⟩
  rw [List.take_of_length_le (by omega)] at md18
  have t18 := e18 _ _ t16
  have u18 := e18 _ _ u16
  have nmsR : nms rs = ("p" : Str) :: ns := hrs ▸ rowsW_nms
  have belR : belowL rs "" = ("p" : Str) :: ns := hrs ▸ belowW
  have leafR : leavesOf rs = ns := hrs ▸ wok.leaves
  have Uz : ∀ x ∈ ns, InMS 1 (10 ^ 40) (U x) := fun x hx => by
    obtain ⟨i, hi⟩ := List.mem_iff_getElem?.mp hx
    rw [hU x hx, natAt_at wok.nd hi]
    exact nat_ms1 (at_lt us40)
  dsimp only
  show tSeq (tAsg _ _) _ _ [some (.ref p), some (.int (sp : Int)), some (.ref tl), some (.bl g), o4, some (.ref ul), some (.ref sl), some (.int (own : Int)), some (.ref cl), some gv, some (.ref rl), some (.ref dd), o12, none, none, none] G18
  refine q_asgM (K := K) (f := pf) (em_protN (K := K) (C := C) (top := "") (kd := "min") (U := U) (ns := ns) (eTreeV (i := 10) rfl (e18 _ _ frl) (rows_same e18 rowsP) (ev_var (i := 3) rfl) rok (by omega)) rok (by omega) List.mem_cons_self (.inl rfl) (.inl rfl) (hrs ▸ wok.kind) ho (em_dict (epl_zipN (K := K) (i := 4) (j := 14) (p := 2) (q := 5) (f := U) rfl rfl (SqL.of t18) (SqL.of u18) (by omega) (by omega) (fun m x u a b => by rw [hU x (List.mem_of_getElem? a), natAt_at wok.nd a, at_of b]) (fun _ _ => rfl) (fun _ _ => rfl) (fun _ _ => rfl)) wok.nd) ev_c ev_c wok.nd (by omega) (fun x hx => ⟨by rw [leafR]; exact hx, (Uz x hx).sz (m := 1) (s := 140) (by decide) (by decide) (by decide) (by decide), (Uz x hx).lo⟩) (fun x hx hno => absurd (leafR ▸ hx) hno)) fun d2 kv2 G19 hd2 e19 fd2 md2 => ?_
  rw [belR] at md2
  try dsimp only [gName]
  show tRet _ _ [some (.ref p), some (.int (sp : Int)), some (.ref tl), some (.bl g), o4, some (.ref ul), some (.ref sl), some (.int (own : Int)), some (.ref cl), some gv, some (.ref rl), some (.ref dd), o12, some (.ref d2), none, none] G19
  exact ev_cmpVV2 (r := rEqF0 K) eq_M (i := 13) (j := 11) rfl rfl fd2 (e19 _ _ fd18) md2 (md18.mono fun _ _ z => AmtQ.same e19 z) (List.nodup_cons.mpr ⟨wok.np, wok.nd⟩) G19 (Ex.refl _) _ fun G20 e20 => q G20 (src_sameE ((e18.trans e19).trans e20) s16) (k016.trans (Kept.of ((e18.trans e19).trans e20)))
end
end Bd
end

section
namespace Bd
open PySem L2 Am
/-! k10: eight groups within one another, each but the last with a leaf beside the next -/
def tn (i : Nat) : Str := (titL10[i]?).getD ""
def rowT (n ab : Str) (m : Nat) : RowM := ⟨n, ab, [("low", amtD ((m : Nat) : Rat))]⟩
def twoD (ss os : List Nat) (i : Nat) : List RowM := [rowT (tn (i + 1)) (tn i) (at0 ss (i + 1)), rowT (tn (8 + i)) (tn i) (at0 os i)]
def partD (ss os : List Nat) (a : Nat) : List RowM := rowT (tn 0) "" (at0 ss 0) :: (List.range a).flatMap (twoD ss os)
def rowsD (ss os : List Nat) : List RowM := partD ss os 7
def shD : List (Str × Str) := (tn 0, "") :: (List.range 7).flatMap fun i => [(tn (i + 1), tn i), (tn (8 + i), tn i)]
def shOf (r : RowM) : Str × Str := (r.name, r.above)
theorem shape_D {ss os : List Nat} : (rowsD ss os).map shOf = shD := by
  unfold rowsD partD shD
  rw [List.map_cons, List.map_flatMap]
  rfl
def kidsL (L : List (Str × Str)) (k : Key) : List Str := (L.filter fun z => decide ((Sum.inr z.2 : Key) = k)).map (·.1)
def leafL (L : List (Str × Str)) : List Str := (L.filter fun z => !(L.any fun y => decide (y.2 = z.1))).map (·.1)
def belL (L : List (Str × Str)) (top : Str) : List Str := L.foldl (fun acc z => if z.2 = top ∨ z.2 ∈ acc then acc ++ [z.1] else acc) []
theorem kids_sh {rows : List RowM} {L : List (Str × Str)} (h : rows.map shOf = L) (k : Key) : kidsOf rows k = kidsL L k := by
  subst h
  unfold kidsOf kidsL
  rw [List.filter_map, List.map_map]
  rfl
theorem nms_sh {rows : List RowM} {L : List (Str × Str)} (h : rows.map shOf = L) : nms rows = L.map (·.1) := by
  subst h
  unfold nms
  rw [List.map_map]
  rfl
theorem leaf_sh {rows : List RowM} {L : List (Str × Str)} (h : rows.map shOf = L) : leavesOf rows = leafL L := by
  subst h
  unfold leavesOf leafL
  rw [List.filter_map, List.map_map]
  congr 1
  refine List.filter_congr fun r _ => ?_
  unfold leafB
  show _ = !(List.any (rows.map shOf) _)
  rw [List.any_map]
  rfl
theorem bel_sh {rows : List RowM} {L : List (Str × Str)} (h : rows.map shOf = L) (top : Str) : belowL rows top = belL L top := by
  subst h
  unfold belowL belL
  rw [List.foldl_map]
  rfl
def T15 : List Str := (List.range 15).map tn
def Lf : List Str := tn 7 :: (List.range 7).map fun i => tn (8 + i)
def dueN (a : Nat) : List Str := tn 0 :: (List.range a).flatMap fun i => [tn (i + 1), tn (8 + i)]
theorem facts_D : (∀ i ∈ List.range 7, kidsL shD (Sum.inr (tn i)) = [tn (i + 1), tn (8 + i)]) ∧ (∀ x ∈ Lf, kidsL shD (Sum.inr x) = []) ∧ (shD.map (·.1)).Nodup ∧ (∀ x ∈ leafL shD, x ∈ Lf) ∧ (∀ x ∈ Lf, x ∈ leafL shD) ∧ belL shD "" = shD.map (·.1) ∧ T15.Nodup ∧ Lf.Nodup ∧ (∀ x ∈ T15, 1 ≤ x.length ∧ x.length ≤ 10 ∧ ∀ c ∈ x.cps.toList, 97 ≤ c ∧ c ≤ 122) ∧ (∀ x ∈ T15, x ≠ "") ∧ shD.map (·.1) = dueN 7 ∧ titL10.take 15 = T15 := by decide +kernel
theorem tn_in {i : Nat} (h : i < 15) : tn i ∈ T15 := List.mem_map.mpr ⟨i, List.mem_range.mpr h, rfl⟩
theorem tn_get {i : Nat} (h : i < 15) : T15[i]? = some (tn i) := by
  unfold T15
  rw [List.getElem?_map, List.getElem?_range h]
  rfl
theorem tn_inj {i j : Nat} (hi : i < 15) (hj : j < 15) (h : tn i = tn j) : i = j := by
  obtain ⟨l1, z1⟩ := List.getElem?_eq_some_iff.mp (tn_get hi)
  obtain ⟨l2, z2⟩ := List.getElem?_eq_some_iff.mp (tn_get hj)
  exact (List.getElem_inj facts_D.2.2.2.2.2.2.1 (h₀ := l1) (h₁ := l2)).mp (z1.trans (h.trans z2.symm))
def kD (ss os : List Nat) : Str → Rat := natAt T15 (ss ++ os)
def uD (us bs : List Nat) : Str → Rat := natAt Lf (at0 us 7 :: bs)
section
variable {ss os us bs : List Nat}
theorem kD_t (ls : ss.length = 8) {i : Nat} (h : i < 8) : kD ss os (tn i) = ((at0 ss i : Nat) : Rat) := by
  unfold kD
  rw [natAt_at facts_D.2.2.2.2.2.2.1 (tn_get (by omega))]
  unfold at0
  rw [List.getElem?_append_left (by omega)]
theorem kD_l (ls : ss.length = 8) {i : Nat} (h : i < 7) : kD ss os (tn (8 + i)) = ((at0 os i : Nat) : Rat) := by
  unfold kD
  rw [natAt_at facts_D.2.2.2.2.2.2.1 (tn_get (by omega))]
  unfold at0
  rw [List.getElem?_append_right (by omega), ls, Nat.add_sub_cancel_left]
theorem uD_t : uD us bs (tn 7) = ((at0 us 7 : Nat) : Rat) := by
  unfold uD
  rw [natAt_at facts_D.2.2.2.2.2.2.2.1 (i := 0) rfl]
  rfl
theorem uD_l {i : Nat} (h : i < 7) : uD us bs (tn (8 + i)) = ((at0 bs i : Nat) : Rat) := by
  unfold uD
  rw [natAt_at facts_D.2.2.2.2.2.2.2.1 (i := i + 1) (by
    show ((List.range 7).map fun i => tn (8 + i))[i]? = _
    rw [List.getElem?_map, List.getElem?_range h]
    rfl)]
  rfl
theorem mem_D {r : RowM} (h : r ∈ rowsD ss os) : r = rowT (tn 0) "" (at0 ss 0) ∨ ∃ i, i < 7 ∧ (r = rowT (tn (i + 1)) (tn i) (at0 ss (i + 1)) ∨ r = rowT (tn (8 + i)) (tn i) (at0 os i)) := by
  rcases List.mem_cons.mp h with h | h
  · exact .inl h
  · obtain ⟨i, hi, hr⟩ := List.mem_flatMap.mp h
    refine .inr ⟨i, List.mem_range.mp hi, ?_⟩
    rcases List.mem_cons.mp hr with h | h
    · exact .inl h
    · exact .inr (List.mem_singleton.mp h)
theorem in_D {i : Nat} (h : i < 7) : rowT (tn (i + 1)) (tn i) (at0 ss (i + 1)) ∈ rowsD ss os ∧ rowT (tn (8 + i)) (tn i) (at0 os i) ∈ rowsD ss os :=
  ⟨List.mem_cons_of_mem _ (List.mem_flatMap.mpr ⟨i, List.mem_range.mpr h, List.mem_cons_self⟩), List.mem_cons_of_mem _ (List.mem_flatMap.mpr ⟨i, List.mem_range.mpr h, List.mem_cons_of_mem _ List.mem_cons_self⟩)⟩
theorem name_D {r : RowM} (h : r ∈ rowsD ss os) : ∃ i, i < 15 ∧ r.name = tn i := by
  rcases mem_D h with rfl | ⟨i, hi, rfl | rfl⟩
  · exact ⟨0, by decide, rfl⟩
  · exact ⟨i + 1, by omega, rfl⟩
  · exact ⟨8 + i, by omega, rfl⟩
theorem am_low {a : Nat} (ha : a < 2 ^ 200) : DuesAm ["min", "low"] [("low", amtD ((a : Nat) : Rat))] := by
  refine ⟨[("low", ((a : Nat) : Rat))], rfl, by show (["low"] : List Str).Sublist ["min", "low"]; decide, fun z hz => ?_⟩
  rw [List.mem_singleton.mp hz]
  refine ⟨Rat.natCast_nonneg, ?_, ?_⟩
  · rw [Rat.num_natCast, Int.natAbs_natCast]
    exact lt_up ha (by decide)
  · rw [Rat.den_natCast]
    decide
theorem rok_D {S : Nat} (hS : S < 2 ^ 200) (hs : ∀ x ∈ ss, x ≤ S) (ho : ∀ x ∈ os, x ≤ S) : RowsOk (rowsD ss os) := by
  obtain ⟨_, _, f3, _, _, _, _, _, f9, _, _, _⟩ := facts_D
  refine rows_okA (by rw [nms_sh shape_D]; exact f3) (fun r hr => ?_) (fun r hr => ?_) fun i r hr => ?_
  · obtain ⟨i, hi, e⟩ := name_D hr
    rw [e]
    exact f9 _ (tn_in hi)
  · rcases mem_D hr with rfl | ⟨i, hi, rfl | rfl⟩
    · exact am_low (Nat.lt_of_le_of_lt (at_lt hs) hS)
    · exact am_low (Nat.lt_of_le_of_lt (at_lt hs) hS)
    · exact am_low (Nat.lt_of_le_of_lt (at_lt ho) hS)
  · have key : ∀ (L : List (Str × Str)) (i : Nat) (z : Str × Str), L[i]? = some z → (rowsD ss os).map shOf = L → ((rowsD ss os).take i).map (·.name) = (L.take i).map (·.1) := fun L i z _ h => by
      subst h
      rw [← List.map_take, List.map_map]
      rfl
    have hz : shD[i]? = some (shOf r) := by
      rw [← shape_D (ss := ss) (os := os), List.getElem?_map, hr]
      rfl
    have dec : ∀ i ∈ List.range 15, ∀ z, shD[i]? = some z → z.2 = "" ∨ z.2 ∈ (shD.take i).map (·.1) := by
      have : ∀ i ∈ List.range 15, (match shD[i]? with | some z => decide (z.2 = "" ∨ z.2 ∈ (shD.take i).map (·.1)) | none => true) = true := by decide +kernel
      intro i hi z hz
      have := this i hi
      rw [hz] at this
      exact of_decide_eq_true this
    have li : i < 15 := by
      have := (List.getElem?_eq_some_iff.mp hz).1
      exact this
    rcases dec i (List.mem_range.mpr li) _ hz with h | h
    · exact .inl h
    · refine .inr ?_
      unfold nms
      rw [key shD i _ hz shape_D]
      exact h
theorem kind_D (ls : ss.length = 8) : KindOk (rowsD ss os) "low" (kD ss os) := by
  intro r hr
  have due : ∀ a : Rat, dueOf (fullD [("low", amtD a)]) "low" = some (amtD a) := fun _ => rfl
  rcases mem_D hr with rfl | ⟨i, hi, rfl | rfl⟩
  · show dueOf (fullD [("low", _)]) "low" = some (amtD (kD ss os (tn 0)))
    rw [kD_t ls (by decide)]
    exact due _
  · show dueOf (fullD [("low", _)]) "low" = some (amtD (kD ss os (tn (i + 1))))
    rw [kD_t ls (by omega)]
    exact due _
  · show dueOf (fullD [("low", _)]) "low" = some (amtD (kD ss os (tn (8 + i))))
    rw [kD_l ls hi]
    exact due _
theorem kids_D {i : Nat} (h : i < 7) : kidsOf (rowsD ss os) (Sum.inr (tn i)) = [tn (i + 1), tn (8 + i)] := by
  rw [kids_sh shape_D]
  exact facts_D.1 i (List.mem_range.mpr h)
theorem kids_L {x : Str} (h : x ∈ Lf) : kidsOf (rowsD ss os) (Sum.inr x) = [] := by
  rw [kids_sh shape_D]
  exact facts_D.2.1 x h
theorem lf_l {i : Nat} (h : i < 7) : tn (8 + i) ∈ Lf := List.mem_cons_of_mem _ (List.mem_map.mpr ⟨i, List.mem_range.mpr h, rfl⟩)
/-- what is protected in the deep tree -/
theorem deep_math {S : Nat} {g : Bool} (hS : S < 2 ^ 137) (ls : ss.length = 8) (hs : ∀ x ∈ ss, x ≤ S) (ho : ∀ x ∈ os, x ≤ S) (hb : ∀ x ∈ bs, x ≤ S) (hu : ∀ i, i < 8 → at0 us i ≤ S) (su : ∀ i, i < 7 → at0 us i = at0 us (i + 1) + at0 bs i) :
    ∃ U c p, HeldOk (rowsD ss os) "" g (kD ss os) U c p 1 S ∧ U (tn 7) = ((at0 us 7 : Nat) : Rat) ∧ (∀ i, i < 7 → U (tn (8 + i)) = ((at0 bs i : Nat) : Rat)) ∧ (∀ i, i < 8 → 0 ≤ p (tn i) ∧ (p (tn i)).den < 2 ^ 1500 ∧ (p (tn i)).num.toNat < 2 ^ 3000) ∧ p (tn 0) = ((min (at0 us 0) (at0 ss 0) : Nat) : Rat) ∧
      ∀ i, i < 7 → p (tn (i + 1)) = childQ g (p (tn i)) ((at0 us i : Nat) : Rat) ((min (at0 us (i + 1)) (at0 ss (i + 1)) + min (at0 bs i) (at0 os i) : Nat) : Rat) ((at0 us (i + 1) : Nat) : Rat) ((min (at0 us (i + 1)) (at0 ss (i + 1)) : Nat) : Rat) ∧
        p (tn (8 + i)) = childQ g (p (tn i)) ((at0 us i : Nat) : Rat) ((min (at0 us (i + 1)) (at0 ss (i + 1)) + min (at0 bs i) (at0 os i) : Nat) : Rat) ((at0 bs i : Nat) : Rat) ((min (at0 bs i) (at0 os i) : Nat) : Rat) := by
  have rok : RowsOk (rowsD ss os) := rok_D (Nat.lt_trans hS (by decide)) hs ho
  obtain ⟨_, _, _, _, _, f6, _, _, _, f10, _, _⟩ := facts_D
  obtain ⟨U, hU⟩ := use_ex rok (uD us bs)
  obtain ⟨p, R⟩ := reck_of rok "" g (kD ss os) (uD us bs) U hU
  have row0 : rowT (tn 0) "" (at0 ss 0) ∈ rowsD ss os := List.mem_cons_self
  have Ul : ∀ i, i < 7 → U (tn (8 + i)) = ((at0 bs i : Nat) : Rat) := fun i hi => by
    have h := hU _ (in_D hi).2
    rw [show (rowT (tn (8 + i)) (tn i) (at0 os i)).name = tn (8 + i) from rfl, if_pos (kids_L (lf_l hi)), uD_l hi] at h
    exact h
  have U7 : U (tn 7) = ((at0 us 7 : Nat) : Rat) := by
    have h := hU _ (in_D (ss := ss) (os := os) (i := 6) (by decide)).1
    rw [show (rowT (tn (6 + 1)) (tn 6) (at0 ss (6 + 1))).name = tn 7 from rfl, if_pos (kids_L List.mem_cons_self), uD_t] at h
    exact h
  have nameRow : ∀ i, i < 8 → ∃ r ∈ rowsD ss os, r.name = tn i := fun i hi => by
    cases i with
    | zero => exact ⟨_, row0, rfl⟩
    | succ j => exact ⟨_, (in_D (show j < 7 by omega)).1, rfl⟩
  have Ut : ∀ j, j ≤ 7 → U (tn (7 - j)) = ((at0 us (7 - j) : Nat) : Rat) := by
    intro j
    induction j with
    | zero => intro _; exact U7
    | succ j ih =>
      intro hj
      have ih := ih (by omega)
      obtain ⟨i, hi⟩ : ∃ i, i = 7 - (j + 1) := ⟨_, rfl⟩
      have e1 : 7 - j = i + 1 := by omega
      have i7 : i < 7 := by omega
      rw [e1] at ih
      rw [← hi]
      obtain ⟨r, hr, e⟩ := nameRow i (by omega)
      have h := hU r hr
      rw [e, kids_D i7, if_neg (by simp)] at h
      rw [h, List.map_cons, List.map_cons, List.map_nil, sum_cons, sum_cons, ih, Ul i i7, su i i7, Rat.natCast_add]
      have : sumQ [] = 0 := rfl
      rw [this]
      grind
  have Ut2 : ∀ i, i < 8 → U (tn i) = ((at0 us i : Nat) : Rat) := fun i hi => by
    have := Ut (7 - i) (by omega)
    rwa [show 7 - (7 - i) = i by omega] at this
  have B : Bds (rowsD ss os) 1 S 1 137 (kD ss os) U := by
    refine ⟨by decide, by decide, hS, by decide, by decide, .inr ?_, by show (15 : Nat) ≤ 200; decide, fun r hr => ?_, fun r hr => ?_⟩
    · have := wide_few rok
      have l15 : (rowsD ss os).length = 15 := rfl
      have : wideN (rowsD ss os) ≤ 7 := by omega
      exact Nat.le_trans (Nat.mul_le_mul_left _ (Nat.succ_le_succ this)) (by decide)
    · rcases mem_D hr with rfl | ⟨i, hi, rfl | rfl⟩
      · show InMS 1 S (U (tn 0))
        rw [Ut2 0 (by decide)]
        exact nat_ms1 (hu 0 (by decide))
      · show InMS 1 S (U (tn (i + 1)))
        rw [Ut2 _ (by omega)]
        exact nat_ms1 (hu _ (by omega))
      · show InMS 1 S (U (tn (8 + i)))
        rw [Ul i hi]
        exact nat_ms1 (at_lt hb)
    · rcases mem_D hr with rfl | ⟨i, hi, rfl | rfl⟩
      · show InMS 1 S (kD ss os (tn 0))
        rw [kD_t ls (by decide)]
        exact nat_ms1 (at_lt hs)
      · show InMS 1 S (kD ss os (tn (i + 1)))
        rw [kD_t ls (by omega)]
        exact nat_ms1 (at_lt hs)
      · show InMS 1 S (kD ss os (tn (8 + i)))
        rw [kD_l ls hi]
        exact nat_ms1 (at_lt ho)
  have bel : belowL (rowsD ss os) "" = nms (rowsD ss os) := by
    rw [bel_sh shape_D, nms_sh shape_D]
    exact f6
  have ct : ∀ i, i < 8 → (if kD ss os (tn i) < U (tn i) then kD ss os (tn i) else U (tn i)) = ((min (at0 us i) (at0 ss i) : Nat) : Rat) := fun i hi => by
    rw [kD_t ls hi, Ut2 i hi, min_castQ]
  have cl : ∀ i, i < 7 → (if kD ss os (tn (8 + i)) < U (tn (8 + i)) then kD ss os (tn (8 + i)) else U (tn (8 + i))) = ((min (at0 bs i) (at0 os i) : Nat) : Rat) := fun i hi => by
    rw [kD_l ls hi, Ul i hi, min_castQ]
  have cs : ∀ i, i < 7 → sumQ ([tn (i + 1), tn (8 + i)].map fun n => if kD ss os n < U n then kD ss os n else U n) = ((min (at0 us (i + 1)) (at0 ss (i + 1)) + min (at0 bs i) (at0 os i) : Nat) : Rat) := fun i hi => by
    rw [List.map_cons, List.map_cons, List.map_nil, sum_cons, sum_cons, ct (i + 1) (by omega), cl i hi, Rat.natCast_add]
    have : sumQ [] = 0 := rfl
    rw [this]
    grind
  refine ⟨U, _, p, B.held R rok, U7, Ul, fun i hi => ?_, ?_, fun i hi => ⟨?_, ?_⟩⟩
  · obtain ⟨r, hr, e⟩ := nameRow i hi
    obtain ⟨a, b, c, d⟩ := B.p0 R rok r.name (by rw [bel]; exact List.mem_map_of_mem hr)
    rw [e] at a b c d
    refine ⟨a, c, ?_⟩
    have := d.1
    have h0 : 0 ≤ (p (tn i)).num := Rat.num_nonneg.mpr a
    have e3 : (p (tn i)).num.toNat = (p (tn i)).num.natAbs := by omega
    rw [e3]
    exact this
  · have h := R.up _ row0
    rw [show (rowT (tn 0) "" (at0 ss 0)).name = tn 0 from rfl, show (rowT (tn 0) "" (at0 ss 0)).above = "" from rfl, if_pos rfl, ct 0 (by decide)] at h
    exact h
  · have h := R.up _ (in_D hi).1
    rw [show (rowT (tn (i + 1)) (tn i) (at0 ss (i + 1))).name = tn (i + 1) from rfl, show (rowT (tn (i + 1)) (tn i) (at0 ss (i + 1))).above = tn i from rfl, if_neg (f10 _ (tn_in (by omega))), kids_D hi, cs i hi, Ut2 i (by omega)] at h
    rw [h]
    show childQ g _ _ _ (U (tn (i + 1))) (if kD ss os (tn (i + 1)) < U (tn (i + 1)) then kD ss os (tn (i + 1)) else U (tn (i + 1))) = _
    rw [ct (i + 1) (by omega), Ut2 (i + 1) (by omega)]
  · have h := R.up _ (in_D hi).2
    rw [show (rowT (tn (8 + i)) (tn i) (at0 os i)).name = tn (8 + i) from rfl, show (rowT (tn (8 + i)) (tn i) (at0 os i)).above = tn i from rfl, if_neg (f10 _ (tn_in (by omega))), kids_D hi, cs i hi, Ut2 i (by omega)] at h
    rw [h]
    show childQ g _ _ _ (U (tn (8 + i))) (if kD ss os (tn (8 + i)) < U (tn (8 + i)) then kD ss os (tn (8 + i)) else U (tn (8 + i))) = _
    rw [cl i hi, Ul i hi]
end
end Bd
end

section
namespace Bd
open PySem L2 Am
open Evl hiding tCut pss_cut
/-! k10: the deep tree, and the law -/
abbrev sDeep10 : Stmt := (top 66)
theorem scDeep10 : FnScope ["_law_source_here", "_law_span", "_law_flag", "_law_titles_here", "_law_beside", "_law_settings", "_law_uses", "_law_use", "_law_own_so", "_law_rows", "_law_spent", "_law_due", "_law_at", "_law_pairs", "_law_wish", "_law_one_here"] ["_law_source_here", "_law_span"] (defScope sDeep10) := ⟨rfl, rfl, rfl, by decide +kernel, rfl, by decide +kernel, by decide +kernel⟩
abbrev sLaw : Stmt := (top 67)
theorem scLaw : FnScope ["_law_script", "_law_k", "_law_source_here", "_law_span"] ["_law_script"] (defScope sLaw) := ⟨rfl, rfl, rfl, by decide +kernel, rfl, by decide +kernel, by decide +kernel⟩

def spDeep10 (K : PySem.W.Frag) : Sp := fun vs H Q _ => ∃ (p : Addr) (sp : Nat), vs = [.ref p, .int (sp : Int)] ∧ Src H p ∧ 0 < sp ∧ sp ≤ 10 ^ 40 ∧ ∀ H', Src H' p → Kept p H H' → Q (.bl true) H'
def spLaw (K : PySem.W.Frag) : Sp := fun vs H Q _ => ∃ (a : Addr) (ns : List Int), vs = [.ref a] ∧ SqL K H a (ns.map V.int) ∧ ns.length ≤ 63 ∧ ∀ H', Q (.bl true) H'
def PairI (K : PySem.W.Frag) (G : Hp) (t : Addr) (xy : Nat × Nat) : Prop := SqT K G t [.int (xy.1 : Int), .int (xy.2 : Int)]
section
variable {K : PySem.W.Frag} {H : Hp} {σ : L2.St} {ta tb te tx ty tq td tk tn' t1 t2 t3 t4 : TE} {t : TT} {tu : TS} {E : XK} {C : Addr} {D : Ends} {tz : TS}
/-- [a drawn number below M for i in range(n)] -/
theorem q_drawsR {sp : Addr} {j l M n : Nat} {vs : List Nat} (hs : Src H sp) (hn : n ≤ 900) (hw : ∀ v, wipe ((wipe σ vs).set j (some v)) vs = wipe σ vs)
    (he : ∀ v G, Src G sp → Kept sp H G → ∀ Q : VK, (∀ (n : Nat) G', n < M → Src G' sp → Kept sp G G' → Q (.int (n : Int)) G') → te ((wipe σ vs).set j (some v)) G Q)
    (k : ∀ r (ns : List Nat) G, H r = none → r ≠ sp → Src G sp → Kept sp H G → G r = some (.lst (ns.map fun n : Nat => V.int (n : Int))) → ns.length = n → (∀ n ∈ ns, n < M) → tz D (σ.set l (some (.ref r))) G) :
    tSeq (tAsg (tLc (iRng1 (tCons (tC (.int (n : Int))) tNil)) (gName j) tYes te vs) (gName l)) tz D σ H := by
  refine ⟨_, rfl, by omega, by omega, fun Dl hD => ?_⟩
  have nD : Dl ≠ sp := (src_ne hs hD).symm
  refine lc_range (n := n) (fun m G => ∃ ns : List Nat, Src G sp ∧ Kept sp H G ∧ G Dl = some (.lst (ns.map fun n : Nat => V.int (n : Int))) ∧ ns.length = m ∧ m ≤ n ∧ ∀ q ∈ ns, q < M) ⟨[], src_new hs hD, (Kept.refl sp H).new hD _, upd_same, rfl, Nat.zero_le _, fun q hq => by cases hq⟩ ?_ ?_
  · rintro m G hm ⟨ns, sG, kG, fG, lG, _, dG⟩
    refine ⟨hw _, et_yes G (Ex.refl _) _ fun G2 e2 => iteT ?_⟩
    have sG2 := src_sameE e2 sG
    refine he _ G2 sG2 (kG.trans (Kept.of e2)) _ fun q G3 hq s3 k3 => ?_
    have f3 := k3 _ _ nD (e2 _ _ fG)
    refine ⟨_, f3, small1000 (by rw [List.length_map]; omega), ns ++ [q], src_upd s3 nD.symm, kept_mutN ((kG.trans (Kept.of e2)).trans k3) hD, by rw [upd_same, List.map_append]; rfl, by rw [List.length_append, lG]; rfl, by omega, fun q' hq' => ?_⟩
    rcases List.mem_append.mp hq' with h | h
    · exact dG q' h
    · rw [List.mem_singleton.mp h]
      exact hq
  · rintro G ⟨ns, sG, kG, fG, lG, _, dG⟩
    exact k Dl ns G hD nD sG kG fG lG dG
/-- [(a drawn number, a drawn number) for i in range(n)] -/
theorem q_pairsR {sp : Addr} {j l M n : Nat} {vs : List Nat} (hs : Src H sp) (hn : n ≤ 900) (hw : ∀ v, wipe ((wipe σ vs).set j (some v)) vs = wipe σ vs)
    (he : ∀ v G, Src G sp → Kept sp H G → ∀ Q : VK, (∀ (n : Nat) G', n < M → Src G' sp → Kept sp G G' → Q (.int (n : Int)) G') → te ((wipe σ vs).set j (some v)) G Q)
    (k : ∀ r (ps : List Addr) (xys : List (Nat × Nat)) G, H r = none → r ≠ sp → Src G sp → Kept sp H G → G r = some (.lst (ps.map V.ref)) → xys.length = n → Paired (PairI K G) ps xys → (∀ xy ∈ xys, xy.1 < M ∧ xy.2 < M) → tz D (σ.set l (some (.ref r))) G) :
    tSeq (tAsg (tLc (iRng1 (tCons (tC (.int (n : Int))) tNil)) (gName j) tYes (tTup (tCons te (tCons te tNil))) vs) (gName l)) tz D σ H := by
  refine ⟨_, rfl, by omega, by omega, fun Dl hD => ?_⟩
  have nD : Dl ≠ sp := (src_ne hs hD).symm
  refine lc_range (n := n) (fun m G => ∃ (ps : List Addr) (xys : List (Nat × Nat)), Src G sp ∧ Kept sp H G ∧ G Dl = some (.lst (ps.map V.ref)) ∧ xys.length = m ∧ m ≤ n ∧ Paired (PairI K G) ps xys ∧ ∀ xy ∈ xys, xy.1 < M ∧ xy.2 < M) ⟨[], [], src_new hs hD, (Kept.refl sp H).new hD _, upd_same, rfl, Nat.zero_le _, .nil, fun q hq => by cases hq⟩ ?_ ?_
  · rintro m G hm ⟨ps, xys, sG, kG, fG, lG, _, pG, dG⟩
    refine ⟨hw _, et_yes G (Ex.refl _) _ fun G2 e2 => iteT ?_⟩
    have sG2 := src_sameE e2 sG
    refine he _ G2 sG2 (kG.trans (Kept.of e2)) _ fun x G3 hx s3 k3 => he _ G3 s3 ((kG.trans (Kept.of e2)).trans k3) _ fun y G4 hy s4 k4 => ⟨by show 2 ≤ sizeLine; decide, fun tp htp => ?_⟩
    have f4 := k4 _ _ nD (k3 _ _ nD (e2 _ _ fG))
    have t4 : TK G G4 := ((TK.of e2).trans (src_tkE sG2 k3)).trans (src_tkE s3 k4)
    have s5 := Same.new (Same.refl G4) htp (.tup [.int (x : Int), .int (y : Int)])
    have f5 : upd G4 tp (.tup [.int (x : Int), .int (y : Int)]) tp = some (.tup [.int (x : Int), .int (y : Int)]) := upd_same
    generalize upd G4 tp (.tup [.int (x : Int), .int (y : Int)]) = G5 at s5 f5 ⊢
    have fD := s5 _ _ f4
    have tX : TK G5 (upd G5 Dl (.lst (ps.map V.ref ++ [.ref tp]))) := TK.lst fD _
    refine ⟨_, fD, small1000 (by rw [List.length_map, Paired.length pG]; omega), ps ++ [tp], xys ++ [(x, y)], src_upd (src_sameE s5 s4) nD.symm, kept_mutN ((((kG.trans (Kept.of e2)).trans k3).trans k4).trans (Kept.of s5)) hD, by rw [upd_same, List.map_append]; rfl, by rw [List.length_append, lG]; rfl, by omega, paired_snoc (F := PairI K _) (x := tp) (y := (x, y)) (tX.seqT (SqT.of f5)) (paired_mono (fun a b (z : PairI K G a b) => (show PairI K _ a b from tX.seqT ((TK.of s5).seqT (t4.seqT z)))) pG), fun q' hq' => ?_⟩
    rcases List.mem_append.mp hq' with h | h
    · exact dG q' h
    · rw [List.mem_singleton.mp h]
      exact ⟨hx, hy⟩
  · rintro G ⟨ps, xys, sG, kG, fG, lG, _, pG, dG⟩
    exact k Dl ps xys G hD nD sG kG fG lG pG dG
theorem next_two10 {E2 : XK} {p : Addr} {sp c : Nat} (hv : σ[0]? = some (some (.ref p))) (hw : σ[1]? = some (some (.int (sp : Int)))) (h0 : 0 < sp) (h1 : sp ≤ 10 ^ 40) (c0 : 0 < c) (c4 : c ≤ 4) (hs : Src H p) {Q : VK} (k : ∀ (n : Nat) H', n < 4 * 10 ^ 40 → Src H' p → Kept p H H' → Q (.int (n : Int)) H') :
    tCall spNextB [] E (tCons (tVar 0) (tCons (tCall (spOne K) [] E2 (tCons (tVar 0) (tCons (tLst (tCons (tVar 1) (tCons (tOp (rI CMulW fun i j => V.int (i * j)) (tC (.int (c : Int))) (tVar 1)) tNil))) tNil))) tNil)) σ H Q := by
  have ec : (c : Int) * (sp : Int) = ((c * sp : Nat) : Int) := (Int.natCast_mul c sp).symm
  refine ⟨_, hv, _, hv, _, hw, _, hw, _, _, rfl, rfl, wide_mul (a := 3) (b := 140) (by rw [Int.natAbs_natCast]; omega) (by rw [Int.natAbs_natCast]; exact Nat.lt_of_le_of_lt h1 (by decide)) (by decide) (by decide) (by decide), by show 2 ≤ sizeLine; decide, fun l hl => ?_⟩
  have e := Same.new (Same.refl H) hl (.lst [.int (sp : Int), .int ((c : Int) * (sp : Int))])
  refine ⟨p, l, [.int (sp : Int), .int ((c : Int) * (sp : Int))], rfl, src_sameE e hs, SqL.of upd_same, (src_ne hs hl).symm, by simp, by simp, fun v G hm s2 k2 => ?_⟩
  have cs : c * sp ≤ 4 * 10 ^ 40 := Nat.mul_le_mul c4 h1
  have hm : ∃ m : Nat, v = .int (m : Int) ∧ 0 < m ∧ m ≤ 4 * 10 ^ 40 := by
    simp only [List.mem_cons, List.not_mem_nil, or_false] at hm
    rcases hm with rfl | rfl
    · exact ⟨sp, rfl, h0, by omega⟩
    · exact ⟨c * sp, congrArg V.int ec, Nat.mul_pos c0 h0, cs⟩
  obtain ⟨m, rfl, m0, m1⟩ := hm
  exact ⟨p, m, rfl, s2, m0, Nat.lt_of_le_of_lt m1 (by decide), fun n G2 hn s3 k3 => k n G2 (by omega) s3 (((Kept.of e).trans k2).trans k3)⟩
theorem q_appRow {i : Nat} {rl : Addr} {ws : List V} {row : RowM} (hi : σ[i]? = some (some (.ref rl))) (hl : H rl = some (.lst ws)) (h : EvRow K te σ H row) (hz : ws.length ≤ 900) (k : ∀ r H1, Ex H H1 → RowAt K H1 (.ref r) row → tz D σ (upd H1 rl (.lst (ws ++ [.ref r])))) : tSeq (tDrop (tBM K "list" rAppend (tVar i) (tCons te tNil))) tz D σ H :=
  ⟨_, hi, Or.inl ⟨rfl, ws, sq_of hl⟩, h H (Ex.refl H) _ fun r H1 _ hrow e1 => ⟨rl, ws, .ref r, rfl, rfl, e1 _ _ hl, small1000 (by omega), k r H1 e1 hrow⟩⟩
theorem ev_ixV {i j : Nat} {a : Addr} {xs : List V} {v : V} (hi : σ[i]? = some (some (.ref a))) (ha : SqL K H a xs) (hx : Ev tx σ H (.int (j : Int))) (h : xs[j]? = some v) : Ev (tOp (rIxL K) (tVar i) tx) σ H v := ev_op (ev_var hi) hx (rv_ixL ha (atI_nat h))
theorem eq_dg {i : Nat} {d : Addr} {kvs : List (Key × V)} {f : Str → Rat} {ns : List Str} {n : Str} (hi : σ[i]? = some (some (.ref d))) (fd : H d = some (.dK kvs)) (m : MapR (AmR K f) H kvs ns) (nd : ns.Nodup) (hn : n ∈ ns) (hx : Ev tx σ H (.str n)) : EvQ K (tDGet (tVar i) tx) σ H (f n) := fun H1 e Q k => ⟨_, hi, hx H1 e _ fun H2 e2 => by
  obtain ⟨v, a, b⟩ := m.get nd hn
  exact ⟨d, v, rfl, dget_of (k := Sum.inr n) (e2 _ _ (e _ _ fd)) a, k v H2 e2 (AmtQ.same (e.trans e2) b)⟩⟩
theorem eq_child {q : Rat} {un cl u c : Nat} {Ti : Addr} {g : Bool} (hq : EvQ K tq σ H q) (h1 : Ev t1 σ H (.int (un : Int))) (h2 : Ev t2 σ H (.int (cl : Int))) (h3 : Ev t3 σ H (.ref Ti)) (ht : SqT K H Ti [.int (u : Int), .int (c : Int)]) (h4 : Ev t4 σ H (.bl g)) (q0 : 0 ≤ q) (qd : q.den < 2 ^ 1500) (qn : q.num.toNat < 2 ^ 3000) (cu : c ≤ u) (uz : u < 2 ^ 150) (clun : cl ≤ un) (unz : un < 2 ^ 150) :
    EvQ K (tCall (spChild K) [] E (tCons tq (tCons t1 (tCons t2 (tCons t3 (tCons t4 tNil)))))) σ H (childQ g q ((un : Nat) : Rat) ((cl : Nat) : Rat) ((u : Nat) : Rat) ((c : Nat) : Rat)) := fun H1 e Q k =>
  hq H1 e _ fun v H2 e2 hv => h1 H2 (e.trans e2) _ fun H3 e3 => h2 H3 ((e.trans e2).trans e3) _ fun H4 e4 => h3 H4 (((e.trans e2).trans e3).trans e4) _ fun H5 e5 => h4 H5 ((((e.trans e2).trans e3).trans e4).trans e5) _ fun H6 e6 =>
    ⟨v, q, un, cl, u, c, Ti, g, rfl, hv.same (e3.trans (e4.trans (e5.trans e6))), q0, qd, qn, ex_t ((((e.trans e2).trans e3).trans e4).trans (e5.trans e6)) ht, cu, uz, clun, unz, fun v' H7 e7 hv' => k v' H7 ((((e2.trans e3).trans e4).trans (e5.trans e6)).trans e7) hv'⟩
theorem q_dputQ {i : Nat} {d : Addr} {kvs : List (Key × V)} {n : Str} {q : Rat} (hv : σ[i]? = some (some (.ref d))) (hk : Ev tk σ H (.str n)) (h : EvQ K te σ H q) (fd : H d = some (.dK kvs)) (len : kvs.length ≤ 900)
    (k : ∀ v H1, Ex H H1 → AmtQ K H1 v q → tz D σ (upd H1 d (.dK (putK kvs (Sum.inr n) v)))) : tSeq (sDPut (tVar i) tk te) tz D σ H := s_dputQ (D := { D with nx := tz D }) hv hk h fd len k
theorem q_forRng10 {n i : Nat} {tb : TS} (Pv : Nat → L2.St → Hp → Prop) (h0 : Pv 0 σ H) (h1 : ((n : Nat) : Int) < 2 ^ 62) (h2 : -(2 ^ 62) ≤ ((n : Nat) : Int))
    (hs : ∀ (j : Nat) σ G, j < n → Pv j σ G → ∀ D2 : Ends, (∀ σ2 G2, Pv (j + 1) σ2 G2 → D2.nx σ2 G2) → tb D2 (σ.set i (some (.int (0 + (j : Int))))) G) (hd : ∀ σ G, Pv n σ G → tz D σ G) : tSeq (tFor (iRng1 (tCons (tC (.int (n : Int))) tNil)) (gName i) tb) tz D σ H :=
  ⟨_, rfl, h2, h1, for_range (D := { D with nx := tz D }) (n := n) Pv h0 (fun j σ G hj p => hs j σ G hj p _ fun _ _ h => h) hd⟩
end
/-- the rows, what is used and what is due, while they grow -/
structure Dp3 (K : PySem.W.Frag) (Gb G : Hp) (rl sd dd : Addr) (U pf : Str → Rat) (ws : List V) (k1 k2 : List (Key × V)) (rows : List RowM) (n1 n2 : List Str) : Prop where
  e : Ex Gb G
  r : G rl = some (.lst ws)
  rp : Paired (RowAt K G) ws rows
  s : G sd = some (.dK k1)
  sm : MapR (AmR K U) G k1 n1
  d : G dd = some (.dK k2)
  dm : MapR (AmR K pf) G k2 n2
section
variable {K : PySem.W.Frag} {Gb G G' : Hp} {rl sd dd : Addr} {U pf : Str → Rat} {ws : List V} {k1 k2 : List (Key × V)} {rows : List RowM} {n1 n2 : List Str}
theorem Dp3.same (h : Dp3 K Gb G rl sd dd U pf ws k1 k2 rows n1 n2) (e : Ex G G') : Dp3 K Gb G' rl sd dd U pf ws k1 k2 rows n1 n2 :=
  ⟨h.e.trans e, e _ _ h.r, rows_same e h.rp, e _ _ h.s, h.sm.mono fun _ _ z => AmtQ.same e z, e _ _ h.d, h.dm.mono fun _ _ z => AmtQ.same e z⟩
theorem Dp3.app (h : Dp3 K Gb G rl sd dd U pf ws k1 k2 rows n1 n2) (hf : Gb rl = none) {v : V} {row : RowM} (hv : RowAt K G v row) (hd : ∀ r ∈ rows ++ [row], DuesOk r.dues) : Dp3 K Gb (upd G rl (.lst (ws ++ [v]))) rl sd dd U pf (ws ++ [v]) k1 k2 (rows ++ [row]) n1 n2 := by
  have tX : TK G (upd G rl (.lst (ws ++ [v]))) := TK.lst h.r _
  have nrs : sd ≠ rl := fun z => by have := h.s; rw [z, h.r] at this; cases this
  have nrd : dd ≠ rl := fun z => by have := h.d; rw [z, h.r] at this; cases this
  exact ⟨Ex.mut h.e hf, upd_same, paired_snoc (tX.row (hd _ (List.mem_append_right _ List.mem_cons_self)) hv) (paired_monoM (fun x r hr z => tX.row (hd r (List.mem_append_left _ hr)) z) h.rp), (upd_ne nrs).trans h.s, h.sm.mono fun _ _ z => AmtQ.tk tX z, (upd_ne nrd).trans h.d, h.dm.mono fun _ _ z => AmtQ.tk tX z⟩
theorem Dp3.putS (h : Dp3 K Gb G rl sd dd U pf ws k1 k2 rows n1 n2) (hf : Gb sd = none) (ne : sd ≠ dd) (hd : ∀ r ∈ rows, DuesOk r.dues) {v : V} {n : Str} (hn : n ∉ n1) (hv : AmtQ K G v (U n)) : Dp3 K Gb (upd G sd (.dK (putK k1 (Sum.inr n) v))) rl sd dd U pf ws (putK k1 (Sum.inr n) v) k2 rows (n1 ++ [n]) n2 := by
  have tX : TK G (upd G sd (.dK (putK k1 (Sum.inr n) v))) := TK.dk h.s _
  have nrs : rl ≠ sd := fun z => by have := h.s; rw [← z, h.r] at this; cases this
  exact ⟨Ex.mut h.e hf, (upd_ne nrs).trans h.r, paired_monoM (fun x r hr z => tX.row (hd r hr) z) h.rp, upd_same, mapR_new (h.sm.mono fun _ _ z => AmtQ.tk tX z) hn (hv.tk tX), (upd_ne ne.symm).trans h.d, h.dm.mono fun _ _ z => AmtQ.tk tX z⟩
theorem Dp3.putD (h : Dp3 K Gb G rl sd dd U pf ws k1 k2 rows n1 n2) (hf : Gb dd = none) (ne : sd ≠ dd) (hd : ∀ r ∈ rows, DuesOk r.dues) {v : V} {n : Str} (hn : n ∉ n2) (hv : AmtQ K G v (pf n)) : Dp3 K Gb (upd G dd (.dK (putK k2 (Sum.inr n) v))) rl sd dd U pf ws k1 (putK k2 (Sum.inr n) v) rows n1 (n2 ++ [n]) := by
  have tX : TK G (upd G dd (.dK (putK k2 (Sum.inr n) v))) := TK.dk h.d _
  have nrd : rl ≠ dd := fun z => by have := h.d; rw [← z, h.r] at this; cases this
  exact ⟨Ex.mut h.e hf, (upd_ne nrd).trans h.r, paired_monoM (fun x r hr z => tX.row (hd r hr) z) h.rp, (upd_ne ne).trans h.s, h.sm.mono fun _ _ z => AmtQ.tk tX z, upd_same, mapR_new (h.dm.mono fun _ _ z => AmtQ.tk tX z) hn (hv.tk tX)⟩
end
/-- what is used from the innermost group outwards -/
def wD (u7 : Nat) (bs : List Nat) : Nat → Nat
  | 0 => u7
  | i + 1 => wD u7 bs i + at0 bs (6 - i)
def usD (u7 : Nat) (bs : List Nat) : List Nat := ((List.range 8).map (wD u7 bs)).reverse
theorem usD_at {u7 : Nat} {bs : List Nat} {i : Nat} (h : i < 8) : at0 (usD u7 bs) i = wD u7 bs (7 - i) := by
  unfold at0 usD
  rw [List.getElem?_reverse (by rw [List.length_map, List.length_range]; exact h), List.length_map, List.length_range, List.getElem?_map, List.getElem?_range (by omega)]
  rfl
theorem usD_sum {u7 : Nat} {bs : List Nat} {i : Nat} (h : i < 7) : at0 (usD u7 bs) i = at0 (usD u7 bs) (i + 1) + at0 bs i := by
  rw [usD_at (by omega), usD_at (by omega), show 7 - i = (7 - (i + 1)) + 1 by omega]
  show wD u7 bs (7 - (i + 1)) + at0 bs (6 - (7 - (i + 1))) = _
  rw [show 6 - (7 - (i + 1)) = i by omega]
theorem wD_le {u7 S : Nat} {bs : List Nat} (hu : u7 ≤ 4 * S) (hb : ∀ b ∈ bs, b ≤ S) : ∀ i, wD u7 bs i ≤ (4 + i) * S
  | 0 => by simpa [wD] using hu
  | i + 1 => by
    have h1 := wD_le hu hb i
    have h2 := at_lt (m := 6 - i) hb
    show wD u7 bs i + at0 bs (6 - i) ≤ _
    have : (4 + (i + 1)) * S = (4 + i) * S + S := by rw [show 4 + (i + 1) = (4 + i) + 1 by omega, Nat.succ_mul]
    omega
theorem at_int {vs : List Nat} {i : Nat} (h : i < vs.length) : (vs.map fun n : Nat => V.int (n : Int))[i]? = some (V.int ((at0 vs i : Nat) : Int)) := by
  rw [List.getElem?_map, List.getElem?_eq_getElem h]
  show some _ = some _
  rw [at_some (List.getElem?_eq_getElem h)]
theorem tn_str {i : Nat} (h : i < 15) : (T15.map V.str)[i]? = some (V.str (tn i)) := by
  rw [List.getElem?_map, tn_get h]
  rfl
section
variable {K : PySem.W.Frag} {H : Hp} {σ : L2.St} {te t1 t2 t3 t4 : TE} {D : Ends} {tz : TS}
/-- [(a, b), (c, d)] -/
theorem q_asgPairs {i : Nat} {a b c d : Nat} (h1 : Ev t1 σ H (.int (a : Int))) (h2 : Ev t2 σ H (.int (b : Int))) (h3 : Ev t3 σ H (.int (c : Int))) (h4 : Ev t4 σ H (.int (d : Int)))
    (k : ∀ l x y H1, Ex H H1 → H1 l = some (.lst [.ref x, .ref y]) → SqT K H1 x [.int (a : Int), .int (b : Int)] → SqT K H1 y [.int (c : Int), .int (d : Int)] → tz D (σ.set i (some (.ref l))) H1) :
    tSeq (tAsg (tLst (tCons (tTup (tCons t1 (tCons t2 tNil))) (tCons (tTup (tCons t3 (tCons t4 tNil))) tNil))) (gName i)) tz D σ H :=
  h1 H (Ex.refl H) _ fun Ha ea => h2 Ha ea _ fun Hb eb => ⟨by show 2 ≤ sizeLine; decide, fun x hx => by
    have s1 := Same.new (Same.refl Hb) hx (.tup [.int (a : Int), .int (b : Int)])
    have f1 : upd Hb x (.tup [.int (a : Int), .int (b : Int)]) x = some (.tup [.int (a : Int), .int (b : Int)]) := upd_same
    generalize upd Hb x (.tup [.int (a : Int), .int (b : Int)]) = Hc at s1 f1 ⊢
    have e1 := (ea.trans eb).trans s1
    refine h3 Hc e1 _ fun Hd ed => h4 Hd (e1.trans ed) _ fun He ee => ⟨by show 2 ≤ sizeLine; decide, fun y hy => ?_⟩
    have s2 := Same.new (Same.refl He) hy (.tup [.int (c : Int), .int (d : Int)])
    have f2 : upd He y (.tup [.int (c : Int), .int (d : Int)]) y = some (.tup [.int (c : Int), .int (d : Int)]) := upd_same
    generalize upd He y (.tup [.int (c : Int), .int (d : Int)]) = Hf at s2 f2 ⊢
    refine ⟨by show 2 ≤ sizeLine; decide, fun l hl => ?_⟩
    have s3 := Same.new (Same.refl Hf) hl (.lst [.ref x, .ref y])
    exact k l x y _ (e1.trans ((ed.trans ee).trans (Ex.trans s2 s3))) upd_same (SqT.of (((ed.trans ee).trans (Ex.trans s2 s3)) _ _ f1)) (SqT.of (s3 _ _ f2))⟩
theorem q_parRM {i j : Nat} {row : RowM} {f : Str → Rat} {ns : List Str} (h1 : EvRow K t1 σ H row) (h2 : EvM K t2 σ H f ns) (k : ∀ rl r sd kvs H2, H rl = none → H sd = none → Ex H H2 → H2 rl = some (.lst [.ref r]) → RowAt K H2 (.ref r) row → H2 sd = some (.dK kvs) → MapR (AmR K f) H2 kvs ns → tz D ((σ.set i (some (.ref rl))).set j (some (.ref sd))) H2) :
    tSeq (tPar i j (tCons (tLst (tCons t1 tNil)) (tCons t2 tNil))) tz D σ H :=
  h1 H (Ex.refl H) _ fun r H1 _ hrow e1 => ⟨by show 1 ≤ sizeLine; decide, fun rl hrl => by
    have s2 := Same.new (Same.refl H1) hrl (.lst [V.ref r])
    have f2 : upd H1 rl (.lst [V.ref r]) rl = some (.lst [V.ref r]) := upd_same
    generalize upd H1 rl (.lst [V.ref r]) = H2 at s2 f2 ⊢
    have e2 := Ex.trans e1 s2
    exact h2 H2 e2 _ fun sd kvs H3 hsd e3 fsd msd => ⟨_, _, rfl, k rl r sd kvs H3 (fresh_back e1 hrl) (fresh_back e2 hsd) (e2.trans e3) (e3 _ _ f2) (RowAt.same (Ex.trans s2 e3) hrow) fsd msd⟩⟩
theorem q_unp {i j : Nat} {t : Addr} {x y : V} (h : Ev te σ H (.ref t)) (ht : SqT K H t [x, y]) (k : ∀ H1, Ex H H1 → tz D ((σ.set i (some x)).set j (some y)) H1) : tSeq (tAsg te (gTup K 2 (gCons (gName i) (gCons (gName j) gNil)))) tz D σ H :=
  h H (Ex.refl H) _ fun H1 e1 => ⟨t, _, rfl, ex_t e1 ht, rfl, _, _, rfl, _, _, rfl, rfl, k H1 e1⟩
theorem ev_cmpMV2 {r : R2} {z : V} {f : Str → Rat} {ns : List Str} {j : Nat} {d : Addr} {ks : List (Key × V)} (hr : ∀ (a b : Addr) (ks ls : List (Key × V)) (H1 : Hp) (Q : VK), H1 a = some (.dK ks) → H1 b = some (.dK ls) → ks.length = ls.length → HitsV (EqF K H1 0) ls ks true → Q z H1 → r (.ref a) (.ref b) H1 Q)
    (h : EvM K te σ H f ns) (hv : σ[j]? = some (some (.ref d))) (hd : H d = some (.dK ks)) (m : MapR (AmR K f) H ks ns) (nd : ns.Nodup) : Ev (tOp r te (tVar j)) σ H z := fun H1 e Q k =>
  h H1 e _ fun b ls H2 _ e2 f2 m2 => ⟨_, hv, hr b d ls ks H2 Q f2 (e2 _ _ (e _ _ hd)) (by rw [Paired.length m, Paired.length m2]) (hits_am m2 fun n hn => (m.mono fun _ _ z => AmtQ.same (Ex.trans e e2) z).get nd hn) (k H2 e2)⟩
end
theorem turn_D : ∀ a ∈ List.range 7, tn (a + 1) ∉ dueN a ∧ tn (8 + a) ∉ dueN a ++ [tn (a + 1)] ∧ tn a ∈ dueN a ∧ tn a ∈ dueN a ++ [tn (a + 1)] ∧ (dueN a).Nodup ∧ (dueN a ++ [tn (a + 1)]).Nodup ∧ tn (8 + a) ∉ tn 7 :: (List.range a).map fun i => tn (8 + i) := by decide +kernel
theorem part_sub {ss os : List Nat} {a : Nat} (h : a ≤ 7) : ∀ r ∈ partD ss os a, r ∈ rowsD ss os := fun r hr => by
  rcases List.mem_cons.mp hr with h1 | h1
  · rw [h1]
    exact List.mem_cons_self
  · obtain ⟨i, hi, h2⟩ := List.mem_flatMap.mp h1
    exact List.mem_cons_of_mem _ (List.mem_flatMap.mpr ⟨i, List.mem_range.mpr (by have := List.mem_range.mp hi; omega), h2⟩)
theorem partD_step {ss os : List Nat} {a : Nat} : partD ss os (a + 1) = (partD ss os a ++ [rowT (tn (a + 1)) (tn a) (at0 ss (a + 1))]) ++ [rowT (tn (8 + a)) (tn a) (at0 os a)] := by
  unfold partD
  rw [List.range_succ, List.flatMap_append, List.cons_append, List.cons_append, List.append_assoc]
  rfl
theorem due_step {a : Nat} : dueN (a + 1) = (dueN a ++ [tn (a + 1)]) ++ [tn (8 + a)] := by
  unfold dueN
  rw [List.range_succ, List.flatMap_append, List.cons_append, List.cons_append, List.append_assoc]
  rfl
theorem lf_step {a : Nat} : (tn 7 :: (List.range (a + 1)).map fun i => tn (8 + i)) = (tn 7 :: (List.range a).map fun i => tn (8 + i)) ++ [tn (8 + a)] := by
  rw [List.range_succ, List.map_append]
  rfl
section
variable {P : Program} {w : World} {K : PySem.W.Frag} {mg : Str → Option Value} {base : Heap} {C CN CW aL aK aZ : Addr} {left : List (Key × V)}
theorem ok_deep10 {f e gT gX gO gC gP : Addr} {fd ed dT dX dO dC dP : FuncData} (F : Fun K "_law_deep_right" "_law_deep_right" sDeep10 f fd) (T : TA mg) (Tn : TMm mg) (TCl : TC K mg C) (M : Mk K C e) (FI : FnOk P w K mg base CX0 7 e ed ["self", "rows", "handing"] (spInit K C)) (bI : Binds K ed ["self", "rows", "handing"] [])
    (cT : Cal P w K mg base "_law_titles" ["_law_many"] 1 spTitles10 gT dT) (cX : Cal P w K mg base "_law_next" ["_law_source_here", "_law_many"] 2 spNextB gX dX) (cO : Cal P w K mg base "_law_one" ["_law_source_here", "_law_things"] 3 (spOne K) gO dO) (cC : Cal P w K mg base "_law_child" ["_law_given", "_law_whole", "_law_wish", "_law_pair", "_law_flag"] 3 (spChild K) gC dC)
    (cPr : Cal P w K mg base "protected" ["tree", "uses", "top", "kind"] 7 (spProt K C) gP dP) : FnOk P w K mg base CX0 9 f fd ["_law_source_here", "_law_span"] (spDeep10 K) := by
  refine F.ok scDeep10 (fun vs H Q E h => ?_) (fun cdv A outer s H vs Q E hr h => ?_)
  · obtain ⟨p, sp, rfl, _⟩ := h
    rfl
  obtain ⟨p, sp, rfl, src, h0, h1, q⟩ := h
  have hu := hu_of hr
  refine ⟨_, (pss_cons (ps_par (i := 2) (j := 3) (by rfl) scDeep10.nd rfl rfl (by decide) rfl rfl (pa_cons (pe_cmpR op_eq (pe_call cX.ok (hr.mono (by decide)) rfl cX.mg cX.kp cX.bd .nil pass0 (pa_cons (pv 0) (pa_cons pe_int pa_nil))) pe_int (nomark _)) (pa_cons (pe_call cT.ok (hr.mono (by decide)) rfl cT.mg cT.kp cT.bd .nil pass0 (pa_cons pe_int pa_nil)) pa_nil)) (by rfl)) (pss_cons (ps_setLc (i := 4) (own := [("_law_one_here", 15)]) (g := gName 15) (tt := tYes) (te := (tTup (tCons (tCall spNextB [] E0 (tCons (tVar 0) (tCons (tVar 1) tNil))) (tCons (tCall spNextB [] E0 (tCons (tVar 0) (tCons (tVar 1) tNil))) tNil)))) rfl scDeep10.nd rfl rfl (sw_true rfl rfl rfl (by decide +kernel)) (pi_range1 rfl T.z_range (pa_cons pe_int pa_nil)) (blkOk_by (own := [("_law_one_here", 15)]) (N := ["_law_source_here", "_law_span", "_law_flag", "_law_titles_here", "_law_beside", "_law_settings", "_law_uses", "_law_use", "_law_own_so", "_law_rows", "_law_spent", "_law_due", "_law_at", "_law_pairs", "_law_wish", "_law_one_here"]) (sc := defScope sDeep10) (by decide +kernel)) (fun _ _ _ _ _ => (pg_name (i := 15) scDeep10.nd rfl (Or.inl rfl))) (fun _ _ _ _ _ => pts_nil) (fun _ _ _ _ _ => (pe_tup (pa_cons (pe_call cX.ok (hr.mono (by decide)) rfl cX.mg cX.kp cX.bd .nil pass0 (pa_cons (pv 0) (pa_cons (pv 1) pa_nil))) (pa_cons (pe_call cX.ok (hr.mono (by decide)) rfl cX.mg cX.kp cX.bd .nil pass0 (pa_cons (pv 0) (pa_cons (pv 1) pa_nil))) pa_nil))))) (pss_cons (ps_setLc (i := 5) (own := [("_law_one_here", 15)]) (g := gName 15) (tt := tYes) (te := (tCall spNextB [] E0 (tCons (tVar 0) (tCons (tCall (spOne K) [] E0 (tCons (tVar 0) (tCons (tLst (tCons (tVar 1) (tCons (tOp (rI CMulW fun i j => V.int (i * j)) (tC (.int 3)) (tVar 1)) tNil))) tNil))) tNil)))) rfl scDeep10.nd rfl rfl (sw_true rfl rfl rfl (by decide +kernel)) (pi_range1 rfl T.z_range (pa_cons pe_int pa_nil)) (blkOk_by (own := [("_law_one_here", 15)]) (N := ["_law_source_here", "_law_span", "_law_flag", "_law_titles_here", "_law_beside", "_law_settings", "_law_uses", "_law_use", "_law_own_so", "_law_rows", "_law_spent", "_law_due", "_law_at", "_law_pairs", "_law_wish", "_law_one_here"]) (sc := defScope sDeep10) (by decide +kernel)) (fun _ _ _ _ _ => (pg_name (i := 15) scDeep10.nd rfl (Or.inl rfl))) (fun _ _ _ _ _ => pts_nil) (fun _ _ _ _ _ => (pe_call cX.ok (hr.mono (by decide)) rfl cX.mg cX.kp cX.bd .nil pass0 (pa_cons (pv 0) (pa_cons (pe_call cO.ok (hr.mono (by decide)) rfl cO.mg cO.kp cO.bd .nil pass0 (pa_cons (pv 0) (pa_cons (pe_lst (pa_cons (pv 1) (pa_cons (pe_op op_mulW pe_int (pv 1)) pa_nil))) pa_nil))) pa_nil))))) (pss_cons (ps_set (i := 6) scDeep10.nd rfl (Or.inl rfl) (pe_lst (pa_cons (pe_call cX.ok (hr.mono (by decide)) rfl cX.mg cX.kp cX.bd .nil pass0 (pa_cons (pv 0) (pa_cons (pe_call cO.ok (hr.mono (by decide)) rfl cO.mg cO.kp cO.bd .nil pass0 (pa_cons (pv 0) (pa_cons (pe_lst (pa_cons (pv 1) (pa_cons (pe_op op_mulW pe_int (pv 1)) pa_nil))) pa_nil))) pa_nil))) pa_nil))) (pss_cons (ps_for PassesOwn.never rfl (pi_list (pe_revL (pv 4))) (pg_tup (by rfl) (pgs_cons (pg_name (i := 7) scDeep10.nd rfl (Or.inl rfl)) (pgs_cons (pg_name (i := 8) scDeep10.nd rfl (Or.inl rfl)) pgs_nil))) (pss_one (ps_expr (pe_bm PySem.F.plainAttrs_list PySem.F.slot_list_append PySem.F.type_list_append mt_append (pv 6) (pa_cons (pe_op op_add (pe_ix ix_list (pv 6) (pe_un un_neg pe_int) (fun _ _ => rfl)) (pv 7)) pa_nil))))) (pss_cons (ps_expr (pe_bm0 PySem.F.plainAttrs_list PySem.F.slot_list_reverse PySem.F.type_list_reverse mt_reverse (pv 6))) (pss_cons (ps_par (i := 9) (j := 10) (by rfl) scDeep10.nd rfl rfl (by decide) rfl rfl (pa_cons (pe_lst (pa_cons (pe_tup (pa_cons (pe_ix ix_list (pv 3) pe_int (fun _ _ => rfl)) (pa_cons pe_str (pa_cons (pe_tupF (pa_cons (pe_tup (pa_cons pe_str (pa_cons (pe_tup (pa_cons (pe_ix ix_list (pv 5) pe_int (fun _ _ => rfl)) (pa_cons pe_int pa_nil))) pa_nil))) pa_nil)) pa_nil)))) pa_nil)) (pa_cons (pe_disp (pps_cons (pe_ix ix_list (pv 3) pe_int (fun _ _ => rfl)) (pe_tup (pa_cons (pe_ix ix_list (pv 6) pe_int (fun _ _ => rfl)) (pa_cons pe_int pa_nil))) pps_nil) (by rfl) (by rfl) (fun z => by cases z) (by decide)) pa_nil)) (by rfl)) (pss_cons (ps_set (i := 11) scDeep10.nd rfl (Or.inl rfl) (pe_disp (pps_cons (pe_ix ix_list (pv 3) pe_int (fun _ _ => rfl)) (pe_tup (pa_cons (pe_callB (call_min2 rfl) (by rfl) Tn.z_min (by decide +kernel) (pa_cons (pe_ix ix_list (pv 6) pe_int (fun _ _ => rfl)) (pa_cons (pe_ix ix_list (pv 5) pe_int (fun _ _ => rfl)) pa_nil))) (pa_cons pe_int pa_nil))) pps_nil) (by rfl) (by rfl) (fun z => by cases z) (by decide))) (pss_cons (ps_for PassesOwn.never rfl (pi_range1 rfl T.z_range (pa_cons pe_int pa_nil)) (pg_name (i := 12) scDeep10.nd rfl (Or.inl rfl)) (pss_cons (ps_asg (pe_ix ix_list (pv 4) (pv 12) (fun _ _ => rfl)) (pg_tup (by rfl) (pgs_cons (pg_name (i := 7) scDeep10.nd rfl (Or.inl rfl)) (pgs_cons (pg_name (i := 8) scDeep10.nd rfl (Or.inl rfl)) pgs_nil)))) (pss_cons (ps_expr (pe_bm PySem.F.plainAttrs_list PySem.F.slot_list_append PySem.F.type_list_append mt_append (pv 9) (pa_cons (pe_tup (pa_cons (pe_ix ix_list (pv 3) (pe_op op_add (pv 12) pe_int) (fun _ _ => rfl)) (pa_cons (pe_ix ix_list (pv 3) (pv 12) (fun _ _ => rfl)) (pa_cons (pe_tupF (pa_cons (pe_tup (pa_cons pe_str (pa_cons (pe_tup (pa_cons (pe_ix ix_list (pv 5) (pe_op op_add (pv 12) pe_int) (fun _ _ => rfl)) (pa_cons pe_int pa_nil))) pa_nil))) pa_nil)) pa_nil)))) pa_nil))) (pss_cons (ps_expr (pe_bm PySem.F.plainAttrs_list PySem.F.slot_list_append PySem.F.type_list_append mt_append (pv 9) (pa_cons (pe_tup (pa_cons (pe_ix ix_list (pv 3) (pe_op op_add pe_int (pv 12)) (fun _ _ => rfl)) (pa_cons (pe_ix ix_list (pv 3) (pv 12) (fun _ _ => rfl)) (pa_cons (pe_tupF (pa_cons (pe_tup (pa_cons pe_str (pa_cons (pe_tup (pa_cons (pv 8) (pa_cons pe_int pa_nil))) pa_nil))) pa_nil)) pa_nil)))) pa_nil))) (pss_cons (ps_dput hu (pv 10) (pe_ix ix_list (pv 3) (pe_op op_add pe_int (pv 12)) (fun _ _ => rfl)) (pe_tup (pa_cons (pv 7) (pa_cons pe_int pa_nil))) rfl) (pss_cons (ps_set (i := 13) scDeep10.nd rfl (Or.inl rfl) (pe_lst (pa_cons (pe_tup (pa_cons (pe_ix ix_list (pv 6) (pe_op op_add (pv 12) pe_int) (fun _ _ => rfl)) (pa_cons (pe_callB (call_min2 rfl) (by rfl) Tn.z_min (by decide +kernel) (pa_cons (pe_ix ix_list (pv 6) (pe_op op_add (pv 12) pe_int) (fun _ _ => rfl)) (pa_cons (pe_ix ix_list (pv 5) (pe_op op_add (pv 12) pe_int) (fun _ _ => rfl)) pa_nil))) pa_nil))) (pa_cons (pe_tup (pa_cons (pv 7) (pa_cons (pe_callB (call_min2 rfl) (by rfl) Tn.z_min (by decide +kernel) (pa_cons (pv 7) (pa_cons (pv 8) pa_nil))) pa_nil))) pa_nil)))) (pss_cons (ps_set (i := 14) scDeep10.nd rfl (Or.inl rfl) (pe_op op_add (pe_ix ix_tup (pe_ix ix_list (pv 13) pe_int (fun _ _ => rfl)) pe_int (fun _ _ => rfl)) (pe_ix ix_tup (pe_ix ix_list (pv 13) pe_int (fun _ _ => rfl)) pe_int (fun _ _ => rfl)))) (pss_cons (ps_dput hu (pv 11) (pe_ix ix_list (pv 3) (pe_op op_add (pv 12) pe_int) (fun _ _ => rfl)) (pe_call cC.ok (hr.mono (by decide)) rfl cC.mg cC.kp cC.bd .nil pass0 (pa_cons (pe_dget hu (pv 11) (pe_ix ix_list (pv 3) (pv 12) (fun _ _ => rfl)) (fun _ _ => rfl)) (pa_cons (pe_ix ix_list (pv 6) (pv 12) (fun _ _ => rfl)) (pa_cons (pv 14) (pa_cons (pe_ix ix_list (pv 13) pe_int (fun _ _ => rfl)) (pa_cons (pv 2) pa_nil)))))) rfl) (pss_one (ps_dput hu (pv 11) (pe_ix ix_list (pv 3) (pe_op op_add pe_int (pv 12)) (fun _ _ => rfl)) (pe_call cC.ok (hr.mono (by decide)) rfl cC.mg cC.kp cC.bd .nil pass0 (pa_cons (pe_dget hu (pv 11) (pe_ix ix_list (pv 3) (pv 12) (fun _ _ => rfl)) (fun _ _ => rfl)) (pa_cons (pe_ix ix_list (pv 6) (pv 12) (fun _ _ => rfl)) (pa_cons (pv 14) (pa_cons (pe_ix ix_list (pv 13) pe_int (fun _ _ => rfl)) (pa_cons (pv 2) pa_nil)))))) rfl)))))))))) (pss_one (ps_ret (pe_cmpR (op_eqF (hu100 hr)) (pe_call cPr.ok (hr.mono (by decide)) rfl cPr.mg cPr.kp cPr.bd .nil pass0 (pa_cons (pe_make M FI (hr.mono (by decide)) rfl TCl.g_Tree bI .nil pass0 (pa_cons (pv 9) (pa_cons (pv 2) pa_nil))) (pa_cons (pv 10) (pa_cons pe_str (pa_cons pe_str pa_nil))))) (pv 11) (nomark _))))))))))))), ?_⟩
  have S200 : sp < 2 ^ 200 := Nat.lt_of_le_of_lt h1 (by decide)
  refine e_flagB (i := 0) rfl src fun g G1 s1 k1 => ⟨15, rfl, by decide, fun tl G2 htl e2 f2 => ⟨_, _, rfl, ?_⟩⟩
  rw [facts_D.2.2.2.2.2.2.2.2.2.2.2] at f2
  have ntl : tl ≠ p := (src_ne s1 htl).symm
  have s2 := src_sameE e2 s1
  have k02 : Kept p H G2 := k1.trans (Kept.of e2)
  clear e2 k1 s1 htl
  try dsimp only [gName]
  show tSeq (tAsg _ _) _ _ [some (.ref p), some (.int (sp : Int)), some (.bl g), some (.ref tl), none, none, none, none, none, none, none, none, none, none, none, none] G2
  refine q_pairsR (K := K) (n := 7) (M := sp) (sp := p) s2 (by decide) (fun _ => rfl) (fun v G sG kG Q' k' => ⟨_, rfl, _, rfl, p, sp, rfl, sG, h0, S200, fun m G' hm s' k2 => k' m G' hm s' k2⟩) fun bl ps xys G3 hbl nbl s3 k3 fb lxy pb dxy => ?_
  have t3 := k3 _ _ ntl f2
  obtain ⟨bs, hbs⟩ : ∃ bs, bs = xys.map (·.1) := ⟨_, rfl⟩
  obtain ⟨os, hos⟩ : ∃ os, os = xys.map (·.2) := ⟨_, rfl⟩
  have bs40 : ∀ b ∈ bs, b ≤ 10 ^ 40 := fun b hb => by
    rw [hbs] at hb
    obtain ⟨xy, hm, rfl⟩ := List.mem_map.mp hb
    exact Nat.le_trans (Nat.le_of_lt (dxy xy hm).1) h1
  have os40 : ∀ b ∈ os, b ≤ 10 ^ 40 := fun b hb => by
    rw [hos] at hb
    obtain ⟨xy, hm, rfl⟩ := List.mem_map.mp hb
    exact Nat.le_trans (Nat.le_of_lt (dxy xy hm).2) h1
  have lps : ps.length = 7 := by rw [Paired.length pb, lxy]
  try dsimp only [gName]
  show tSeq (tAsg _ _) _ _ [some (.ref p), some (.int (sp : Int)), some (.bl g), some (.ref tl), some (.ref bl), none, none, none, none, none, none, none, none, none, none, none] G3
  refine q_drawsR (n := 8) (M := 4 * 10 ^ 40) (sp := p) s3 (by decide) (fun _ => rfl) (fun v G sG kG Q' k' => next_two10 (c := 3) (p := p) (sp := sp) rfl rfl h0 h1 (by decide) (by decide) sG k') fun sl ss G4 hsl nsl s4 k4 f4 lss dss => ?_
  have t4 := k4 _ _ ntl t3
  have b4 := k4 _ _ nbl fb
  have pb4 : Paired (PairI K G4) ps xys := paired_mono (fun a b (z : PairI K G3 a b) => (show PairI K G4 a b from (src_tkE s3 k4).seqT z)) pb
  have ss40 : ∀ v ∈ ss, v ≤ 4 * 10 ^ 40 := fun v hv => Nat.le_of_lt (dss v hv)
  have k04 : Kept p H G4 := (k02.trans k3).trans k4
  clear k02 k3 k4 s2 s3 f2 t3 fb pb hbl hsl
  try dsimp only [gName]
  show tSeq (tAsg _ _) _ _ [some (.ref p), some (.int (sp : Int)), some (.bl g), some (.ref tl), some (.ref bl), some (.ref sl), none, none, none, none, none, none, none, none, none, none] G4
  refine next_two10 (c := 4) (p := p) (sp := sp) rfl rfl h0 h1 (by decide) (by decide) s4 fun u7 G5 hu7 s5 k5 => ⟨by show 1 ≤ sizeLine; decide, fun ul hul => ?_⟩
  have t5 := k5 _ _ ntl t4
  have b5 := k5 _ _ nbl b4
  have w5 := k5 _ _ nsl f4
  have pb5 : Paired (PairI K G5) ps xys := paired_mono (fun a b (z : PairI K G4 a b) => (show PairI K G5 a b from (src_tkE s4 k5).seqT z)) pb4
  have k05 := k04.trans k5
  have e56 := Same.new (Same.refl G5) hul (.lst [V.int (u7 : Int)])
  have u6 : upd G5 ul (.lst [V.int (u7 : Int)]) ul = some (.lst [V.int (u7 : Int)]) := upd_same
  clear k04 k5 s4 t4 b4 f4 pb4
  generalize upd G5 ul (.lst [V.int (u7 : Int)]) = G6 at e56 u6 ⊢
  try dsimp only [gName]
  show tSeq (tFor _ _ _) _ _ [some (.ref p), some (.int (sp : Int)), some (.bl g), some (.ref tl), some (.ref bl), some (.ref sl), some (.ref ul), none, none, none, none, none, none, none, none, none] G6
  refine q_forNL (xs := (ps.map V.ref).reverse) (fun H1 e1 Q' k' => ⟨_, rfl, bl, _, rfl, SqL.of (e1 _ _ (e56 _ _ b5)), fun r hr => k' r _ hr (Ex.new hr) upd_same⟩) (fun lp i σ G => ∃ (o7 o8 : Option V), σ = [some (.ref p), some (.int (sp : Int)), some (.bl g), some (.ref tl), some (.ref bl), some (.ref sl), some (.ref ul), o7, o8, none, none, none, none, none, none, none] ∧ Ex G5 G ∧ lp ≠ ul ∧ G lp = some (.lst (ps.map V.ref).reverse) ∧ G ul = some (.lst ((List.range (i + 1)).map fun j => V.int ((wD u7 bs j : Nat) : Int)))) ?_ ?_ ?_ ?_
  · intro lp G hlp e flp
    exact ⟨none, none, rfl, Ex.trans e56 e, (fun z => by rw [z, u6] at hlp; cases hlp), flp, e _ _ u6⟩
  · rintro lp i σ G _ ⟨_, _, rfl, _, _, flp, _⟩
    exact SqL.of flp
  · rintro lp i x σ G hx ⟨o7, o8, rfl, eG, nl, flp, fu⟩
    have li : i < 7 := by
      have := (List.getElem?_eq_some_iff.mp hx).1
      rwa [List.length_reverse, List.length_map, lps] at this
    rw [List.getElem?_reverse (by rw [List.length_map, lps]; exact li), List.length_map, lps, List.getElem?_map] at hx
    obtain ⟨t, ht, rfl⟩ := Option.map_eq_some_iff.mp hx
    have pbG : Paired (PairI K G) ps xys := paired_mono (fun a b (z : PairI K G5 a b) => (show PairI K G a b from ex_t eG z)) pb5
    obtain ⟨xy, hxy, hp⟩ := paired_get pbG ht
    have hp : SqT K G t [.int (xy.1 : Int), .int (xy.2 : Int)] := hp
    have eb : at0 bs (6 - i) = xy.1 := at_some (by rw [hbs, List.getElem?_map, show 6 - i = 7 - 1 - i by omega, hxy]; rfl)
    refine ⟨t, _, rfl, hp, rfl, _, _, rfl, _, _, rfl, rfl, ?_⟩
    try dsimp only [gName]
    have el : (List.range (i + 1)).map (fun j => V.int ((wD u7 bs j : Nat) : Int)) = (List.range i).map (fun j => V.int ((wD u7 bs j : Nat) : Int)) ++ [V.int ((wD u7 bs i : Nat) : Int)] := by
      rw [List.range_succ, List.map_append]
      rfl
    refine s_app (K := K) (D := _) (v := V.int ((wD u7 bs (i + 1) : Nat) : Int)) fu (ev_var (i := 6) rfl) (ev_is (ev_op (ev_op (ev_var (i := 6) rfl) (ev_un ev_c ru_neg) (rv_ixL (SqL.of (by rw [← el]; exact fu)) (atI_last _ _))) (ev_var (i := 7) rfl) rv_I0) ?_) ?_ fun G7 e7 => ⟨_, _, rfl, Ex.mut (eG.trans e7) hul, nl, ?_, ?_⟩
    · show V.int (((wD u7 bs i : Nat) : Int) + (xy.1 : Int)) = V.int ((wD u7 bs i + at0 bs (6 - i) : Nat) : Int)
      rw [eb, Int.natCast_add]
    · rw [List.length_map, List.length_range]
      omega
    · rw [upd_ne nl]
      exact e7 _ _ flp
    · rw [upd_same, List.range_succ (n := i + 1), List.map_append]
      rfl
  rintro lp σ8 G8 ⟨o7, o8, rfl, e58, _, _, fu8⟩
  rw [List.length_reverse, List.length_map, lps] at fu8
  try dsimp only
  show tSeq (tDrop _) _ _ [some (.ref p), some (.int (sp : Int)), some (.bl g), some (.ref tl), some (.ref bl), some (.ref sl), some (.ref ul), o7, o8, none, none, none, none, none, none, none] G8
  refine ⟨_, rfl, Or.inl ⟨rfl, _, sq_of fu8⟩, ul, _, rfl, rfl, fu8, ?_⟩
  obtain ⟨us, hus⟩ : ∃ us, us = usD u7 bs := ⟨_, rfl⟩
  have er : ((List.range (7 + 1)).map fun j => V.int ((wD u7 bs j : Nat) : Int)).reverse = us.map fun n : Nat => V.int (n : Int) := by
    rw [hus]
    unfold usD
    rw [List.map_reverse, List.map_map]
    rfl
  rw [er]
  have e59 : Ex G5 (upd G8 ul (.lst (us.map fun n : Nat => V.int (n : Int)))) := Ex.mut e58 hul
  have u9 : upd G8 ul (.lst (us.map fun n : Nat => V.int (n : Int))) ul = some (.lst (us.map fun n : Nat => V.int (n : Int))) := upd_same
  generalize upd G8 ul (.lst (us.map fun n : Nat => V.int (n : Int))) = G9 at e59 u9 ⊢
  have t9 := e59 _ _ t5
  have b9 := e59 _ _ b5
  have w9 := e59 _ _ w5
  have pb9 : Paired (PairI K G9) ps xys := paired_mono (fun a b (z : PairI K G5 a b) => (show PairI K G9 a b from ex_t e59 z)) pb5
  have s9 := src_sameE e59 s5
  have k09 : Kept p H G9 := k05.trans (Kept.of e59)
  clear k05 e58 e59 e56 u6 fu8 t5 b5 w5 pb5 s5 er hul
  have lus : us.length = 8 := by
    rw [hus]
    unfold usD
    rw [List.length_reverse, List.length_map, List.length_range]
  have lbs : bs.length = 7 := by rw [hbs, List.length_map, lxy]
  have los : os.length = 7 := by rw [hos, List.length_map, lxy]
  have us11 : ∀ i, i < 8 → at0 us i ≤ 11 * 10 ^ 40 := fun i hi => by
    rw [hus, usD_at hi]
    have := wD_le (u7 := u7) (S := 10 ^ 40) (bs := bs) (by omega) bs40 (7 - i)
    refine Nat.le_trans this (Nat.mul_le_mul_right _ (by omega))
  obtain ⟨U, c, pf, ho, U7, Ul, pz, p0, pS⟩ := deep_math (g := g) (ss := ss) (os := os) (us := us) (bs := bs) (S := 11 * 10 ^ 40) (by decide) lss (fun x hx => Nat.le_trans (ss40 x hx) (by decide)) (fun x hx => Nat.le_trans (os40 x hx) (by decide)) (fun x hx => Nat.le_trans (bs40 x hx) (by decide)) us11 (fun i hi => by rw [hus]; exact usD_sum hi)
  have rok : RowsOk (rowsD ss os) := rok_D (S := 4 * 10 ^ 40) (by decide) ss40 fun x hx => Nat.le_trans (os40 x hx) (by decide)
  try dsimp only [gName]
  show tSeq (tPar 9 10 _) _ _ [some (.ref p), some (.int (sp : Int)), some (.bl g), some (.ref tl), some (.ref bl), some (.ref sl), some (.ref ul), o7, o8, none, none, none, none, none, none, none] G9
  refine q_parRM (K := K) (row := rowT (tn 0) "" (at0 ss 0)) (f := U) (ns := [tn 7]) (e_rowN (K := K) (n := tn 0) (ab := "") (w := "low") (q := ((at0 ss 0 : Nat) : Rat)) (ev_ixV (i := 3) (j := 0) rfl (SqL.of t9) ev_c (tn_str (by decide))) ev_c (eq_n1 (ev_ixV (i := 5) (j := 0) rfl (SqL.of w9) ev_c (at_int (by omega))))) (em_one (K := K) (f := U) (n := tn 7) (ev_ixV (i := 3) (j := 7) rfl (SqL.of t9) ev_c (tn_str (by decide))) (by rw [U7]; exact eq_n1 (ev_ixV (i := 6) (j := 7) rfl (SqL.of u9) ev_c (at_int (by omega))))) fun rl r0 sd k1 G12 hrl9 hsd9 e912 f12 row0 fsd msd => ?_
  try dsimp only [gName]
  show tSeq (tAsg _ _) _ _ [some (.ref p), some (.int (sp : Int)), some (.bl g), some (.ref tl), some (.ref bl), some (.ref sl), some (.ref ul), o7, o8, some (.ref rl), some (.ref sd), none, none, none, none, none] G12
  refine q_asgM (K := K) (f := pf) (em_one (K := K) (n := tn 0) (ev_ixV (i := 3) (j := 0) rfl (SqL.of (e912 _ _ t9)) ev_c (tn_str (by decide))) (by rw [p0]; exact eq_n1 (ev_is (ev_min2 (ev_ixV (i := 6) (j := 0) rfl (SqL.of (e912 _ _ u9)) ev_c (at_int (by omega))) (ev_ixV (i := 5) (j := 0) rfl (SqL.of (e912 _ _ w9)) ev_c (at_int (by omega)))) (congrArg V.int (by split <;> omega))))) fun dd k2 G13 hdd e13 fdd mdd => ?_
  have hdd9 : G9 dd = none := fresh_back e912 hdd
  have nsd : sd ≠ dd := fun z => by rw [z, hdd] at fsd; cases fsd
  have D0 : Dp3 K G9 G13 rl sd dd U pf [V.ref r0] k1 k2 (partD ss os 0) (tn 7 :: (List.range 0).map fun i => tn (8 + i)) (dueN 0) :=
    ⟨e912.trans e13, e13 _ _ f12, .cons (RowAt.same e13 row0) .nil, e13 _ _ fsd, msd.mono fun _ _ z => AmtQ.same e13 z, fdd, mdd⟩
  clear f12 e912 e13 hdd fsd msd fdd mdd row0
  try dsimp only [gName]
  show tSeq (tFor _ _ _) _ _ [some (.ref p), some (.int (sp : Int)), some (.bl g), some (.ref tl), some (.ref bl), some (.ref sl), some (.ref ul), o7, o8, some (.ref rl), some (.ref sd), some (.ref dd), none, none, none, none] G13
  refine q_forRng10 (n := 7) (fun a σ G => ∃ (o7 o8 o12 o13 o14 : Option V) (ws : List V) (k1 k2 : List (Key × V)), σ = [some (.ref p), some (.int (sp : Int)), some (.bl g), some (.ref tl), some (.ref bl), some (.ref sl), some (.ref ul), o7, o8, some (.ref rl), some (.ref sd), some (.ref dd), o12, o13, o14, none] ∧ Dp3 K G9 G rl sd dd U pf ws k1 k2 (partD ss os a) (tn 7 :: (List.range a).map fun i => tn (8 + i)) (dueN a)) ⟨_, _, _, _, _, _, _, _, rfl, D0⟩ (by decide) (by decide) ?_ ?_
  · rintro a σ G ha ⟨o7, o8, o12, o13, o14, ws, k1, k2, rfl, D0⟩ D2 hD
    obtain ⟨z1, z2, z3, z4, z5, z6, z7⟩ := turn_D a (List.mem_range.mpr ha)
    obtain ⟨m1, m2⟩ := in_D (ss := ss) (os := os) ha
    have dok : ∀ r ∈ rowsD ss os, DuesOk r.dues := fun r hr => rows_due rok r hr
    have okA : ∀ r ∈ partD ss os a, DuesOk r.dues := fun r hr => dok r (part_sub (by omega) r hr)
    have okB : ∀ r ∈ partD ss os a ++ [rowT (tn (a + 1)) (tn a) (at0 ss (a + 1))], DuesOk r.dues := fun r hr => by
      rcases List.mem_append.mp hr with h | h
      · exact okA r h
      · rw [List.mem_singleton.mp h]
        exact dok _ m1
    have okC : ∀ r ∈ (partD ss os a ++ [rowT (tn (a + 1)) (tn a) (at0 ss (a + 1))]) ++ [rowT (tn (8 + a)) (tn a) (at0 os a)], DuesOk r.dues := fun r hr => by
      rcases List.mem_append.mp hr with h | h
      · exact okB r h
      · rw [List.mem_singleton.mp h]
        exact dok _ m2
    have lws : ws.length ≤ 20 := by
      rw [Paired.length D0.rp]
      unfold partD
      rw [List.length_cons, List.length_flatMap]
      have : ((List.range a).map fun i => (twoD ss os i).length).sum ≤ ((List.range a).map fun i => (twoD ss os i).length).length * 2 := sum_le3 fun s hs => by
        obtain ⟨i, _, rfl⟩ := List.mem_map.mp hs
        exact Nat.le_refl _
      rw [List.length_map, List.length_range] at this
      omega
    have lk1 : k1.length ≤ 20 := by
      rw [Paired.length D0.sm, List.length_cons, List.length_map, List.length_range]
      omega
    have lk2 : k2.length ≤ 20 := by
      rw [Paired.length D0.dm]
      unfold dueN
      rw [List.length_cons, List.length_flatMap]
      have : ((List.range a).map fun i => ([tn (i + 1), tn (8 + i)] : List Str).length).sum ≤ ((List.range a).map fun i => ([tn (i + 1), tn (8 + i)] : List Str).length).length * 2 := sum_le3 fun s hs => by
        obtain ⟨i, _, rfl⟩ := List.mem_map.mp hs
        exact Nat.le_refl _
      rw [List.length_map, List.length_range] at this
      omega
    obtain ⟨t, ht⟩ : ∃ t, ps[a]? = some t := ⟨_, List.getElem?_eq_getElem (by omega)⟩
    obtain ⟨xy, hxy, hp9⟩ := paired_get pb9 ht
    have hp9 : SqT K G9 t [.int (xy.1 : Int), .int (xy.2 : Int)] := hp9
    have eb : at0 bs a = xy.1 := at_some (by rw [hbs, List.getElem?_map, hxy]; rfl)
    have eo : at0 os a = xy.2 := at_some (by rw [hos, List.getElem?_map, hxy]; rfl)
    rw [← eb, ← eo] at hp9
    have su : at0 us a = at0 us (a + 1) + at0 bs a := by
      rw [hus]
      exact usD_sum ha
    have ub := us11 a (by omega)
    have ub1 := us11 (a + 1) (by omega)
    have S150 : 11 * 10 ^ 40 < 2 ^ 150 := by decide
    try dsimp only [gName]
    show tSeq (tAsg _ _) _ _ [some (.ref p), some (.int (sp : Int)), some (.bl g), some (.ref tl), some (.ref bl), some (.ref sl), some (.ref ul), o7, o8, some (.ref rl), some (.ref sd), some (.ref dd), some (.int (0 + (a : Int))), o13, o14, none] G
    refine q_unp (K := K) (i := 7) (j := 8) (ev_ixV (i := 4) (j := a) (v := .ref t) rfl (SqL.of (D0.e _ _ b9)) (ev_is (ev_var (i := 12) rfl) (congrArg V.int (Int.zero_add _))) (by rw [List.getElem?_map, ht]; rfl)) (ex_t D0.e hp9) fun Ga ea => ?_
    have D1 := D0.same ea
    clear D0
    try dsimp only [gName]
    show tSeq (tDrop _) _ _ [some (.ref p), some (.int (sp : Int)), some (.bl g), some (.ref tl), some (.ref bl), some (.ref sl), some (.ref ul), some (.int ((at0 bs a : Nat) : Int)), some (.int ((at0 os a : Nat) : Int)), some (.ref rl), some (.ref sd), some (.ref dd), some (.int (0 + (a : Int))), o13, o14, none] Ga
    refine q_appRow (K := K) (row := rowT (tn (a + 1)) (tn a) (at0 ss (a + 1))) (i := 9) rfl D1.r (e_rowN (ev_ixV (i := 3) (j := a + 1) rfl (SqL.of (D1.e _ _ t9)) (ev_is (ev_op (ev_var (i := 12) rfl) (ev_c (v := .int 1)) rv_I0) (congrArg V.int (show (0 + (a : Int)) + 1 = ((a + 1 : Nat) : Int) by omega))) (tn_str (by omega))) (ev_ixV (i := 3) (j := a) rfl (SqL.of (D1.e _ _ t9)) (ev_is (ev_var (i := 12) rfl) (congrArg V.int (Int.zero_add _))) (tn_str (by omega))) (eq_n1 (ev_ixV (i := 5) (j := a + 1) rfl (SqL.of (D1.e _ _ w9)) (ev_is (ev_op (ev_var (i := 12) rfl) (ev_c (v := .int 1)) rv_I0) (congrArg V.int (show (0 + (a : Int)) + 1 = ((a + 1 : Nat) : Int) by omega))) (at_int (by omega))))) (by omega) fun r1 Gb eb2 hrow1 => ?_
    have D3 := (D1.same eb2).app hrl9 hrow1 okB
    clear D1
    generalize upd Gb rl (.lst (ws ++ [V.ref r1])) = Gc at D3 ⊢
    show tSeq (tDrop _) _ _ [some (.ref p), some (.int (sp : Int)), some (.bl g), some (.ref tl), some (.ref bl), some (.ref sl), some (.ref ul), some (.int ((at0 bs a : Nat) : Int)), some (.int ((at0 os a : Nat) : Int)), some (.ref rl), some (.ref sd), some (.ref dd), some (.int (0 + (a : Int))), o13, o14, none] Gc
    refine q_appRow (K := K) (row := rowT (tn (8 + a)) (tn a) (at0 os a)) (i := 9) rfl D3.r (e_rowN (ev_ixV (i := 3) (j := 8 + a) rfl (SqL.of (D3.e _ _ t9)) (ev_is (ev_op (ev_c (v := .int 8)) (ev_var (i := 12) rfl) rv_I0) (congrArg V.int (show 8 + (0 + (a : Int)) = ((8 + a : Nat) : Int) by omega))) (tn_str (by omega))) (ev_ixV (i := 3) (j := a) rfl (SqL.of (D3.e _ _ t9)) (ev_is (ev_var (i := 12) rfl) (congrArg V.int (Int.zero_add _))) (tn_str (by omega))) (eq_n1 (ev_var (i := 8) rfl))) (by rw [List.length_append, List.length_singleton]; omega) fun r2 Gd ed2 hrow2 => ?_
    have D4 := (D3.same ed2).app hrl9 hrow2 okC
    clear D3
    generalize upd Gd rl (.lst (ws ++ [V.ref r1] ++ [V.ref r2])) = Ge at D4 ⊢
    show tSeq (sDPut _ _ _) _ _ [some (.ref p), some (.int (sp : Int)), some (.bl g), some (.ref tl), some (.ref bl), some (.ref sl), some (.ref ul), some (.int ((at0 bs a : Nat) : Int)), some (.int ((at0 os a : Nat) : Int)), some (.ref rl), some (.ref sd), some (.ref dd), some (.int (0 + (a : Int))), o13, o14, none] Ge
    refine q_dputQ (K := K) (q := U (tn (8 + a))) (i := 10) rfl (ev_ixV (i := 3) (j := 8 + a) rfl (SqL.of (D4.e _ _ t9)) (ev_is (ev_op (ev_c (v := .int 8)) (ev_var (i := 12) rfl) rv_I0) (congrArg V.int (show 8 + (0 + (a : Int)) = ((8 + a : Nat) : Int) by omega))) (tn_str (by omega))) (by rw [Ul a ha]; exact eq_n1 (ev_var (i := 7) rfl)) D4.s (by omega) fun v4 Gf ef hv4 => ?_
    have D5 := (D4.same ef).putS hsd9 nsd okC z7 hv4
    clear D4
    generalize upd Gf sd (.dK (putK k1 (Sum.inr (tn (8 + a))) v4)) = Gg at D5 ⊢
    show tSeq (tAsg _ _) _ _ [some (.ref p), some (.int (sp : Int)), some (.bl g), some (.ref tl), some (.ref bl), some (.ref sl), some (.ref ul), some (.int ((at0 bs a : Nat) : Int)), some (.int ((at0 os a : Nat) : Int)), some (.ref rl), some (.ref sd), some (.ref dd), some (.int (0 + (a : Int))), o13, o14, none] Gg
    refine q_asgPairs (K := K) (a := at0 us (a + 1)) (b := min (at0 us (a + 1)) (at0 ss (a + 1))) (c := at0 bs a) (d := min (at0 bs a) (at0 os a)) (ev_ixV (i := 6) (j := a + 1) rfl (SqL.of (D5.e _ _ u9)) (ev_is (ev_op (ev_var (i := 12) rfl) (ev_c (v := .int 1)) rv_I0) (congrArg V.int (show (0 + (a : Int)) + 1 = ((a + 1 : Nat) : Int) by omega))) (at_int (by omega))) (ev_is (ev_min2 (ev_ixV (i := 6) (j := a + 1) rfl (SqL.of (D5.e _ _ u9)) (ev_is (ev_op (ev_var (i := 12) rfl) (ev_c (v := .int 1)) rv_I0) (congrArg V.int (show (0 + (a : Int)) + 1 = ((a + 1 : Nat) : Int) by omega))) (at_int (by omega))) (ev_ixV (i := 5) (j := a + 1) rfl (SqL.of (D5.e _ _ w9)) (ev_is (ev_op (ev_var (i := 12) rfl) (ev_c (v := .int 1)) rv_I0) (congrArg V.int (show (0 + (a : Int)) + 1 = ((a + 1 : Nat) : Int) by omega))) (at_int (by omega)))) (congrArg V.int (by split <;> omega))) (ev_var (i := 7) rfl) (ev_is (ev_min2 (ev_var (i := 7) rfl) (ev_var (i := 8) rfl)) (congrArg V.int (by split <;> omega))) fun pl xa ya Gh eh hpl hxa hya => ?_
    have D6 := D5.same eh
    clear D5
    try dsimp only [gName]
    show tSeq (tAsg _ _) _ _ [some (.ref p), some (.int (sp : Int)), some (.bl g), some (.ref tl), some (.ref bl), some (.ref sl), some (.ref ul), some (.int ((at0 bs a : Nat) : Int)), some (.int ((at0 os a : Nat) : Int)), some (.ref rl), some (.ref sd), some (.ref dd), some (.int (0 + (a : Int))), some (.ref pl), o14, none] Gh
    refine q_asg (v := .int ((min (at0 us (a + 1)) (at0 ss (a + 1)) + min (at0 bs a) (at0 os a) : Nat) : Int)) (ev_is (ev_op (ev_op (ev_ixV (K := K) (i := 13) (j := 0) (v := .ref xa) rfl (SqL.of hpl) ev_c rfl) ev_c (rv_ixT hxa (show atI _ ((1 : Nat) : Int) = _ from atI_nat rfl))) (ev_op (ev_ixV (K := K) (i := 13) (j := 1) (v := .ref ya) rfl (SqL.of hpl) ev_c rfl) ev_c (rv_ixT hya (show atI _ ((1 : Nat) : Int) = _ from atI_nat rfl))) rv_I0) (congrArg V.int (by rw [Int.natCast_add]))) fun Gi ei => ?_
    have D7 := D6.same ei
    have hpl7 := ei _ _ hpl
    have hxa7 := ex_t ei hxa
    have hya7 := ex_t ei hya
    clear D6
    obtain ⟨pz1, pz2, pz3⟩ := pz a (by omega)
    obtain ⟨pS1, pS2⟩ := pS a ha
    try dsimp only [gName]
    show tSeq (sDPut _ _ _) _ _ [some (.ref p), some (.int (sp : Int)), some (.bl g), some (.ref tl), some (.ref bl), some (.ref sl), some (.ref ul), some (.int ((at0 bs a : Nat) : Int)), some (.int ((at0 os a : Nat) : Int)), some (.ref rl), some (.ref sd), some (.ref dd), some (.int (0 + (a : Int))), some (.ref pl), some (.int ((min (at0 us (a + 1)) (at0 ss (a + 1)) + min (at0 bs a) (at0 os a) : Nat) : Int)), none] Gi
    refine q_dputQ (K := K) (q := pf (tn (a + 1))) (i := 11) rfl (ev_ixV (i := 3) (j := a + 1) rfl (SqL.of (D7.e _ _ t9)) (ev_is (ev_op (ev_var (i := 12) rfl) (ev_c (v := .int 1)) rv_I0) (congrArg V.int (show (0 + (a : Int)) + 1 = ((a + 1 : Nat) : Int) by omega))) (tn_str (by omega))) (by rw [pS1]; exact eq_child (eq_dg (i := 11) rfl D7.d D7.dm z5 z3 (ev_ixV (i := 3) (j := a) rfl (SqL.of (D7.e _ _ t9)) (ev_is (ev_var (i := 12) rfl) (congrArg V.int (Int.zero_add _))) (tn_str (by omega)))) (ev_ixV (i := 6) (j := a) rfl (SqL.of (D7.e _ _ u9)) (ev_is (ev_var (i := 12) rfl) (congrArg V.int (Int.zero_add _))) (at_int (by omega))) (ev_var (i := 14) rfl) (ev_ixV (K := K) (i := 13) (j := 0) (v := .ref xa) rfl (SqL.of hpl7) ev_c rfl) hxa7 (ev_var (i := 2) rfl) pz1 pz2 pz3 (Nat.min_le_left _ _) (Nat.lt_of_le_of_lt ub1 S150) (by omega) (Nat.lt_of_le_of_lt ub S150)) D7.d (by omega) fun v7 Gj ej hv7 => ?_
    have D8 := (D7.same ej).putD hdd9 nsd okC z1 hv7
    have nd2 : pl ≠ dd := fun z => by
      have := D7.d
      rw [← z, hpl7] at this
      cases this
    have tX : TK Gj (upd Gj dd (.dK (putK k2 (Sum.inr (tn (a + 1))) v7))) := TK.dk (ej _ _ D7.d) _
    have hpl8 : upd Gj dd (.dK (putK k2 (Sum.inr (tn (a + 1))) v7)) pl = some (.lst [.ref xa, .ref ya]) := (upd_ne nd2).trans (ej _ _ hpl7)
    have hya8 := tX.seqT (ex_t ej hya7)
    have lk8 : (putK k2 (Sum.inr (tn (a + 1))) v7).length ≤ 900 := Nat.le_trans (put_len _ _ _) (by omega)
    clear D7
    generalize upd Gj dd (.dK (putK k2 (Sum.inr (tn (a + 1))) v7)) = Gk at D8 hpl8 hya8 ⊢
    show sDPut _ _ _ _ [some (.ref p), some (.int (sp : Int)), some (.bl g), some (.ref tl), some (.ref bl), some (.ref sl), some (.ref ul), some (.int ((at0 bs a : Nat) : Int)), some (.int ((at0 os a : Nat) : Int)), some (.ref rl), some (.ref sd), some (.ref dd), some (.int (0 + (a : Int))), some (.ref pl), some (.int ((min (at0 us (a + 1)) (at0 ss (a + 1)) + min (at0 bs a) (at0 os a) : Nat) : Int)), none] Gk
    refine s_dputQ (K := K) (q := pf (tn (8 + a))) (i := 11) rfl (ev_ixV (i := 3) (j := 8 + a) rfl (SqL.of (D8.e _ _ t9)) (ev_is (ev_op (ev_c (v := .int 8)) (ev_var (i := 12) rfl) rv_I0) (congrArg V.int (show 8 + (0 + (a : Int)) = ((8 + a : Nat) : Int) by omega))) (tn_str (by omega))) (by rw [pS2]; exact eq_child (eq_dg (i := 11) rfl D8.d D8.dm z6 z4 (ev_ixV (i := 3) (j := a) rfl (SqL.of (D8.e _ _ t9)) (ev_is (ev_var (i := 12) rfl) (congrArg V.int (Int.zero_add _))) (tn_str (by omega)))) (ev_ixV (i := 6) (j := a) rfl (SqL.of (D8.e _ _ u9)) (ev_is (ev_var (i := 12) rfl) (congrArg V.int (Int.zero_add _))) (at_int (by omega))) (ev_var (i := 14) rfl) (ev_ixV (K := K) (i := 13) (j := 1) (v := .ref ya) rfl (SqL.of hpl8) ev_c rfl) hya8 (ev_var (i := 2) rfl) pz1 pz2 pz3 (Nat.min_le_left _ _) (Nat.lt_of_le_of_lt (at_lt bs40) (by decide)) (by omega) (Nat.lt_of_le_of_lt ub S150)) D8.d lk8 fun v8 Gl el hv8 => ?_
    have D9 := (D8.same el).putD hdd9 nsd okC z2 hv8
    rw [← partD_step, ← due_step, ← lf_step] at D9
    exact hD _ _ ⟨_, _, _, _, _, _, _, _, rfl, D9⟩
  · rintro σ G ⟨o7, o8, o12, o13, o14, ws, k1, k2, rfl, D9⟩
    have rp : Paired (RowAt K G) ws (rowsD ss os) := D9.rp
    have l15 : (rowsD ss os).length = 15 := rfl
    obtain ⟨_, _, f3, f4, f5, f6, _, f8, _, _, f11, _⟩ := facts_D
    have bel : belowL (rowsD ss os) "" = dueN 7 := by
      rw [bel_sh shape_D, f6, f11]
    have Uz : ∀ x ∈ Lf, InMS 1 (11 * 10 ^ 40) (U x) := fun x hx => by
      rcases List.mem_cons.mp hx with rfl | hx
      · rw [U7]
        exact nat_ms1 (us11 7 (by decide))
      · obtain ⟨i, hi, rfl⟩ := List.mem_map.mp hx
        rw [Ul i (List.mem_range.mp hi)]
        exact nat_ms1 (Nat.le_trans (at_lt bs40) (by decide))
    have uat : UsesAt K G sd (rowsD ss os) U := ⟨k1, Lf, D9.s, D9.sm, f8, by decide, fun x hx => ⟨by rw [leaf_sh shape_D]; exact f5 x hx, (Uz x hx).sz (m := 1) (s := 140) (by decide) (by decide) (by decide) (by decide), (Uz x hx).lo⟩, fun x hx hno => absurd (f4 x (by rw [leaf_sh shape_D] at hx; exact hx)) hno⟩
    have EM := em_protT (K := K) (C := C) (E := E0) (H := G) (σ := [some (.ref p), some (.int (sp : Int)), some (.bl g), some (.ref tl), some (.ref bl), some (.ref sl), some (.ref ul), o7, o8, some (.ref rl), some (.ref sd), some (.ref dd), o12, o13, o14, none]) (ta := tMake C (spInit K C) [] E0 (tCons (tVar 9) (tCons (tVar 2) tNil))) (tb := tC (.str "")) (tx := tC (.str "low")) (top := "") (kd := "low") (j := 10) (eTreeV (i := 9) rfl D9.r rp (ev_var (i := 2) rfl) rok (by omega)) rok (by omega) List.mem_cons_self (.inl rfl) (.inr rfl) (kind_D lss) ho rfl uat ev_c ev_c
    rw [bel] at EM
    show tRet _ _ [some (.ref p), some (.int (sp : Int)), some (.bl g), some (.ref tl), some (.ref bl), some (.ref sl), some (.ref ul), o7, o8, some (.ref rl), some (.ref sd), some (.ref dd), o12, o13, o14, none] G
    exact ev_cmpMV2 (K := K) (r := rEqF0 K) eq_M EM (j := 11) rfl D9.d D9.dm (by rw [← f11]; exact f3) G (Ex.refl _) _ fun Ga ea => q Ga (src_sameE (D9.e.trans ea) s9) (k09.trans (Kept.of (D9.e.trans ea)))
theorem ok_law {f gS gO gW gD : Addr} {fd dS dO dW dD : FuncData} (F : Fun K "law" "law" sLaw f fd) (T : TA mg) (Tn : TMm mg) (cS : Cal P w K mg base "_law_source" ["_law_script", "_law_k"] 2 (spSource K) gS dS) (cO : Cal P w K mg base "_law_one" ["_law_source_here", "_law_things"] 3 (spOne K) gO dO) (cW : Cal P w K mg base "_law_wide_right" ["_law_source_here", "_law_span"] 9 (spWide10 K) gW dW) (cD : Cal P w K mg base "_law_deep_right" ["_law_source_here", "_law_span"] 9 (spDeep10 K) gD dD) : FnOk P w K mg base CX0 10 f fd ["_law_script"] (spLaw K) := by
  refine F.ok scLaw (fun vs H Q E h => ?_) (fun cdv A outer s H vs Q E hr h => ?_)
  · obtain ⟨a, ns, rfl, _⟩ := h
    rfl
  obtain ⟨a, ns, rfl, hS, hlen, q⟩ := h
  refine ⟨_, (pss_cons (ps_for PassesOwn.never rfl (pi_range1 rfl T.z_range (pa_cons (pe_callB (call_max2 rfl) (by rfl) Tn.z_max (by decide +kernel) (pa_cons pe_int (pa_cons (pe_callB (call_min2 rfl) (by rfl) Tn.z_min (by decide +kernel) (pa_cons pe_int (pa_cons (pe_callB call_len_seq (by rfl) T.z_len PySem.boot_len (pa_cons (pv 0) pa_nil)) pa_nil))) pa_nil))) pa_nil)) (pg_name (i := 1) scLaw.nd rfl (Or.inl rfl)) (pss_cons (ps_set (i := 2) scLaw.nd rfl (Or.inl rfl) (pe_call cS.ok (hr.mono (by decide)) rfl cS.mg cS.kp cS.bd .nil pass0 (pa_cons (pv 0) (pa_cons (pv 1) pa_nil)))) (pss_cons (ps_set (i := 3) scLaw.nd rfl (Or.inl rfl) (pe_call cO.ok (hr.mono (by decide)) rfl cO.mg cO.kp cO.bd .nil pass0 (pa_cons (pv 2) (pa_cons (pe_lst (pa_cons pe_int (pa_cons pe_int (pa_cons (pe_op op_pow pe_int pe_int) (pa_cons (pe_op op_pow pe_int pe_int) pa_nil))))) pa_nil)))) (pss_one (ps_if (PW.pt (pw_or (pt_not (pt_val (pe_call cW.ok (hr.mono (by decide)) rfl cW.mg cW.kp cW.bd .nil pass0 (pa_cons (pv 2) (pa_cons (pv 3) pa_nil))))) (pw_or1 (pt_not (pt_val (pe_call cD.ok (hr.mono (by decide)) rfl cD.mg cD.kp cD.bd .nil pass0 (pa_cons (pv 2) (pa_cons (pv 3) pa_nil)))))))) (pss_one (ps_ret pe_bl)) pss_nil))))) (pss_one (ps_ret pe_bl))), ?_⟩
  refine ⟨_, rfl, a, _, rfl, .inl hS, _, _, rfl, _, _, rfl, _, rfl, ?_, ?_, for_range (fun i σ H' => ∃ o1 o2 o3 : Option V, σ = [some (.ref a), o1, o2, o3] ∧ Same H H') ⟨_, _, _, rfl, Same.refl H⟩ ?_ ?_⟩
  · split <;> split <;> omega
  · split <;> split <;> omega
  · rintro i σ H1 hi ⟨o1, o2, o3, rfl, s1⟩
    refine ⟨_, rfl, _, rfl, a, ns, i, by rw [Int.zero_add]; rfl, Same.seq s1 hS, fun sp H2 hsp s2 src2 => ?_⟩
    have hsp0 : H sp = none := Same.free s1 hsp
    have k2 : Kept sp H H2 := Kept.of (s1.trans s2)
    try dsimp only [gName]
    show tSeq (tAsg _ _) _ _ [some (.ref a), some (.int (0 + (i : Int))), some (.ref sp), o3] H2
    refine ⟨_, rfl, _, _, rfl, rfl, ⟨by decide, by decide, by decide⟩, _, _, rfl, rfl, ⟨by decide, by decide, by decide⟩, by show 4 ≤ sizeLine; decide, fun l hl => ⟨sp, l, _, rfl, src_new src2 hl, SqL.of upd_same, (src_ne src2 hl).symm, by simp, by simp, fun v G5 hv s5 k5 => ?_⟩⟩
    have hva : ∃ m : Nat, v = .int (m : Int) ∧ 0 < m ∧ m ≤ 10 ^ 40 := by
      simp only [List.mem_cons, List.not_mem_nil, or_false] at hv
      rcases hv with rfl | rfl | rfl | rfl
      · exact ⟨5, rfl, by decide, by decide⟩
      · exact ⟨40, rfl, by decide, by decide⟩
      · exact ⟨10 ^ 12, rfl, by decide, by decide⟩
      · exact ⟨10 ^ 40, rfl, by decide, by decide⟩
    obtain ⟨m, rfl, m0, m1⟩ := hva
    have k25 : Kept sp H G5 := (k2.trans (Kept.of (Ex.new hl))).trans k5
    try dsimp only [gName]
    show tIfS _ _ _ _ [some (.ref a), some (.int (0 + (i : Int))), some (.ref sp), some (.int (m : Int))] G5
    refine ⟨_, rfl, _, rfl, sp, m, rfl, s5, m0, m1, fun H3 src3 k3 => ⟨true, rfl, ?_⟩⟩
    refine iteF ⟨_, rfl, _, rfl, sp, m, rfl, src3, m0, m1, fun H4 src4 k4 => ⟨true, rfl, iteF ⟨_, _, _, rfl, fun b o hb => ((k25.trans k3).trans k4) b o (ne_of_none hb hsp0) hb⟩⟩⟩
  · rintro σ H1 ⟨o1, o2, o3, rfl, s1⟩
    exact q _
end
end Bd
end

section
namespace Bd
open PySem L2
/-- a def of the text as the top has written it -/
structure DK (K : PySem.W.Frag) (x : Str) (st : Stmt) (f : Addr) : Prop where
  at_ : PySem.W.nsIn K mainGlobals x = some (some (.ref f))
  fn : ∃ fd, Fun K x x st f fd
theorem dk_mk {K : PySem.W.Frag} {x : Str} {st : Stmt} {f : Addr} {oc : Value} {od an : Option Addr} {osl : Array (Option Value)} {kV doc pm cdv ct : Value} (a : PySem.W.nsIn K mainGlobals x = some (some (.ref f)))
    (l : K.lookup f = some ⟨oc, od, .func (PySem.W.fnOf x x (defArgs st) (defBody st) (defScope st) .none kV doc pm an cdv ct), osl⟩) (c : PySem.W.codeIn K cdv x = true) (k : PySem.W.keepIn K (.ref f) = true) : DK K x st f := ⟨a, _, fun_mk l c k⟩
/-- a method of the class -/
structure MK (K : PySem.W.Frag) (C : Addr) (m qual : Str) (st : Stmt) (f : Addr) : Prop where
  me : Meth K C m f
  fn : ∃ fd, Fun K m qual st f fd
theorem mk_mk {K : PySem.W.Frag} {C : Addr} {m qual : Str} {st : Stmt} {f : Addr} {oc : Value} {od an : Option Addr} {osl : Array (Option Value)} {kV doc pm cdv ct : Value} (a : PySem.W.findIn K (.ref C) m = some (some (.ref f))) (i : PySem.W.isFn K (.ref f) = true)
    (l : K.lookup f = some ⟨oc, od, .func (PySem.W.fnOf m qual (defArgs st) (defBody st) (defScope st) .none kV doc pm an cdv ct), osl⟩) (c : PySem.W.codeIn K cdv qual = true) (k : PySem.W.keepIn K (.ref f) = true) : MK K C m qual st f := ⟨⟨a, i, k⟩, _, fun_mk l c k⟩
/-- the maker, with its default -/
structure IK (K : PySem.W.Frag) (C f : Addr) : Prop where
  me : Meth K C "__init__" f
  fn : ∃ fd, FunD K "__init__" "Tree.__init__" (defArgs sInit) (defBody sInit) (defScope sInit) [.bl false] [] f fd
theorem ik_mk {K : PySem.W.Frag} {C f D : Addr} {oc dc : Value} {od an dd : Option Addr} {osl dsl : Array (Option Value)} {kV doc pm cdv ct : Value} {n : Nat} (a : PySem.W.findIn K (.ref C) "__init__" = some (some (.ref f))) (i : PySem.W.isFn K (.ref f) = true)
    (l : K.lookup f = some ⟨oc, od, .func (PySem.W.fnOf "__init__" "Tree.__init__" (defArgs sInit) (defBody sInit) (defScope sInit) (.ref D) kV doc pm an cdv ct), osl⟩) (c : PySem.W.codeIn K cdv "Tree.__init__" = true) (k : PySem.W.keepIn K (.ref f) = true)
    (d : K.lookup D = some ⟨dc, dd, .seq #[.bool false] n, dsl⟩) : IK K C f :=
  ⟨⟨a, i, k⟩, _, ⟨oc, od, .ref D, kV, doc, pm, an, cdv, ct, osl, rfl, l, c, .inr ⟨by simp, D, _, [.bool false], n, rfl, d, rfl, .cons rfl .nil⟩, .inl rfl⟩, k⟩
theorem init_binds2 {K : PySem.W.Frag} {f : Addr} {fd : FuncData} (F : FunD K "__init__" "Tree.__init__" (defArgs sInit) (defBody sInit) (defScope sInit) [.bl false] [] f fd) : Binds K fd ["self", "rows", "handing"] [] := by
  obtain ⟨ds, v, b⟩ := F.binds1 (ps := ["self", "rows", "handing"]) 3 1 (by simp) rfl fun T kV doc pm an cdv ct us its hl hi => match us, its, hl, hi with | [_, _, _], [_], _, _ => ⟨_, rfl, rfl⟩
  cases v
  exact b
theorem init_binds1 {K : PySem.W.Frag} {f : Addr} {fd : FuncData} (F : FunD K "__init__" "Tree.__init__" (defArgs sInit) (defBody sInit) (defScope sInit) [.bl false] [] f fd) : Binds K fd ["self", "rows", "handing"] [.bool false] := by
  obtain ⟨ds, v, b⟩ := F.binds1 (ps := ["self", "rows", "handing"]) 2 0 (by simp) rfl fun T kV doc pm an cdv ct us its hl hi => match us, its, hl, hi with | [_, _], [_], _, _ => ⟨_, rfl, rfl⟩
  cases v with
  | cons a r =>
    cases r
    cases a
    exact b
def leftOf (a1 a2 a3 : Addr) : List (Key × V) := [((Sum.inr "min" : Key), (.ref a1 : V)), ((Sum.inr "low" : Key), (.ref a2 : V)), ((Sum.inr "max" : Key), (.str "endless" : V)), ((Sum.inr "quota" : Key), (.str "endless" : V)), ((Sum.inr "burst" : Key), (.ref a3 : V)), ((Sum.inr "tops" : Key), (.str "endless" : V)), ((Sum.inr "sets" : Key), (.non : V)), ((Sum.inr "alone" : Key), (.int 0 : V))]
/-- the facts of the top -/
structure Tops (P : Program) (w : World) (K : PySem.W.Frag) (mg : Str → Option Value) (C aL aK aZ q0 q1 : Addr) (left : List (Key × V)) : Prop where
  tp : TP P w K mg aL left
  lv : ∀ H, Paired (PV K H) left leftD
  tc : TC K mg C
  ti : TI K C
  ta : TA mg
  tn : TMX mg
  tm : TMn mg
  td : TDd mg
  tz3 : TZ3 mg
  tsm : TSm mg
  tmm : TMm mg
  tk : TKd K mg aK aZ
  x0 : XN K mg "NoName" q0
  x1 : XN K mg "NoWord" q1
/-- what the top has written -/
theorem tops_mk {P : Program} {w : World} {K : PySem.W.Frag} {h : Heap} {mg : Str → Option Value} {C aL a1 a2 a3 aK aZ q0 q1 : Addr} (X : K.In h) (G : h.Ns mainGlobals mg)
    {tl te tg u3 u4 u6 u8 t1 t2 t3 t4 t5 t6 t7 t8 : Tok} {h1 h2 h3 h4 h5 h6 h7 h8 : Int} {ep n1 n2 n3 : Nat} {x1 x2 x3 : Option Addr} {y1 y2 y3 : Array (Option Value)} {p1 p2 p3 p4 p5 p6 : Tok} {xK xZ : Option Addr} {yK yZ : Array (Option Value)} {nK nZ : Nat} {pK1 pK2 pZ1 pZ2 : Tok}
    (cz_len : PySem.W.nsIn K mainGlobals "len" = some none)
    (cz_int : PySem.W.nsIn K mainGlobals "int" = some none)
    (cz_bool : PySem.W.nsIn K mainGlobals "bool" = some none)
    (cz_str : PySem.W.nsIn K mainGlobals "str" = some none)
    (cz_tuple : PySem.W.nsIn K mainGlobals "tuple" = some none)
    (cz_list : PySem.W.nsIn K mainGlobals "list" = some none)
    (cz_dict : PySem.W.nsIn K mainGlobals "dict" = some none)
    (cz_all : PySem.W.nsIn K mainGlobals "all" = some none)
    (cz_enumerate : PySem.W.nsIn K mainGlobals "enumerate" = some none)
    (cz_isinstance : PySem.W.nsIn K mainGlobals "isinstance" = some none)
    (cz_range : PySem.W.nsIn K mainGlobals "range" = some none)
    (cz_abs : PySem.W.nsIn K mainGlobals "abs" = some none)
    (cz_max : PySem.W.nsIn K mainGlobals "max" = some none)
    (cz_min : PySem.W.nsIn K mainGlobals "min" = some none)
    (cz_reversed : PySem.W.nsIn K mainGlobals "reversed" = some none)
    (cz_zip : PySem.W.nsIn K mainGlobals "zip" = some none)
    (cz_sum : PySem.W.nsIn K mainGlobals "sum" = some none)
    (cgK : PySem.W.nsIn K mainGlobals "KINDS" = some (some (.ref aK)))
    (cgZ : PySem.W.nsIn K mainGlobals "ZERO" = some (some (.ref aZ)))
    (clK : K.lookup aK = some ⟨.type "tuple", xK, .seq #[.str "min" pK1, .str "low" pK2] nK, yK⟩)
    (clZ : K.lookup aZ = some ⟨.type "tuple", xZ, .seq #[.int 0 pZ1, .int 1 pZ2] nZ, yZ⟩)
    (cgL : PySem.W.nsIn K mainGlobals "LONG" = some (some (.int 3000 tl)))
    (cgE : PySem.W.nsIn K mainGlobals "ENDLESS" = some (some (.str "endless" te)))
    (cgG : PySem.W.nsIn K mainGlobals "GREATEST_PROCESSOR" = some (some (.int 63 tg)))
    (cgO : PySem.W.nsIn K mainGlobals "LEFT_OUT" = some (some (.ref aL)))
    (ckO : K.lookup aL = some ⟨.type "dict", none, .dict #[⟨h1, .str "min" t1, .ref a1⟩, ⟨h2, .str "low" t2, .ref a2⟩, ⟨h3, .str "max" t3, .str "endless" u3⟩, ⟨h4, .str "quota" t4, .str "endless" u4⟩, ⟨h5, .str "burst" t5, .ref a3⟩, ⟨h6, .str "tops" t6, .str "endless" u6⟩, ⟨h7, .str "sets" t7, .none⟩, ⟨h8, .str "alone" t8, .int 0 u8⟩] ep, #[]⟩)
    (cl1 : K.lookup a1 = some ⟨.type "tuple", x1, .seq #[.int 0 p1, .int 1 p2] n1, y1⟩)
    (cl2 : K.lookup a2 = some ⟨.type "tuple", x2, .seq #[.int 0 p3, .int 1 p4] n2, y2⟩)
    (cl3 : K.lookup a3 = some ⟨.type "tuple", x3, .seq #[.int 0 p5, .int 1 p6] n3, y3⟩)
    (cgC : PySem.W.nsIn K mainGlobals "Tree" = some (some (.ref C)))
    (cpg : PySem.W.plainGet K C Str.empty = true)
    (chd : PySem.W.hasDictIn K C = true)
    (cpo : PySem.W.plainOver K C = true)
    (csa : PySem.W.findIn K (.ref C) "__setattr__" = some (some (.builtin "object.__setattr__")))
    (cnO : PySem.W.findIn K (.ref C) "order" = some none)
    (cnP : PySem.W.findIn K (.ref C) "parents" = some none)
    (cnK : PySem.W.findIn K (.ref C) "kids" = some none)
    (cnT : PySem.W.findIn K (.ref C) "table" = some none)
    (cnH : PySem.W.findIn K (.ref C) "hands" = some none)
    (ciA : PySem.W.findIn K (.ref C) "__class__" = some (some (.builtin "object.__class__")))
    (ciN : PySem.W.specialIn K (.builtin "object.__class__") "__get__" = some (some (.builtin "getset_descriptor.__get__")))
    (ciT : PySem.W.takesIn K (.builtin "object.__class__") = some true)
    (ciM : PySem.W.mroIn K C (.type "object") = some true)
    (ce0g : PySem.W.nsIn K mainGlobals "NoName" = some (some (.ref q0)))
    (ce0t : PySem.W.typeIn K (.ref q0) = some (.type "type"))
    (cx0k : PySem.W.keepIn K (.ref q0) = true)
    (cx0b : PySem.W.subIn K (.ref q0) (.type "BaseException") = some true)
    (ce1g : PySem.W.nsIn K mainGlobals "NoWord" = some (some (.ref q1)))
    (ce1t : PySem.W.typeIn K (.ref q1) = some (.type "type"))
    (cx1k : PySem.W.keepIn K (.ref q1) = true)
    (cx1b : PySem.W.subIn K (.ref q1) (.type "BaseException") = some true)
    (clo : (aL == sysModules) = false)
    (ch1 : h1 = hashStr w "min")
    (ch2 : h2 = hashStr w "low")
    (ch3 : h3 = hashStr w "max")
    (ch4 : h4 = hashStr w "quota")
    (ch5 : h5 = hashStr w "burst")
    (ch6 : h6 = hashStr w "tops")
    (ch7 : h7 = hashStr w "sets")
    (ch8 : h8 = hashStr w "alone")
    (cy0 : PySem.W.excIn K q0 [.type "ValueError", .type "Exception", .type "BaseException", .type "object"] "ValueError.__new__" = true)
    (cy1 : PySem.W.excIn K q1 [.type "ValueError", .type "Exception", .type "BaseException", .type "object"] "ValueError.__new__" = true)
    : Tops P w K mg C aL aK aZ q0 q1 (leftOf a1 a2 a3) := by
  have L : ∀ {a : Addr} {x : Option Addr} {n : Nat} {y : Array (Option Value)} {p q : Tok}, K.lookup a = some ⟨.type "tuple", x, .seq #[.int 0 p, .int 1 q] n, y⟩ → ∀ H, Dp K H (.ref a) (.tuple [.int 0, .int 1]) := fun e H =>
    .tup (xs := [V.int 0, V.int 1]) (.inr ⟨_, _, _, e, rfl, rfl, by show 2 ≤ sizeLine; decide, .cons ⟨_, rfl⟩ (.cons ⟨_, rfl⟩ .nil)⟩) (.cons (.int _) (.cons (.int _) .nil))
  refine ⟨⟨PySem.W.mg_none_of X G cz_len, PySem.W.mg_none_of X G cz_int, PySem.W.mg_none_of X G cz_bool, PySem.W.mg_none_of X G cz_str, PySem.W.mg_none_of X G cz_tuple, PySem.W.mg_none_of X G cz_list, PySem.W.mg_none_of X G cz_dict, PySem.W.mg_none_of X G cz_all, PySem.W.mg_none_of X G cz_enumerate, PySem.W.mg_none_of X G cz_isinstance, ⟨_, PySem.W.mg_of X G cgL⟩, ⟨_, PySem.W.mg_of X G cgE⟩, ⟨_, PySem.W.mg_of X G cgG⟩, PySem.W.mg_of X G cgO, ⟨clo, ?_, by show 8 ≤ 1000; decide⟩, rfl⟩, fun H => ?_,
    ⟨⟨cpg, chd, cpo, csa⟩, cnO, cnP, cnK, cnT, cnH, PySem.W.mg_of X G cgC⟩, ⟨ciA, ciN, ciT, ciM⟩, ⟨PySem.W.mg_none_of X G cz_len, PySem.W.mg_none_of X G cz_int, PySem.W.mg_none_of X G cz_range, PySem.W.mg_none_of X G cz_abs, PySem.W.mg_none_of X G cz_tuple, PySem.W.mg_none_of X G cz_list, PySem.W.mg_none_of X G cz_enumerate⟩, ⟨PySem.W.mg_none_of X G cz_max, PySem.W.mg_none_of X G cz_min⟩, ⟨PySem.W.mg_none_of X G cz_min⟩, ⟨PySem.W.mg_none_of X G cz_dict⟩, ⟨PySem.W.mg_none_of X G cz_zip⟩, ⟨PySem.W.mg_none_of X G cz_sum⟩, ⟨PySem.W.mg_none_of X G cz_max, PySem.W.mg_none_of X G cz_min⟩, ⟨⟨PySem.W.mg_of X G cgK, fun H => .inr ⟨_, _, _, clK, rfl, rfl, by show 2 ≤ sizeLine; decide, .cons ⟨_, rfl⟩ (.cons ⟨_, rfl⟩ .nil)⟩, PySem.W.mg_none_of X G cz_reversed⟩, PySem.W.mg_of X G cgZ, fun H => .inr ⟨_, _, _, clZ, rfl, rfl, by show 2 ≤ sizeLine; decide, .cons ⟨_, rfl⟩ (.cons ⟨_, rfl⟩ .nil)⟩⟩, ⟨cy0, PySem.W.mg_of X G ce0g, cx0k, cx0b, ce0t⟩, ⟨cy1, PySem.W.mg_of X G ce1g, cx1k, cx1b, ce1t⟩⟩
  · refine ⟨[((Sum.inr "min" : Key), (.ref a1 : Value)), ((Sum.inr "low" : Key), (.ref a2 : Value)), ((Sum.inr "max" : Key), (.str "endless" u3 : Value)), ((Sum.inr "quota" : Key), (.str "endless" u4 : Value)), ((Sum.inr "burst" : Key), (.ref a3 : Value)), ((Sum.inr "tops" : Key), (.str "endless" u6 : Value)), ((Sum.inr "sets" : Key), (.none : Value)), ((Sum.inr "alone" : Key), (.int 0 u8 : Value))], .cons ⟨rfl, rfl⟩ (.cons ⟨rfl, rfl⟩ (.cons ⟨rfl, ⟨_, rfl⟩⟩ (.cons ⟨rfl, ⟨_, rfl⟩⟩ (.cons ⟨rfl, rfl⟩ (.cons ⟨rfl, ⟨_, rfl⟩⟩ (.cons ⟨rfl, rfl⟩ (.cons ⟨rfl, ⟨_, rfl⟩⟩ (.nil)))))))), fun h2 X2 => ⟨_, _, _, X2 _ _ ckO, ⟨rfl, rfl, rfl⟩, rfl, fun e he => ?_, .cons (by simp [mixKind, keyIs, Value.isStrOf]) rfl (.cons (by simp [mixKind, keyIs, Value.isStrOf]) rfl (.cons (by simp [mixKind, keyIs, Value.isStrOf]) rfl (.cons (by simp [mixKind, keyIs, Value.isStrOf]) rfl (.cons (by simp [mixKind, keyIs, Value.isStrOf]) rfl (.cons (by simp [mixKind, keyIs, Value.isStrOf]) rfl (.cons (by simp [mixKind, keyIs, Value.isStrOf]) rfl (.cons (by simp [mixKind, keyIs, Value.isStrOf]) rfl (.nil)))))))), ?_⟩⟩
    · simp only [List.mem_toArray, List.mem_cons, List.not_mem_nil, or_false] at he
      rcases he with rfl | rfl | rfl | rfl | rfl | rfl | rfl | rfl
      · exact ⟨Sum.inr "min", by simp [mixKind, keyIs, Value.isStrOf], ch1⟩
      · exact ⟨Sum.inr "low", by simp [mixKind, keyIs, Value.isStrOf], ch2⟩
      · exact ⟨Sum.inr "max", by simp [mixKind, keyIs, Value.isStrOf], ch3⟩
      · exact ⟨Sum.inr "quota", by simp [mixKind, keyIs, Value.isStrOf], ch4⟩
      · exact ⟨Sum.inr "burst", by simp [mixKind, keyIs, Value.isStrOf], ch5⟩
      · exact ⟨Sum.inr "tops", by simp [mixKind, keyIs, Value.isStrOf], ch6⟩
      · exact ⟨Sum.inr "sets", by simp [mixKind, keyIs, Value.isStrOf], ch7⟩
      · exact ⟨Sum.inr "alone", by simp [mixKind, keyIs, Value.isStrOf], ch8⟩
    · show ([Sum.inr "min", Sum.inr "low", Sum.inr "max", Sum.inr "quota", Sum.inr "burst", Sum.inr "tops", Sum.inr "sets", Sum.inr "alone"] : List Key).Nodup
      decide
  · exact .cons ⟨rfl, L cl1 H⟩ (.cons ⟨rfl, L cl2 H⟩ (.cons ⟨rfl, .str _⟩ (.cons ⟨rfl, .str _⟩ (.cons ⟨rfl, L cl3 H⟩ (.cons ⟨rfl, .str _⟩ (.cons ⟨rfl, .non⟩ (.cons ⟨rfl, .int _⟩ (.nil))))))))
theorem all_mk {P : Program} {w : World} {K : PySem.W.Frag} {h : Heap} {mg : Str → Option Value} {fa C aL aK aZ q0 q1 i : Addr} {left : List (Key × V)} {m0 m1 m2 m3 m4 m5 : Addr} {f0 f1 f2 f3 f4 f5 f6 f7 f8 f9 f10 f11 f12 f13 f14 f15 f16 f17 f18 f19 f20 f21 f22 f23 f24 f25 f26 f27 f28 f29 f30 f31 f32 f33 f34 f35 f36 f37 f38 f39 f40 f41 f42 : Addr} (X : K.In h) (G : h.Ns mainGlobals mg) (hfa : mg "law" = some (.ref fa)) (TT : Tops P w K mg C aL aK aZ q0 q1 left)
    (D0 : DK K "is_integer" sIsInteger f0)
    (D1 : DK K "is_amount" sIsAmount f1)
    (D2 : DK K "divisor" sDivisor f2)
    (D3 : DK K "total" sTotal f3)
    (D4 : DK K "cancelled" sCancelled f4)
    (D5 : DK K "plus" sPlus f5)
    (D6 : DK K "minus" sMinus f6)
    (D7 : DK K "times" sTimes f7)
    (D8 : DK K "over" sOver f8)
    (D9 : DK K "is_less" sIsLess f9)
    (D10 : DK K "lesser" sLesser f10)
    (D11 : DK K "is_name" sIsName f11)
    (D12 : DK K "is_word" sIsWord f12)
    (D13 : DK K "is_endless" sIsEndless f13)
    (D14 : DK K "is_set" sIsSet f14)
    (D15 : DK K "may_have" sMayHave f15)
    (D16 : DK K "is_due" sIsDue f16)
    (D17 : DK K "is_dues" sIsDues f17)
    (D18 : DK K "is_group_row" sIsGroupRow f18)
    (D19 : DK K "may_stand" sMayStand f19)
    (D20 : DK K "check_tree" sCTree f20)
    (D21 : DK K "check_group" sCheckGroup f21)
    (D22 : DK K "check_top" sCTop f22)
    (D23 : DK K "check_kind" sCKind f23)
    (D24 : DK K "groups_below" sBelow f24)
    (D25 : DK K "is_from_leaves" sFrom f25)
    (D26 : DK K "told_uses" sTold f26)
    (D27 : DK K "with_groups" sWithG f27)
    (D28 : DK K "protected" sProt f28)
    (D29 : DK K "held" sHeld f29)
    (D30 : DK K "parted" sParted f30)
    (D31 : DK K "_law_cell_at" sCellAt f31)
    (D32 : DK K "_law_mixed" sMixed f32)
    (D33 : DK K "_law_source" sSource f33)
    (D34 : DK K "_law_next" sNext f34)
    (D35 : DK K "_law_common" sCommon f35)
    (D36 : DK K "_law_fraction" sFraction f36)
    (D37 : DK K "_law_one" sOne f37)
    (D38 : DK K "_law_titles" sTitles10 f38)
    (D39 : DK K "_law_child" sChild f39)
    (D40 : DK K "_law_wide_right" sWide10 f40)
    (D41 : DK K "_law_deep_right" sDeep10 f41)
    (D42 : DK K "law" sLaw f42)
    (M0 : MK K C "names" "Tree.names" sTNames m0)
    (M1 : MK K C "above" "Tree.above" sTAbove m1)
    (M2 : MK K C "children" "Tree.children" sTKids m2)
    (M3 : MK K C "leaves" "Tree.leaves" sTLeaves m3)
    (M4 : MK K C "due" "Tree.due" sTDue m4)
    (M5 : MK K C "handing" "Tree.handing" sTHanding m5)
    (DI : IK K C i) (mk : PySem.W.makesIn K C = true) (kc : PySem.W.keepIn K (.ref C) = true) :
    ∃ fd : FuncData, (∀ (s : Shared) (v : Value), BindsTo s fd ⟨[v], []⟩ [("_law_script", v)]) ∧ ∀ base : Heap, K.In base → base.Ns mainGlobals mg → FnOk P w K mg base CX0 10 fa fd ["_law_script"] (spLaw K) := by
  have e1 := hfa.symm.trans (PySem.W.mg_of X G D42.at_)
  cases e1
  obtain ⟨d0, F0⟩ := D0.fn
  obtain ⟨d1, F1⟩ := D1.fn
  obtain ⟨d2, F2⟩ := D2.fn
  obtain ⟨d3, F3⟩ := D3.fn
  obtain ⟨d4, F4⟩ := D4.fn
  obtain ⟨d5, F5⟩ := D5.fn
  obtain ⟨d6, F6⟩ := D6.fn
  obtain ⟨d7, F7⟩ := D7.fn
  obtain ⟨d8, F8⟩ := D8.fn
  obtain ⟨d9, F9⟩ := D9.fn
  obtain ⟨d10, F10⟩ := D10.fn
  obtain ⟨d11, F11⟩ := D11.fn
  obtain ⟨d12, F12⟩ := D12.fn
  obtain ⟨d13, F13⟩ := D13.fn
  obtain ⟨d14, F14⟩ := D14.fn
  obtain ⟨d15, F15⟩ := D15.fn
  obtain ⟨d16, F16⟩ := D16.fn
  obtain ⟨d17, F17⟩ := D17.fn
  obtain ⟨d18, F18⟩ := D18.fn
  obtain ⟨d19, F19⟩ := D19.fn
  obtain ⟨d20, F20⟩ := D20.fn
  obtain ⟨d21, F21⟩ := D21.fn
  obtain ⟨d22, F22⟩ := D22.fn
  obtain ⟨d23, F23⟩ := D23.fn
  obtain ⟨d24, F24⟩ := D24.fn
  obtain ⟨d25, F25⟩ := D25.fn
  obtain ⟨d26, F26⟩ := D26.fn
  obtain ⟨d27, F27⟩ := D27.fn
  obtain ⟨d28, F28⟩ := D28.fn
  obtain ⟨d29, F29⟩ := D29.fn
  obtain ⟨d30, F30⟩ := D30.fn
  obtain ⟨d31, F31⟩ := D31.fn
  obtain ⟨d32, F32⟩ := D32.fn
  obtain ⟨d33, F33⟩ := D33.fn
  obtain ⟨d34, F34⟩ := D34.fn
  obtain ⟨d35, F35⟩ := D35.fn
  obtain ⟨d36, F36⟩ := D36.fn
  obtain ⟨d37, F37⟩ := D37.fn
  obtain ⟨d38, F38⟩ := D38.fn
  obtain ⟨d39, F39⟩ := D39.fn
  obtain ⟨d40, F40⟩ := D40.fn
  obtain ⟨d41, F41⟩ := D41.fn
  obtain ⟨d42, F42⟩ := D42.fn
  obtain ⟨e0, E0⟩ := M0.fn
  obtain ⟨e1, E1⟩ := M1.fn
  obtain ⟨e2, E2⟩ := M2.fn
  obtain ⟨e3, E3⟩ := M3.fn
  obtain ⟨e4, E4⟩ := M4.fn
  obtain ⟨e5, E5⟩ := M5.fn
  obtain ⟨di, FIn⟩ := DI.fn
  have T := TT.tp
  have TCl := TT.tc
  have TA1 := TT.ta
  have b0 : Binds K d0 ["thing"] [] := F0.binds fun _ _ _ _ _ _ us hl => match us, hl with | [_], _ => rfl
  have b1 : Binds K d1 ["thing"] [] := F1.binds fun _ _ _ _ _ _ us hl => match us, hl with | [_], _ => rfl
  have b2 : Binds K d2 ["one", "other"] [] := F2.binds fun _ _ _ _ _ _ us hl => match us, hl with | [_, _], _ => rfl
  have b3 : Binds K d3 ["amounts"] [] := F3.binds fun _ _ _ _ _ _ us hl => match us, hl with | [_], _ => rfl
  have b4 : Binds K d4 ["top", "bottom", "common"] [] := F4.binds fun _ _ _ _ _ _ us hl => match us, hl with | [_, _, _], _ => rfl
  have b5 : Binds K d5 ["one", "other"] [] := F5.binds fun _ _ _ _ _ _ us hl => match us, hl with | [_, _], _ => rfl
  have b6 : Binds K d6 ["one", "other"] [] := F6.binds fun _ _ _ _ _ _ us hl => match us, hl with | [_, _], _ => rfl
  have b7 : Binds K d7 ["one", "other"] [] := F7.binds fun _ _ _ _ _ _ us hl => match us, hl with | [_, _], _ => rfl
  have b8 : Binds K d8 ["one", "other"] [] := F8.binds fun _ _ _ _ _ _ us hl => match us, hl with | [_, _], _ => rfl
  have b9 : Binds K d9 ["one", "other"] [] := F9.binds fun _ _ _ _ _ _ us hl => match us, hl with | [_, _], _ => rfl
  have b10 : Binds K d10 ["one", "other"] [] := F10.binds fun _ _ _ _ _ _ us hl => match us, hl with | [_, _], _ => rfl
  have b11 : Binds K d11 ["thing"] [] := F11.binds fun _ _ _ _ _ _ us hl => match us, hl with | [_], _ => rfl
  have b12 : Binds K d12 ["thing"] [] := F12.binds fun _ _ _ _ _ _ us hl => match us, hl with | [_], _ => rfl
  have b13 : Binds K d13 ["thing"] [] := F13.binds fun _ _ _ _ _ _ us hl => match us, hl with | [_], _ => rfl
  have b14 : Binds K d14 ["thing"] [] := F14.binds fun _ _ _ _ _ _ us hl => match us, hl with | [_], _ => rfl
  have b15 : Binds K d15 ["word", "value"] [] := F15.binds fun _ _ _ _ _ _ us hl => match us, hl with | [_, _], _ => rfl
  have b16 : Binds K d16 ["thing"] [] := F16.binds fun _ _ _ _ _ _ us hl => match us, hl with | [_], _ => rfl
  have b17 : Binds K d17 ["thing"] [] := F17.binds fun _ _ _ _ _ _ us hl => match us, hl with | [_], _ => rfl
  have b18 : Binds K d18 ["thing"] [] := F18.binds fun _ _ _ _ _ _ us hl => match us, hl with | [_], _ => rfl
  have b19 : Binds K d19 ["tree", "row"] [] := F19.binds fun _ _ _ _ _ _ us hl => match us, hl with | [_, _], _ => rfl
  have b20 : Binds K d20 ["thing"] [] := F20.binds fun _ _ _ _ _ _ us hl => match us, hl with | [_], _ => rfl
  have b21 : Binds K d21 ["tree", "name"] [] := F21.binds fun _ _ _ _ _ _ us hl => match us, hl with | [_, _], _ => rfl
  have b22 : Binds K d22 ["tree", "top"] [] := F22.binds fun _ _ _ _ _ _ us hl => match us, hl with | [_, _], _ => rfl
  have b23 : Binds K d23 ["kind"] [] := F23.binds fun _ _ _ _ _ _ us hl => match us, hl with | [_], _ => rfl
  have b24 : Binds K d24 ["tree", "top"] [] := F24.binds fun _ _ _ _ _ _ us hl => match us, hl with | [_, _], _ => rfl
  have b25 : Binds K d25 ["tree", "thing"] [] := F25.binds fun _ _ _ _ _ _ us hl => match us, hl with | [_, _], _ => rfl
  have b26 : Binds K d26 ["tree", "uses"] [] := F26.binds fun _ _ _ _ _ _ us hl => match us, hl with | [_, _], _ => rfl
  have b27 : Binds K d27 ["tree", "uses", "names"] [] := F27.binds fun _ _ _ _ _ _ us hl => match us, hl with | [_, _, _], _ => rfl
  have b28 : Binds K d28 ["tree", "uses", "top", "kind"] [] := F28.binds fun _ _ _ _ _ _ us hl => match us, hl with | [_, _, _, _], _ => rfl
  have b29 : Binds K d29 ["tree", "uses", "top", "kind"] [] := F29.binds fun _ _ _ _ _ _ us hl => match us, hl with | [_, _, _, _], _ => rfl
  have b30 : Binds K d30 ["tree", "name", "part", "used", "claims"] [] := F30.binds fun _ _ _ _ _ _ us hl => match us, hl with | [_, _, _, _, _], _ => rfl
  have b31 : Binds K d31 ["_law_script", "_law_k"] [] := F31.binds fun _ _ _ _ _ _ us hl => match us, hl with | [_, _], _ => rfl
  have b32 : Binds K d32 ["_law_cell", "_law_k"] [] := F32.binds fun _ _ _ _ _ _ us hl => match us, hl with | [_, _], _ => rfl
  have b33 : Binds K d33 ["_law_script", "_law_k"] [] := F33.binds fun _ _ _ _ _ _ us hl => match us, hl with | [_, _], _ => rfl
  have b34 : Binds K d34 ["_law_source_here", "_law_many"] [] := F34.binds fun _ _ _ _ _ _ us hl => match us, hl with | [_, _], _ => rfl
  have b35 : Binds K d35 ["_law_one_here", "_law_other"] [] := F35.binds fun _ _ _ _ _ _ us hl => match us, hl with | [_, _], _ => rfl
  have b36 : Binds K d36 ["_law_top", "_law_bottom"] [] := F36.binds fun _ _ _ _ _ _ us hl => match us, hl with | [_, _], _ => rfl
  have b37 : Binds K d37 ["_law_source_here", "_law_things"] [] := F37.binds fun _ _ _ _ _ _ us hl => match us, hl with | [_, _], _ => rfl
  have b38 : Binds K d38 ["_law_many"] [] := F38.binds fun _ _ _ _ _ _ us hl => match us, hl with | [_], _ => rfl
  have b39 : Binds K d39 ["_law_given", "_law_whole", "_law_wish", "_law_pair", "_law_flag"] [] := F39.binds fun _ _ _ _ _ _ us hl => match us, hl with | [_, _, _, _, _], _ => rfl
  have b40 : Binds K d40 ["_law_source_here", "_law_span"] [] := F40.binds fun _ _ _ _ _ _ us hl => match us, hl with | [_, _], _ => rfl
  have b41 : Binds K d41 ["_law_source_here", "_law_span"] [] := F41.binds fun _ _ _ _ _ _ us hl => match us, hl with | [_, _], _ => rfl
  have v0 : Binds K e0 ["self"] [] := E0.binds fun _ _ _ _ _ _ us hl => match us, hl with | [_], _ => rfl
  have v1 : Binds K e1 ["self", "name"] [] := E1.binds fun _ _ _ _ _ _ us hl => match us, hl with | [_, _], _ => rfl
  have v2 : Binds K e2 ["self", "name"] [] := E2.binds fun _ _ _ _ _ _ us hl => match us, hl with | [_, _], _ => rfl
  have v3 : Binds K e3 ["self"] [] := E3.binds fun _ _ _ _ _ _ us hl => match us, hl with | [_], _ => rfl
  have v4 : Binds K e4 ["self", "name", "word"] [] := E4.binds fun _ _ _ _ _ _ us hl => match us, hl with | [_, _, _], _ => rfl
  have v5 : Binds K e5 ["self"] [] := E5.binds fun _ _ _ _ _ _ us hl => match us, hl with | [_], _ => rfl
  obtain ⟨oc, od, kV, doc, pm, an, cdv, ct, osl, rfl, lk, hcd⟩ := id F42.ex
  refine ⟨PySem.W.fnOf "law" "law" (defArgs sLaw) (defBody sLaw) (defScope sLaw) .none kV doc pm an cdv ct, fun s v => .of_eq rfl, fun base _ _ => ?_⟩
  have c0 : Cal P w K mg base "is_integer" ["thing"] 1 spIsInteger f0 d0 := ⟨ok_isInteger F0 T, PySem.W.mg_of X G D0.at_, F0.kp, b0⟩
  have c2 : Cal P w K mg base "divisor" ["one", "other"] 1 spDivisor f2 d2 := ⟨ok_divisor F2 T, PySem.W.mg_of X G D2.at_, F2.kp, b2⟩
  have c1 : Cal P w K mg base "is_amount" ["thing"] 2 (spIsAmount K) f1 d1 := ⟨ok_isAmount F1 T c0 c2, PySem.W.mg_of X G D1.at_, F1.kp, b1⟩
  have c13 : Cal P w K mg base "is_endless" ["thing"] 1 (spIsEndless K) f13 d13 := ⟨ok_isEndless F13 T, PySem.W.mg_of X G D13.at_, F13.kp, b13⟩
  have c12 : Cal P w K mg base "is_word" ["thing"] 1 spIsWord f12 d12 := ⟨ok_isWord F12 T, PySem.W.mg_of X G D12.at_, F12.kp, b12⟩
  have z12 : Cal P w K mg base "is_word" ["thing"] 1 (spIsWord2 K) f12 d12 := ⟨ok_isWord2 F12 T, PySem.W.mg_of X G D12.at_, F12.kp, b12⟩
  have c14 : Cal P w K mg base "is_set" ["thing"] 2 (spIsSet K) f14 d14 := ⟨ok_isSet F14 T c0, PySem.W.mg_of X G D14.at_, F14.kp, b14⟩
  have c15 : Cal P w K mg base "may_have" ["word", "value"] 3 (spMayHave K) f15 d15 := ⟨ok_mayHave F15 T c1 c0 c14 c13, PySem.W.mg_of X G D15.at_, F15.kp, b15⟩
  have c16 : Cal P w K mg base "is_due" ["thing"] 4 (spIsDue K) f16 d16 := ⟨ok_isDue F16 T c12 c15, PySem.W.mg_of X G D16.at_, F16.kp, b16⟩
  have c11 : Cal P w K mg base "is_name" ["thing"] 1 spIsName f11 d11 := ⟨ok_isName F11 T, PySem.W.mg_of X G D11.at_, F11.kp, b11⟩
  have c17 : Cal P w K mg base "is_dues" ["thing"] 5 (spIsDues K) f17 d17 := ⟨ok_isDues F17 T c16, PySem.W.mg_of X G D17.at_, F17.kp, b17⟩
  have c18 : Cal P w K mg base "is_group_row" ["thing"] 6 (spIsGroupRow K) f18 d18 := ⟨ok_isGroupRow F18 T c11 c17, PySem.W.mg_of X G D18.at_, F18.kp, b18⟩
  have c19 : Cal P w K mg base "may_stand" ["tree", "row"] 2 (spMayStand K C) f19 d19 := ⟨ok_mayStand F19 T TCl c13, PySem.W.mg_of X G D19.at_, F19.kp, b19⟩
  have c21 : CalX P w K mg base "check_group" ["tree", "name"] 1 (spCG K C q0) f21 d21 := ⟨ok_checkGroup F21 T TCl TT.x0, PySem.W.mg_of X G D21.at_, F21.kp, b21⟩
  have w0 : FnOk P w K mg base CX0 1 m0 e0 ["self"] (spTNames K C) := ok_tnames E0 T TCl
  have w1 : FnOk P w K mg base (L2.CX P w) 2 m1 e1 ["self", "name"] (spTAbove K C q0) := ok_tabove E1 TCl c21
  have w2 : FnOk P w K mg base (L2.CX P w) 1 m2 e2 ["self", "name"] (spTKids K C q0) := ok_tkids E2 T TCl TT.x0
  have w3 : FnOk P w K mg base CX0 1 m3 e3 ["self"] (spTLeaves K C) := ok_tleaves E3 TCl
  have w4 : FnOk P w K mg base (L2.CX P w) 2 m4 e4 ["self", "name", "word"] (spTDue K C q0 q1) := ok_tdue E4 TCl TT.x1 c21 z12
  have w5 : FnOk P w K mg base CX0 1 m5 e5 ["self"] (spTHanding K C) := ok_thanding E5 TCl
  have FI : FnOk P w K mg base CX0 7 i di ["self", "rows", "handing"] (spInit K C) := ok_init FIn T TCl TT.lv c18 c19
  have c4 : Cal P w K mg base "cancelled" ["top", "bottom", "common"] 2 (spCanc K) f4 d4 := ⟨ok_canc F4 c2, PySem.W.mg_of X G D4.at_, F4.kp, b4⟩
  have c3 : Cal P w K mg base "total" ["amounts"] 3 (spTotal K) f3 d3 := ⟨ok_total F3 TT.tm c2 c4, PySem.W.mg_of X G D3.at_, F3.kp, b3⟩
  have c5 : Cal P w K mg base "plus" ["one", "other"] 4 (spPlus K) f5 d5 := ⟨ok_plus F5 c3, PySem.W.mg_of X G D5.at_, F5.kp, b5⟩
  have c6 : Cal P w K mg base "minus" ["one", "other"] 4 (spMinus K) f6 d6 := ⟨ok_minus F6 c3, PySem.W.mg_of X G D6.at_, F6.kp, b6⟩
  have c7 : Cal P w K mg base "times" ["one", "other"] 2 (spTimes K) f7 d7 := ⟨ok_times F7 c2, PySem.W.mg_of X G D7.at_, F7.kp, b7⟩
  have c8 : Cal P w K mg base "over" ["one", "other"] 3 (spOver K) f8 d8 := ⟨ok_over F8 c7, PySem.W.mg_of X G D8.at_, F8.kp, b8⟩
  have c9 : Cal P w K mg base "is_less" ["one", "other"] 1 (spLess K) f9 d9 := ⟨ok_less F9 , PySem.W.mg_of X G D9.at_, F9.kp, b9⟩
  have c10 : Cal P w K mg base "lesser" ["one", "other"] 2 (spLesser K) f10 d10 := ⟨ok_lesser F10 c9, PySem.W.mg_of X G D10.at_, F10.kp, b10⟩
  have c30 : Cal P w K mg base "parted" ["tree", "name", "part", "used", "claims"] 5 (spParted K C) f30 d30 := ⟨ok_parted F30 TCl M2.me w2 v2 M5.me w5 v5 c3 c9 c8 c7 c6 c5, PySem.W.mg_of X G D30.at_, F30.kp, b30⟩
  have c20 : Cal P w K mg base "check_tree" ["thing"] 1 (spCTree K C) f20 d20 := ⟨ok_ctree F20 T TCl TT.ti, PySem.W.mg_of X G D20.at_, F20.kp, b20⟩
  have c22 : Cal P w K mg base "check_top" ["tree", "top"] 1 (spCTop K C) f22 d22 := ⟨ok_ctop F22 T TCl, PySem.W.mg_of X G D22.at_, F22.kp, b22⟩
  have c23 : Cal P w K mg base "check_kind" ["kind"] 1 spCKind f23 d23 := ⟨ok_ckind F23 T TT.tk.toTKk, PySem.W.mg_of X G D23.at_, F23.kp, b23⟩
  have c24 : Cal P w K mg base "groups_below" ["tree", "top"] 3 (spBelow K C) f24 d24 := ⟨ok_below F24 T TCl M0.me w0 v0 M1.me w1 v1, PySem.W.mg_of X G D24.at_, F24.kp, b24⟩
  have c25 : Cal P w K mg base "is_from_leaves" ["tree", "thing"] 3 (spFrom K C) f25 d25 := ⟨ok_from F25 T TCl M3.me w3 v3 c1, PySem.W.mg_of X G D25.at_, F25.kp, b25⟩
  have c26 : Cal P w K mg base "told_uses" ["tree", "uses"] 4 (spTold K C) f26 d26 := ⟨ok_told F26 T TT.tk TCl M3.me w3 v3 c25, PySem.W.mg_of X G D26.at_, F26.kp, b26⟩
  have c27 : Cal P w K mg base "with_groups" ["tree", "uses", "names"] 4 (spWithG K C) f27 d27 := ⟨ok_withg F27 T TT.tk TCl M2.me w2 v2 c3, PySem.W.mg_of X G D27.at_, F27.kp, b27⟩
  have c29 : Cal P w K mg base "held" ["tree", "uses", "top", "kind"] 6 (spHeld K C) f29 d29 := ⟨ok_held F29 T TCl M2.me w2 v2 M4.me w4 v4 c24 c27 c10 c30, PySem.W.mg_of X G D29.at_, F29.kp, b29⟩
  have c28 : Cal P w K mg base "protected" ["tree", "uses", "top", "kind"] 7 (spProt K C) f28 d28 := ⟨ok_prot F28 c20 c26 c22 c23 c29, PySem.W.mg_of X G D28.at_, F28.kp, b28⟩
  have c31 : Cal P w K mg base "_law_cell_at" ["_law_script", "_law_k"] 1 (spCellAt K) f31 d31 := ⟨ok_cellAt F31 TA1, PySem.W.mg_of X G D31.at_, F31.kp, b31⟩
  have c32 : Cal P w K mg base "_law_mixed" ["_law_cell", "_law_k"] 1 spMixed f32 d32 := ⟨ok_mixed F32 TA1, PySem.W.mg_of X G D32.at_, F32.kp, b32⟩
  have c34 : Cal P w K mg base "_law_next" ["_law_source_here", "_law_many"] 2 spNext f34 d34 := ⟨ok_next F34 TA1 c32, PySem.W.mg_of X G D34.at_, F34.kp, b34⟩
  have c33 : Cal P w K mg base "_law_source" ["_law_script", "_law_k"] 2 (spSource K) f33 d33 := ⟨ok_source F33 TA1 c32 c31, PySem.W.mg_of X G D33.at_, F33.kp, b33⟩
  have c35 : Cal P w K mg base "_law_common" ["_law_one_here", "_law_other"] 1 spCommon f35 d35 := ⟨ok_common F35 TA1, PySem.W.mg_of X G D35.at_, F35.kp, b35⟩
  have c36 : Cal P w K mg base "_law_fraction" ["_law_top", "_law_bottom"] 2 spFraction f36 d36 := ⟨ok_fraction F36 TA1 c35, PySem.W.mg_of X G D36.at_, F36.kp, b36⟩
  have z36 : Cal P w K mg base "_law_fraction" ["_law_top", "_law_bottom"] 2 (spFrac2 K) f36 d36 := ⟨ok_frac2 F36 TA1 c35, PySem.W.mg_of X G D36.at_, F36.kp, b36⟩
  have c37 : Cal P w K mg base "_law_one" ["_law_source_here", "_law_things"] 3 (spOne K) f37 d37 := ⟨ok_one F37 TA1 c34, PySem.W.mg_of X G D37.at_, F37.kp, b37⟩
  have z34 : Cal P w K mg base "_law_next" ["_law_source_here", "_law_many"] 2 spNextB f34 d34 := ⟨ok_nextB F34 TA1 c32, PySem.W.mg_of X G D34.at_, F34.kp, b34⟩
  have c38 : Cal P w K mg base "_law_titles" ["_law_many"] 1 spTitles10 f38 d38 := ⟨ok_titles10 F38 , PySem.W.mg_of X G D38.at_, F38.kp, b38⟩
  have c39 : Cal P w K mg base "_law_child" ["_law_given", "_law_whole", "_law_wish", "_law_pair", "_law_flag"] 3 (spChild K) f39 d39 := ⟨ok_child F39 z36, PySem.W.mg_of X G D39.at_, F39.kp, b39⟩
  have c40 : Cal P w K mg base "_law_wide_right" ["_law_source_here", "_law_span"] 9 (spWide10 K) f40 d40 := ⟨ok_wide10 F40 TA1 TT.tz3 TT.tsm TT.tmm TT.td TCl ⟨mk, DI.me.at_, DI.me.fn, kc⟩ FI (init_binds2 FIn) c38 z34 c37 c39 c28, PySem.W.mg_of X G D40.at_, F40.kp, b40⟩
  have c41 : Cal P w K mg base "_law_deep_right" ["_law_source_here", "_law_span"] 9 (spDeep10 K) f41 d41 := ⟨ok_deep10 F41 TA1 TT.tmm TCl ⟨mk, DI.me.at_, DI.me.fn, kc⟩ FI (init_binds2 FIn) c38 z34 c37 c39 c28, PySem.W.mg_of X G D41.at_, F41.kp, b41⟩
  exact ok_law F42 TA1 TT.tmm c33 c37 c40 c41
theorem walk {l : PySem.W.OpenLaw} {q : Program} {loose : List Str} {XP : (Str → Option Value) → Heap → Prop} {YP : World → Heap → Prop} {d : DefRec} {K : Params → PySem.W.Frag} (hn : l.most = some 63) (hdf : d.params.defaults = [])
    (hY : ∀ (w : World) (h : Heap), YP w h → (K w.params).In h)
    (F : ∀ (w : World) (mg : Str → Option Value) (fa : Addr) (h : Heap), (K w.params).In h → h.Ns mainGlobals mg → mg d.name = some (.ref fa) →
      ∃ fd : FuncData, (∀ (s : Shared) (u : Value), BindsTo s fd ⟨[u], []⟩ [("_law_script", u)]) ∧ ∀ base : Heap, (K w.params).In base → base.Ns mainGlobals mg → FnOk l.prog w (K w.params) mg base CX0 10 fa fd ["_law_script"] (spLaw (K w.params))) :
    PySem.W.WalkO q loose XP YP l.row.toRowW d [] (fun f vs => PySem.call f vs) :=
  L2.walk_of (n := 63) (k := 10) (x := "_law_script") (CX := fun _ => CX0) (sp := fun w => spLaw (K w.params)) hn (by decide) hdf ⟨rfl, by decide, by decide⟩ hY F (fun _ _ a ns hl _ hS => ⟨a, ns, rfl, hS, hl, fun _ => rfl⟩) fun _ _ _ _ _ z => z
end Bd
end
open PySem PySem.W PyProof.Rows
set_option maxRecDepth 100000 in
set_option maxHeartbeats 0 in
theorem PySem.Challenge.cw_branchdues_k10_whole_wide_and_deep_holds : PySem.Challenge.rw_branchdues_k10_whole_wide_and_deep.Holds := by
  w_on; o_law; k_head; (case hw => w_witness2)
  k_fill
  refine Bd.walk (l := PySem.Challenge.rw_branchdues_k10_whole_wide_and_deep) rfl rfl (fun w h Y => PySem.W.kIn_of Y) ?F
  case F =>
    intro w mg fa h KX G hmg
    refine' Bd.all_mk KX G hmg (Bd.tops_mk KX G ?zzcz_len ?zzcz_int ?zzcz_bool ?zzcz_str ?zzcz_tuple ?zzcz_list ?zzcz_dict ?zzcz_all ?zzcz_enumerate ?zzcz_isinstance ?zzcz_range ?zzcz_abs ?zzcz_max ?zzcz_min ?zzcz_reversed ?zzcz_zip ?zzcz_sum ?zzcgK ?zzcgZ ?zzclK ?zzclZ ?zzcgL ?zzcgE ?zzcgG ?zzcgO ?zzckO ?zzcl1 ?zzcl2 ?zzcl3 ?zzcgC ?zzcpg ?zzchd ?zzcpo ?zzcsa ?zzcnO ?zzcnP ?zzcnK ?zzcnT ?zzcnH ?zzciA ?zzciN ?zzciT ?zzciM ?zzce0g ?zzce0t ?zzcx0k ?zzcx0b ?zzce1g ?zzce1t ?zzcx1k ?zzcx1b ?zzclo ?zzch1 ?zzch2 ?zzch3 ?zzch4 ?zzch5 ?zzch6 ?zzch7 ?zzch8 ?zzcy0 ?zzcy1) (Bd.dk_mk ?zza0 ?zzb0 ?zzd0 ?zzg0) (Bd.dk_mk ?zza1 ?zzb1 ?zzd1 ?zzg1) (Bd.dk_mk ?zza2 ?zzb2 ?zzd2 ?zzg2) (Bd.dk_mk ?zza3 ?zzb3 ?zzd3 ?zzg3) (Bd.dk_mk ?zza4 ?zzb4 ?zzd4 ?zzg4) (Bd.dk_mk ?zza5 ?zzb5 ?zzd5 ?zzg5) (Bd.dk_mk ?zza6 ?zzb6 ?zzd6 ?zzg6) (Bd.dk_mk ?zza7 ?zzb7 ?zzd7 ?zzg7) (Bd.dk_mk ?zza8 ?zzb8 ?zzd8 ?zzg8) (Bd.dk_mk ?zza9 ?zzb9 ?zzd9 ?zzg9) (Bd.dk_mk ?zza10 ?zzb10 ?zzd10 ?zzg10) (Bd.dk_mk ?zza11 ?zzb11 ?zzd11 ?zzg11) (Bd.dk_mk ?zza12 ?zzb12 ?zzd12 ?zzg12) (Bd.dk_mk ?zza13 ?zzb13 ?zzd13 ?zzg13) (Bd.dk_mk ?zza14 ?zzb14 ?zzd14 ?zzg14) (Bd.dk_mk ?zza15 ?zzb15 ?zzd15 ?zzg15) (Bd.dk_mk ?zza16 ?zzb16 ?zzd16 ?zzg16) (Bd.dk_mk ?zza17 ?zzb17 ?zzd17 ?zzg17) (Bd.dk_mk ?zza18 ?zzb18 ?zzd18 ?zzg18) (Bd.dk_mk ?zza19 ?zzb19 ?zzd19 ?zzg19) (Bd.dk_mk ?zza20 ?zzb20 ?zzd20 ?zzg20) (Bd.dk_mk ?zza21 ?zzb21 ?zzd21 ?zzg21) (Bd.dk_mk ?zza22 ?zzb22 ?zzd22 ?zzg22) (Bd.dk_mk ?zza23 ?zzb23 ?zzd23 ?zzg23) (Bd.dk_mk ?zza24 ?zzb24 ?zzd24 ?zzg24) (Bd.dk_mk ?zza25 ?zzb25 ?zzd25 ?zzg25) (Bd.dk_mk ?zza26 ?zzb26 ?zzd26 ?zzg26) (Bd.dk_mk ?zza27 ?zzb27 ?zzd27 ?zzg27) (Bd.dk_mk ?zza28 ?zzb28 ?zzd28 ?zzg28) (Bd.dk_mk ?zza29 ?zzb29 ?zzd29 ?zzg29) (Bd.dk_mk ?zza30 ?zzb30 ?zzd30 ?zzg30) (Bd.dk_mk ?zza31 ?zzb31 ?zzd31 ?zzg31) (Bd.dk_mk ?zza32 ?zzb32 ?zzd32 ?zzg32) (Bd.dk_mk ?zza33 ?zzb33 ?zzd33 ?zzg33) (Bd.dk_mk ?zza34 ?zzb34 ?zzd34 ?zzg34) (Bd.dk_mk ?zza35 ?zzb35 ?zzd35 ?zzg35) (Bd.dk_mk ?zza36 ?zzb36 ?zzd36 ?zzg36) (Bd.dk_mk ?zza37 ?zzb37 ?zzd37 ?zzg37) (Bd.dk_mk ?zza38 ?zzb38 ?zzd38 ?zzg38) (Bd.dk_mk ?zza39 ?zzb39 ?zzd39 ?zzg39) (Bd.dk_mk ?zza40 ?zzb40 ?zzd40 ?zzg40) (Bd.dk_mk ?zza41 ?zzb41 ?zzd41 ?zzg41) (Bd.dk_mk ?zza42 ?zzb42 ?zzd42 ?zzg42) (Bd.mk_mk ?zzm0a ?zzm0b ?zzm0c ?zzm0d ?zzm0e) (Bd.mk_mk ?zzm1a ?zzm1b ?zzm1c ?zzm1d ?zzm1e) (Bd.mk_mk ?zzm2a ?zzm2b ?zzm2c ?zzm2d ?zzm2e) (Bd.mk_mk ?zzm3a ?zzm3b ?zzm3c ?zzm3d ?zzm3e) (Bd.mk_mk ?zzm4a ?zzm4b ?zzm4c ?zzm4d ?zzm4e) (Bd.mk_mk ?zzm5a ?zzm5b ?zzm5c ?zzm5d ?zzm5e) (Bd.ik_mk ?zzs1 ?zzs2 ?zzs3 ?zzs4 ?zzs5 ?zzs6) ?zzmk ?zzkc
    (case zzcz_len => k_is)
    (case zzcz_int => k_is)
    (case zzcz_bool => k_is)
    (case zzcz_str => k_is)
    (case zzcz_tuple => k_is)
    (case zzcz_list => k_is)
    (case zzcz_dict => k_is)
    (case zzcz_all => k_is)
    (case zzcz_enumerate => k_is)
    (case zzcz_isinstance => k_is)
    (case zzcz_range => k_is)
    (case zzcz_abs => k_is)
    (case zzcz_max => k_is)
    (case zzcz_min => k_is)
    (case zzcz_reversed => k_is)
    (case zzcz_zip => k_is)
    (case zzcz_sum => k_is)
    (case zzcgK => k_is)
    (case zzcgZ => k_is)
    (case zzclK => k_is)
    (case zzclZ => k_is)
    (case zzcgL => k_is)
    (case zzcgE => k_is)
    (case zzcgG => k_is)
    (case zzcgO => k_is)
    (case zzckO => k_is)
    (case zzcl1 => k_is)
    (case zzcl2 => k_is)
    (case zzcl3 => k_is)
    (case zzcgC => k_is)
    (case zzcpg => k_is)
    (case zzchd => k_is)
    (case zzcpo => k_is)
    (case zzcsa => k_is)
    (case zzcnO => k_is)
    (case zzcnP => k_is)
    (case zzcnK => k_is)
    (case zzcnT => k_is)
    (case zzcnH => k_is)
    (case zzciA => k_is)
    (case zzciN => k_is)
    (case zzciT => k_is)
    (case zzciM => k_is)
    (case zzce0g => k_is)
    (case zzce0t => k_is)
    (case zzcx0k => k_is)
    (case zzcx0b => k_is)
    (case zzce1g => k_is)
    (case zzce1t => k_is)
    (case zzcx1k => k_is)
    (case zzcx1b => k_is)
    (case zzclo => first | rfl | kernel_rfl | decide)
    (case zzch1 => first | rfl | kernel_rfl | decide)
    (case zzch2 => first | rfl | kernel_rfl | decide)
    (case zzch3 => first | rfl | kernel_rfl | decide)
    (case zzch4 => first | rfl | kernel_rfl | decide)
    (case zzch5 => first | rfl | kernel_rfl | decide)
    (case zzch6 => first | rfl | kernel_rfl | decide)
    (case zzch7 => first | rfl | kernel_rfl | decide)
    (case zzch8 => first | rfl | kernel_rfl | decide)
    (case zzcy0 => first | rfl | kernel_rfl | decide)
    (case zzcy1 => first | rfl | kernel_rfl | decide)
    (case zza0 => k_is)
    (case zzb0 => k_is)
    (case zzd0 => k_is)
    (case zzg0 => k_is)
    (case zza1 => k_is)
    (case zzb1 => k_is)
    (case zzd1 => k_is)
    (case zzg1 => k_is)
    (case zza2 => k_is)
    (case zzb2 => k_is)
    (case zzd2 => k_is)
    (case zzg2 => k_is)
    (case zza3 => k_is)
    (case zzb3 => k_is)
    (case zzd3 => k_is)
    (case zzg3 => k_is)
    (case zza4 => k_is)
    (case zzb4 => k_is)
    (case zzd4 => k_is)
    (case zzg4 => k_is)
    (case zza5 => k_is)
    (case zzb5 => k_is)
    (case zzd5 => k_is)
    (case zzg5 => k_is)
    (case zza6 => k_is)
    (case zzb6 => k_is)
    (case zzd6 => k_is)
    (case zzg6 => k_is)
    (case zza7 => k_is)
    (case zzb7 => k_is)
    (case zzd7 => k_is)
    (case zzg7 => k_is)
    (case zza8 => k_is)
    (case zzb8 => k_is)
    (case zzd8 => k_is)
    (case zzg8 => k_is)
    (case zza9 => k_is)
    (case zzb9 => k_is)
    (case zzd9 => k_is)
    (case zzg9 => k_is)
    (case zza10 => k_is)
    (case zzb10 => k_is)
    (case zzd10 => k_is)
    (case zzg10 => k_is)
    (case zza11 => k_is)
    (case zzb11 => k_is)
    (case zzd11 => k_is)
    (case zzg11 => k_is)
    (case zza12 => k_is)
    (case zzb12 => k_is)
    (case zzd12 => k_is)
    (case zzg12 => k_is)
    (case zza13 => k_is)
    (case zzb13 => k_is)
    (case zzd13 => k_is)
    (case zzg13 => k_is)
    (case zza14 => k_is)
    (case zzb14 => k_is)
    (case zzd14 => k_is)
    (case zzg14 => k_is)
    (case zza15 => k_is)
    (case zzb15 => k_is)
    (case zzd15 => k_is)
    (case zzg15 => k_is)
    (case zza16 => k_is)
    (case zzb16 => k_is)
    (case zzd16 => k_is)
    (case zzg16 => k_is)
    (case zza17 => k_is)
    (case zzb17 => k_is)
    (case zzd17 => k_is)
    (case zzg17 => k_is)
    (case zza18 => k_is)
    (case zzb18 => k_is)
    (case zzd18 => k_is)
    (case zzg18 => k_is)
    (case zza19 => k_is)
    (case zzb19 => k_is)
    (case zzd19 => k_is)
    (case zzg19 => k_is)
    (case zza20 => k_is)
    (case zzb20 => k_is)
    (case zzd20 => k_is)
    (case zzg20 => k_is)
    (case zza21 => k_is)
    (case zzb21 => k_is)
    (case zzd21 => k_is)
    (case zzg21 => k_is)
    (case zza22 => k_is)
    (case zzb22 => k_is)
    (case zzd22 => k_is)
    (case zzg22 => k_is)
    (case zza23 => k_is)
    (case zzb23 => k_is)
    (case zzd23 => k_is)
    (case zzg23 => k_is)
    (case zza24 => k_is)
    (case zzb24 => k_is)
    (case zzd24 => k_is)
    (case zzg24 => k_is)
    (case zza25 => k_is)
    (case zzb25 => k_is)
    (case zzd25 => k_is)
    (case zzg25 => k_is)
    (case zza26 => k_is)
    (case zzb26 => k_is)
    (case zzd26 => k_is)
    (case zzg26 => k_is)
    (case zza27 => k_is)
    (case zzb27 => k_is)
    (case zzd27 => k_is)
    (case zzg27 => k_is)
    (case zza28 => k_is)
    (case zzb28 => k_is)
    (case zzd28 => k_is)
    (case zzg28 => k_is)
    (case zza29 => k_is)
    (case zzb29 => k_is)
    (case zzd29 => k_is)
    (case zzg29 => k_is)
    (case zza30 => k_is)
    (case zzb30 => k_is)
    (case zzd30 => k_is)
    (case zzg30 => k_is)
    (case zza31 => k_is)
    (case zzb31 => k_is)
    (case zzd31 => k_is)
    (case zzg31 => k_is)
    (case zza32 => k_is)
    (case zzb32 => k_is)
    (case zzd32 => k_is)
    (case zzg32 => k_is)
    (case zza33 => k_is)
    (case zzb33 => k_is)
    (case zzd33 => k_is)
    (case zzg33 => k_is)
    (case zza34 => k_is)
    (case zzb34 => k_is)
    (case zzd34 => k_is)
    (case zzg34 => k_is)
    (case zza35 => k_is)
    (case zzb35 => k_is)
    (case zzd35 => k_is)
    (case zzg35 => k_is)
    (case zza36 => k_is)
    (case zzb36 => k_is)
    (case zzd36 => k_is)
    (case zzg36 => k_is)
    (case zza37 => k_is)
    (case zzb37 => k_is)
    (case zzd37 => k_is)
    (case zzg37 => k_is)
    (case zza38 => k_is)
    (case zzb38 => k_is)
    (case zzd38 => k_is)
    (case zzg38 => k_is)
    (case zza39 => k_is)
    (case zzb39 => k_is)
    (case zzd39 => k_is)
    (case zzg39 => k_is)
    (case zza40 => k_is)
    (case zzb40 => k_is)
    (case zzd40 => k_is)
    (case zzg40 => k_is)
    (case zza41 => k_is)
    (case zzb41 => k_is)
    (case zzd41 => k_is)
    (case zzg41 => k_is)
    (case zza42 => k_is)
    (case zzb42 => k_is)
    (case zzd42 => k_is)
    (case zzg42 => k_is)
    (case zzm0a => k_is)
    (case zzm0b => k_is)
    (case zzm0c => k_is)
    (case zzm0d => k_is)
    (case zzm0e => k_is)
    (case zzm1a => k_is)
    (case zzm1b => k_is)
    (case zzm1c => k_is)
    (case zzm1d => k_is)
    (case zzm1e => k_is)
    (case zzm2a => k_is)
    (case zzm2b => k_is)
    (case zzm2c => k_is)
    (case zzm2d => k_is)
    (case zzm2e => k_is)
    (case zzm3a => k_is)
    (case zzm3b => k_is)
    (case zzm3c => k_is)
    (case zzm3d => k_is)
    (case zzm3e => k_is)
    (case zzm4a => k_is)
    (case zzm4b => k_is)
    (case zzm4c => k_is)
    (case zzm4d => k_is)
    (case zzm4e => k_is)
    (case zzm5a => k_is)
    (case zzm5b => k_is)
    (case zzm5c => k_is)
    (case zzm5d => k_is)
    (case zzm5e => k_is)
    (case zzs1 => k_is)
    (case zzs2 => k_is)
    (case zzs3 => k_is)
    (case zzs4 => k_is)
    (case zzs5 => k_is)
    (case zzs6 => k_is)
    (case zzmk => k_is)
    (case zzkc => k_is)
