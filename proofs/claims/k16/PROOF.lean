import PyProof.Rows.All
import Wide.All
import OpenK.AllK
import Wide.FinOn
import HandS.ForMost
import HandS.Wide
import HandS.WideBits
import HandS.IsInst
import HandS.Flow
import HandS.Defaults
import HandS.OwnEq
import HandS.MakeKw
import HandS.DictEq
import HandS.Deep
import PySem.Challenge.RW_branchdues_k16_whole_in_parts
import KE.KDictPairs
import HandS.Walk
import HandS.ForExc
import HandS.WordsExc
import HandS.DeepEq
import HandS.SlotsOwn
import PyProof.InstNe
import PyProof.Rows.EqNone
import HandS.Evl
import HandS.DictComp
import HandS.SetFor
import HandS.Conv
import HandS.Rev
import PyProof.P3In
import KE.KEqDict
import HandS.WordsDict
import HandS.Style
import HandS.More
import HandS.TupLe
import HandS.TupAny
import HandS.ListItems
import PyProof.Rows.StrMeet
import HandS.ListEq
set_option Elab.async false
set_option linter.unusedVariables false
set_option linter.unusedSectionVars false
set_option maxRecDepth 100000
set_option maxHeartbeats 1000000
section
namespace Bd
open PySem L2
def top (i : Nat) : Stmt := PySem.Challenge.pw_branchdues_k16_whole_in_parts.main.body.getD i (.Pass ⟨0, 0, 0, 0⟩)
/-- a def as its callers see it -/
structure Cal (P : Program) (w : World) (K : PySem.W.Frag) (mg : Str → Option Value) (base : Heap) (x : Str) (ps : List Str) (k : Nat) (sp : Sp) (f : Addr) (fd : FuncData) : Prop where
  ok : FnOk P w K mg base CX0 k f fd ps sp
  mg : mg x = some (.ref f)
  kp : PySem.W.keepIn K (.ref f) = true
  bd : Binds K fd ps []
/-- all but p stays as it was -/
def Kept (p : Addr) (H H' : Hp) : Prop := ∀ b o, b ≠ p → H b = some o → H' b = some o
theorem Kept.refl (p : Addr) (H : Hp) : Kept p H H := fun _ _ _ h => h
theorem Kept.trans {p : Addr} {H H1 H2 : Hp} (a : Kept p H H1) (b : Kept p H1 H2) : Kept p H H2 := fun c o h e => b c o h (a c o h e)
theorem Kept.of {p : Addr} {H H1 : Hp} (a : Same H H1) : Kept p H H1 := fun c o _ e => a c o e
theorem Kept.upd {p : Addr} {H H1 : Hp} (a : Kept p H H1) (o : HO) : Kept p H (L2.upd H1 p o) := fun c u h e => by rw [upd_ne h]; exact a c u h e
theorem Kept.new {p q : Addr} {H H1 : Hp} (a : Kept p H H1) (h : H1 q = none) (o : HO) : Kept p H (L2.upd H1 q o) := fun c u hc e => by
  have := a c u hc e
  rw [upd_ne (ne_of_none this h)]; exact this
theorem Kept.free {p l : Addr} {H H' : Hp} (e : Kept p H H') (hl : l ≠ p) (h : H' l = none) : H l = none := by
  cases q : H l with
  | none => rfl
  | some o => rw [e l o hl q] at h; cases h
theorem Same.new {H H1 : Hp} {q : Addr} (a : Same H H1) (h : H1 q = none) (o : HO) : Same H (upd H1 q o) := fun c u e => by
  have := a c u e
  rw [upd_ne (ne_of_none this h)]; exact this
theorem Kept.seq {K : PySem.W.Frag} {p : Addr} {H H' : Hp} {a : Addr} {xs : List V} (e : Kept p H H') (hp : a ≠ p) (h : SqL K H a xs) : SqL K H' a xs := by
  rcases h with (h | ⟨o, h⟩) | h
  · exact .inl (.inl (e _ _ hp h))
  · exact .inl (.inr ⟨o, e _ _ hp h⟩)
  · exact .inr h
theorem fm0 {x m : Int} (h : 0 < m) : 0 ≤ x.fmod m := Int.fmod_nonneg_of_pos x h
theorem fm1 {x m : Int} (h : 0 < m) : x.fmod m < m := Int.fmod_lt_of_pos x h
theorem fm_in {x m : Int} (h : 0 < m) (h2 : m ≤ 2 ^ 63) : -(2 ^ 64) < x.fmod m ∧ x.fmod m < 2 ^ 64 := by
  have := fm0 (x := x) h
  have := fm1 (x := x) h
  omega
theorem fm_nat {x : Int} {m : Nat} (h : 0 < m) : ∃ v : Nat, x.fmod (m : Int) = (v : Int) ∧ v < m := by
  have h1 := fm0 (x := x) (m := (m : Int)) (by omega)
  have h2 := fm1 (x := x) (m := (m : Int)) (by omega)
  exact ⟨(x.fmod (m : Int)).toNat, by omega, by omega⟩
theorem small {n : Nat} (h : n ≤ 1000) : n ≤ sizeLine := Nat.le_of_lt (small1000 h)
/-- an amount as the law draws it: in lowest terms, not too long -/
def AmtOk (n d : Nat) : Prop := 0 < d ∧ Nat.gcd n d = 1 ∧ n ≤ 10 ^ 13 ∧ d ≤ 10 ^ 13

/-- what the text needs of the top, one built-in name each -/
structure TA (mg : Str → Option Value) : Prop where
  z_len : mg "len" = none
  z_int : mg "int" = none
  z_range : mg "range" = none
  z_abs : mg "abs" = none
  z_tuple : mg "tuple" = none
  z_list : mg "list" = none
  z_enumerate : mg "enumerate" = none
abbrev sCellAt : Stmt := (top 60)
theorem scCellAt : FnScope ["_law_script", "_law_k"] ["_law_script", "_law_k"] (defScope sCellAt) := ⟨rfl, rfl, rfl, by decide +kernel, rfl, by decide +kernel, by decide +kernel⟩
abbrev sMixed : Stmt := (top 61)
theorem scMixed : FnScope ["_law_cell", "_law_k", "_law_low"] ["_law_cell", "_law_k"] (defScope sMixed) := ⟨rfl, rfl, rfl, by decide +kernel, rfl, by decide +kernel, by decide +kernel⟩
abbrev sSource : Stmt := (top 62)
theorem scSource : FnScope ["_law_script", "_law_k", "_law_cell"] ["_law_script", "_law_k"] (defScope sSource) := ⟨rfl, rfl, rfl, by decide +kernel, rfl, by decide +kernel, by decide +kernel⟩
abbrev sNext : Stmt := (top 63)
theorem scNext : FnScope ["_law_source_here", "_law_many", "_law_found"] ["_law_source_here", "_law_many"] (defScope sNext) := ⟨rfl, rfl, rfl, by decide +kernel, rfl, by decide +kernel, by decide +kernel⟩
abbrev sOne : Stmt := (top 64)
theorem scOne : FnScope ["_law_source_here", "_law_things"] ["_law_source_here", "_law_things"] (defScope sOne) := ⟨rfl, rfl, rfl, by decide +kernel, rfl, by decide +kernel, by decide +kernel⟩

/-- a source of draws -/
def Src (H : Hp) (p : Addr) : Prop := ∃ x y z : Int, H p = some (.lst [.int x, .int y, .int z])
def spCellAt (K : PySem.W.Frag) : Sp := fun vs H Q _ => ∃ (a : Addr) (ns : List Int) (k : Nat), vs = [.ref a, .int (k : Int)] ∧ SqL K H a (ns.map V.int) ∧ ∀ v : Int, Q (.int v) H
def spMixed : Sp := fun vs H Q _ => ∃ (c k : Int), vs = [.int c, .int k] ∧ ∀ v : Int, 0 ≤ v → Q (.int v) H
def spSource (K : PySem.W.Frag) : Sp := fun vs H Q _ => ∃ (a : Addr) (ns : List Int) (k : Nat), vs = [.ref a, .int (k : Int)] ∧ SqL K H a (ns.map V.int) ∧ ∀ p H', H p = none → Same H H' → Src H' p → Q (.ref p) H'
def spNext : Sp := fun vs H Q _ => ∃ (p : Addr) (m : Nat), vs = [.ref p, .int (m : Int)] ∧ Src H p ∧ 0 < m ∧ m ≤ 1000000 ∧ ∀ (v : Nat) H', v < m → Src H' p → Kept p H H' → Q (.int (v : Int)) H'
/-- one of some things: a list or a tuple that is not the source -/
def spOne (K : PySem.W.Frag) : Sp := fun vs H Q _ => ∃ (p a : Addr) (xs : List V), vs = [.ref p, .ref a] ∧ Src H p ∧ SqL K H a xs ∧ a ≠ p ∧ xs ≠ [] ∧ xs.length ≤ 1000 ∧ ∀ (v : V) H', v ∈ xs → Src H' p → Kept p H H' → Q v H'
section
variable {P : Program} {w : World} {K : PySem.W.Frag} {mg : Str → Option Value} {base : Heap}
theorem cell_at {ns : List Int} {k : Nat} (h : k < ns.length) : ∃ v : Int, atI (ns.map V.int) (k : Int) = some (.int v) :=
  ⟨ns[k], atI_nat (by rw [List.getElem?_map, List.getElem?_eq_getElem h]; rfl)⟩
theorem ok_cellAt {f : Addr} {fd : FuncData} (F : Fun K "_law_cell_at" "_law_cell_at" sCellAt f fd) (T : TA mg) : FnOk P w K mg base CX0 1 f fd ["_law_script", "_law_k"] (spCellAt K) := by
  refine F.ok scCellAt (fun vs H Q E h => ?_) (fun cdv A outer s H vs Q E hr h => ?_)
  · obtain ⟨a, ns, k, rfl, _⟩ := h
    rfl
  obtain ⟨a, ns, k, rfl, hS, q⟩ := h
  refine ⟨_, (pss_cons (ps_if (pt_cmpR op_lt (pv 1) (pe_callB call_len_seq (by rfl) T.z_len PySem.boot_len (pa_cons (pv 0) pa_nil)) (nomark _)) (pss_one (ps_ret (pe_ix ix_list (pv 0) (pv 1) (fun _ _ => rfl)))) pss_nil) (pss_one (ps_ret pe_int))), ?_⟩
  refine ⟨_, rfl, _, rfl, a, _, rfl, .inl hS, _, _, rfl, rfl, _, rfl, ?_⟩
  refine ite2 (fun c => ?_) (fun c => ?_)
  · have c' := of_decide_eq_true c
    rw [List.length_map] at c'
    obtain ⟨v, hv⟩ := cell_at (ns := ns) (k := k) (by omega)
    refine ⟨_, rfl, _, rfl, a, _, _, _, rfl, rfl, hS, hv, ?_⟩
    exact q v
  · exact q 0

theorem ok_mixed {f : Addr} {fd : FuncData} (F : Fun K "_law_mixed" "_law_mixed" sMixed f fd) (T : TA mg) : FnOk P w K mg base CX0 1 f fd ["_law_cell", "_law_k"] spMixed := by
  refine F.ok scMixed (fun vs H Q E h => ?_) (fun cdv A outer s H vs Q E hr h => ?_)
  · obtain ⟨c, k, rfl, _⟩ := h
    rfl
  obtain ⟨c, k, rfl, q⟩ := h
  refine ⟨_, (pss_cons (ps_set (i := 2) scMixed.nd rfl (Or.inl rfl) (pe_op op_add (pe_op op_modN (pe_callTy call_int1 (by rfl) T.z_int (by decide +kernel) (pa_cons (pv 0) pa_nil)) pe_int) (pe_op op_mul (pe_op op_fdivW (pv 0) pe_int) pe_int))) (pss_cons (ps_set (i := 2) scMixed.nd rfl (Or.inl rfl) (pe_op op_modN (pe_callTy call_int1 (by rfl) T.z_int (by decide +kernel) (pa_cons (pe_op op_mul (pe_op op_add (pe_op op_add (pv 2) (pe_op op_mul pe_int (pv 1))) pe_int) pe_int) pa_nil)) pe_int)) (pss_cons (ps_set (i := 2) scMixed.nd rfl (Or.inl rfl) (pe_op op_modN (pe_callTy call_int1 (by rfl) T.z_int (by decide +kernel) (pa_cons (pe_op op_mul (pv 2) (pe_op op_add (pe_op op_add (pe_op op_fdivN (pv 2) pe_int) pe_int) (pv 1))) pa_nil)) pe_int)) (pss_one (ps_ret (pe_op op_modN (pe_callTy call_int1 (by rfl) T.z_int (by decide +kernel) (pa_cons (pe_op op_mul (pv 2) (pe_op op_add (pe_op op_fdivN (pv 2) pe_int) pe_int)) pa_nil)) pe_int)))))), ?_⟩
  refine ⟨_, rfl, .inl ⟨_, rfl, _, _, rfl, rfl, by show (2147483629 : Int) ≠ 0; decide, _, rfl, _, _, rfl, rfl, ⟨by decide, by decide +kernel⟩, _, _, rfl, rfl, .inr ⟨by decide, by decide⟩, _, _, rfl, rfl, ?_⟩⟩
  refine ⟨_, rfl, _, rfl, _, _, rfl, rfl, .inl ⟨by decide, by decide⟩, _, _, rfl, rfl, _, _, rfl, rfl, _, _, rfl, rfl, .inr ⟨by decide, by decide⟩, .inl ⟨_, rfl, _, _, rfl, rfl, by show (2147483629 : Int) ≠ 0; decide, ?_⟩⟩
  refine ⟨_, rfl, _, rfl, _, _, rfl, rfl, ⟨by decide, by decide⟩, _, _, rfl, rfl, _, rfl, _, _, rfl, rfl, _, _, rfl, rfl, .inl (fm_in (by decide) (by decide)), .inl ⟨_, rfl, _, _, rfl, rfl, by show (2147483587 : Int) ≠ 0; decide, ?_⟩⟩
  refine ⟨_, rfl, _, rfl, _, _, rfl, rfl, ⟨by decide, by decide⟩, _, _, rfl, rfl, _, _, rfl, rfl, .inl (fm_in (by decide) (by decide)), .inl ⟨_, rfl, _, _, rfl, rfl, by show (2147483563 : Int) ≠ 0; decide, ?_⟩⟩
  exact q _ (fm0 (by decide))

theorem ok_next {f g : Addr} {fd gd : FuncData} (F : Fun K "_law_next" "_law_next" sNext f fd) (T : TA mg) (cM : Cal P w K mg base "_law_mixed" ["_law_cell", "_law_k"] 1 spMixed g gd) : FnOk P w K mg base CX0 2 f fd ["_law_source_here", "_law_many"] spNext := by
  refine F.ok scNext (fun vs H Q E h => ?_) (fun cdv A outer s H vs Q E hr h => ?_)
  · obtain ⟨p, m, rfl, _⟩ := h
    rfl
  obtain ⟨p, m, rfl, ⟨x, y, z, hp⟩, h0, h1, q⟩ := h
  refine ⟨_, (pss_cons (ps_if (pt_cmpR op_ge (pe_ix ix_list (pv 0) pe_int (fun _ _ => rfl)) (pe_op op_pow pe_int pe_int) (nomark _)) (pss_cons (ps_set (i := 2) scNext.nd rfl (Or.inl rfl) (pe_op op_modN (pe_callTy call_int1 (by rfl) T.z_int (by decide +kernel) (pa_cons (pe_ix ix_list (pv 0) pe_int (fun _ _ => rfl)) pa_nil)) (pv 1))) (pss_cons (ps_asg (pe_op op_fdivN (pe_ix ix_list (pv 0) pe_int (fun _ _ => rfl)) (pv 1)) (pg_sub (pv 0) pe_int set_list)) (pss_one (ps_ret (pv 2))))) pss_nil) (pss_cons (ps_asg (pe_op op_add (pe_ix ix_list (pv 0) pe_int (fun _ _ => rfl)) pe_int) (pg_sub (pv 0) pe_int set_list)) (pss_one (ps_ret (pe_op op_modN (pe_callTy call_int1 (by rfl) T.z_int (by decide +kernel) (pa_cons (pe_call cM.ok (hr.mono (by decide)) rfl cM.mg cM.kp cM.bd .nil pass0 (pa_cons (pe_ix ix_list (pv 0) pe_int (fun _ _ => rfl)) (pa_cons (pe_ix ix_list (pv 0) pe_int (fun _ _ => rfl)) pa_nil))) pa_nil)) (pv 1)))))), ?_⟩
  refine ⟨_, rfl, p, _, _, _, rfl, rfl, SqL.of hp, rfl, _, _, rfl, rfl, ⟨by decide, by decide, by decide⟩, _, _, rfl, rfl, _, rfl, ?_⟩
  refine ite2 (fun c => ?_) (fun c => ?_)
  · obtain ⟨v, ev, hv⟩ := fm_nat (x := x) (m := m) h0
    refine ⟨_, rfl, p, _, _, _, rfl, rfl, SqL.of hp, rfl, .inl ⟨_, rfl, _, rfl, _, _, rfl, rfl, by show (m : Int) ≠ 0; omega, ?_⟩⟩
    refine ⟨_, rfl, p, _, _, _, rfl, rfl, SqL.of hp, rfl, _, rfl, _, _, rfl, rfl, ⟨by show (m : Int) ≠ 0; omega, by omega⟩, _, rfl, p, _, _, _, rfl, rfl, hp, rfl, ?_⟩
    refine ⟨_, rfl, ?_⟩
    show Q (.int (x.fmod (m : Int))) _
    rw [ev]
    exact q v _ hv ⟨_, _, _, upd_same⟩ ((Kept.refl p H).upd _)
  · refine ⟨_, rfl, p, _, _, _, rfl, rfl, SqL.of hp, rfl, _, _, rfl, rfl, _, rfl, p, _, _, _, rfl, rfl, hp, rfl, ?_⟩
    refine ⟨_, rfl, p, _, _, _, rfl, rfl, SqL.of upd_same, rfl, _, rfl, p, _, _, _, rfl, rfl, SqL.of upd_same, rfl, _, _, rfl, fun u hu => .inl ⟨_, rfl, _, rfl, _, _, rfl, rfl, by show (m : Int) ≠ 0; omega, ?_⟩⟩
    obtain ⟨v, ev, hv⟩ := fm_nat (x := u) (m := m) h0
    show Q (.int (u.fmod (m : Int))) _
    rw [ev]
    exact q v _ hv ⟨_, _, _, upd_same⟩ ((Kept.refl p H).upd _)

theorem ok_source {f g e : Addr} {fd gd ed : FuncData} (F : Fun K "_law_source" "_law_source" sSource f fd) (T : TA mg) (cM : Cal P w K mg base "_law_mixed" ["_law_cell", "_law_k"] 1 spMixed g gd) (cC : Cal P w K mg base "_law_cell_at" ["_law_script", "_law_k"] 1 (spCellAt K) e ed) : FnOk P w K mg base CX0 2 f fd ["_law_script", "_law_k"] (spSource K) := by
  refine F.ok scSource (fun vs H Q E h => ?_) (fun cdv A outer s H vs Q E hr h => ?_)
  · obtain ⟨a, ns, k, rfl, _⟩ := h
    rfl
  obtain ⟨a, ns, k, rfl, hS, q⟩ := h
  refine ⟨_, (pss_cons (ps_if (pt_cmpR op_lt (pv 1) (pe_callB call_len_seq (by rfl) T.z_len PySem.boot_len (pa_cons (pv 0) pa_nil)) (nomark _)) (pss_one (ps_ret (pe_lst (pa_cons (pe_ix ix_list (pv 0) (pv 1) (fun _ _ => rfl)) (pa_cons (pe_ix ix_list (pv 0) (pv 1) (fun _ _ => rfl)) (pa_cons pe_int pa_nil)))))) pss_nil) (pss_cons (ps_set (i := 2) scSource.nd rfl (Or.inl rfl) (pe_call cM.ok (hr.mono (by decide)) rfl cM.mg cM.kp cM.bd .nil pass0 (pa_cons (pe_call cC.ok (hr.mono (by decide)) rfl cC.mg cC.kp cC.bd .nil pass0 (pa_cons (pv 0) (pa_cons pe_int pa_nil))) (pa_cons (pe_op op_add pe_int (pv 1)) pa_nil)))) (pss_one (ps_ret (pe_lst (pa_cons (pv 2) (pa_cons (pv 2) (pa_cons pe_int pa_nil)))))))), ?_⟩
  refine ⟨_, rfl, _, rfl, a, _, rfl, .inl hS, _, _, rfl, rfl, _, rfl, ?_⟩
  refine ite2 (fun c => ?_) (fun c => ?_)
  · have c' := of_decide_eq_true c
    rw [List.length_map] at c'
    obtain ⟨v, hv⟩ := cell_at (ns := ns) (k := k) (by omega)
    refine ⟨_, rfl, _, rfl, a, _, _, _, rfl, rfl, hS, hv, _, rfl, _, rfl, a, _, _, _, rfl, rfl, hS, hv, by show 3 ≤ sizeLine; decide, fun p hp => ?_⟩
    exact q p _ hp (Same.new (Same.refl H) hp _) ⟨_, _, _, upd_same⟩
  · refine ⟨_, rfl, a, ns, 0, rfl, hS, fun v => ?_⟩
    refine ⟨_, rfl, _, _, rfl, rfl, _, _, rfl, fun u hu => ?_⟩
    refine ⟨_, rfl, _, rfl, by show 3 ≤ sizeLine; decide, fun p hp => ?_⟩
    exact q p _ hp (Same.new (Same.refl H) hp _) ⟨_, _, _, upd_same⟩

theorem ok_one {f g : Addr} {fd gd : FuncData} (F : Fun K "_law_one" "_law_one" sOne f fd) (T : TA mg) (cN : Cal P w K mg base "_law_next" ["_law_source_here", "_law_many"] 2 spNext g gd) : FnOk P w K mg base CX0 3 f fd ["_law_source_here", "_law_things"] (spOne K) := by
  refine F.ok scOne (fun vs H Q E h => ?_) (fun cdv A outer s H vs Q E hr h => ?_)
  · obtain ⟨p, a, xs, rfl, _⟩ := h
    rfl
  obtain ⟨p, a, xs, rfl, hp, hS, hne, h0, h1, q⟩ := h
  refine ⟨_, (pss_one (ps_ret (pe_ix ix_list (pv 1) (pe_call cN.ok (hr.mono (by decide)) rfl cN.mg cN.kp cN.bd .nil pass0 (pa_cons (pv 0) (pa_cons (pe_callB call_len_seq (by rfl) T.z_len PySem.boot_len (pa_cons (pv 1) pa_nil)) pa_nil))) (fun _ _ => rfl)))), ?_⟩
  refine ⟨_, rfl, _, rfl, _, rfl, a, _, rfl, .inl hS, p, xs.length, rfl, hp, List.length_pos_iff.mpr h0, by omega, fun v H1 hv hp1 k1 => ?_⟩
  refine ⟨a, _, _, _, rfl, rfl, k1.seq hne hS, atI_nat (List.getElem?_eq_getElem hv), ?_⟩
  exact q _ H1 (List.getElem_mem hv) hp1 k1

end
end Bd
end

section
namespace Bd
open PySem L2 PySem.Spec PyProof.Rows
section
variable {prog : Program} {w : World} {K : Type} [DecidableEq K] {knd : KeyKind prog w K} {A : Around} {E : Value → Shared → Prop} {s : Shared}
theorem put_pairs {d : Addr} {kvs : List (K × Value)} {k : K} {key v : Value} {Q : Unit → Shared → Prop} (hkey : knd.is k key = true) (hm : s.heap.DictOf knd d kvs) (hsz : kvs.length ≤ sizeLine)
    (hQ : ∀ h', h'.DictOf knd d (stored kvs k v) → Heap.SameBut d s.heap h' → Q () { s with heap := h' }) :
    wpAny (model prog w) A (dictPut d (knd.hash k) key v) Q E s := by
  obtain ⟨o, es, ep, ho, hc, hd, hk, hp, hn⟩ := hm
  have hes : es.size ≤ sizeLine := by
    have e1 := hp.length
    have e2 : es.toList.length = es.size := by simp
    omega
  unfold dictPut
  refine wpAny_bind (wpAny_dictFind_of hkey ho hd hk ?_)
  have hidx : (es.findIdx? fun e => knd.is k e.key) = kvs.findIdx? fun kv => decide (kv.1 = k) := by
    rw [← hp.findIdx k]; obtain ⟨l⟩ := es
    simp
  cases hi : es.findIdx? fun e => knd.is k e.key with
  | some i =>
    have ha := any_of_findIdx_some (hidx ▸ hi)
    refine wpAny_updateDict ho hd ?_
    refine hQ _ ⟨_, _, ep, Heap.get?_update_self _ ho (Obj.isFreed_of_dict (Obj.data_mapDict hd _)), hc.mapDict _, Obj.data_mapDict hd _, hk.modify _ _, ?_, ?_⟩ (Heap.SameBut.update ..)
    · rw [stored, if_pos ha]
      have hl : (es.toList.findIdx? fun e => knd.is k e.key) = some i := by
        rw [← hi]; obtain ⟨l⟩ := es
        simp
      have := hp.modify hn hl v
      obtain ⟨l⟩ := es
      simpa using this
    · rw [stored, if_pos ha, keys_map_store]; exact hn
  | none =>
    have hnot : k ∉ kvs.map (·.1) := not_mem_of_findIdx_none (hidx ▸ hi)
    have hany : ¬ (kvs.any fun kv => decide (kv.1 = k)) = true := by
      rw [List.any_eq_true]
      rintro ⟨kv, hkv, he⟩
      exact hnot (List.mem_map.mpr ⟨kv, hkv, of_decide_eq_true he⟩)
    refine wpAny_updateDictKeys (hz := hes) ho hd ?_
    refine hQ _ ⟨_, _, ep + 1, Heap.get?_update_self _ ho (Obj.isFreed_of_dict (Obj.data_mapDictKeys hd _)), hc.mapDictKeys _, Obj.data_mapDictKeys hd _, hk.push hkey _, ?_, ?_⟩ (Heap.SameBut.update ..)
    · rw [stored, if_neg hany]
      have := hp.append hkey (knd.hash k) v
      obtain ⟨l⟩ := es
      simpa using this
    · rw [stored, if_neg hany, List.map_append, List.nodup_append]
      refine ⟨hn, by simp, ?_⟩
      intro a ha b hb
      simp only [List.map_cons, List.map_nil, List.mem_singleton] at hb
      subst hb
      exact fun e => hnot (e ▸ ha)
theorem merge_dict {d o : Addr} {kvs more : List (K × Value)} {Q : Unit → Shared → Prop} (hdo : d ≠ o) (hoS : (o == sysModules) = false)
    (hd : s.heap.DictOf knd d kvs) (ho : s.heap.DictOf knd o more) (hstr : ∀ e : DictEntry, (∃ k, knd.is k e.key = true) → ∀ a, e.key ≠ .ref a)
    (hsz : kvs.length + more.length ≤ sizeLine)
    (hQ : ∀ h', h'.DictOf knd d (merged kvs more) → Heap.SameBut d s.heap h' → Q () { s with heap := h' }) :
    wpAny (model prog w) A (mergeMapping d (.ref o) false) Q E s := by
  obtain ⟨od, esd, epd, hod, hcd, hdd, hkd, hpd, hnd⟩ := id hd
  obtain ⟨oo, eso, epo, hoo, hco, hdo', hko, hpo, hno⟩ := id ho
  have hlen : more.length = eso.size := by rw [← hpo.length]; simp
  unfold mergeMapping
  refine wpAny_bind (wpAny_isInstance ho.typeIs isSubtype_dict_dict ?_)
  rw [if_pos rfl]
  refine wpAny_bind (wpAny_specialOf ho.typeIs PySem.F.slot_dict_iter.lookup (wpAny_bind (wpAny_pure ?_)))
  simp only [beq_self_eq_true]
  rw [if_neg (by rw [hoS]; exact Bool.false_ne_true)]
  have loop : wpAny (model prog w) A (do
      let __do_lift ← dictEntries o
      have size : Nat := __do_lift.size
      let epoch ← dictEpoch o
      forIn (List.range size) PUnit.unit fun i __s => do
        let __do_lift ← dictEntries o
        match __do_lift[i]? with
          | some e => do
            holding [e.key, e.val]
              (have __do_jp := fun (_ : Unit) => dictPut d e.hash e.key e.val;
              if false = true then do
                let __do_lift ← dictFind d e.key e.hash
                if __do_lift.isSome = true then do
                  rule "dict.merge.duplicate-key"
                  let __do_lift ← newExc (Value.type "KeyError") [e.key]
                  let __r ← raiseNew __do_lift
                  __do_jp __r
                else __do_jp ()
              else __do_jp ())
            let __do_lift ← dictEpoch o
            if (__do_lift != epoch) = true then do
              (unsupported "dict.changed-during-merge" : Sem PUnit)
              pure (ForInStep.yield PUnit.unit)
            else pure (ForInStep.yield PUnit.unit)
          | x => do
            (unsupported "dict.changed-during-merge" : Sem PUnit)
            pure (ForInStep.yield PUnit.unit)
      pure ()) Q E s := by
    refine wpAny_bind (wpAny_dictEntries hoo hdo' ?_)
    refine wpAny_bind (wpAny_dictEpoch hoo hdo' ?_)
    refine wpAny_bind ?_
    have er : List.range eso.size = List.range' 0 eso.size := List.range_eq_range'
    rw [er]
    refine wpAny_forIn_list _
      (fun rest _ s' => ∃ g i, s' = { s with heap := g } ∧ rest = List.range' i (eso.size - i) ∧ i ≤ eso.size ∧ g.DictOf knd d (merged kvs (more.take i)) ∧ g.get? o = some oo ∧ Heap.SameBut d s.heap g)
      _ ?_ ?_ _ _ ⟨s.heap, 0, rfl, by simp, Nat.zero_le _, by simpa [merged] using hd, hoo, Heap.SameBut.refl _ _⟩
    · rintro x rest b s' ⟨g, i, rfl, hr, hi, gd, goo, gs⟩
      have hlt : i < eso.size := by
        rcases Nat.lt_or_ge i eso.size with z | z
        · exact z
        · rw [Nat.sub_eq_zero_of_le z] at hr
          simp at hr
      obtain ⟨rfl, hrest⟩ : x = i ∧ rest = List.range' (i + 1) (eso.size - (i + 1)) := by
        have z : eso.size - i = (eso.size - (i + 1)) + 1 := by omega
        rw [z, List.range'_succ] at hr
        injection hr with z1 z2
        exact ⟨z1, z2⟩
      refine wpAny_bind (wpAny_dictEntries goo hdo' ?_)
      rw [Array.getElem?_eq_getElem hlt]
      obtain ⟨kv, hkv⟩ : ∃ kv, more[x]? = some kv := ⟨more[x]'(by omega), List.getElem?_eq_getElem _⟩
      obtain ⟨k, v⟩ := kv
      obtain ⟨hkey, hval⟩ := hpo.get? (e := eso[x]) (by simp [hlt]) hkv
      obtain ⟨k1, hkey1, hhash⟩ := hko eso[x] (Array.getElem_mem hlt)
      obtain rfl : k1 = k := knd.inj _ _ _ hkey1 hkey
      show wpAny _ _ (holding [eso[x].key, eso[x].val] (dictPut d eso[x].hash eso[x].key eso[x].val) >>= _) _ _ _
      rw [hhash, hval]
      have hmx : (merged kvs (more.take x)).length ≤ sizeLine := by
        have z1 := merged_length_le kvs (more.take x)
        have z2 : (more.take x).length ≤ more.length := by
          rw [List.length_take]; omega
        omega
      refine wpAny_bind (wpAny_holding (put_pairs hkey gd hmx fun g2 gd2 gs2 => ?_))
      have goo2 : g2.get? o = some oo := (gs2.2 o (Ne.symm hdo)).trans goo
      refine wpAny_bind (wpAny_dictEpoch goo2 hdo' ?_)
      rw [if_neg (by simp)]
      exact wpAny_pure ⟨g2, x + 1, rfl, hrest, hlt, by rw [merged_take_succ kvs more x (k1, v) hkv]; exact gd2, goo2, gs.trans gs2⟩
    · rintro b s' ⟨g, i, rfl, hr, hi, gd, goo, gs⟩
      have hin : i = eso.size := by
        rcases Nat.lt_or_ge i eso.size with z | z
        · have z1 : eso.size - i = (eso.size - (i + 1)) + 1 := by omega
          rw [z1, List.range'_succ] at hr
          exact nomatch hr
        · exact Nat.le_antisymm hi z
      refine wpAny_pure (hQ g ?_ gs)
      rw [hin, ← hlen, List.take_length] at gd
      exact gd
  refine wpAny_bind (wpAny_dictEntries hod hdd ?_)
  split
  · refine wpAny_bind (wpAny_dictEntries hoo hdo' ?_)
    refine wpAny_bind ?_
    refine wpAny_forIn_array' _ (fun rest _ s' => s' = s ∧ ∀ e ∈ rest, e ∈ eso) _ ?_ ?_ _ _ ⟨rfl, fun e he => Array.mem_toList_iff.mp he⟩
    · rintro x rest b s' ⟨rfl, hm⟩
      obtain ⟨k1, hkey1, _⟩ := hko x (hm x List.mem_cons_self)
      have hx := hstr x ⟨k1, hkey1⟩
      have hrest : ∀ e ∈ rest, e ∈ eso := fun e he => hm e (List.mem_cons_of_mem _ he)
      split
      · rename_i a ea
        exact absurd ea (hx a)
      · exact wpAny_pure ⟨rfl, hrest⟩
    · rintro b s' ⟨rfl, _⟩
      exact loop
  · exact loop
def MergeAt (knd : KeyKind prog w K) (p : Addr) (Z : Shared → Prop) : Value → Shared → Prop := fun u s1 => ∃ (o : Addr) (acc more : List (K × Value)), u = .ref o ∧ p ≠ o ∧ (o == sysModules) = false ∧
  s1.heap.DictOf knd p acc ∧ s1.heap.DictOf knd o more ∧ acc.length + more.length ≤ sizeLine ∧ ∀ g, g.DictOf knd p (merged acc more) → Heap.SameBut p s1.heap g → Z { s1 with heap := g }
theorem display_two {v1 v2 : Sem Value} {Q : Value → Shared → Prop} (hstr : ∀ e : DictEntry, (∃ k, knd.is k e.key = true) → ∀ a, e.key ≠ .ref a)
    (h : wpAny (model prog w) A v1 (MergeAt knd s.heap.objs.size fun s1 => wpAny (model prog w) A v2 (MergeAt knd s.heap.objs.size fun s2 => Q (.ref s.heap.objs.size) s2) E s1) E { s with heap := s.heap.push { cls := .type "dict", data := .dict #[] } }) :
    wpAny (model prog w) A (dictDisplay [(none, v1), (none, v2)]) Q E s := by
  unfold dictDisplay
  simp only [List.forIn_cons, List.forIn_nil, List.isEmpty_nil, if_true, pure_bind, bind_assoc]
  refine wpAny_bind (wpAny_alloc ?_)
  refine wpAny_bind (wpAny_holding (wpAny_mono h (fun u s1 h1 => ?_) fun _ _ e => e))
  obtain ⟨o, acc, more, rfl, ne, lo, da, db, hz, q⟩ := h1
  refine wpAny_bind (wpAny_onRaise (wpAny_tryCatch (wpAny_onRaise (wpAny_holding (merge_dict ne lo da db hstr hz fun g dg sg => ?_)))))
  refine wpAny_bind (wpAny_holding (wpAny_mono (q g dg sg) (fun u2 s2 h2 => ?_) fun _ _ e => e))
  obtain ⟨o2, acc2, more2, rfl, ne2, lo2, da2, db2, hz2, q2⟩ := h2
  refine wpAny_bind (wpAny_onRaise (wpAny_tryCatch (wpAny_onRaise (wpAny_holding (merge_dict ne2 lo2 da2 db2 hstr hz2 fun g2 dg2 sg2 => ?_)))))
  exact wpAny_pure (q2 g2 dg2 sg2)
end
/-- {**a, **b}, both dicts with keys ints and texts, each evaluated while the new dict holds what is ahead -/
def tBoth (ta tb : TE) : TE := fun σ H Q => ∀ p, H p = none → ta σ (upd H p (.dK [])) fun x H1 => ∃ a ka, x = .ref a ∧ H1 p = some (.dK []) ∧ H1 a = some (.dK ka) ∧ p ≠ a ∧
  tb σ (upd H1 p (.dK (mergeK [] ka))) fun y H2 => ∃ b kb, y = .ref b ∧ H2 p = some (.dK (mergeK [] ka)) ∧ H2 b = some (.dK kb) ∧ p ≠ b ∧ ka.length + kb.length ≤ 1000 ∧ Q (.ref p) (upd H2 p (.dK (mergeK (mergeK [] ka) kb)))
theorem mix_noref {P : Program} {w : World} (e : DictEntry) (h : ∃ k, (mixKind P w).is k e.key = true) (a : Addr) : e.key ≠ .ref a := by
  obtain ⟨k, hk⟩ := h
  intro z
  rcases keyIs_shape (show keyIs k e.key = true from hk) with ⟨i, t, _, e1⟩ | ⟨i, t, _, e1⟩
  · rw [z] at e1; cases e1
  · rw [z] at e1; cases e1
theorem pe_both {X : Cx} {pos : Pos} {e1 e2 : Expr} {ta tb : TE} (ha : PE X e1 ta) (hb : PE X e2 tb) : PE X (.Dict [none, none] [e1, e2] pos) (tBoth ta tb) := by
  refine ⟨fun pins s σ H Q I q => ?_⟩
  have hn := I.hok.fresh (Nat.le_refl s.heap.objs.size)
  rw [arm_eval_Dict]
  refine wpAny_bind (wpAny_standAt ?_)
  show wpAny _ _ (dictDisplay [(none, do let x ← eval e1 X.env; standAt pos; pure x), (none, do let x ← eval e2 X.env; standAt pos; pure x)]) _ _ _
  refine display_two (knd := mixKind X.prog X.w) (fun e h => mix_noref e h) ?_
  have I1 := I.laid (a := s.heap.objs.size) (o := .dK []) (h' := s.heap.push { cls := .type "dict", data := .dict #[] }) (t' := s.toks) (fun _ _ q => Heap.get?_push_of_some _ q) (Nat.le_refl _) (dk_empty s.heap I.big)
  refine wpAny_bind (thn (ha.run pins _ σ _ _ I1 (q _ hn)) fun u s1 ⟨x, H1, I2, rx, a, ka, ex, hp, hka, ne, q1⟩ => ?_)
  subst ex
  obtain rfl : u = Value.ref a := rx
  refine wpAny_bind (wpAny_standAt (wpAny_pure ?_))
  obtain ⟨z1, lo1, vs1, r1, d1⟩ := dk_of I2.hok hka
  obtain ⟨z0, lo0, vs0, r0, d0⟩ := dk_of I2.hok hp
  cases r0
  have hz1 : (mergeK [] ka).length ≤ sizeLine := by
    have := length_mergeK ka []
    rw [List.length_nil] at this
    omega
  refine ⟨a, [], vs1, rfl, ne, lo1, d0, d1, by rw [List.length_nil, Nat.zero_add, ← r1.length]; exact z1, fun g dg sg => ?_⟩
  have he : ∃ q, g.get? s.heap.objs.size = some q := let ⟨q, _, _, hq, _⟩ := dg; ⟨q, hq⟩
  have I3 := d_write (t' := s1.toks) I2 (by rw [hp]; exact True.intro) sg he (dk_new (H' := upd H1 s.heap.objs.size (.dK (mergeK [] ka))) hz1 lo0 (r1.merge .nil) dg)
  refine wpAny_bind (thn (hb.run pins _ σ _ _ I3 q1) fun u2 s2 ⟨y, H2, I4, ry, b, kb, ey, hp2, hkb, ne2, hsz, q2⟩ => ?_)
  subst ey
  obtain rfl : u2 = Value.ref b := ry
  refine wpAny_bind (wpAny_standAt (wpAny_pure ?_))
  obtain ⟨z2, lo2, vs2, r2, d2⟩ := dk_of I4.hok hkb
  obtain ⟨z3, lo3, vs3, r3, d3⟩ := dk_of I4.hok hp2
  have hm : (mergeK [] ka).length ≤ ka.length := by
    have := length_mergeK ka []
    rw [List.length_nil] at this
    omega
  have hz2 : (mergeK (mergeK [] ka) kb).length ≤ sizeLine := by
    have := length_mergeK kb (mergeK [] ka)
    exact small (by omega)
  refine ⟨b, vs3, vs2, rfl, ne2, lo2, d3, d2, small (by rw [← r3.length, ← r2.length]; omega), fun g2 dg2 sg2 => ?_⟩
  have he2 : ∃ q, g2.get? s.heap.objs.size = some q := let ⟨q, _, _, hq, _⟩ := dg2; ⟨q, hq⟩
  exact ⟨.ref s.heap.objs.size, _, d_write (t' := s2.toks) I4 (by rw [hp2]; exact True.intro) sg2 he2 (dk_new (H' := upd H2 s.heap.objs.size (.dK (mergeK (mergeK [] ka) kb))) hz2 lo0 (r2.merge r3) dg2), rfl, q2⟩

/-- a tuple whose object is known to have no dict of its own -/
def FrT (H : Hp) (a : Addr) (xs : List V) : Prop := ∃ o : Obj, o.dict = none ∧ H a = some (.frz o (.tup xs))
theorem FrT.seq {K : PySem.W.Frag} {H : Hp} {a : Addr} {xs : List V} (h : FrT H a xs) : SqT K H a xs := by
  obtain ⟨o, _, e⟩ := h
  exact .inl (.inr ⟨o, e⟩)
section
variable {X : Cx}
theorem call_tupleF : CallR X (.type "tuple") (fun xs H Q => ∃ p ys, xs = [.ref p] ∧ SqL X.K H p ys ∧ ∀ l o, H l = none → o.dict = none → Q (.ref l) (upd H l (.frz o (.tup ys)))) := by
  intro pins s σ H xs us Q I r h
  obtain ⟨p, ys, rfl, hq, q⟩ := h
  obtain ⟨u, rfl, rx⟩ := vals1 r
  cases rx
  obtain ⟨its, r', pl, hz⟩ := I.list hq
  have hlen := r'.length
  refine call_tuple_list pl.isList (fun g kp => ?_) (by simp only [List.size_toArray] <;> omega)
  have I1 : Inv X pins σ H { s with heap := g } := I.kept (t' := s.toks) kp
  have I2 : Inv X pins σ (upd H g.objs.size (.frz { cls := .type "tuple", data := .seq its.toArray } (.tup ys))) { s with heap := g.push { cls := .type "tuple", data := .seq its.toArray } } :=
    I1.laid (t' := s.toks) (fun b o e => Heap.get?_push_of_some _ e) (Nat.le_refl _) (show ObjOk X.prog X.w _ _ _ (.frz _ (.tup ys)) from ⟨Heap.get?_push_size _ rfl, hz, its, r', IsTup.new _ _⟩)
  exact ⟨.ref g.objs.size, _, I2, rfl, q _ _ (I1.hok.fresh (Nat.le_refl _)) rfl⟩
theorem pairs_vv {pins : List (Addr × Obj)} {σ : L2.St} {H : Hp} {s : Shared} (I : Inv X pins σ H s) : ∀ {ps : List Addr} {kvs : List (Key × V)}, Paired (fun p kv => SqT X.K H p [kV kv.1, kv.2]) ps kvs →
    ∃ (pr : List (Value × Value)) (prs : List (Key × Value)), KV kvs prs ∧ pr.length = ps.length ∧ prs.length = ps.length ∧ ∀ (j : Nat) (k v : Value), pr[j]? = some (k, v) → ∃ (b : Addr) (key : Key), ps[j]? = some b ∧ IsTup s.heap b #[k, v] ∧ prs[j]? = some (key, v) ∧ keyIs key k = true
  | _, _, .nil => ⟨[], [], .nil, rfl, rfl, fun j k v e => by simp at e⟩
  | _, _, .cons (a := p) (b := kv) h t => by
    obtain ⟨pr, prs, r, hl, hl2, hp⟩ := pairs_vv I t
    obtain ⟨its, rv, ht, _⟩ := I.tuple h
    obtain ⟨u, y, rfl, ru, ry⟩ := vals2 rv
    refine ⟨(u, y) :: pr, (kv.1, y) :: prs, .cons ⟨rfl, ry⟩ r, by rw [List.length_cons, List.length_cons, hl], by rw [List.length_cons, List.length_cons, hl2], fun j k v e => ?_⟩
    cases j with
    | zero =>
      have z : (u, y) = (k, v) := Option.some.inj e
      cases z
      exact ⟨p, kv.1, rfl, ht, rfl, kV_is (P := X.prog) (w := X.w) ru⟩
    | succ j =>
      obtain ⟨b, key, z1, z2, z3, z4⟩ := hp j k v (by simpa using e)
      exact ⟨b, key, by simpa using z1, z2, by simpa using z3, z4⟩
theorem call_dictT (hcalm : X.calm = true) : CallR X (.type "dict") (fun xs H Q => ∃ (a : Addr) (ps : List Addr) (kvs : List (Key × V)), xs = [.ref a] ∧ FrT H a (ps.map V.ref) ∧ Paired (fun p kv => SqT X.K H p [kV kv.1, kv.2]) ps kvs ∧
    ∀ p, H p = none → Q (.ref p) (upd H p (.dK (mergeK [] kvs)))) := by
  intro pins s σ H xs us Q I r q
  obtain ⟨a, ps, kvs, rfl, ⟨o, ho, hq⟩, hp, q⟩ := q
  obtain ⟨u, rfl, rx⟩ := vals1 r
  cases rx
  obtain ⟨og, hz, its, rv, ot, hot, hc, n, hd⟩ := I.hok a _ hq
  rw [og] at hot
  cases hot
  have ei := refs_at rv
  subst ei
  obtain ⟨pr, prs, rel, hl, hl2, hpr⟩ := pairs_vv I hp
  rw [List.length_map] at hz
  have hitem : PairItems s.heap (ps.map Value.ref).toArray (fun j => ps.getD j 0) pr := by
    refine ⟨by simp [hl], fun j k v e => ?_⟩
    obtain ⟨b, key, z1, z2, z3, z4⟩ := hpr j k v e
    have zb : ps.getD j 0 = b := by
      rw [List.getD_eq_getElem?_getD, z1]
      rfl
    refine ⟨?_, .inl ?_⟩
    · show (List.map Value.ref ps).toArray[j]? = some (Value.ref (ps.getD j 0))
      rw [zb]
      simp [z1]
    · show s.heap.IsTuple (ps.getD j 0) #[k, v]
      rw [zb]
      obtain ⟨ob, y1, y2, y3, y4⟩ := z2
      exact ⟨ob, y1, y2, y3, y4⟩
  refine PySem.call_dict_pairs (knd := mixKind X.prog X.w) (kvs := prs) (PairArg.tuple a (ps.map Value.ref).toArray (fun j => ps.getD j 0) pr) (I.ok.hd hcalm) ⟨⟨o, n, og, hc, ho, hd⟩, hitem⟩ ⟨by rw [hl2, hl], fun i key v e => ?_⟩ (by rw [hl]; exact hz) fun h' tk hd' k => ?_
  · obtain ⟨b, k2, z1, z2, z3, z4⟩ := hpr i key v e
    exact ⟨k2, z3, z4⟩
  · have hm : (s.heap.objs.size == sysModules) = false := beq_eq_false_iff_ne.mpr (Nat.ne_of_gt I.big)
    have hlen : (mergeK [] kvs).length ≤ sizeLine := by
      refine Nat.le_trans (length_mergeK kvs []) ?_
      rw [List.length_nil, Nat.zero_add, rel.length, hl2]
      exact hz
    exact ⟨.ref s.heap.objs.size, upd H s.heap.objs.size (.dK (mergeK [] kvs)), I.laid (t' := tk) (fun b u z => k b u (fun y => nomatch y) z) (Nat.le_refl _) (show ObjOk X.prog X.w _ _ _ (.dK (mergeK [] kvs)) from ⟨hlen, hm, merged [] prs, KV.merge rel .nil, hd'⟩), rfl, q _ (I.hok.fresh (Nat.le_refl _))⟩
/-- a dict of the module's top, as it stands in the written part -/
structure KTab (P : Program) (w : World) (K : PySem.W.Frag) (a : Addr) (kvs : List (Key × V)) : Prop where
  lo : (a == sysModules) = false
  dd : ∃ vs, KV kvs vs ∧ ∀ h : Heap, K.In h → h.DictOf (mixKind P w) a vs
  sz : kvs.length ≤ 1000
theorem call_dictK : CallR X (.type "dict") (fun xs H Q => ∃ (a : Addr) (kvs : List (Key × V)), xs = [.ref a] ∧ KTab X.prog X.w X.K a kvs ∧ ∀ p, H p = none → Q (.ref p) (upd H p (.dK kvs))) := by
  intro pins s σ H xs us Q I r q
  obtain ⟨a, kvs, rfl, ⟨lo, ⟨vs, rel, dd⟩, z⟩, q⟩ := q
  obtain ⟨u, rfl, rx⟩ := vals1 r
  cases rx
  refine kt_call_dict lo (dd _ I.kIn) (by rw [← rel.length]; exact small z) fun h' d' hs => ?_
  have hm : (s.heap.objs.size == sysModules) = false := beq_eq_false_iff_ne.mpr (Nat.ne_of_gt I.big)
  exact ⟨.ref s.heap.objs.size, upd H s.heap.objs.size (.dK kvs), I.laid (t' := s.toks) (fun b u e => (hs.2 b (Nat.ne_of_lt (Heap.lt_size e))).trans (Heap.get?_push_of_some _ e)) (Nat.le_refl _)
    (show ObjOk X.prog X.w _ _ _ (.dK kvs) from ⟨small z, hm, vs, rel, d'⟩), rfl, q _ (I.hok.fresh (Nat.le_refl _))⟩
theorem op_inT : OpR X (compareOp .In) (fun x y H Q => ∃ (a : Addr) (kvs : List (Key × V)) (k : Key), x = kV k ∧ y = .ref a ∧ KTab X.prog X.w X.K a kvs ∧ Q (.bl (valV kvs k).isSome) H) := by
  intro pins s σ H x y v u Q I rx ry h
  obtain ⟨a, kvs, k, rfl, rfl, ⟨lo, ⟨vs, rel, dd⟩, z⟩, q⟩ := h
  cases ry
  refine wpAny_in_of (kV_is (P := X.prog) (w := X.w) rx) lo (dd _ I.kIn).mapOf ?_
  rw [← (rel.val k).isSome_eq]
  exact ⟨.bl (valV kvs k).isSome, H, I.tok _, rfl, q⟩
end
end Bd
end

section
namespace Bd
open PySem L2
abbrev sIsInteger : Stmt := (top 5)
theorem scIsInteger : FnScope ["thing"] ["thing"] (defScope sIsInteger) := ⟨rfl, rfl, rfl, by decide +kernel, rfl, by decide +kernel, by decide +kernel⟩
abbrev sIsAmount : Stmt := (top 6)
theorem scIsAmount : FnScope ["thing", "top", "bottom"] ["thing"] (defScope sIsAmount) := ⟨rfl, rfl, rfl, by decide +kernel, rfl, by decide +kernel, by decide +kernel⟩
abbrev sDivisor : Stmt := (top 7)
theorem scDivisor : FnScope ["one", "other"] ["one", "other"] (defScope sDivisor) := ⟨rfl, rfl, rfl, by decide +kernel, rfl, by decide +kernel, by decide +kernel⟩
abbrev sIsEndless : Stmt := (top 35)
theorem scIsEndless : FnScope ["thing"] ["thing"] (defScope sIsEndless) := ⟨rfl, rfl, rfl, by decide +kernel, rfl, by decide +kernel, by decide +kernel⟩
abbrev sIsWord : Stmt := (top 34)
theorem scIsWord : FnScope ["thing"] ["thing"] (defScope sIsWord) := ⟨rfl, rfl, rfl, by decide +kernel, rfl, by decide +kernel, by decide +kernel⟩
abbrev sIsSet : Stmt := (top 36)
theorem scIsSet : FnScope ["thing", "ahead", "number"] ["thing"] (defScope sIsSet) := ⟨rfl, rfl, rfl, by decide +kernel, rfl, by decide +kernel, by decide +kernel⟩
abbrev sMayHave : Stmt := (top 37)
theorem scMayHave : FnScope ["word", "value"] ["word", "value"] (defScope sMayHave) := ⟨rfl, rfl, rfl, by decide +kernel, rfl, by decide +kernel, by decide +kernel⟩

def leftW : List Str := ["min", "low", "max", "quota", "burst", "tops", "sets", "alone"]
structure TP (P : Program) (w : World) (K : PySem.W.Frag) (mg : Str → Option Value) (aL : Addr) (left : List (Key × V)) : Prop where
  z_len : mg "len" = none
  z_int : mg "int" = none
  z_bool : mg "bool" = none
  z_str : mg "str" = none
  z_tuple : mg "tuple" = none
  z_list : mg "list" = none
  z_dict : mg "dict" = none
  z_all : mg "all" = none
  z_enumerate : mg "enumerate" = none
  z_isinstance : mg "isinstance" = none
  g_LONG : ∃ t, mg "LONG" = some (.int 3000 t)
  g_ENDLESS : ∃ t, mg "ENDLESS" = some (.str "endless" t)
  g_GREATEST_PROCESSOR : ∃ t, mg "GREATEST_PROCESSOR" = some (.int 63 t)
  g_LEFT_OUT : mg "LEFT_OUT" = some (.ref aL)
  tab : KTab P w K aL left
  keys : left.map (·.1) = leftW.map Sum.inr
def spIsInteger : Sp := fun vs H Q _ => ∃ i : Int, vs = [.int i] ∧ Q (.bl true) H
def spDivisor : Sp := fun vs H Q _ => ∃ a b : Nat, vs = [.int (a : Int), .int (b : Int)] ∧ a < 2 ^ 3000 ∧ b < 2 ^ 3000 ∧ Q (.int (Nat.gcd a b : Nat)) H
def spIsAmount (K : PySem.W.Frag) : Sp := fun vs H Q _ => ∃ (v : V) (n d : Nat), vs = [v] ∧ Dp K H v (.tuple [.int n, .int d]) ∧ n < 2 ^ 3000 ∧ 0 < d ∧ d < 2 ^ 3000 ∧ Nat.gcd n d = 1 ∧ Q (.bl true) H
def spIsEndless (K : PySem.W.Frag) : Sp := fun vs H Q _ => ∃ v : V, vs = [v] ∧ ((v = .str "endless" ∧ Q (.bl true) H) ∨ ∃ a xs, v = .ref a ∧ SqT K H a xs ∧ Q (.bl false) H)
def spIsWord : Sp := fun vs H Q _ => ∃ x : Str, vs = [.str x] ∧ x ∈ leftW ∧ Q (.bl true) H
/-- rising numbers above p, up to 63 -/
def RiseOk : Int → List Int → Prop
  | _, [] => True
  | p, x :: r => p < x ∧ x ≤ 63 ∧ RiseOk x r
def spIsSet (K : PySem.W.Frag) : Sp := fun vs H Q _ => ∃ (v : V) (xs : List Int), vs = [v] ∧ Dp K H v (.tuple (xs.map .int)) ∧ RiseOk (-1) xs ∧ xs.length ≤ 64 ∧ Q (.bl true) H
inductive ValOk : Str → PyData → Prop
  | amt {x : Str} {n d : Nat} : x ∈ (["min", "low", "burst", "max", "quota", "tops"] : List Str) → n < 2 ^ 3000 → 0 < d → d < 2 ^ 3000 → Nat.gcd n d = 1 → ValOk x (.tuple [.int n, .int d])
  | endl {x : Str} : x ∈ (["max", "quota", "tops"] : List Str) → ValOk x (.str "endless")
  | none : ValOk "sets" .none
  | set {xs : List Int} : RiseOk (-1) xs → xs.length ≤ 64 → ValOk "sets" (.tuple (xs.map .int))
  | alone {i : Int} : i = 0 ∨ i = 1 → ValOk "alone" (.int i)
def spMayHave (K : PySem.W.Frag) : Sp := fun vs H Q _ => ∃ (x : Str) (v : V) (d : PyData), vs = [.str x, v] ∧ Dp K H v d ∧ ValOk x d ∧ ∀ H', Same H H' → Q (.bl true) H'
section
variable {P : Program} {w : World} {K : PySem.W.Frag} {mg : Str → Option Value} {base : Heap} {aL : Addr} {left : List (Key × V)}
theorem ok_isInteger {f : Addr} {fd : FuncData} (F : Fun K "is_integer" "is_integer" sIsInteger f fd) (T : TP P w K mg aL left) : FnOk P w K mg base CX0 1 f fd ["thing"] spIsInteger := by
  refine F.ok scIsInteger (fun vs H Q E h => ?_) (fun cdv A outer s H vs Q E hr h => ?_)
  · obtain ⟨i, rfl, _⟩ := h
    rfl
  obtain ⟨i, rfl, q⟩ := h
  refine ⟨_, (pss_one (ps_ret (pe_and (pe_callB call_isi (by rfl) T.z_isinstance (by decide +kernel) (pa_cons (pv 0) (pa_cons (pe_bltn (v := .ty "int") (u := .type "int") (by rfl) T.z_int (by decide +kernel) rfl) pa_nil))) (pe_one (pe_not (pe_callB call_isi (by rfl) T.z_isinstance (by decide +kernel) (pa_cons (pv 0) (pa_cons (pe_bltn (v := .ty "bool") (u := .type "bool") (by rfl) T.z_bool (by decide +kernel) rfl) pa_nil)))))))), ?_⟩
  refine ⟨_, rfl, _, _, _, _, true, rfl, .ty _, .base (.int i), kit_ty (by decide +kernel), true, rfl, ?_⟩
  refine ⟨_, rfl, _, _, _, _, false, rfl, .ty _, .base (.int i), kit_ty (by decide +kernel), false, rfl, ?_⟩
  exact q

theorem bits_le {a : Nat} (h : a < 2 ^ 3000) : ((Builtin.Int.intBits (a : Int) : Nat) : Int) ≤ 3000 := by
  unfold Builtin.Int.intBits
  split
  · decide
  · have := PySem.Flt.log2_lt_of (by decide : 0 < 3000) h
    show (((a : Int).natAbs.log2 + 1 : Nat) : Int) ≤ 3000
    rw [Int.natAbs_natCast]
    omega
def mu2 : St → Hp → Nat := fun σ _ => match σ[1]? with
  | some (some (V.int b)) => b.toNat
  | _ => 0
theorem ok_divisor {f : Addr} {fd : FuncData} (F : Fun K "divisor" "divisor" sDivisor f fd) (T : TP P w K mg aL left) : FnOk P w K mg base CX0 1 f fd ["one", "other"] spDivisor := by
  refine F.ok scDivisor (fun vs H Q E h => ?_) (fun cdv A outer s H vs Q E hr h => ?_)
  · obtain ⟨a, b, rfl, _⟩ := h
    rfl
  obtain ⟨a, b, rfl, ha, hb, q⟩ := h
  obtain ⟨tl, hL⟩ := T.g_LONG
  have rest : ∀ x y : Nat, x < 2 ^ 3000 → y < 2 ^ 3000 → Nat.gcd x y = Nat.gcd a b → ∀ D : Ends, D.rt (.int (Nat.gcd a b : Nat)) H →
      tSeq (tWhile (tTest (tOp (rI0 fun i j => V.bl (decide (j < i))) (tBits (tVar 1)) (tC (V.int 3000)))) tNever)
        (tSeq (tWhile (fun σ H Q => tVar 1 σ H fun x H1 => ∃ k, TruV K x H1 k ∧ Q k H1) (tPar 0 1 (tCons (tVar 1) (tCons (tOp (rI (fun _ j => j ≠ 0) fun i j => V.int (i.fmod j)) (tVar 0) (tVar 1)) tNil)))) (tRet (tVar 0)))
        D [some (.int (x : Int)), some (.int (y : Int))] H := by
    intro x y hx hy e D q
    refine while_by (fun σ H' => H' = H ∧ σ = [some (.int (x : Int)), some (.int (y : Int))]) mu2 ⟨rfl, rfl⟩ ?_ ?_
    · rintro σ H' ⟨rfl, rfl⟩
      refine ⟨_, rfl, _, rfl, _, _, rfl, rfl, _, rfl, ?_⟩
      have hd : decide (3000 < ((Builtin.Int.intBits (y : Int) : Nat) : Int)) = false := decide_eq_false (by have := bits_le hy; omega)
      rw [hd]
      refine iteF ?_
      dsimp only
      unfold tSeq
      refine while_by (fun σ H2 => H2 = H' ∧ ∃ x y : Nat, σ = [some (.int (x : Int)), some (.int (y : Int))] ∧ Nat.gcd x y = Nat.gcd a b) mu2 ⟨rfl, x, y, rfl, e⟩ ?_ ?_
      · rintro σ H2 ⟨rfl, x, y, rfl, e⟩
        refine ⟨_, rfl, _, rfl, ?_⟩
        by_cases y0 : y = 0
        · subst y0
          refine iteF ?_
          refine ⟨_, rfl, ?_⟩
          rw [Nat.gcd_zero_right] at e
          rw [e]
          exact q
        · have hk : (((y : Nat) : Int) != 0) = true := by
            rw [bne_iff_ne]
            omega
          rw [hk]
          refine iteT ?_
          refine ⟨_, rfl, _, rfl, _, rfl, _, _, rfl, rfl, by show (y : Int) ≠ 0; omega, _, _, rfl, ?_⟩
          have em : (x : Int).fmod (y : Int) = ((x % y : Nat) : Int) := by
            rw [Int.fmod_eq_emod_of_nonneg _ (by omega)]
            exact (Int.natCast_emod x y).symm
          refine ⟨⟨rfl, y, x % y, ?_, ?_⟩, ?_⟩
          · show [some (V.int (y : Int)), some (V.int ((x : Int).fmod (y : Int)))] = _
            rw [em]
          · rw [← e, Nat.gcd_comm x y, Nat.gcd_rec y x, Nat.gcd_comm]
          · show ((x : Int).fmod (y : Int)).toNat < (y : Int).toNat
            rw [em]
            have := Nat.mod_lt x (show 0 < y by omega)
            omega
      · rintro σ H2 Q1 Q2 f ⟨v, h1, k, h2, q⟩
        exact ⟨v, h1, k, h2, f _ _ q⟩
    · rintro σ H' Q1 Q2 f h
      obtain ⟨v, h1, i, h2, i2, j2, h3, h4, k, h5, q⟩ := h
      exact ⟨v, h1, i, h2, i2, j2, h3, h4, k, h5, f _ _ q⟩
  refine ⟨_, (pss_cons (ps_if (pt_cmpR op_lt (pv 0) (pv 1) (nomark _)) (pss_one (ps_par (i := 0) (j := 1) (by rfl) scDivisor.nd rfl rfl (by decide) rfl rfl (pa_cons (pv 1) (pa_cons (pv 0) pa_nil)) (by rfl))) pss_nil) (pss_cons (ps_while PassesOwn.never (pt_cmpR op_gt (pe_bits (pv 1)) (pe_glob (v := .int 3000) rfl hL ⟨_, rfl⟩) (nomark _)) (pss_one ps_never)) (pss_cons (ps_while PassesOwn.never (pt_truth (pv 1) (by intro _; rfl)) (pss_one (ps_par (i := 0) (j := 1) (by rfl) scDivisor.nd rfl rfl (by decide) rfl rfl (pa_cons (pv 1) (pa_cons (pe_op op_modN (pv 0) (pv 1)) pa_nil)) (by rfl)))) (pss_one (ps_ret (pv 0)))))), ?_⟩
  refine ⟨_, rfl, _, rfl, _, _, rfl, rfl, _, rfl, ?_⟩
  refine ite2 (fun c => ?_) (fun c => ?_)
  · refine ⟨_, rfl, _, rfl, _, _, rfl, ?_⟩
    exact rest b a hb ha (Nat.gcd_comm _ _) _ q
  · exact rest a b ha hb rfl _ q

theorem bl_t {p : Prop} [Decidable p] (h : p) : V.bl (decide p) = V.bl true := congrArg V.bl (decide_eq_true h)
theorem dp_tup {H : Hp} {v : V} {ds : List PyData} (h : Dp K H v (.tuple ds)) : ∃ a xs, v = .ref a ∧ SqT K H a xs ∧ DpAll K H xs ds := by
  cases h with
  | tup h1 h2 => exact ⟨_, _, rfl, h1, h2⟩
theorem dpall_nil {H : Hp} {xs : List V} (h : DpAll K H xs []) : xs = [] := by
  cases h
  rfl
theorem dpall_cons {H : Hp} {xs : List V} {d : PyData} {ds : List PyData} (h : DpAll K H xs (d :: ds)) : ∃ v vs, xs = v :: vs ∧ Dp K H v d ∧ DpAll K H vs ds := by
  cases h with
  | cons h1 h2 => exact ⟨_, _, rfl, h1, h2⟩
theorem dp_int {H : Hp} {v : V} {i : Int} (h : Dp K H v (.int i)) : v = .int i := by
  cases h
  rfl
theorem dp_str {H : Hp} {v : V} {x : Str} (h : Dp K H v (.str x)) : v = .str x := by
  cases h
  rfl
theorem dp_none {H : Hp} {v : V} (h : Dp K H v .none) : v = .non := by
  cases h
  rfl
theorem dp_two {H : Hp} {v : V} {i j : Int} (h : Dp K H v (.tuple [.int i, .int j])) : ∃ a, v = .ref a ∧ SqT K H a [.int i, .int j] := by
  obtain ⟨a, xs, rfl, h1, h2⟩ := dp_tup h
  obtain ⟨x, xs, rfl, e1, h2⟩ := dpall_cons h2
  obtain ⟨y, xs, rfl, e2, h2⟩ := dpall_cons h2
  cases dpall_nil h2
  cases dp_int e1
  cases dp_int e2
  exact ⟨a, rfl, h1⟩
theorem sqt_ty {H : Hp} {a : Addr} {xs : List V} (h : SqT K H a xs) : TyX K H (.ref a) (.type "tuple") := by
  rcases h with (h | ⟨o, h⟩) | ⟨o, its, n, h, c, _⟩
  · exact .base (.tup h)
  · exact .fTuple h
  · exact .kTuple h c
theorem ok_isAmount {f g e : Addr} {fd gd ed : FuncData} (F : Fun K "is_amount" "is_amount" sIsAmount f fd) (T : TP P w K mg aL left) (cI : Cal P w K mg base "is_integer" ["thing"] 1 spIsInteger g gd) (cD : Cal P w K mg base "divisor" ["one", "other"] 1 spDivisor e ed) : FnOk P w K mg base CX0 2 f fd ["thing"] (spIsAmount K) := by
  refine F.ok scIsAmount (fun vs H Q E h => ?_) (fun cdv A outer s H vs Q E hr h => ?_)
  · obtain ⟨i, n, d, rfl, _⟩ := h
    rfl
  obtain ⟨v, n, d, rfl, hv, h1, h2, h3, h4, q⟩ := h
  obtain ⟨a, rfl, ha⟩ := dp_two hv
  refine ⟨_, (pss_cons (ps_if (PW.pt (pw_or (pt_not (pt_val (pe_callB call_isi (by rfl) T.z_isinstance (by decide +kernel) (pa_cons (pv 0) (pa_cons (pe_bltn (v := .ty "tuple") (u := .type "tuple") (by rfl) T.z_tuple (by decide +kernel) rfl) pa_nil))))) (pw_or1 (pt_cmpR op_ne (pe_callB call_len_seq (by rfl) T.z_len PySem.boot_len (pa_cons (pv 0) pa_nil)) pe_int (nomark _))))) (pss_one (ps_ret pe_bl)) pss_nil) (pss_cons (ps_asg (pv 0) (pg_tup (by rfl) (pgs_cons (pg_name (i := 1) scIsAmount.nd rfl (Or.inl rfl)) (pgs_cons (pg_name (i := 2) scIsAmount.nd rfl (Or.inl rfl)) pgs_nil)))) (pss_cons (ps_if (PW.pt (pw_or (pt_not (pt_val (pe_call cI.ok (hr.mono (by decide)) rfl cI.mg cI.kp cI.bd .nil pass0 (pa_cons (pv 1) pa_nil)))) (pw_or1 (pt_not (pt_val (pe_call cI.ok (hr.mono (by decide)) rfl cI.mg cI.kp cI.bd .nil pass0 (pa_cons (pv 2) pa_nil))))))) (pss_one (ps_ret pe_bl)) pss_nil) (pss_one (ps_ret (pe_and (pe_cmpR op_ge (pv 1) pe_int (nomark _)) (pe_and (pe_cmpR op_ge (pv 2) pe_int (nomark _)) (pe_one (pe_cmpR op_eq (pe_call cD.ok (hr.mono (by decide)) rfl cD.mg cD.kp cD.bd .nil pass0 (pa_cons (pv 1) (pa_cons (pv 2) pa_nil))) pe_int (nomark _)))))))))), ?_⟩
  refine ⟨_, rfl, _, _, _, _, true, rfl, .ty _, sqt_ty ha, kit_ty (by decide +kernel), true, rfl, ?_⟩
  refine iteF ?_
  refine ⟨_, rfl, a, _, rfl, .inr ha, rfl, _, rfl, ?_⟩
  refine iteNS rfl ?_
  refine ⟨_, rfl, a, _, rfl, ha, rfl, ?_⟩
  refine ⟨_, _, rfl, _, _, rfl, rfl, ?_⟩
  refine ⟨_, rfl, _, rfl, true, rfl, ?_⟩
  refine iteF ?_
  refine ⟨_, rfl, _, rfl, true, rfl, ?_⟩
  refine iteF ?_
  refine ⟨_, rfl, _, _, rfl, rfl, true, bl_t (by omega), ?_⟩
  refine ⟨_, rfl, _, _, rfl, rfl, true, bl_t (by omega), ?_⟩
  refine ⟨_, rfl, _, rfl, n, d, rfl, h1, h3, ?_⟩
  rw [h4]
  exact ⟨rfl, q⟩

theorem Same.seqT {H H' : Hp} {a : Addr} {xs : List V} (e : Same H H') (h : SqT K H a xs) : SqT K H' a xs := by
  rcases h with (h | ⟨o, h⟩) | h
  · exact .inl (.inl (e _ _ h))
  · exact .inl (.inr ⟨o, e _ _ h⟩)
  · exact .inr h
mutual
theorem dp_same {H H' : Hp} (e : Same H H') : ∀ (d : PyData) (v : V), Dp K H v d → Dp K H' v d
  | .none, _, h => by
    cases h
    exact .non
  | .bool b, _, h => by
    cases h
    exact .bl b
  | .int i, _, h => by
    cases h
    exact .int i
  | .str x, _, h => by
    cases h
    exact .str x
  | .list ds, _, h => by
    cases h with
    | lst h1 h2 => exact .lst (e.seq h1) (dp_sameAll e ds _ h2)
  | .tuple ds, _, h => by
    cases h with
    | tup h1 h2 => exact .tup (Same.seqT e h1) (dp_sameAll e ds _ h2)
  | .dict _, _, h => nomatch h
theorem dp_sameAll {H H' : Hp} (e : Same H H') : ∀ (ds : List PyData) (vs : List V), DpAll K H vs ds → DpAll K H' vs ds
  | [], _, h => by
    cases h
    exact .nil
  | d :: ds, _, h => by
    cases h with
    | cons h1 h2 => exact .cons (dp_same e d _ h1) (dp_sameAll e ds _ h2)
end
theorem ok_isEndless {f : Addr} {fd : FuncData} (F : Fun K "is_endless" "is_endless" sIsEndless f fd) (T : TP P w K mg aL left) : FnOk P w K mg base CX0 1 f fd ["thing"] (spIsEndless K) := by
  refine F.ok scIsEndless (fun vs H Q E h => ?_) (fun cdv A outer s H vs Q E hr h => ?_)
  · obtain ⟨v, rfl, _⟩ := h
    rfl
  obtain ⟨v, rfl, h⟩ := h
  obtain ⟨tl, hL⟩ := T.g_ENDLESS
  refine ⟨_, (pss_one (ps_ret (pe_and (pe_callB call_isi (by rfl) T.z_isinstance (by decide +kernel) (pa_cons (pv 0) (pa_cons (pe_bltn (v := .ty "str") (u := .type "str") (by rfl) T.z_str (by decide +kernel) rfl) pa_nil))) (pe_one (pe_cmpR op_eq (pv 0) (pe_glob (v := .str "endless") rfl hL ⟨_, rfl⟩) (nomark _)))))), ?_⟩
  rcases h with ⟨rfl, q⟩ | ⟨a, xs, rfl, ha, q⟩
  · refine ⟨_, rfl, _, _, _, _, true, rfl, .ty _, .base (.str _), kit_ty (by decide +kernel), true, rfl, ?_⟩
    refine ⟨_, rfl, rfl, ?_⟩
    show Q (.bl (decide (V.str "endless" = V.str "endless"))) H
    rw [decide_eq_true rfl]
    exact q
  · refine ⟨_, rfl, _, _, _, _, false, rfl, .ty _, sqt_ty ha, kit_ty (by decide +kernel), false, rfl, ?_⟩
    exact q

theorem val_some {kvs : List (Key × V)} {k : Key} (h : k ∈ kvs.map (·.1)) : (valV kvs k).isSome = true := by
  obtain ⟨p, hp, e⟩ := List.mem_map.mp h
  rw [← valV_any]
  exact List.any_eq_true.mpr ⟨p, hp, decide_eq_true e⟩
theorem ok_isWord {f : Addr} {fd : FuncData} (F : Fun K "is_word" "is_word" sIsWord f fd) (T : TP P w K mg aL left) : FnOk P w K mg base CX0 1 f fd ["thing"] spIsWord := by
  refine F.ok scIsWord (fun vs H Q E h => ?_) (fun cdv A outer s H vs Q E hr h => ?_)
  · obtain ⟨v, rfl, _⟩ := h
    rfl
  obtain ⟨x, rfl, hx, q⟩ := h
  refine ⟨_, (pss_one (ps_ret (pe_and (pe_callB call_isi (by rfl) T.z_isinstance (by decide +kernel) (pa_cons (pv 0) (pa_cons (pe_bltn (v := .ty "str") (u := .type "str") (by rfl) T.z_str (by decide +kernel) rfl) pa_nil))) (pe_one (pe_cmpR op_inT (pv 0) (pe_glob (v := .ref aL) rfl T.g_LEFT_OUT rfl) (by first | exact nomark _ | rfl)))))), ?_⟩
  refine ⟨_, rfl, _, _, _, _, true, rfl, .ty _, .base (.str _), kit_ty (by decide +kernel), true, rfl, ?_⟩
  refine ⟨_, rfl, aL, left, Sum.inr x, rfl, rfl, T.tab, ?_⟩
  rw [val_some (k := (Sum.inr x : Key)) (by rw [T.keys]; exact List.mem_map.mpr ⟨x, hx, rfl⟩)]
  exact q

theorem map_int_get {xs : List Int} {i : Nat} {x : V} (h : (xs.map V.int)[i]? = some x) : ∃ z, x = .int z ∧ xs[i]? = some z := by
  rw [List.getElem?_map] at h
  cases e : xs[i]? with
  | none =>
    rw [e] at h
    cases h
  | some z =>
    rw [e] at h
    exact ⟨z, (Option.some.inj h).symm, rfl⟩
theorem dp_ints {H : Hp} : ∀ {vs : List V} {xs : List Int}, DpAll K H vs (xs.map .int) → vs = xs.map V.int
  | vs, [], h => dpall_nil h
  | vs, x :: xs, h => by
    obtain ⟨v, r, rfl, h1, h2⟩ := dpall_cons h
    rw [dp_int h1, dp_ints h2]
    rfl
theorem drop_at {α : Type} {xs : List α} {i : Nat} {z : α} (h : xs[i]? = some z) : xs.drop i = z :: xs.drop (i + 1) := by
  obtain ⟨hi, e⟩ := List.getElem?_eq_some_iff.mp h
  rw [List.drop_eq_getElem_cons hi, e]
theorem ok_isSet {f g : Addr} {fd gd : FuncData} (F : Fun K "is_set" "is_set" sIsSet f fd) (T : TP P w K mg aL left) (cI : Cal P w K mg base "is_integer" ["thing"] 1 spIsInteger g gd) : FnOk P w K mg base CX0 2 f fd ["thing"] (spIsSet K) := by
  refine F.ok scIsSet (fun vs H Q E h => ?_) (fun cdv A outer s H vs Q E hr h => ?_)
  · obtain ⟨v, xs, rfl, _⟩ := h
    rfl
  obtain ⟨v, xs, rfl, hv, hrise, hlen, q⟩ := h
  obtain ⟨a, ys, rfl, ha, hys⟩ := dp_tup hv
  cases dp_ints hys
  obtain ⟨tl, hL⟩ := T.g_GREATEST_PROCESSOR
  refine ⟨_, (pss_cons (ps_if (pt_not (pt_val (pe_callB call_isi (by rfl) T.z_isinstance (by decide +kernel) (pa_cons (pv 0) (pa_cons (pe_bltn (v := .ty "tuple") (u := .type "tuple") (by rfl) T.z_tuple (by decide +kernel) rfl) pa_nil))))) (pss_one (ps_ret pe_bl)) pss_nil) (pss_cons (ps_set (i := 1) scIsSet.nd rfl (Or.inl rfl) (pe_un un_neg pe_int)) (pss_cons (ps_for PassesOwn.never rfl (pi_tup (pv 0)) (pg_name (i := 2) scIsSet.nd rfl (Or.inl rfl)) (pss_cons (ps_if (PW.pt (pw_or (pt_not (pt_val (pe_call cI.ok (hr.mono (by decide)) rfl cI.mg cI.kp cI.bd .nil pass0 (pa_cons (pv 2) pa_nil)))) (pw_or1 (pt_not (pt_chain op_lt op_le (pv 1) (pv 2) (pe_glob (v := .int 63) rfl hL ⟨_, rfl⟩)))))) (pss_one (ps_ret pe_bl)) pss_nil) (pss_one (ps_set (i := 1) scIsSet.nd rfl (Or.inl rfl) (pv 2))))) (pss_one (ps_ret pe_bl))))), ?_⟩
  refine ⟨_, rfl, _, _, _, _, true, rfl, .ty _, sqt_ty ha, kit_ty (by decide +kernel), true, rfl, ?_⟩
  refine iteF ?_
  refine ⟨_, rfl, ?_⟩
  refine ⟨_, rfl, a, rfl, ⟨_, ha⟩, for_tup (xs := xs.map V.int) (fun i σ H' => H' = H ∧ ∃ (p : Int) (o : Option V), σ = [some (.ref a), some (.int p), o] ∧ RiseOk p (xs.drop i)) ⟨rfl, -1, none, rfl, hrise⟩ ?_ ?_ ?_⟩
  · rintro i σ H' _ ⟨rfl, _⟩
    exact ha
  · rintro i x σ H' hi ⟨rfl, p, o, rfl, hp⟩
    obtain ⟨z, rfl, hz⟩ := map_int_get hi
    rw [drop_at hz] at hp
    obtain ⟨h1, h2, h3⟩ := hp
    refine ⟨_, rfl, z, rfl, true, rfl, ?_⟩
    refine iteF ?_
    refine ⟨_, rfl, _, rfl, _, _, rfl, rfl, true, bl_t h1, ?_⟩
    refine iteT ?_
    refine ⟨_, _, rfl, rfl, true, bl_t h2, ?_⟩
    refine iteF ?_
    refine ⟨_, rfl, ?_⟩
    exact ⟨rfl, z, _, rfl, h3⟩
  · rintro σ H' ⟨rfl, _⟩
    exact q

theorem ifF {b : Bool} {A B : Prop} (h : b = false) (k : B) : if b = true then A else B := by
  rw [h]
  exact iteF k
theorem ifT {b : Bool} {A B : Prop} (h : b = true) (k : A) : if b = true then A else B := by
  rw [h]
  exact iteT k
theorem in_yes {x : V} {xs : List V} (h : inV x xs = true) : (if (false : Bool) = true then !inV x xs else inV x xs) = true := by
  rw [if_neg (by decide)]
  exact h
theorem ok_mayHave {f g e c d : Addr} {fd gd ed cd dd : FuncData} (F : Fun K "may_have" "may_have" sMayHave f fd) (T : TP P w K mg aL left) (cA : Cal P w K mg base "is_amount" ["thing"] 2 (spIsAmount K) g gd) (cI : Cal P w K mg base "is_integer" ["thing"] 1 spIsInteger e ed)
    (cS : Cal P w K mg base "is_set" ["thing"] 2 (spIsSet K) c cd) (cE : Cal P w K mg base "is_endless" ["thing"] 1 (spIsEndless K) d dd) : FnOk P w K mg base CX0 3 f fd ["word", "value"] (spMayHave K) := by
  refine F.ok scMayHave (fun vs H Q E h => ?_) (fun cdv A outer s H vs Q E hr h => ?_)
  · obtain ⟨x, v, d, rfl, _⟩ := h
    rfl
  obtain ⟨x, v, d, rfl, hv, hok, q⟩ := h
  refine ⟨_, (pss_cons (ps_if (pt_cmpR op_in_seq (pv 0) (pe_tup (pa_cons pe_str (pa_cons pe_str (pa_cons pe_str pa_nil)))) (by first | exact nomark _ | rfl)) (pss_one (ps_ret (pe_call cA.ok (hr.mono (by decide)) rfl cA.mg cA.kp cA.bd .nil pass0 (pa_cons (pv 1) pa_nil)))) pss_nil) (pss_cons (ps_if (pt_cmpR op_eq (pv 0) pe_str (nomark _)) (pss_one (ps_ret (pe_or (pe_cmpR op_isN (pv 1) pe_non (nomark _)) (pe_one (pe_call cS.ok (hr.mono (by decide)) rfl cS.mg cS.kp cS.bd .nil pass0 (pa_cons (pv 1) pa_nil)))))) pss_nil) (pss_cons (ps_if (pt_cmpR op_eq (pv 0) pe_str (nomark _)) (pss_one (ps_ret (pe_and (pe_call cI.ok (hr.mono (by decide)) rfl cI.mg cI.kp cI.bd .nil pass0 (pa_cons (pv 1) pa_nil)) (pe_one (pe_cmpR op_in_seq (pv 1) (pe_tup (pa_cons pe_int (pa_cons pe_int pa_nil))) (by first | exact nomark _ | rfl)))))) pss_nil) (pss_one (ps_ret (pe_or (pe_call cE.ok (hr.mono (by decide)) rfl cE.mg cE.kp cE.bd .nil pass0 (pa_cons (pv 1) pa_nil)) (pe_one (pe_call cA.ok (hr.mono (by decide)) rfl cA.mg cA.kp cA.bd .nil pass0 (pa_cons (pv 1) pa_nil))))))))), ?_⟩
  refine ⟨_, rfl, by show 3 ≤ sizeLine; decide, fun p hp => ⟨p, _, rfl, .inr (SqT.of upd_same), rfl, rfl, ?_⟩⟩
  have s1 := Same.new (Same.refl H) hp (.tup [.str "min", .str "low", .str "burst"])
  have hv1 := dp_same s1 d v hv
  cases hok with
  | @amt _ n m hw h1 h2 h3 h4 =>
    obtain ⟨a, rfl, ha⟩ := dp_two hv1
    simp only [List.mem_cons, List.not_mem_nil, or_false] at hw
    rcases hw with rfl | rfl | rfl | rfl | rfl | rfl
    iterate 3
      · refine ⟨true, congrArg V.bl (by decide +kernel), iteT ?_⟩
        exact ⟨_, rfl, _, n, m, rfl, hv1, h1, h2, h3, h4, q _ s1⟩
    iterate 3
      · refine ⟨false, congrArg V.bl (by decide +kernel), iteF ?_⟩
        refine ⟨_, rfl, rfl, _, rfl, ifF (by decide +kernel) ?_⟩
        refine ⟨_, rfl, rfl, _, rfl, ifF (by decide +kernel) ?_⟩
        refine ⟨_, rfl, _, rfl, .inr ⟨a, _, rfl, ha, ?_⟩⟩
        refine ⟨false, rfl, ?_⟩
        refine iteF ?_
        exact ⟨_, rfl, _, n, m, rfl, hv1, h1, h2, h3, h4, q _ s1⟩
  | endl hw =>
    cases dp_str hv
    simp only [List.mem_cons, List.not_mem_nil, or_false] at hw
    rcases hw with rfl | rfl | rfl
    all_goals
      refine ⟨false, congrArg V.bl (by decide +kernel), iteF ?_⟩
      refine ⟨_, rfl, rfl, _, rfl, ifF (by decide +kernel) ?_⟩
      refine ⟨_, rfl, rfl, _, rfl, ifF (by decide +kernel) ?_⟩
      refine ⟨_, rfl, _, rfl, .inl ⟨rfl, ?_⟩⟩
      refine ⟨true, rfl, ?_⟩
      refine iteT ?_
      exact q _ s1
  | none =>
    cases dp_none hv
    refine ⟨false, congrArg V.bl (by decide +kernel), iteF ?_⟩
    refine ⟨_, rfl, rfl, _, rfl, ifT (by decide +kernel) ?_⟩
    refine ⟨_, rfl, rfl, true, rfl, iteT ?_⟩
    exact q _ s1
  | @set xs hx hl =>
    obtain ⟨a, ys, rfl, ha, hys⟩ := dp_tup hv1
    refine ⟨false, congrArg V.bl (by decide +kernel), iteF ?_⟩
    refine ⟨_, rfl, rfl, _, rfl, ifT (by decide +kernel) ?_⟩
    refine ⟨_, rfl, rfl, false, rfl, iteF ?_⟩
    exact ⟨_, rfl, _, xs, rfl, hv1, hx, hl, q _ s1⟩
  | @alone i hi =>
    cases dp_int hv
    refine ⟨false, congrArg V.bl (by decide +kernel), iteF ?_⟩
    refine ⟨_, rfl, rfl, _, rfl, ifF (by decide +kernel) ?_⟩
    refine ⟨_, rfl, rfl, _, rfl, ifT (by decide +kernel) ?_⟩
    refine ⟨_, rfl, i, rfl, true, rfl, iteT ?_⟩
    refine ⟨_, rfl, by show 2 ≤ sizeLine; decide, fun p2 hp2 => ⟨p2, _, rfl, .inr (SqT.of upd_same), rfl, rfl, ?_⟩⟩
    have e : inV (.int i) [.int 0, .int 1] = true := by
      rcases hi with rfl | rfl <;> decide +kernel
    show Q (.bl (inV (.int i) [.int 0, .int 1])) _
    rw [e]
    exact q _ (Same.new s1 hp2 _)

end
end Bd
end

section
namespace Bd
open PySem L2
abbrev sIsName : Stmt := (top 33)
theorem scIsName : FnScope ["thing", "letter"] ["thing"] (defScope sIsName) := ⟨rfl, rfl, rfl, by decide +kernel, rfl, by decide +kernel, by decide +kernel⟩
abbrev sIsDue : Stmt := (top 38)
theorem scIsDue : FnScope ["thing", "word", "value"] ["thing"] (defScope sIsDue) := ⟨rfl, rfl, rfl, by decide +kernel, rfl, by decide +kernel, by decide +kernel⟩
abbrev sIsDues : Stmt := (top 39)
theorem scIsDues : FnScope ["thing", "words", "due"] ["thing"] (defScope sIsDues) := ⟨rfl, rfl, rfl, by decide +kernel, rfl, by decide +kernel, by decide +kernel⟩
abbrev sIsGroupRow : Stmt := (top 40)
theorem scIsGroupRow : FnScope ["thing", "name", "above", "dues"] ["thing"] (defScope sIsGroupRow) := ⟨rfl, rfl, rfl, by decide +kernel, rfl, by decide +kernel, by decide +kernel⟩
abbrev sMayStand : Stmt := (top 42)
theorem scMayStand : FnScope ["tree", "row", "name", "above", "dues"] ["tree", "row"] (defScope sMayStand) := ⟨rfl, rfl, rfl, by decide +kernel, rfl, by decide +kernel, by decide +kernel⟩

def NameOk (x : Str) : Prop := 1 ≤ x.length ∧ x.length ≤ 10 ∧ ∀ c ∈ x.cps.toList, 97 ≤ c ∧ c ≤ 122
structure RowM where
  name : Str
  above : Str
  dues : List (Str × PyData)
/-- a pair of a word and a value at p -/
def DueAt (K : PySem.W.Frag) (H : Hp) (p : Addr) (du : Str × PyData) : Prop := ∃ u, SqT K H p [.str du.1, u] ∧ Dp K H u du.2
/-- dues at t -/
def DuesAt (K : PySem.W.Frag) (H : Hp) (t : Addr) (dues : List (Str × PyData)) : Prop := ∃ ps : List Addr, FrT H t (ps.map V.ref) ∧ Paired (DueAt K H) ps dues
def RowAt (K : PySem.W.Frag) (H : Hp) (v : V) (r : RowM) : Prop := ∃ a t, v = .ref a ∧ SqT K H a [.str r.name, .str r.above, .ref t] ∧ DuesAt K H t r.dues
def DuesOk (dues : List (Str × PyData)) : Prop := (dues.map (·.1)).Nodup ∧ ∀ du ∈ dues, du.1 ∈ leftW ∧ ValOk du.1 du.2
theorem paired_mono {α β : Type} {F G : α → β → Prop} (h : ∀ a b, F a b → G a b) : ∀ {xs : List α} {ys : List β}, Paired F xs ys → Paired G xs ys
  | _, _, .nil => .nil
  | _, _, .cons a b => .cons (h _ _ a) (paired_mono h b)
theorem paired_get {α β : Type} {F : α → β → Prop} : ∀ {xs : List α} {ys : List β}, Paired F xs ys → ∀ {i : Nat} {x : α}, xs[i]? = some x → ∃ y, ys[i]? = some y ∧ F x y
  | _, _, .nil, i, x, h => by simp at h
  | _, _, .cons a b, 0, x, h => by
    cases Option.some.inj h
    exact ⟨_, rfl, a⟩
  | _, _, .cons a b, i + 1, x, h => by
    obtain ⟨y, h1, h2⟩ := paired_get b (i := i) (x := x) (by simpa using h)
    exact ⟨y, by simpa using h1, h2⟩
theorem DueAt.same {K : PySem.W.Frag} {H H' : Hp} (e : Same H H') {p : Addr} {du : Str × PyData} (h : DueAt K H p du) : DueAt K H' p du := by
  obtain ⟨u, h1, h2⟩ := h
  exact ⟨u, Same.seqT e h1, dp_same e _ _ h2⟩
theorem FrT.same {H H' : Hp} (e : Same H H') {a : Addr} {xs : List V} (h : FrT H a xs) : FrT H' a xs := by
  obtain ⟨o, h1, h2⟩ := h
  exact ⟨o, h1, e _ _ h2⟩
theorem DuesAt.same {K : PySem.W.Frag} {H H' : Hp} (e : Same H H') {t : Addr} {dues : List (Str × PyData)} (h : DuesAt K H t dues) : DuesAt K H' t dues := by
  obtain ⟨ps, h1, h2⟩ := h
  exact ⟨ps, FrT.same e h1, paired_mono (fun _ _ z => DueAt.same e z) h2⟩
theorem RowAt.same {K : PySem.W.Frag} {H H' : Hp} (e : Same H H') {v : V} {r : RowM} (h : RowAt K H v r) : RowAt K H' v r := by
  obtain ⟨a, t, rfl, h1, h2⟩ := h
  exact ⟨a, t, rfl, Same.seqT e h1, DuesAt.same e h2⟩
def spIsName : Sp := fun vs H Q _ => ∃ x : Str, vs = [.str x] ∧ NameOk x ∧ ∀ H', Same H H' → Q (.bl true) H'
def spIsDue (K : PySem.W.Frag) : Sp := fun vs H Q _ => ∃ (p : Addr) (du : Str × PyData), vs = [.ref p] ∧ DueAt K H p du ∧ du.1 ∈ leftW ∧ ValOk du.1 du.2 ∧ ∀ H', Same H H' → Q (.bl true) H'
def spIsDues (K : PySem.W.Frag) : Sp := fun vs H Q _ => ∃ (t : Addr) (dues : List (Str × PyData)), vs = [.ref t] ∧ DuesAt K H t dues ∧ DuesOk dues ∧ ∀ H', Same H H' → Q (.bl true) H'
def spIsGroupRow (K : PySem.W.Frag) : Sp := fun vs H Q _ => ∃ (v : V) (r : RowM), vs = [v] ∧ RowAt K H v r ∧ NameOk r.name ∧ DuesOk r.dues ∧ ∀ H', Same H H' → Q (.bl true) H'
section
variable {P : Program} {w : World} {K : PySem.W.Frag} {mg : Str → Option Value} {base : Heap} {aL : Addr} {left : List (Key × V)}
theorem ok_isDue {f g e : Addr} {fd gd ed : FuncData} (F : Fun K "is_due" "is_due" sIsDue f fd) (T : TP P w K mg aL left) (cW : Cal P w K mg base "is_word" ["thing"] 1 spIsWord g gd) (cM : Cal P w K mg base "may_have" ["word", "value"] 3 (spMayHave K) e ed) :
    FnOk P w K mg base CX0 4 f fd ["thing"] (spIsDue K) := by
  refine F.ok scIsDue (fun vs H Q E h => ?_) (fun cdv A outer s H vs Q E hr h => ?_)
  · obtain ⟨p, du, rfl, _⟩ := h
    rfl
  obtain ⟨p, du, rfl, ⟨u, ha, hu⟩, hw, hv, q⟩ := h
  refine ⟨_, (pss_cons (ps_if (PW.pt (pw_or (pt_not (pt_val (pe_callB call_isi (by rfl) T.z_isinstance (by decide +kernel) (pa_cons (pv 0) (pa_cons (pe_bltn (v := .ty "tuple") (u := .type "tuple") (by rfl) T.z_tuple (by decide +kernel) rfl) pa_nil))))) (pw_or1 (pt_cmpR op_ne (pe_callB call_len_seq (by rfl) T.z_len PySem.boot_len (pa_cons (pv 0) pa_nil)) pe_int (nomark _))))) (pss_one (ps_ret pe_bl)) pss_nil) (pss_cons (ps_asg (pv 0) (pg_tup (by rfl) (pgs_cons (pg_name (i := 1) scIsDue.nd rfl (Or.inl rfl)) (pgs_cons (pg_name (i := 2) scIsDue.nd rfl (Or.inl rfl)) pgs_nil)))) (pss_one (ps_ret (pe_and (pe_call cW.ok (hr.mono (by decide)) rfl cW.mg cW.kp cW.bd .nil pass0 (pa_cons (pv 1) pa_nil)) (pe_one (pe_call cM.ok (hr.mono (by decide)) rfl cM.mg cM.kp cM.bd .nil pass0 (pa_cons (pv 1) (pa_cons (pv 2) pa_nil))))))))), ?_⟩
  refine ⟨_, rfl, _, _, _, _, true, rfl, .ty _, sqt_ty ha, kit_ty (by decide +kernel), true, rfl, ?_⟩
  refine iteF ?_
  refine ⟨_, rfl, p, _, rfl, .inr ha, rfl, _, rfl, ?_⟩
  refine iteNS rfl ?_
  refine ⟨_, rfl, p, _, rfl, ha, rfl, ?_⟩
  refine ⟨_, _, rfl, _, _, rfl, rfl, ?_⟩
  refine ⟨_, rfl, du.1, rfl, hw, true, rfl, iteT ?_⟩
  exact ⟨_, rfl, _, rfl, du.1, u, du.2, rfl, hu, hv, q⟩

theorem letter_ok : ∀ c < 123, 97 ≤ c → (!decide ((⟨#[c]⟩ : Str).cps.toList < ("a" : Str).cps.toList)) = true ∧ (!decide (("z" : Str).cps.toList < (⟨#[c]⟩ : Str).cps.toList)) = true := by decide +kernel
theorem ok_isName {f : Addr} {fd : FuncData} (F : Fun K "is_name" "is_name" sIsName f fd) (T : TP P w K mg aL left) : FnOk P w K mg base CX0 1 f fd ["thing"] spIsName := by
  refine F.ok scIsName (fun vs H Q E h => ?_) (fun cdv A outer s H vs Q E hr h => ?_)
  · obtain ⟨x, rfl, _⟩ := h
    rfl
  obtain ⟨x, rfl, ⟨h1, h2, h3⟩, q⟩ := h
  have hx : x.length ≤ sizeLine := small (by omega)
  refine ⟨_, (pss_cons (ps_if (PW.pt (pw_or (pt_not (pt_val (pe_callB call_isi (by rfl) T.z_isinstance (by decide +kernel) (pa_cons (pv 0) (pa_cons (pe_bltn (v := .ty "str") (u := .type "str") (by rfl) T.z_str (by decide +kernel) rfl) pa_nil))))) (pw_or1 (pt_not (pt_chain op_le op_le pe_int (pe_callB call_len_str (by rfl) T.z_len PySem.boot_len (pa_cons (pv 0) pa_nil)) pe_int))))) (pss_one (ps_ret pe_bl)) pss_nil) (pss_one (ps_ret (pe_callB (cr_all rfl) (by rfl) T.z_all (by decide +kernel) (pa_cons (pe_lc (own := [("letter", 1)]) (g := gName 1) (tt := tYes) rfl scIsName.nd (pi_str (pv 0)) (blkOk_by (own := [("letter", 1)]) (N := ["thing", "letter"]) (sc := defScope sIsName) (by decide +kernel)) (fun _ _ _ _ _ => (pg_name (i := 1) scIsName.nd rfl (Or.inl rfl))) (fun _ _ _ _ _ => pts_nil) (fun _ _ _ _ _ => (pe_chain op_le_str op_le_str pe_str (pv 1) pe_str))) pa_nil))))), ?_⟩
  refine ⟨_, rfl, _, _, _, _, true, rfl, .ty _, .base (.str _), kit_ty (by decide +kernel), true, rfl, ?_⟩
  refine iteF ?_
  refine ⟨_, rfl, x, rfl, hx, _, _, rfl, rfl, true, bl_t (by omega), ?_⟩
  refine iteT ?_
  refine ⟨_, _, rfl, rfl, true, bl_t (by omega), ?_⟩
  refine iteF ?_
  refine ⟨_, rfl, x, rfl, fun D hD => lc_it walk_str (fun i H' => H' = upd H D (.lst ((List.replicate i true).map V.bl))) rfl (fun _ _ _ _ => trivial) ?_ ?_⟩
  · rintro i v H1 H2 hi rfl ⟨rfl, c, hc, rfl⟩
    have hm : c ∈ x.cps.toList := by
      rw [← Array.getElem?_toList] at hc
      exact List.mem_of_getElem? hc
    obtain ⟨l1, l2⟩ := h3 c hm
    obtain ⟨e1, e2⟩ := letter_ok c (by omega) l1
    refine ⟨rfl, ?_⟩
    unfold tYes
    refine iteT ?_
    refine ⟨_, rfl, _, _, rfl, rfl, true, congrArg V.bl e1, ?_⟩
    refine iteT ?_
    refine ⟨_, _, rfl, rfl, ?_⟩
    rw [e2]
    refine ⟨_, upd_same, ?_, ?_⟩
    · rw [List.length_map, List.length_replicate]
      have : x.cps.size = x.length := rfl
      exact small1000 (by omega)
    · rw [upd_upd, List.replicate_succ', List.map_append]
      rfl
  · rintro H1 rfl
    refine ⟨D, List.replicate x.cps.size true, rfl, SqL.of upd_same, ?_⟩
    have e : (List.replicate x.cps.size true).all id = true := by simp
    rw [e]
    exact q _ (Same.new (Same.refl H) hD _)

theorem map_ref_get {ps : List Addr} {i : Nat} {x : V} (h : (ps.map V.ref)[i]? = some x) : ∃ p, x = .ref p ∧ ps[i]? = some p := by
  rw [List.getElem?_map] at h
  cases e : ps[i]? with
  | none =>
    rw [e] at h
    cases h
  | some z =>
    rw [e] at h
    exact ⟨z, (Option.some.inj h).symm, rfl⟩
theorem fresh_at {α β : Type} {f : α → β} : ∀ {xs : List α} {i : Nat} {x : α}, (xs.map f).Nodup → xs[i]? = some x → ∀ y ∈ xs.take i, f y ≠ f x
  | [], i, x, _, h => by simp at h
  | a :: r, 0, x, _, h => by
    intro y hy
    simp at hy
  | a :: r, i + 1, x, hn, h => by
    intro y hy
    have hn : (f a :: r.map f).Nodup := hn
    obtain ⟨h1, h2⟩ := List.nodup_cons.mp hn
    have h' : r[i]? = some x := by simpa using h
    rw [List.take_succ_cons] at hy
    rcases List.mem_cons.mp hy with rfl | hy
    · intro e
      exact h1 (by rw [e]; exact List.mem_map.mpr ⟨x, List.mem_of_getElem? h', rfl⟩)
    · exact fresh_at h2 h' y hy
theorem nodup_few {α : Type} [DecidableEq α] : ∀ {xs ys : List α}, xs.Nodup → (∀ x ∈ xs, x ∈ ys) → xs.length ≤ ys.length
  | [], ys, _, _ => Nat.zero_le _
  | x :: xs, ys, hn, h => by
    obtain ⟨h1, h2⟩ := List.nodup_cons.mp hn
    have hx := h x List.mem_cons_self
    have := nodup_few (xs := xs) (ys := ys.erase x) h2 (fun z hz => by
      have hzx : z ≠ x := fun e => h1 (e ▸ hz)
      exact (List.mem_erase_of_ne hzx).mpr (h z (List.mem_cons_of_mem _ hz)))
    rw [List.length_erase_of_mem hx] at this
    have hp : 0 < ys.length := List.length_pos_of_mem hx
    rw [List.length_cons]
    omega
theorem words_few {dues : List (Str × PyData)} (hn : (dues.map (·.1)).Nodup) (h : ∀ du ∈ dues, du.1 ∈ leftW) : dues.length ≤ 8 := by
  have := nodup_few (ys := leftW) hn (fun x hx => by
    obtain ⟨du, hdu, rfl⟩ := List.mem_map.mp hx
    exact h du hdu)
  rw [List.length_map] at this
  exact this
theorem ok_isDues {f g : Addr} {fd gd : FuncData} (F : Fun K "is_dues" "is_dues" sIsDues f fd) (T : TP P w K mg aL left) (cD : Cal P w K mg base "is_due" ["thing"] 4 (spIsDue K) g gd) :
    FnOk P w K mg base CX0 5 f fd ["thing"] (spIsDues K) := by
  refine F.ok scIsDues (fun vs H Q E h => ?_) (fun cdv A outer s H vs Q E hr h => ?_)
  · obtain ⟨p, du, rfl, _⟩ := h
    rfl
  obtain ⟨t, dues, rfl, hd, ⟨hn, hok⟩, q⟩ := h
  have hu := hu_of hr
  obtain ⟨ps, hF, hp⟩ := id hd
  refine ⟨_, (pss_cons (ps_if (pt_not (pt_val (pe_callB call_isi (by rfl) T.z_isinstance (by decide +kernel) (pa_cons (pv 0) (pa_cons (pe_bltn (v := .ty "tuple") (u := .type "tuple") (by rfl) T.z_tuple (by decide +kernel) rfl) pa_nil))))) (pss_one (ps_ret pe_bl)) pss_nil) (pss_cons (ps_set (i := 1) scIsDues.nd rfl (Or.inl rfl) pe_dnewK) (pss_cons (ps_for PassesOwn.never rfl (pi_tup (pv 0)) (pg_name (i := 2) scIsDues.nd rfl (Or.inl rfl)) (pss_cons (ps_if (PW.pt (pw_or (pt_not (pt_val (pe_call cD.ok (hr.mono (by decide)) rfl cD.mg cD.kp cD.bd .nil pass0 (pa_cons (pv 2) pa_nil)))) (pw_or1 (pt_cmp (pc_din hu (pe_ix ix_tup (pv 2) pe_int (fun _ _ => rfl)) (pv 1)))))) (pss_one (ps_ret pe_bl)) pss_nil) (pss_one (ps_dput hu (pv 1) (pe_ix ix_tup (pv 2) pe_int (fun _ _ => rfl)) pe_bl rfl)))) (pss_one (ps_ret pe_bl))))), ?_⟩
  refine ⟨_, rfl, _, _, _, _, true, rfl, .ty _, sqt_ty hF.seq, kit_ty (by decide +kernel), true, rfl, ?_⟩
  refine iteF ?_
  intro d hd0
  refine ⟨_, rfl, t, rfl, ⟨_, Same.seqT (Same.new (Same.refl H) hd0 _) hF.seq⟩, for_tup (xs := ps.map V.ref) (fun i σ H' => Same H H' ∧ ∃ (kvs : List (Key × V)) (o : Option V), σ = [some (.ref t), some (.ref d), o] ∧ H' d = some (.dK kvs) ∧ kvs.map (·.1) = (dues.take i).map (fun du => Sum.inr du.1)) ⟨Same.new (Same.refl H) hd0 _, [], none, rfl, upd_same, rfl⟩ ?_ ?_ ?_⟩
  · rintro i σ H' _ ⟨s1, _⟩
    exact Same.seqT s1 hF.seq
  · rintro i x σ H' hi ⟨s1, kvs, o, rfl, hk, he⟩
    obtain ⟨p, rfl, hpi⟩ := map_ref_get hi
    obtain ⟨du, hdu, hat⟩ := paired_get hp hpi
    have hmem := List.mem_of_getElem? hdu
    obtain ⟨hw, hv⟩ := hok du hmem
    obtain ⟨u, hpu, hu2⟩ := id hat
    refine ⟨_, rfl, p, du, rfl, DueAt.same s1 hat, hw, hv, fun H2 s2 => ?_⟩
    refine ⟨true, rfl, ?_⟩
    refine iteF ?_
    have hk2 := s2 _ _ hk
    have hpu2 := Same.seqT s2 (Same.seqT s1 hpu)
    have hnone : valV kvs (Sum.inr du.1 : Key) = none := by
      cases hv0 : valV kvs (Sum.inr du.1 : Key) with
      | none => rfl
      | some v =>
        have hin := valV_in hv0
        rw [he] at hin
        obtain ⟨du2, hd2, ed2⟩ := List.mem_map.mp hin
        exact absurd (Sum.inr.inj ed2) (fresh_at hn hdu du2 hd2)
    refine ⟨_, rfl, p, _, _, _, rfl, rfl, hpu2, rfl, _, rfl, d, _, rfl, DGet.k (k := Sum.inr du.1) hk2, ?_⟩
    rw [hnone]
    refine ⟨false, rfl, iteF ?_⟩
    refine ⟨_, rfl, _, rfl, p, _, _, _, rfl, rfl, hpu2, rfl, d, _, rfl, DPut.k (k := Sum.inr du.1) hk2 ?_, ?_⟩
    · have e : kvs.length = (dues.take i).length := by
        have := congrArg List.length he
        simpa using this
      rw [List.length_take] at e
      have : dues.length ≤ 8 := words_few hn fun du hdu => (hok du hdu).1
      exact small1000 (by omega)
    · refine ⟨fun b o hb => ?_, _, _, rfl, upd_same, ?_⟩
      · have n : b ≠ d := ne_of_none hb hd0
        rw [upd_ne n]
        exact s2 _ _ (s1 _ _ hb)
      · rw [putK_new _ hnone, List.map_append, he, List.take_add_one, hdu, Option.toList_some, List.map_append]
        rfl
  · rintro σ H' ⟨s1, _⟩
    exact q _ s1

end
end Bd
end

section
namespace Bd
open PySem L2
abbrev sInit : Stmt := (inClass (top 41) 0)
theorem scInit : FnScope ["self", "rows", "handing", "at", "row", "name", "above", "dues"] ["self", "rows", "handing"] (defScope sInit) := ⟨rfl, rfl, rfl, by decide +kernel, rfl, by decide +kernel, by decide +kernel⟩
abbrev sNames : Stmt := (inClass (top 41) 2)
theorem scNames : FnScope ["self"] ["self"] (defScope sNames) := ⟨rfl, rfl, rfl, by decide +kernel, rfl, by decide +kernel, by decide +kernel⟩

/-- tuples stay -/
def TK (H H' : Hp) : Prop := (∀ b xs, H b = some (.tup xs) → H' b = some (.tup xs)) ∧ ∀ b o u, H b = some (.frz o u) → H' b = some (.frz o u)
theorem TK.refl (H : Hp) : TK H H := ⟨fun _ _ h => h, fun _ _ _ h => h⟩
theorem TK.trans {H H1 H2 : Hp} (a : TK H H1) (b : TK H1 H2) : TK H H2 := ⟨fun c xs h => b.1 c xs (a.1 c xs h), fun c o u h => b.2 c o u (a.2 c o u h)⟩
theorem TK.of {H H1 : Hp} (a : Same H H1) : TK H H1 := ⟨fun c xs h => a _ _ h, fun c o u h => a _ _ h⟩
theorem TK.kept {H H1 : Hp} {p : Addr} {xs : List V} (h : H p = some (.lst xs)) (a : Kept p H H1) : TK H H1 :=
  ⟨fun c ys e => a c _ (ne_of e h (by intro z; cases z)) e, fun c o u e => a c _ (ne_of e h (by intro z; cases z)) e⟩
theorem TK.lst {H : Hp} {p : Addr} {xs : List V} (h : H p = some (.lst xs)) (o : HO) : TK H (upd H p o) :=
  ⟨fun c ys e => by rw [upd_ne (ne_of e h (by intro z; cases z))]; exact e, fun c v u e => by rw [upd_ne (ne_of e h (by intro z; cases z))]; exact e⟩
theorem TK.dk {H : Hp} {p : Addr} {xs : List (Key × V)} (h : H p = some (.dK xs)) (o : HO) : TK H (upd H p o) :=
  ⟨fun c ys e => by rw [upd_ne (ne_of e h (by intro z; cases z))]; exact e, fun c v u e => by rw [upd_ne (ne_of e h (by intro z; cases z))]; exact e⟩
theorem TK.ins {H : Hp} {p C dx : Addr} {xs : List (Str × V)} (h : H p = some (.ins C dx xs)) (o : HO) : TK H (upd H p o) :=
  ⟨fun c ys e => by rw [upd_ne (ne_of e h (by intro z; cases z))]; exact e, fun c v u e => by rw [upd_ne (ne_of e h (by intro z; cases z))]; exact e⟩
theorem TK.new {H : Hp} {p : Addr} (h : H p = none) (o : HO) : TK H (upd H p o) := TK.of (Same.new (Same.refl H) h o)
section
variable {K : PySem.W.Frag}
theorem TK.seqT {H H' : Hp} (e : TK H H') {a : Addr} {xs : List V} (h : SqT K H a xs) : SqT K H' a xs := by
  rcases h with (h | ⟨o, h⟩) | h
  · exact .inl (.inl (e.1 _ _ h))
  · exact .inl (.inr ⟨o, e.2 _ _ _ h⟩)
  · exact .inr h
theorem TK.frT {H H' : Hp} (e : TK H H') {a : Addr} {xs : List V} (h : FrT H a xs) : FrT H' a xs := by
  obtain ⟨o, h1, h2⟩ := h
  exact ⟨o, h1, e.2 _ _ _ h2⟩
theorem dp_ofints {H : Hp} : ∀ xs : List Int, DpAll K H (xs.map V.int) (xs.map .int)
  | [] => .nil
  | x :: xs => .cons (.int x) (dp_ofints xs)
theorem TK.val {H H' : Hp} (e : TK H H') {x : Str} {v : V} {d : PyData} (hv : ValOk x d) (h : Dp K H v d) : Dp K H' v d := by
  cases hv with
  | amt =>
    obtain ⟨a, rfl, ha⟩ := dp_two h
    exact .tup (e.seqT ha) (.cons (.int _) (.cons (.int _) .nil))
  | endl =>
    cases h
    exact .str _
  | none =>
    cases h
    exact .non
  | set =>
    obtain ⟨a, ys, rfl, ha, hys⟩ := dp_tup h
    cases dp_ints hys
    exact .tup (e.seqT ha) (dp_ofints _)
  | alone =>
    cases h
    exact .int _
theorem paired_monoM {α β : Type} {F G : α → β → Prop} : ∀ {xs : List α} {ys : List β}, (∀ a b, b ∈ ys → F a b → G a b) → Paired F xs ys → Paired G xs ys
  | _, _, _, .nil => .nil
  | _, _, h, .cons a b => .cons (h _ _ List.mem_cons_self a) (paired_monoM (fun x y hy z => h x y (List.mem_cons_of_mem _ hy) z) b)
theorem TK.dues {H H' : Hp} (e : TK H H') {t : Addr} {dues : List (Str × PyData)} (ok : DuesOk dues) (h : DuesAt K H t dues) : DuesAt K H' t dues := by
  obtain ⟨ps, h1, h2⟩ := h
  refine ⟨ps, e.frT h1, paired_monoM (fun p du hm z => ?_) h2⟩
  obtain ⟨u, h3, h4⟩ := z
  exact ⟨u, e.seqT h3, e.val (ok.2 du hm).2 h4⟩
theorem TK.row {H H' : Hp} (e : TK H H') {v : V} {r : RowM} (ok : DuesOk r.dues) (h : RowAt K H v r) : RowAt K H' v r := by
  obtain ⟨a, t, rfl, h1, h2⟩ := h
  exact ⟨a, t, rfl, e.seqT h1, e.dues ok h2⟩
end
def leftD : List (Str × PyData) := [("min", .tuple [.int 0, .int 1]), ("low", .tuple [.int 0, .int 1]), ("max", .str "endless"), ("quota", .str "endless"), ("burst", .tuple [.int 0, .int 1]), ("tops", .str "endless"), ("sets", .none), ("alone", .int 0)]
def dueOf (dues : List (Str × PyData)) (x : Str) : Option PyData := (dues.find? fun du => decide (du.1 = x)).map (·.2)
def fullD (dues : List (Str × PyData)) : List (Str × PyData) := leftD.map fun wd => (wd.1, (dueOf dues wd.1).getD wd.2)
def FullAt (K : PySem.W.Frag) (H : Hp) (d : Addr) (dues : List (Str × PyData)) : Prop := ∃ kvs : List (Key × V), H d = some (.dK kvs) ∧ Paired (fun kv (wd : Str × PyData) => kv.1 = (Sum.inr wd.1 : Key) ∧ Dp K H kv.2 wd.2) kvs (fullD dues)
theorem leftD_ok : ∀ wd ∈ leftD, wd.1 ∈ leftW ∧ ValOk wd.1 wd.2 := by
  intro wd h
  have z1 : ValOk "min" (.tuple [.int ((0 : Nat) : Int), .int ((1 : Nat) : Int)]) := .amt (by decide +kernel) (Nat.pow_pos (by decide)) (by decide) (Nat.one_lt_two_pow (by decide)) (by decide)
  have z2 : ValOk "low" (.tuple [.int ((0 : Nat) : Int), .int ((1 : Nat) : Int)]) := .amt (by decide +kernel) (Nat.pow_pos (by decide)) (by decide) (Nat.one_lt_two_pow (by decide)) (by decide)
  have z3 : ValOk "burst" (.tuple [.int ((0 : Nat) : Int), .int ((1 : Nat) : Int)]) := .amt (by decide +kernel) (Nat.pow_pos (by decide)) (by decide) (Nat.one_lt_two_pow (by decide)) (by decide)
  simp only [leftD, List.mem_cons, List.not_mem_nil, or_false] at h
  rcases h with rfl | rfl | rfl | rfl | rfl | rfl | rfl | rfl
  · exact ⟨by decide +kernel, z1⟩
  · exact ⟨by decide +kernel, z2⟩
  · exact ⟨by decide +kernel, .endl (by decide +kernel)⟩
  · exact ⟨by decide +kernel, .endl (by decide +kernel)⟩
  · exact ⟨by decide +kernel, z3⟩
  · exact ⟨by decide +kernel, .endl (by decide +kernel)⟩
  · exact ⟨by decide +kernel, .none⟩
  · exact ⟨by decide +kernel, .alone (.inl rfl)⟩
theorem dueOf_mem {dues : List (Str × PyData)} {x : Str} {d : PyData} (h : dueOf dues x = some d) : (x, d) ∈ dues := by
  unfold dueOf at h
  cases e : dues.find? fun du => decide (du.1 = x) with
  | none =>
    rw [e] at h
    cases h
  | some du =>
    rw [e] at h
    have h1 := List.mem_of_find?_eq_some e
    have h2 : du.1 = x := by
      have z := List.find?_some e
      simpa using z
    cases h
    rw [← h2]
    exact h1
theorem fullD_ok {dues : List (Str × PyData)} (ok : DuesOk dues) : ∀ wd ∈ fullD dues, ValOk wd.1 wd.2 := by
  intro wd h
  obtain ⟨ld, hl, rfl⟩ := List.mem_map.mp h
  show ValOk ld.1 ((dueOf dues ld.1).getD ld.2)
  cases e : dueOf dues ld.1 with
  | none => exact (leftD_ok ld hl).2
  | some d => exact (ok.2 _ (dueOf_mem e)).2
theorem TK.full {K : PySem.W.Frag} {H H' : Hp} (e : TK H H') {d : Addr} {dues : List (Str × PyData)} (ok : DuesOk dues) (hd : H' d = H d) (h : FullAt K H d dues) : FullAt K H' d dues := by
  obtain ⟨kvs, h1, h2⟩ := h
  exact ⟨kvs, hd.trans h1, paired_monoM (fun kv wd hm z => ⟨z.1, e.val (fullD_ok ok wd hm) z.2⟩) h2⟩
/-! ### what merging makes -/
theorem mergeK_app : ∀ (more acc : List (Key × V)), ((acc ++ more).map (·.1)).Nodup → mergeK acc more = acc ++ more
  | [], acc, _ => by simp [mergeK]
  | p :: r, acc, h => by
    have hn : valV acc p.1 = none := by
      cases e : valV acc p.1 with
      | none => rfl
      | some v =>
        have h1 := valV_in e
        rw [List.map_append, List.nodup_append] at h
        exact absurd rfl (h.2.2 p.1 h1 p.1 (by simp))
    have h2 : mergeK acc (p :: r) = mergeK (putK acc p.1 p.2) r := rfl
    rw [h2, putK_new _ hn, mergeK_app r (acc ++ [(p.1, p.2)]) (by simpa using h)]
    simp
theorem mergeK_over : ∀ (more kvs : List (Key × V)), (more.map (·.1)).Nodup → (∀ p ∈ more, p.1 ∈ kvs.map (·.1)) → mergeK kvs more = kvs.map fun kv => (kv.1, (valV more kv.1).getD kv.2)
  | [], kvs, _, _ => by simp [mergeK, valV]
  | p :: r, kvs, hn, hm => by
    have hn : (p.1 :: r.map (·.1)).Nodup := hn
    obtain ⟨h1, h2⟩ := List.nodup_cons.mp hn
    have hp : (kvs.any fun kv => decide (kv.1 = p.1)) = true := by
      obtain ⟨q, hq, e⟩ := List.mem_map.mp (hm p List.mem_cons_self)
      exact List.any_eq_true.mpr ⟨q, hq, decide_eq_true e⟩
    have hput : putK kvs p.1 p.2 = kvs.map (fun kv => if kv.1 = p.1 then (kv.1, p.2) else kv) := by
      unfold putK
      rw [if_pos hp]
    have hkeys : (putK kvs p.1 p.2).map (·.1) = kvs.map (·.1) := by
      rw [hput, List.map_map]
      refine List.map_congr_left fun kv _ => ?_
      show (if kv.1 = p.1 then (kv.1, p.2) else kv).1 = kv.1
      split <;> rfl
    have e : mergeK kvs (p :: r) = mergeK (putK kvs p.1 p.2) r := rfl
    rw [e, mergeK_over r (putK kvs p.1 p.2) h2 (fun q hq => by rw [hkeys]; exact hm q (List.mem_cons_of_mem _ hq)), hput, List.map_map]
    refine List.map_congr_left fun kv _ => ?_
    show ((if kv.1 = p.1 then (kv.1, p.2) else kv).1, (valV r (if kv.1 = p.1 then (kv.1, p.2) else kv).1).getD (if kv.1 = p.1 then (kv.1, p.2) else kv).2) = (kv.1, (valV (p :: r) kv.1).getD kv.2)
    by_cases c : kv.1 = p.1
    · rw [if_pos c]
      have hv : valV r kv.1 = none := by
        cases z : valV r kv.1 with
        | none => rfl
        | some v =>
          have z2 := valV_in z
          rw [c] at z2
          exact absurd z2 h1
      show (kv.1, (valV r kv.1).getD p.2) = (kv.1, (valV (p :: r) kv.1).getD kv.2)
      rw [hv, valV_pos c.symm]
      rfl
    · rw [if_neg c, valV_neg (fun z => c z.symm)]
def PV (K : PySem.W.Frag) (H : Hp) (kv : Key × V) (wd : Str × PyData) : Prop := kv.1 = (Sum.inr wd.1 : Key) ∧ Dp K H kv.2 wd.2
theorem val_due {K : PySem.W.Frag} {H : Hp} (x : Str) : ∀ {dk : List (Key × V)} {dues : List (Str × PyData)}, Paired (PV K H) dk dues →
    (valV dk (Sum.inr x : Key) = none ∧ dueOf dues x = none) ∨ ∃ v d, valV dk (Sum.inr x : Key) = some v ∧ dueOf dues x = some d ∧ Dp K H v d
  | _, _, .nil => .inl ⟨rfl, rfl⟩
  | _, _, .cons (a := kv) (b := du) h t => by
    by_cases e : du.1 = x
    · refine .inr ⟨kv.2, du.2, valV_pos (by rw [h.1, e]), ?_, h.2⟩
      unfold dueOf
      rw [List.find?_cons_of_pos (by simpa using e)]
      rfl
    · have e1 : ¬ kv.1 = (Sum.inr x : Key) := fun z => e (Sum.inr.inj (h.1.symm.trans z))
      have e2 : ∀ ds, dueOf (du :: ds) x = dueOf ds x := fun ds => by
        unfold dueOf
        rw [List.find?_cons_of_neg (by simpa using e)]
      rw [valV_neg e1, e2]
      exact val_due x t
theorem paired_map {α β γ δ : Type} {F : α → β → Prop} {G : γ → δ → Prop} {f : α → γ} {g : β → δ} (h : ∀ a b, F a b → G (f a) (g b)) : ∀ {xs : List α} {ys : List β}, Paired F xs ys → Paired G (xs.map f) (ys.map g)
  | _, _, .nil => .nil
  | _, _, .cons a b => .cons (h _ _ a) (paired_map h b)
theorem pv_keys {K : PySem.W.Frag} {H : Hp} : ∀ {dk : List (Key × V)} {dues : List (Str × PyData)}, Paired (PV K H) dk dues → dk.map (·.1) = dues.map fun du => (Sum.inr du.1 : Key)
  | _, _, .nil => rfl
  | _, _, .cons a b => by
    rw [List.map_cons, List.map_cons, a.1, pv_keys b]
theorem nodup_inr {xs : List Str} (h : xs.Nodup) : (xs.map fun x => (Sum.inr x : Key)).Nodup := by
  induction xs with
  | nil => exact List.nodup_nil
  | cons x r ih =>
    obtain ⟨h1, h2⟩ := List.nodup_cons.mp h
    rw [List.map_cons]
    refine List.nodup_cons.mpr ⟨fun m => ?_, ih h2⟩
    obtain ⟨y, hy, e⟩ := List.mem_map.mp m
    exact h1 (Sum.inr.inj e ▸ hy)
theorem leftD_words : leftD.map (·.1) = leftW := by decide +kernel
theorem leftW_nd : leftW.Nodup := by decide +kernel
theorem full_of {K : PySem.W.Frag} {H : Hp} {left dk : List (Key × V)} {dues : List (Str × PyData)} (hl : Paired (PV K H) left leftD) (hd : Paired (PV K H) dk dues) (ok : DuesOk dues) :
    Paired (PV K H) (mergeK (mergeK [] left) (mergeK [] dk)) (fullD dues) := by
  have kl : left.map (·.1) = leftW.map fun x => (Sum.inr x : Key) := by
    rw [pv_keys hl, ← leftD_words, List.map_map]
    rfl
  have kd : dk.map (·.1) = (dues.map (·.1)).map fun x => (Sum.inr x : Key) := by
    rw [pv_keys hd, List.map_map]
    rfl
  have nl : (left.map (·.1)).Nodup := by
    rw [kl]
    exact nodup_inr leftW_nd
  have nd : (dk.map (·.1)).Nodup := by
    rw [kd]
    exact nodup_inr ok.1
  rw [mergeK_app left [] (by simpa using nl), mergeK_app dk [] (by simpa using nd), List.nil_append, List.nil_append, mergeK_over dk left nd ?_]
  · unfold fullD
    refine paired_map (fun kv wd h => ?_) hl
    refine ⟨h.1, ?_⟩
    show Dp K H ((valV dk kv.1).getD kv.2) ((dueOf dues wd.1).getD wd.2)
    rw [h.1]
    rcases val_due wd.1 hd with ⟨e1, e2⟩ | ⟨v, d, e1, e2, e3⟩
    · rw [e1, e2]
      exact h.2
    · rw [e1, e2]
      exact e3
  · intro p hp
    have hm : p.1 ∈ dk.map (·.1) := List.mem_map.mpr ⟨p, hp, rfl⟩
    rw [kd] at hm
    obtain ⟨x, hx, e⟩ := List.mem_map.mp hm
    obtain ⟨du, hdu, rfl⟩ := List.mem_map.mp hx
    rw [kl, ← e]
    exact List.mem_map.mpr ⟨du.1, (ok.2 du hdu).1, rfl⟩
theorem dk_of_dues {K : PySem.W.Frag} {H : Hp} : ∀ {ps : List Addr} {dues : List (Str × PyData)}, Paired (DueAt K H) ps dues → ∃ dk : List (Key × V), Paired (fun p kv => SqT K H p [kV kv.1, kv.2]) ps dk ∧ Paired (PV K H) dk dues
  | _, _, .nil => ⟨[], .nil, .nil⟩
  | _, _, .cons (b := du) ⟨u, h1, h2⟩ t => by
    obtain ⟨dk, h3, h4⟩ := dk_of_dues t
    exact ⟨(Sum.inr du.1, u) :: dk, .cons h1 h3, .cons ⟨rfl, h2⟩ h4⟩
/-- the class as the top has made it -/
structure TC (K : PySem.W.Frag) (mg : Str → Option Value) (C : Addr) : Prop where
  cl : Cls K C
  n_order : NoAttr K C "order"
  n_parents : NoAttr K C "parents"
  n_kids : NoAttr K C "kids"
  n_table : NoAttr K C "table"
  n_hands : NoAttr K C "hands"
  g_Tree : mg "Tree" = some (.ref C)
def tf4 (po pp pk pt : Addr) : List (Str × V) := [("order", .ref po), ("parents", .ref pp), ("kids", .ref pk), ("table", .ref pt)]
def tf5 (po pp pk pt : Addr) (b : Bool) : List (Str × V) := [("order", .ref po), ("parents", .ref pp), ("kids", .ref pk), ("table", .ref pt), ("hands", .bl b)]
def kidsOf (rows : List RowM) (k : Key) : List Str := (rows.filter fun r => decide ((Sum.inr r.above : Key) = k)).map (·.name)
theorem kids_le (rows : List RowM) (k : Key) : (kidsOf rows k).length ≤ rows.length := by
  unfold kidsOf
  rw [List.length_map]
  exact List.length_filter_le _ _
theorem kids_snoc (rows : List RowM) (r : RowM) (k : Key) : kidsOf (rows ++ [r]) k = kidsOf rows k ++ (if (Sum.inr r.above : Key) = k then [r.name] else []) := by
  unfold kidsOf
  rw [List.filter_append, List.map_append]
  by_cases c : (Sum.inr r.above : Key) = k
  · rw [if_pos c, List.filter_cons_of_pos (by simpa using c)]
    rfl
  · rw [if_neg c, List.filter_cons_of_neg (by simpa using c)]
    rfl
theorem kids_none {rows : List RowM} {x : Str} (h : ∀ q ∈ rows, q.above ≠ x) : kidsOf rows (Sum.inr x) = [] := by
  unfold kidsOf
  rw [List.filter_eq_nil_iff.mpr fun q hq => by
    have := h q hq
    simpa using this]
  rfl
def leafB (rows : List RowM) (r : RowM) : Bool := !(rows.any fun q => decide (q.above = r.name))
def leavesOf (rows : List RowM) : List Str := (rows.filter (leafB rows)).map (·.name)
/-- the children of each group -/
def KidsAt (H : Hp) (pk : Addr) (rows : List RowM) : Prop := ∃ ks : List (Key × V), H pk = some (.dK ks) ∧ ks.map (·.1) = (Sum.inr "" : Key) :: rows.map (fun r => (Sum.inr r.name : Key)) ∧ ∀ kv ∈ ks, ∃ l, kv.2 = .ref l ∧ H l = some (.lst ((kidsOf rows kv.1).map .str))
/-- a tree that is being made, behind what stood in H0 -/
structure PartAt (K : PySem.W.Frag) (H0 H : Hp) (C p dx po pp pk pt : Addr) (rows : List RowM) (tk : List (Key × V)) : Prop where
  same : Same H0 H
  n0 : H0 p = none ∧ H0 po = none ∧ H0 pp = none ∧ H0 pk = none ∧ H0 pt = none
  ob : H p = some (.ins C dx (tf4 po pp pk pt))
  or_ : H po = some (.lst (rows.map fun r => .str r.name))
  pa : H pp = some (.dK (rows.map fun r => ((Sum.inr r.name : Key), V.str r.above)))
  kd : ∃ ks, H pk = some (.dK ks) ∧ ks.map (·.1) = (Sum.inr "" : Key) :: rows.map (fun r => (Sum.inr r.name : Key)) ∧ (∀ kv ∈ ks, ∃ l, kv.2 = .ref l ∧ H l = some (.lst ((kidsOf rows kv.1).map .str)) ∧ l ≠ po ∧ H0 l = none) ∧ ∀ kv ∈ ks, ∀ kv2 ∈ ks, (kv.1 = kv2.1 ↔ kv.2 = kv2.2)
  tb : H pt = some (.dK tk)
  td : Paired (fun (kv : Key × V) (r : RowM) => kv.1 = (Sum.inr r.name : Key) ∧ ∃ d, kv.2 = .ref d ∧ H0 d = none ∧ d ≠ pp ∧ d ≠ pk ∧ d ≠ pt ∧ FullAt K H d r.dues) tk rows
  ne : pp ≠ pk ∧ pp ≠ pt ∧ pk ≠ pt
theorem FullAt.same {K : PySem.W.Frag} {H H' : Hp} (e : Same H H') {d : Addr} {dues : List (Str × PyData)} (h : FullAt K H d dues) : FullAt K H' d dues := by
  obtain ⟨kvs, h1, h2⟩ := h
  exact ⟨kvs, e _ _ h1, paired_mono (fun kv wd z => ⟨z.1, dp_same e _ _ z.2⟩) h2⟩
theorem PartAt.grow {K : PySem.W.Frag} {H0 H H' : Hp} {C p dx po pp pk pt : Addr} {rows : List RowM} {tk : List (Key × V)} (h : PartAt K H0 H C p dx po pp pk pt rows tk) (e : Same H H') : PartAt K H0 H' C p dx po pp pk pt rows tk where
  same := h.same.trans e
  n0 := h.n0
  ob := e _ _ h.ob
  or_ := e _ _ h.or_
  pa := e _ _ h.pa
  kd := by
    obtain ⟨ks, h1, h2, h3, h4⟩ := h.kd
    exact ⟨ks, e _ _ h1, h2, fun kv hk => let ⟨l, a, b, c, d⟩ := h3 kv hk; ⟨l, a, e _ _ b, c, d⟩, h4⟩
  tb := e _ _ h.tb
  td := paired_mono (fun kv r z => let ⟨a, d, b, c, d1, d2, d3, f⟩ := z; ⟨a, d, b, c, d1, d2, d3, FullAt.same e f⟩) h.td
  ne := h.ne
/-- a row that may stand behind others -/
def StandOk (rows : List RowM) (r : RowM) : Prop := (∀ q ∈ rows, q.name ≠ r.name) ∧ (r.above = "" ∨ ∃ q ∈ rows, q.name = r.above ∧ dueOf (fullD q.dues) "tops" = some (.str "endless"))
def spMayStand (K : PySem.W.Frag) (C : Addr) : Sp := fun vs H Q _ => ∃ (H0 : Hp) (p dx po pp pk pt : Addr) (rows : List RowM) (tk : List (Key × V)) (v : V) (r : RowM), vs = [.ref p, v] ∧ PartAt K H0 H C p dx po pp pk pt rows tk ∧ RowAt K H v r ∧
  StandOk rows r ∧ (rows.map (·.name)).Nodup ∧ (∀ q ∈ rows, q.name ≠ "") ∧ ∀ H', Same H H' → Q (.bl true) H'
end Bd
end

section
namespace Bd
open PySem L2
section
variable {P : Program} {w : World} {K : PySem.W.Frag} {mg : Str → Option Value} {base : Heap} {aL C : Addr} {left : List (Key × V)}
theorem ok_isGroupRow {f g e : Addr} {fd gd ed : FuncData} (F : Fun K "is_group_row" "is_group_row" sIsGroupRow f fd) (T : TP P w K mg aL left) (cN : Cal P w K mg base "is_name" ["thing"] 1 spIsName g gd) (cD : Cal P w K mg base "is_dues" ["thing"] 5 (spIsDues K) e ed) :
    FnOk P w K mg base CX0 6 f fd ["thing"] (spIsGroupRow K) := by
  refine F.ok scIsGroupRow (fun vs H Q E h => ?_) (fun cdv A outer s H vs Q E hr h => ?_)
  · obtain ⟨p, du, rfl, _⟩ := h
    rfl
  obtain ⟨v, r, rfl, hrow, hn, hd, q⟩ := h
  obtain ⟨a, t, rfl, ha, ht⟩ := id hrow
  refine ⟨_, (pss_cons (ps_if (PW.pt (pw_or (pt_not (pt_val (pe_callB call_isi (by rfl) T.z_isinstance (by decide +kernel) (pa_cons (pv 0) (pa_cons (pe_bltn (v := .ty "tuple") (u := .type "tuple") (by rfl) T.z_tuple (by decide +kernel) rfl) pa_nil))))) (pw_or1 (pt_cmpR op_ne (pe_callB call_len_seq (by rfl) T.z_len PySem.boot_len (pa_cons (pv 0) pa_nil)) pe_int (nomark _))))) (pss_one (ps_ret pe_bl)) pss_nil) (pss_cons (ps_asg (pv 0) (pg_tup (by rfl) (pgs_cons (pg_name (i := 1) scIsGroupRow.nd rfl (Or.inl rfl)) (pgs_cons (pg_name (i := 2) scIsGroupRow.nd rfl (Or.inl rfl)) (pgs_cons (pg_name (i := 3) scIsGroupRow.nd rfl (Or.inl rfl)) pgs_nil))))) (pss_one (ps_ret (pe_and (pe_call cN.ok (hr.mono (by decide)) rfl cN.mg cN.kp cN.bd .nil pass0 (pa_cons (pv 1) pa_nil)) (pe_and (pe_callB call_isi (by rfl) T.z_isinstance (by decide +kernel) (pa_cons (pv 2) (pa_cons (pe_bltn (v := .ty "str") (u := .type "str") (by rfl) T.z_str (by decide +kernel) rfl) pa_nil))) (pe_one (pe_call cD.ok (hr.mono (by decide)) rfl cD.mg cD.kp cD.bd .nil pass0 (pa_cons (pv 3) pa_nil))))))))), ?_⟩
  refine ⟨_, rfl, _, _, _, _, true, rfl, .ty _, sqt_ty ha, kit_ty (by decide +kernel), true, rfl, ?_⟩
  refine iteF ?_
  refine ⟨_, rfl, a, _, rfl, .inr ha, rfl, _, rfl, ?_⟩
  refine iteNS rfl ?_
  refine ⟨_, rfl, a, _, rfl, ha, rfl, ?_⟩
  refine ⟨_, _, rfl, _, _, rfl, _, _, rfl, rfl, ?_⟩
  refine ⟨_, rfl, r.name, rfl, hn, fun H1 s1 => ?_⟩
  refine ⟨true, rfl, iteT ?_⟩
  refine ⟨_, rfl, _, _, _, _, true, rfl, .ty _, .base (.str _), kit_ty (by decide +kernel), true, rfl, ?_⟩
  refine iteT ?_
  exact ⟨_, rfl, t, r.dues, rfl, DuesAt.same s1 ht, hd, fun H2 s2 => q _ (s1.trans s2)⟩

theorem keys_none {kvs : List (Key × V)} {k : Key} (h : ¬ k ∈ kvs.map (·.1)) : valV kvs k = none := by
  cases e : valV kvs k with
  | none => rfl
  | some v => exact absurd (valV_in e) h
theorem td_keys {F : Key × V → RowM → Prop} (hF : ∀ kv r, F kv r → kv.1 = (Sum.inr r.name : Key)) : ∀ {tk : List (Key × V)} {rows : List RowM}, Paired F tk rows → tk.map (·.1) = rows.map fun r => (Sum.inr r.name : Key)
  | _, _, .nil => rfl
  | _, _, .cons a b => by
    rw [List.map_cons, List.map_cons, hF _ _ a, td_keys hF b]
theorem paired_of {α β : Type} {F : α → β → Prop} : ∀ {xs : List α} {ys : List β}, Paired F xs ys → ∀ y ∈ ys, ∃ x ∈ xs, F x y
  | _, _, .nil, y, h => by cases h
  | _, _, .cons a b, y, h => by
    rcases List.mem_cons.mp h with rfl | h
    · exact ⟨_, List.mem_cons_self, a⟩
    · obtain ⟨x, h1, h2⟩ := paired_of b y h
      exact ⟨x, List.mem_cons_of_mem _ h1, h2⟩
theorem val_nd : ∀ {kvs : List (Key × V)}, (kvs.map (·.1)).Nodup → ∀ p ∈ kvs, valV kvs p.1 = some p.2
  | [], _, p, h => by cases h
  | a :: r, hn, p, h => by
    have hn : (a.1 :: r.map (·.1)).Nodup := hn
    obtain ⟨h1, h2⟩ := List.nodup_cons.mp hn
    rcases List.mem_cons.mp h with rfl | h
    · exact valV_pos rfl
    · have e : ¬ a.1 = p.1 := fun z => h1 (by rw [z]; exact List.mem_map.mpr ⟨p, h, rfl⟩)
      rw [valV_neg e]
      exact val_nd h2 p h
theorem tf4_order {po pp pk pt : Addr} : (tf4 po pp pk pt).lookup ("order" : Str) = some (.ref po) := by
  simp only [tf4, List.lookup]
  rfl
theorem tf4_parents {po pp pk pt : Addr} : (tf4 po pp pk pt).lookup ("parents" : Str) = some (.ref pp) := by
  simp only [tf4, List.lookup]
  rfl
theorem tf4_kids {po pp pk pt : Addr} : (tf4 po pp pk pt).lookup ("kids" : Str) = some (.ref pk) := by
  simp only [tf4, List.lookup]
  rfl
theorem tf4_table {po pp pk pt : Addr} : (tf4 po pp pk pt).lookup ("table" : Str) = some (.ref pt) := by
  simp only [tf4, List.lookup]
  rfl
theorem tf5_order {po pp pk pt : Addr} {b : Bool} : (tf5 po pp pk pt b).lookup ("order" : Str) = some (.ref po) := by
  simp only [tf5, List.lookup]
  rfl
theorem tf5_parents {po pp pk pt : Addr} {b : Bool} : (tf5 po pp pk pt b).lookup ("parents" : Str) = some (.ref pp) := by
  simp only [tf5, List.lookup]
  rfl
theorem tf5_kids {po pp pk pt : Addr} {b : Bool} : (tf5 po pp pk pt b).lookup ("kids" : Str) = some (.ref pk) := by
  simp only [tf5, List.lookup]
  rfl
theorem tf5_table {po pp pk pt : Addr} {b : Bool} : (tf5 po pp pk pt b).lookup ("table" : Str) = some (.ref pt) := by
  simp only [tf5, List.lookup]
  rfl
theorem tf5_hands {po pp pk pt : Addr} {b : Bool} : (tf5 po pp pk pt b).lookup ("hands" : Str) = some (.bl b) := by
  simp only [tf5, List.lookup]
  rfl
theorem ok_mayStand {f g : Addr} {fd gd : FuncData} (F : Fun K "may_stand" "may_stand" sMayStand f fd) (T : TP P w K mg aL left) (TCl : TC K mg C) (cE : Cal P w K mg base "is_endless" ["thing"] 1 (spIsEndless K) g gd) :
    FnOk P w K mg base CX0 2 f fd ["tree", "row"] (spMayStand K C) := by
  refine F.ok scMayStand (fun vs H Q E h => ?_) (fun cdv A outer s H vs Q E hr h => ?_)
  · obtain ⟨H0, p, dx, po, pp, pk, pt, rows, tk, v, r, rfl, _⟩ := h
    rfl
  obtain ⟨H0, p, dx, po, pp, pk, pt, rows, tk, v, r, rfl, hp, hrow, hst, hnd, hne, q⟩ := h
  have hu := hu_of hr
  obtain ⟨a, t, rfl, ha, ht⟩ := id hrow
  refine ⟨_, (pss_cons (ps_asg (pv 1) (pg_tup (by rfl) (pgs_cons (pg_name (i := 2) scMayStand.nd rfl (Or.inl rfl)) (pgs_cons (pg_name (i := 3) scMayStand.nd rfl (Or.inl rfl)) (pgs_cons (pg_name (i := 4) scMayStand.nd rfl (Or.inl rfl)) pgs_nil))))) (pss_cons (ps_if (PW.pt (pw_or (pt_cmp (pc_din hu (pv 2) (pe_fld (pv 0) rfl))) (pw_or1 (pt_cmp (pc_dnotin hu (pv 3) (pe_fld (pv 0) rfl)))))) (pss_one (ps_ret pe_bl)) pss_nil) (pss_one (ps_ret (pe_or (pe_cmpR op_eq (pv 3) pe_str (nomark _)) (pe_one (pe_call cE.ok (hr.mono (by decide)) rfl cE.mg cE.kp cE.bd .nil pass0 (pa_cons (pe_dget hu (pe_dget hu (pe_fld (pv 0) rfl) (pv 3) (fun _ _ => rfl)) pe_str (fun _ _ => rfl)) pa_nil)))))))), ?_⟩
  refine ⟨_, rfl, a, _, rfl, ha, rfl, ?_⟩
  refine ⟨_, _, rfl, _, _, rfl, _, _, rfl, rfl, ?_⟩
  have e1 : valV (rows.map fun q => ((Sum.inr q.name : Key), V.str q.above)) (Sum.inr r.name) = none := by
    refine keys_none fun m => ?_
    rw [List.map_map] at m
    obtain ⟨q, hq, e⟩ := List.mem_map.mp m
    exact hst.1 q hq (Sum.inr.inj e)
  obtain ⟨ks, k1, k2, k3⟩ := hp.kd
  have e2 : (valV ks (Sum.inr r.above : Key)).isSome = true := by
    refine val_some ?_
    rw [k2]
    rcases hst.2 with e | ⟨q, hq, e, _⟩
    · rw [e]
      exact List.mem_cons_self
    · exact List.mem_cons_of_mem _ (List.mem_map.mpr ⟨q, hq, by rw [e]⟩)
  refine ⟨_, rfl, _, rfl, p, C, dx, _, _, rfl, hp.ob, TCl.cl, TCl.n_parents, tf4_parents, pp, _, rfl, DGet.k (k := Sum.inr r.name) hp.pa, ?_⟩
  rw [e1]
  refine ⟨false, rfl, iteF ?_⟩
  refine ⟨_, rfl, _, rfl, p, C, dx, _, _, rfl, hp.ob, TCl.cl, TCl.n_kids, tf4_kids, pk, _, rfl, DGet.k (k := Sum.inr r.above) k1, ?_⟩
  rw [e2]
  refine ⟨false, rfl, iteF ?_⟩
  refine ⟨_, rfl, rfl, ?_⟩
  by_cases c : r.above = ""
  · refine ⟨true, congrArg V.bl (decide_eq_true (congrArg V.str c)), iteT ?_⟩
    exact q _ (Same.refl H)
  · refine ⟨false, congrArg V.bl (decide_eq_false fun z => c (V.str.inj z)), iteF ?_⟩
    obtain ⟨qr, hq, hqn, hq2⟩ := hst.2.resolve_left c
    obtain ⟨kv, hkv, hk1, d, hk2, hd0, _, _, _, fk, fk1, fk2⟩ := paired_of hp.td qr hq
    have nt : (tk.map (·.1)).Nodup := by
      rw [td_keys (fun _ _ z => z.1) hp.td]
      have := nodup_inr hnd
      rw [List.map_map] at this
      exact this
    have g1 : valV tk (Sum.inr r.above : Key) = some (.ref d) := by
      have := val_nd nt kv hkv
      rw [hk1, hqn, hk2] at this
      exact this
    have g2 : valV fk (Sum.inr "tops" : Key) = some (.str "endless") := by
      rcases val_due "tops" fk2 with ⟨_, z⟩ | ⟨v, d2, z1, z2, z3⟩
      · rw [z] at hq2
        cases hq2
      · rw [hq2] at z2
        cases z2
        rw [dp_str z3] at z1
        exact z1
    refine ⟨_, rfl, p, C, dx, _, _, rfl, hp.ob, TCl.cl, TCl.n_table, tf4_table, _, rfl, pt, _, rfl, ?_, d, _, rfl, ?_, _, rfl, .inl ⟨rfl, q _ (Same.refl H)⟩⟩
    · have := DGet.k (k := Sum.inr r.above) hp.tb
      rw [g1] at this
      exact this
    · have := DGet.k (k := Sum.inr ("tops" : Str)) fk1
      rw [g2] at this
      exact this

end
end Bd
end

section
namespace Bd
open PySem L2
/-- a tree: its table at tk -/
def TreeAt (K : PySem.W.Frag) (H : Hp) (C p : Addr) (rows : List RowM) (hands : Bool) (tk : List (Key × V)) : Prop := ∃ dx po pp pk pt, H p = some (.ins C dx (tf5 po pp pk pt hands)) ∧ H po = some (.lst (rows.map fun r => .str r.name)) ∧
  H pp = some (.dK (rows.map fun r => ((Sum.inr r.name : Key), V.str r.above))) ∧ H pt = some (.dK tk) ∧ Paired (fun (kv : Key × V) (r : RowM) => kv.1 = (Sum.inr r.name : Key) ∧ ∃ d, kv.2 = .ref d ∧ FullAt K H d r.dues) tk rows ∧ KidsAt H pk rows
/-- rows that make a tree -/
def RowsOk (rows : List RowM) : Prop := ∀ i r, rows[i]? = some r → NameOk r.name ∧ DuesOk r.dues ∧ StandOk (rows.take i) r
def spInit (K : PySem.W.Frag) (C : Addr) : Sp := fun vs H Q _ => ∃ (H0 : Hp) (p dx a : Addr) (xs : List V) (rows : List RowM) (b : Bool), vs = [.ref p, .ref a, .bl b] ∧ Same H0 H ∧ H0 p = none ∧ H p = some (.ins C dx []) ∧ H0 a = some (.lst xs) ∧ Paired (RowAt K H0) xs rows ∧ RowsOk rows ∧ rows.length ≤ 200 ∧
  ∀ H' tk, Same H0 H' → TreeAt K H' C p rows b tk → (∀ kv ∈ tk, ∃ d, kv.2 = .ref d ∧ H0 d = none) → Q .non H'
theorem dget_of {H : Hp} {a : Addr} {kvs : List (Key × V)} {k : Key} {v : V} (h : H a = some (.dK kvs)) (e : valV kvs k = some v) : DGet H a (kV k) (some v) := by
  have := DGet.k (k := k) h
  rw [e] at this
  exact this
theorem none_upd {H : Hp} {a x : Addr} {o : HO} (h : upd H a o x = none) : x ≠ a ∧ H x = none := by
  have n : x ≠ a := fun e => by
    rw [e, upd_same] at h
    cases h
  rw [upd_ne n] at h
  exact ⟨n, h⟩
theorem putF_two (a b : V) : putF "parents" b (putF "order" a []) = ([("order", a), ("parents", b)] : List (Str × V)) := by
  simp only [putF]
  rw [if_neg (by decide +kernel)]
  all_goals rfl
theorem putF_three (a b c : V) : putF "kids" c ([("order", a), ("parents", b)] : List (Str × V)) = ([("order", a), ("parents", b), ("kids", c)] : List (Str × V)) := by
  simp only [putF]
  rw [if_neg (by decide +kernel), if_neg (by decide +kernel)]
theorem putF_four (a b c d : V) : putF "table" d ([("order", a), ("parents", b), ("kids", c)] : List (Str × V)) = ([("order", a), ("parents", b), ("kids", c), ("table", d)] : List (Str × V)) := by
  simp only [putF]
  rw [if_neg (by decide +kernel), if_neg (by decide +kernel), if_neg (by decide +kernel)]
theorem putF_five (a b c d e : V) : putF "hands" e ([("order", a), ("parents", b), ("kids", c), ("table", d)] : List (Str × V)) = ([("order", a), ("parents", b), ("kids", c), ("table", d), ("hands", e)] : List (Str × V)) := by
  simp only [putF]
  rw [if_neg (by decide +kernel), if_neg (by decide +kernel), if_neg (by decide +kernel), if_neg (by decide +kernel)]
theorem paired_snoc {α β : Type} {F : α → β → Prop} {x : α} {y : β} (h : F x y) : ∀ {xs : List α} {ys : List β}, Paired F xs ys → Paired F (xs ++ [x]) (ys ++ [y])
  | _, _, .nil => .cons h .nil
  | _, _, .cons a b => .cons a (paired_snoc h b)
/-- one row more -/
theorem part_step {K : PySem.W.Frag} {H0 H Hz : Hp} {C p dx po pp pk pt l l' D : Addr} {rows : List RowM} {tk : List (Key × V)} {r : RowM} (h : PartAt K H0 H C p dx po pp pk pt rows tk) (ok : ∀ q ∈ rows, DuesOk q.dues) (tkk : TK H Hz)
    (hz : ∀ b o, H b = some o → b ≠ po → b ≠ pp → b ≠ pk → b ≠ pt → b ≠ l' → Hz b = some o) (hl0 : H0 l' = none) (hlo : l' ≠ po) (hl : H l' = some (.lst ((kidsOf rows (Sum.inr r.above)).map .str))) (hn0 : r.name ≠ "") (hst : ∀ q ∈ rows, q.name ≠ r.name) (hk0 : ∀ q ∈ rows, q.above ≠ r.name) (hab : r.above ≠ r.name) (hln : H l = none)
    (zo : Hz po = some (.lst (rows.map (fun r => .str r.name) ++ [.str r.name]))) (zp : Hz pp = some (.dK (rows.map (fun r => ((Sum.inr r.name : Key), V.str r.above)) ++ [(Sum.inr r.name, .str r.above)])))
    (zk : ∃ ks, Hz pk = some (.dK (ks ++ [(Sum.inr r.name, .ref l)])) ∧ H pk = some (.dK ks) ∧ ∃ kv ∈ ks, kv.1 = (Sum.inr r.above : Key) ∧ kv.2 = .ref l') (zl : Hz l = some (.lst [])) (hll : l ≠ po ∧ H0 l = none) (zl' : Hz l' = some (.lst ((kidsOf rows (Sum.inr r.above)).map .str ++ [.str r.name])))
    (zt : Hz pt = some (.dK (tk ++ [(Sum.inr r.name, .ref D)]))) (hD : H0 D = none ∧ D ≠ pp ∧ D ≠ pk ∧ D ≠ pt ∧ FullAt K Hz D r.dues) : PartAt K H0 Hz C p dx po pp pk pt (rows ++ [r]) (tk ++ [(Sum.inr r.name, .ref D)]) where
  same := fun b o hb => hz b o (h.same _ _ hb) (ne_of_none hb h.n0.2.1) (ne_of_none hb h.n0.2.2.1) (ne_of_none hb h.n0.2.2.2.1) (ne_of_none hb h.n0.2.2.2.2) (ne_of_none hb hl0)
  n0 := h.n0
  ob := hz _ _ h.ob (ne_of h.ob h.or_ (by intro z; cases z)) (ne_of h.ob h.pa (by intro z; cases z)) (by
    obtain ⟨ks, k1, _⟩ := h.kd
    exact ne_of h.ob k1 (by intro z; cases z)) (ne_of h.ob h.tb (by intro z; cases z)) (ne_of h.ob hl (by intro z; cases z))
  or_ := by rw [List.map_append]; exact zo
  pa := by rw [List.map_append]; exact zp
  kd := by
    obtain ⟨ks, k1, k2, k3, k4⟩ := h.kd
    obtain ⟨ks', z1, z2, kv0, m0, e0, e0'⟩ := zk
    rw [k1] at z2
    cases z2
    have nk : (Sum.inr r.name : Key) ∉ ks.map (·.1) := fun m => by
      rw [k2] at m
      rcases List.mem_cons.mp m with e | m
      · exact hn0 (Sum.inr.inj e)
      · obtain ⟨q, hq, e⟩ := List.mem_map.mp m
        exact hst q hq (Sum.inr.inj e)
    have nl : ∀ kv ∈ ks, kv.2 ≠ .ref l := fun kv m e => by
      obtain ⟨c, e1, e2, _⟩ := k3 kv m
      rw [e1] at e
      injection e with e
      rw [e, hln] at e2
      cases e2
    refine ⟨_, z1, by rw [List.map_append, k2, List.map_append]; rfl, fun kv hkv => ?_, fun kv hkv kv2 hkv2 => ?_⟩
    · rcases List.mem_append.mp hkv with m | m
      · obtain ⟨c, e1, e2, e3, e4⟩ := k3 kv m
        rw [kids_snoc, List.map_append]
        by_cases c1 : c = l'
        · have ek : kv.1 = kv0.1 := (k4 kv m kv0 m0).mpr (by rw [e1, c1, e0'])
          refine ⟨c, e1, ?_, e3, e4⟩
          rw [c1, zl', ek, e0, if_pos rfl]
          rfl
        · have ek : ¬ (Sum.inr r.above : Key) = kv.1 := fun z => by
            have := (k4 kv m kv0 m0).mp (by rw [← z, e0])
            rw [e1, e0'] at this
            injection this with this
            exact c1 this
          refine ⟨c, e1, ?_, e3, e4⟩
          rw [if_neg ek]
          simpa using hz _ _ e2 e3 (ne_of e2 h.pa (by intro z; cases z)) (ne_of e2 k1 (by intro z; cases z)) (ne_of e2 h.tb (by intro z; cases z)) c1
      · cases List.mem_singleton.mp m
        refine ⟨l, rfl, ?_, hll.1, hll.2⟩
        show Hz l = some (.lst ((kidsOf (rows ++ [r]) (Sum.inr r.name)).map .str))
        rw [kids_none (fun q hq => by
          rcases List.mem_append.mp hq with q1 | q1
          · exact hk0 q q1
          · rw [List.mem_singleton.mp q1]
            exact hab)]
        exact zl
    · rcases List.mem_append.mp hkv with m | m <;> rcases List.mem_append.mp hkv2 with m2 | m2
      · exact k4 kv m kv2 m2
      · rw [List.mem_singleton.mp m2]
        exact ⟨fun e => absurd (List.mem_map.mpr ⟨kv, m, e⟩) nk, fun e => absurd e (nl kv m)⟩
      · rw [List.mem_singleton.mp m]
        exact ⟨fun e => absurd (List.mem_map.mpr ⟨kv2, m2, e.symm⟩) nk, fun e => absurd e.symm (nl kv2 m2)⟩
      · rw [List.mem_singleton.mp m, List.mem_singleton.mp m2]
        exact ⟨fun _ => rfl, fun _ => rfl⟩
  tb := zt
  td := paired_snoc ⟨rfl, D, rfl, hD⟩ (paired_monoM (fun kv q hq z => by
    obtain ⟨e1, d, e2, e3, e4, e5, e6, e7⟩ := z
    refine ⟨e1, d, e2, e3, e4, e5, e6, tkk.full (ok q hq) ?_ e7⟩
    obtain ⟨fk, f1, f2⟩ := e7
    rw [f1]
    exact hz _ _ f1 (ne_of f1 h.or_ (by intro z; cases z)) e4 e5 e6 (ne_of f1 hl (by intro z; cases z))) h.td)
  ne := h.ne
theorem names_nd {rows : List RowM} (h : RowsOk rows) : ∀ i, ((rows.take i).map (·.name)).Nodup
  | 0 => List.nodup_nil
  | i + 1 => by
    have ih := names_nd h i
    rw [List.take_add_one]
    cases e : rows[i]? with
    | none => simpa using ih
    | some r =>
      rw [Option.toList_some, List.map_append]
      refine List.nodup_append.mpr ⟨ih, by simp, fun a ha b hb => ?_⟩
      obtain ⟨q, hq, rfl⟩ := List.mem_map.mp ha
      cases List.mem_singleton.mp hb
      exact (h i r e).2.2.1 q hq
section
variable {P : Program} {w : World} {K : PySem.W.Frag} {mg : Str → Option Value} {base : Heap} {aL C : Addr} {left : List (Key × V)}
/-- the rule for a def with defaults that lets nothing out -/
theorem fund_ok {x qual : Str} {params : Arguments} {body : List Stmt} {scope : Scope} {dvs : List V} {kws : List (Str × V)} {f : Addr} {fd : FuncData} {N ps : List Str} {k : Nat} {sp : Sp} (F : FunD K x qual params body scope dvs kws f fd) (S : FnScope N ps scope) (len : ∀ vs H Q E, sp vs H Q E → vs.length = ps.length)
    (hbody : ∀ (cdv : Value) (A : Around) (outer : List Env) (s : Shared) (H : Hp) (vs : List V) (Q : VK) (E : XK), Room k (A.deeper (PyProof.Rows.envOfC qual scope s.heap.objs.size f cdv)) → sp vs H Q E →
      ∃ t, PSs (cxOf CX0 P w K mg base N qual scope f cdv A outer s H E).nox body t ∧ t { nx := fun _ H' => Q .non H', rt := Q } (start N vs) H) : FnOk P w K mg base CX0 (k + 1) f fd ps sp :=
  F.ok S len fun cdv A outer s H vs Q E hr h => let ⟨t, h1, h2⟩ := hbody cdv A outer s H vs Q E hr h; ⟨t, h1.nox, h2⟩
theorem ok_init {f g e : Addr} {fd gd ed : FuncData} (F : FunD K "__init__" "Tree.__init__" (defArgs sInit) (defBody sInit) (defScope sInit) [.bl false] [] f fd) (T : TP P w K mg aL left) (TCl : TC K mg C) (hLV : ∀ H, Paired (PV K H) left leftD) (cG : Cal P w K mg base "is_group_row" ["thing"] 6 (spIsGroupRow K) g gd) (cM : Cal P w K mg base "may_stand" ["tree", "row"] 2 (spMayStand K C) e ed) :
    FnOk P w K mg base CX0 7 f fd ["self", "rows", "handing"] (spInit K C) := by
  refine fund_ok F scInit (fun vs H Q E h => ?_) (fun cdv A outer s H vs Q E hr h => ?_)
  · obtain ⟨H0, p, dx, a, xs, rows, b, rfl, _⟩ := h
    rfl
  obtain ⟨H0, p, dx, a, xs, rows, b, rfl, s0, p0, hp, ha, hrows, hok, hlen, q⟩ := h
  have hu := hu_of hr
  refine ⟨_, (pss_cons (ps_if (pt_not (pt_val (pe_callB call_isi (by rfl) T.z_isinstance (by decide +kernel) (pa_cons (pv 1) (pa_cons (pe_bltn (v := .ty "list") (u := .type "list") (by rfl) T.z_list (by decide +kernel) rfl) pa_nil))))) (pss_one ps_never) pss_nil) (pss_cons (ps_fld (pv 0) (pe_lst pa_nil) rfl) (pss_cons (ps_fld (pv 0) pe_dnewK rfl) (pss_cons (ps_fld (pv 0) (pe_disp (pps_cons pe_str (pe_lst pa_nil) pps_nil) (by rfl) (by rfl) (fun z => by cases z) (by decide)) rfl) (pss_cons (ps_fld (pv 0) pe_dnewK rfl) (pss_cons (ps_for PassesOwn.never rfl (pi_enum (by rfl) T.z_enumerate (pa_cons (pv 1) pa_nil)) (pg_tup (by rfl) (pgs_cons (pg_name (i := 3) scInit.nd rfl (Or.inl rfl)) (pgs_cons (pg_name (i := 4) scInit.nd rfl (Or.inl rfl)) pgs_nil))) (pss_cons (ps_if (PW.pt (pw_or (pt_not (pt_val (pe_call cG.ok (hr.mono (by decide)) rfl cG.mg cG.kp cG.bd .nil pass0 (pa_cons (pv 4) pa_nil)))) (pw_or1 (pt_not (pt_val (pe_call cM.ok (hr.mono (by decide)) rfl cM.mg cM.kp cM.bd .nil pass0 (pa_cons (pv 0) (pa_cons (pv 4) pa_nil)))))))) (pss_one ps_never) pss_nil) (pss_cons (ps_asg (pv 4) (pg_tup (by rfl) (pgs_cons (pg_name (i := 5) scInit.nd rfl (Or.inl rfl)) (pgs_cons (pg_name (i := 6) scInit.nd rfl (Or.inl rfl)) (pgs_cons (pg_name (i := 7) scInit.nd rfl (Or.inl rfl)) pgs_nil))))) (pss_cons (ps_expr (pe_bm PySem.F.plainAttrs_list PySem.F.slot_list_append PySem.F.type_list_append mt_append (pe_fld (pv 0) rfl) (pa_cons (pv 5) pa_nil))) (pss_cons (ps_dput hu (pe_fld (pv 0) rfl) (pv 5) (pv 6) rfl) (pss_cons (ps_dput hu (pe_fld (pv 0) rfl) (pv 5) (pe_lst pa_nil) rfl) (pss_cons (ps_expr (pe_bm PySem.F.plainAttrs_list PySem.F.slot_list_append PySem.F.type_list_append mt_append (pe_dget hu (pe_fld (pv 0) rfl) (pv 6) (fun _ _ => rfl)) (pa_cons (pv 5) pa_nil))) (pss_one (ps_dput hu (pe_fld (pv 0) rfl) (pv 5) (pe_both (pe_callTy call_dictK (by rfl) T.z_dict (by decide +kernel) (pa_cons (pe_glob (v := .ref aL) rfl T.g_LEFT_OUT rfl) pa_nil)) (pe_callTy (call_dictT rfl) (by rfl) T.z_dict (by decide +kernel) (pa_cons (pv 7) pa_nil))) rfl))))))))) (pss_cons (ps_if (pt_not (pt_val (pe_callB call_isi (by rfl) T.z_isinstance (by decide +kernel) (pa_cons (pv 2) (pa_cons (pe_bltn (v := .ty "bool") (u := .type "bool") (by rfl) T.z_bool (by decide +kernel) rfl) pa_nil))))) (pss_one ps_never) pss_nil) (pss_one (ps_fld (pv 0) (pv 2) rfl))))))))), ?_⟩
  refine ⟨_, rfl, _, _, _, _, true, rfl, .ty _, (.base (.lst (s0 _ _ ha))), kit_ty (by decide +kernel), true, rfl, ?_⟩
  refine iteF ?_
  -- the empty tables
  refine ⟨Nat.zero_le _, fun po hpo => ?_⟩
  have npo : p ≠ po := ne_of_none hp hpo
  refine ⟨_, rfl, p, C, dx, [], rfl, (by rw [upd_ne npo]; exact hp), TCl.cl, TCl.n_order, (by show 0 < 1000; decide), ?_⟩
  intro pp hpp
  obtain ⟨npp1, hpp1⟩ := none_upd hpp
  obtain ⟨npp2, hpp2⟩ := none_upd hpp1
  refine ⟨_, rfl, p, C, dx, _, rfl, (by rw [upd_ne npp1.symm]; exact upd_same), TCl.cl, TCl.n_parents, (by show 1 < 1000; decide), ?_⟩
  rw [putF_two]
  intro pk hpk
  obtain ⟨npk1, hpk1⟩ := none_upd hpk
  obtain ⟨npk2, hpk2⟩ := none_upd hpk1
  obtain ⟨npk3, hpk3⟩ := none_upd hpk2
  obtain ⟨npk4, hpk4⟩ := none_upd hpk3
  refine ⟨Nat.zero_le _, fun l0 hl0 => ?_⟩
  obtain ⟨nl1, hl1⟩ := none_upd hl0
  obtain ⟨nl2, hl2⟩ := none_upd hl1
  obtain ⟨nl3, hl3⟩ := none_upd hl2
  obtain ⟨nl4, hl4⟩ := none_upd hl3
  obtain ⟨nl5, hl5⟩ := none_upd hl4
  refine ⟨by rw [upd_ne nl1.symm]; exact upd_same, [(Sum.inr "", .ref l0)], rfl, by show 1 ≤ 15; decide, ?_⟩
  refine ⟨_, rfl, p, C, dx, _, rfl, (by rw [upd_ne npk1.symm, upd_ne nl2.symm, upd_ne npk1.symm]; exact upd_same), TCl.cl, TCl.n_kids, (by show 2 < 1000; decide), ?_⟩
  rw [putF_three]
  intro pt hpt
  obtain ⟨npt1, hpt1⟩ := none_upd hpt
  obtain ⟨npt2, hpt2⟩ := none_upd hpt1
  obtain ⟨npt3, hpt3⟩ := none_upd hpt2
  obtain ⟨npt4, hpt4⟩ := none_upd hpt3
  obtain ⟨npt5, hpt5⟩ := none_upd hpt4
  obtain ⟨npt6, hpt6⟩ := none_upd hpt5
  obtain ⟨npt7, hpt7⟩ := none_upd hpt6
  refine ⟨_, rfl, p, C, dx, _, rfl, (by rw [upd_ne npt1.symm]; exact upd_same), TCl.cl, TCl.n_table, (by show 3 < 1000; decide), ?_⟩
  rw [putF_four]
  have xl : xs.length = rows.length := Paired.length hrows
  refine ⟨_, rfl, a, xs, rfl, ?_, for_it walk_enum (fun i σ H' => ∃ (tk : List (Key × V)) (o3 o4 o5 o6 o7 : Option V), σ = [some (.ref p), some (.ref a), some (.bl b), o3, o4, o5, o6, o7] ∧ PartAt K H0 H' C p dx po pp pk pt (rows.take i) tk)
    ⟨[], none, none, none, none, none, rfl, ?_⟩ (fun i σ H' _ ⟨_, _, _, _, _, _, _, h⟩ => SqL.of (h.same _ _ ha)) ?_ ?_⟩
  · have := s0 _ _ ha
    have z1 := ne_of_none this hpo
    have z2 := ne_of this hp (by intro z; cases z)
    have z3 := ne_of_none this hpp2
    have z4 := ne_of_none this hpk4
    have z5 := ne_of_none this hl5
    have z6 := ne_of_none this (none_upd hpt7).2
    refine SqL.of ?_
    simp only [upd, if_neg z1, if_neg z2, if_neg z3, if_neg z4, if_neg z5, if_neg z6]
    exact this
  · have npt8 := (none_upd hpt7).1
    have hpt8 := (none_upd hpt7).2
    refine ⟨fun b2 o2 hb => ?_, ⟨p0, s0.free hpo, s0.free hpp2, s0.free hpk4, s0.free hpt8⟩, upd_same, ?_, ?_, ⟨[(Sum.inr "", .ref l0)], ?_, rfl, fun kv hkv => ?_, fun kv hkv kv2 hkv2 => ?_⟩, ?_, .nil, npk2.symm, npt6.symm, npt2.symm⟩
    · have hb' := s0 _ _ hb
      have a1 := ne_of_none hb p0
      have a2 := ne_of_none hb' hpt8
      have a3 := ne_of_none hb' hpk4
      have a4 := ne_of_none hb' hl5
      have a5 := ne_of_none hb' hpp2
      have a6 := ne_of_none hb' hpo
      rw [upd_ne a1, upd_ne a2, upd_ne a1, upd_ne a3, upd_ne a4, upd_ne a3, upd_ne a1, upd_ne a5, upd_ne a1, upd_ne a6]
      exact hb'
    · rw [upd_ne npo.symm, upd_ne npt8.symm, upd_ne npo.symm, upd_ne npk4.symm, upd_ne nl5.symm, upd_ne npk4.symm, upd_ne npo.symm, upd_ne npp2.symm, upd_ne npo.symm]
      exact upd_same
    · rw [upd_ne npp1, upd_ne npt6.symm, upd_ne npp1, upd_ne npk2.symm, upd_ne nl3.symm, upd_ne npk2.symm, upd_ne npp1]
      exact upd_same
    · rw [upd_ne npk1, upd_ne npt2.symm, upd_ne npk1]
      exact upd_same
    · cases List.mem_singleton.mp hkv
      refine ⟨l0, rfl, ?_, nl5, s0.free hl5⟩
      rw [upd_ne nl2, upd_ne npt3.symm, upd_ne nl2, upd_ne nl1]
      exact upd_same
    · cases List.mem_singleton.mp hkv
      cases List.mem_singleton.mp hkv2
      exact ⟨fun _ => rfl, fun _ => rfl⟩
    · rw [upd_ne npt1]
      exact upd_same
  · rintro i v σ H1 H2 hi ⟨tk, o3, o4, o5, o6, o7, rfl, hP⟩ ⟨TT, x, y, rfl, hTT, rfl, hx, hy⟩
    have P1 := hP.grow (Same.new (Same.refl H1) hTT (.tup [x, y]))
    obtain ⟨r, hr1, hrow⟩ := paired_get hrows hy
    obtain ⟨hn, hd, hst⟩ := hok i r hr1
    refine ⟨TT, _, rfl, SqT.of upd_same, rfl, _, _, rfl, _, _, rfl, rfl, ?_⟩
    refine ⟨_, rfl, y, r, rfl, RowAt.same P1.same hrow, hn, hd, fun H3 s3 => ?_⟩
    refine ⟨true, rfl, ?_⟩
    refine iteF ?_
    have P2 := P1.grow s3
    refine ⟨_, rfl, _, rfl, H0, p, dx, po, pp, pk, pt, rows.take i, tk, y, r, rfl, P2, RowAt.same P2.same hrow, hst, ?_, ?_, fun H4 s4 => ?_⟩
    · exact names_nd hok i
    · intro q2 hq2 e
      obtain ⟨m, hm⟩ := List.mem_iff_getElem?.mp (List.mem_of_mem_take hq2)
      have := (hok m q2 hm).1.1
      rw [e] at this
      exact absurd this (by decide +kernel)
    refine ⟨true, rfl, ?_⟩
    refine iteF ?_
    have P3 := P2.grow s4
    obtain ⟨ra, t, rfl, hra, hdues⟩ := RowAt.same P3.same hrow
    refine ⟨_, rfl, ra, _, rfl, hra, rfl, _, _, rfl, _, _, rfl, _, _, rfl, rfl, ?_⟩
    -- self.order.append(name)
    refine ⟨_, rfl, p, C, dx, _, _, rfl, P3.ob, TCl.cl, TCl.n_order, tf4_order, .inl ⟨rfl, _, SqL.of P3.or_⟩, _, rfl, po, _, _, rfl, rfl, P3.or_, ?_, ?_⟩
    · rw [List.length_map, List.length_take]
      exact small1000 (by omega)
    obtain ⟨ks, k1, k2, k3, k4⟩ := P3.kd
    have n_p_o := ne_of P3.ob P3.or_ (by intro z; cases z)
    have n_pp_o := ne_of P3.pa P3.or_ (by intro z; cases z)
    have n_pk_o := ne_of k1 P3.or_ (by intro z; cases z)
    have n_pt_o := ne_of P3.tb P3.or_ (by intro z; cases z)
    have n_p_pp := ne_of P3.ob P3.pa (by intro z; cases z)
    have n_p_pk := ne_of P3.ob k1 (by intro z; cases z)
    have n_p_pt := ne_of P3.ob P3.tb (by intro z; cases z)
    have n_pp_pk := P3.ne.1
    have n_pp_pt := P3.ne.2.1
    have n_pk_pt := P3.ne.2.2
    have lt : (rows.take i).length ≤ 200 := by
      rw [List.length_take]
      omega
    have tkl : tk.length = (rows.take i).length := Paired.length P3.td
    have ksl : ks.length = (rows.take i).length + 1 := by
      have := congrArg List.length k2
      simpa using this
    -- self.parents[name] = above
    refine ⟨_, rfl, _, rfl, p, C, dx, _, _, rfl, (upd_ne n_p_o).trans P3.ob, TCl.cl, TCl.n_parents, tf4_parents, _, rfl, pp, _, rfl, DPut.k (k := Sum.inr r.name) ((upd_ne n_pp_o).trans P3.pa) ?_, ?_⟩
    · rw [List.length_map]
      exact small1000 (by omega)
    -- self.kids[name] = []
    refine ⟨Nat.zero_le _, fun l hl => ?_⟩
    obtain ⟨nl_pp, hlA⟩ := none_upd hl
    obtain ⟨nl_o, hlB⟩ := none_upd hlA
    have nl_p : l ≠ p := (ne_of_none P3.ob hlB).symm
    have nl_pk : l ≠ pk := (ne_of_none k1 hlB).symm
    have nl_pt : l ≠ pt := (ne_of_none P3.tb hlB).symm
    refine ⟨_, rfl, p, C, dx, _, _, rfl, (upd_ne nl_p.symm).trans ((upd_ne n_p_pp).trans ((upd_ne n_p_o).trans P3.ob)), TCl.cl, TCl.n_kids, tf4_kids, _, rfl, pk, _, rfl,
      DPut.k (k := Sum.inr r.name) ((upd_ne nl_pk.symm).trans ((upd_ne n_pp_pk.symm).trans ((upd_ne n_pk_o).trans k1))) (small1000 (by omega)), ?_⟩
    -- self.kids[above].append(name)
    have hab : r.above ≠ r.name := by
      rcases hst.2 with e | ⟨q2, hq2, e, _⟩
      · intro z
        have := hn.1
        rw [← z, e] at this
        exact absurd this (by decide +kernel)
      · intro z
        exact hst.1 q2 hq2 (e.trans z)
    obtain ⟨l2, lx, hkv, hl2, hl2o, hl20, hlx, hlxe, hkvm⟩ : ∃ l2 lx, valV ks (Sum.inr r.above : Key) = some (.ref l2) ∧ H4 l2 = some (.lst lx) ∧ l2 ≠ po ∧ H0 l2 = none ∧ lx.length ≤ (rows.take i).length ∧ lx = (kidsOf (rows.take i) (Sum.inr r.above)).map .str ∧ ∃ kv ∈ ks, kv.1 = (Sum.inr r.above : Key) ∧ kv.2 = .ref l2 := by
      have hin : (Sum.inr r.above : Key) ∈ ks.map (·.1) := by
        rw [k2]
        rcases hst.2 with e | ⟨q, hq, e, _⟩
        · rw [e]
          exact List.mem_cons_self
        · exact List.mem_cons_of_mem _ (List.mem_map.mpr ⟨q, hq, by rw [e]⟩)
      cases hv : valV ks (Sum.inr r.above : Key) with
      | none => exact absurd hin (valV_not hv)
      | some v =>
        unfold valV at hv
        obtain ⟨kv, hf, he⟩ := Option.map_eq_some_iff.mp hv
        obtain ⟨c, e1, e2, e3, e4⟩ := k3 kv (List.mem_of_find?_eq_some hf)
        have ek : kv.1 = (Sum.inr r.above : Key) := by
          have := List.find?_some hf
          simpa using this
        rw [ek] at e2
        refine ⟨c, _, by rw [← he, e1], e2, e3, e4, ?_, rfl, kv, List.mem_of_find?_eq_some hf, ek, e1⟩
        rw [List.length_map]
        exact kids_le _ _
    have hkv2 : valV (putK ks (Sum.inr r.name : Key) (.ref l)) (Sum.inr r.above : Key) = some (.ref l2) := by
      rw [valV_put, if_neg (fun z => hab (Sum.inr.inj z))]
      exact hkv
    have n_l2_l : l2 ≠ l := ne_of_none hl2 hlB
    have n_l2_pp := ne_of hl2 P3.pa (by intro z; cases z)
    have n_l2_pk := ne_of hl2 k1 (by intro z; cases z)
    have n_l2_p := ne_of hl2 P3.ob (by intro z; cases z)
    have n_l2_pt := ne_of hl2 P3.tb (by intro z; cases z)
    have c_l2 : ∀ o1 o2 o3 o4, upd (upd (upd (upd H4 po o1) pp o2) l o3) pk o4 l2 = some (.lst lx) := fun o1 o2 o3 o4 => by
      rw [upd_ne n_l2_pk, upd_ne n_l2_l, upd_ne n_l2_pp, upd_ne hl2o]
      exact hl2
    refine ⟨_, rfl, p, C, dx, _, _, rfl, (upd_ne n_p_pk).trans ((upd_ne nl_p.symm).trans ((upd_ne n_p_pp).trans ((upd_ne n_p_o).trans P3.ob))), TCl.cl, TCl.n_kids, tf4_kids, _, rfl, pk, _, rfl,
      dget_of upd_same hkv2, .inl ⟨rfl, _, SqL.of (c_l2 _ _ _ _)⟩, _, rfl, l2, _, _, rfl, rfl, c_l2 _ _ _ _, small1000 (by omega), ?_⟩
    -- self.table[name] = both
    refine fun D hD => ⟨aL, left, rfl, T.tab, fun d1 h1 => ?_⟩
    obtain ⟨nD_l2, hD1⟩ := none_upd hD
    obtain ⟨nD_pk, hD2⟩ := none_upd hD1
    obtain ⟨nD_l, hD3⟩ := none_upd hD2
    obtain ⟨nD_pp, hD4⟩ := none_upd hD3
    obtain ⟨nD_o, hD5⟩ := none_upd hD4
    have nD_p : D ≠ p := (ne_of_none P3.ob hD5).symm
    have nD_pt : D ≠ pt := (ne_of_none P3.tb hD5).symm
    obtain ⟨n1_D, h11⟩ := none_upd h1
    obtain ⟨n1_l2, h12⟩ := none_upd h11
    obtain ⟨n1_pk, h13⟩ := none_upd h12
    obtain ⟨n1_l, h14⟩ := none_upd h13
    obtain ⟨n1_pp, h15⟩ := none_upd h14
    obtain ⟨n1_o, h16⟩ := none_upd h15
    have n1_p : d1 ≠ p := (ne_of_none P3.ob h16).symm
    have n1_pt : d1 ≠ pt := (ne_of_none P3.tb h16).symm
    have t8 := ((((((TK.lst P3.or_ (.lst (List.map (fun r => V.str r.name) (List.take i rows) ++ [V.str r.name]))).trans (TK.dk ((upd_ne n_pp_o).trans P3.pa) _)).trans (TK.new hl _)).trans (TK.dk ((upd_ne nl_pk.symm).trans ((upd_ne n_pp_pk.symm).trans ((upd_ne n_pk_o).trans k1))) _)).trans (TK.lst (c_l2 _ _ _ _) _)).trans (TK.new hD _)).trans (TK.new h1 (.dK left))
    have t9 := t8.trans (TK.dk ((upd_ne n1_D.symm).trans upd_same) (.dK (mergeK [] left)))
    obtain ⟨ps, f1, f2⟩ := t9.dues hd hdues
    obtain ⟨dk, g1, g2⟩ := dk_of_dues f2
    have dkl : dk.length ≤ 8 := by
      have e := Paired.length g2
      have := words_few hd.1 fun du hdu => (hd.2 du hdu).1
      omega
    have lefl : left.length = 8 := by
      have := congrArg List.length T.keys
      rw [List.length_map, List.length_map] at this
      exact this
    have mdl : (mergeK [] dk).length ≤ 8 := by
      have := length_mergeK dk []
      rw [List.length_nil] at this
      omega
    refine ⟨d1, left, rfl, (upd_ne n1_D.symm).trans upd_same, upd_same, n1_D.symm, ?_⟩
    refine ⟨_, rfl, t, ps, dk, rfl, f1, g1, fun d2 h2 => ?_⟩
    obtain ⟨n2_D, h21⟩ := none_upd h2
    obtain ⟨n2_1, h22⟩ := none_upd h21
    obtain ⟨_, h23⟩ := none_upd h22
    obtain ⟨n2_l2, h24⟩ := none_upd h23
    obtain ⟨n2_pk, h25⟩ := none_upd h24
    obtain ⟨n2_l, h26⟩ := none_upd h25
    obtain ⟨n2_pp, h27⟩ := none_upd h26
    obtain ⟨n2_o, h28⟩ := none_upd h27
    have n2_p : d2 ≠ p := (ne_of_none P3.ob h28).symm
    have n2_pt : d2 ≠ pt := (ne_of_none P3.tb h28).symm
    refine ⟨d2, mergeK [] dk, rfl, (upd_ne n2_D.symm).trans upd_same, upd_same, n2_D.symm, by omega, ?_⟩
    have t10 := (t9.trans (TK.new h2 (.dK (mergeK [] dk)))).trans (TK.dk ((upd_ne n2_D.symm).trans upd_same) (.dK (mergeK (mergeK [] left) (mergeK [] dk))))
    have e_p : ∀ o1 o2 o3 o4 o5 o6 o7 o8 o9 o10, upd (upd (upd (upd (upd (upd (upd (upd (upd (upd H4 po o1) pp o2) l o3) pk o4) l2 o5) D o6) d1 o7) D o8) d2 o9) D o10 p = some (.ins C dx (tf4 po pp pk pt)) := fun o1 o2 o3 o4 o5 o6 o7 o8 o9 o10 => by
      rw [upd_ne nD_p.symm, upd_ne n2_p.symm, upd_ne nD_p.symm, upd_ne n1_p.symm, upd_ne nD_p.symm, upd_ne n_l2_p.symm, upd_ne n_p_pk, upd_ne nl_p.symm, upd_ne n_p_pp, upd_ne n_p_o]
      exact P3.ob
    have e_pt : ∀ o1 o2 o3 o4 o5 o6 o7 o8 o9 o10, upd (upd (upd (upd (upd (upd (upd (upd (upd (upd H4 po o1) pp o2) l o3) pk o4) l2 o5) D o6) d1 o7) D o8) d2 o9) D o10 pt = some (.dK tk) := fun o1 o2 o3 o4 o5 o6 o7 o8 o9 o10 => by
      rw [upd_ne nD_pt.symm, upd_ne n2_pt.symm, upd_ne nD_pt.symm, upd_ne n1_pt.symm, upd_ne nD_pt.symm, upd_ne n_l2_pt.symm, upd_ne n_pk_pt.symm, upd_ne nl_pt.symm, upd_ne n_pp_pt.symm, upd_ne n_pt_o]
      exact P3.tb
    refine ⟨_, rfl, p, C, dx, _, _, rfl, e_p _ _ _ _ _ _ _ _ _ _, TCl.cl, TCl.n_table, tf4_table, _, rfl, pt, _, rfl, DPut.k (k := Sum.inr r.name) (e_pt _ _ _ _ _ _ _ _ _ _) (small1000 (by omega)), ?_⟩
    have nm : ∀ q ∈ rows.take i, q.name ≠ r.name := hst.1
    have tknew : putK tk (Sum.inr r.name : Key) (V.ref D) = tk ++ [(Sum.inr r.name, .ref D)] := by
      refine putK_new _ (keys_none fun m => ?_)
      rw [td_keys (fun _ _ z => z.1) P3.td] at m
      obtain ⟨q, hq, e⟩ := List.mem_map.mp m
      exact nm q hq (Sum.inr.inj e)
    have ksnew : putK ks (Sum.inr r.name : Key) (V.ref l) = ks ++ [(Sum.inr r.name, .ref l)] := by
      refine putK_new _ (keys_none fun m => ?_)
      rw [k2] at m
      rcases List.mem_cons.mp m with e | m
      · have := hn.1
        rw [Sum.inr.inj e] at this
        exact absurd this (by decide +kernel)
      · obtain ⟨q, hq, e⟩ := List.mem_map.mp m
        exact nm q hq (Sum.inr.inj e)
    have panew : putK (List.map (fun r => ((Sum.inr r.name : Key), V.str r.above)) (rows.take i)) (Sum.inr r.name : Key) (V.str r.above) = List.map (fun r => ((Sum.inr r.name : Key), V.str r.above)) (rows.take i) ++ [(Sum.inr r.name, .str r.above)] := by
      refine putK_new _ (keys_none fun m => ?_)
      rw [List.map_map] at m
      obtain ⟨q, hq, e⟩ := List.mem_map.mp m
      exact nm q hq (Sum.inr.inj e)
    have t11 := t10.trans (TK.dk (e_pt _ _ _ _ _ _ _ _ _ _) (.dK (tk ++ [(Sum.inr r.name, .ref D)])))
    refine ⟨tk ++ [(Sum.inr r.name, .ref D)], _, _, _, _, _, rfl, ?_⟩
    rw [List.take_add_one, hr1, Option.toList_some, tknew, ksnew, panew]
    rw [ksnew, panew] at t11
    subst hlxe
    have hn0 : r.name ≠ "" := fun z => by
      have := hn.1
      rw [z] at this
      exact absurd this (by decide +kernel)
    have hk0 : ∀ q ∈ rows.take i, q.above ≠ r.name := fun q hq z => by
      obtain ⟨m, hm⟩ := List.mem_iff_getElem?.mp hq
      have hmi : m < i := by
        have := (List.getElem?_eq_some_iff.mp hm).1
        rw [List.length_take] at this
        omega
      rw [List.getElem?_take_of_lt hmi] at hm
      rcases (hok m q hm).2.2.2 with e | ⟨q2, hq2, e, _⟩
      · exact hn0 (z.symm.trans e)
      · refine hst.1 q2 ?_ (e.trans z)
        obtain ⟨m2, hm2⟩ := List.mem_iff_getElem?.mp hq2
        have hmi2 : m2 < m := by
          have := (List.getElem?_eq_some_iff.mp hm2).1
          rw [List.length_take] at this
          omega
        rw [List.getElem?_take_of_lt hmi2] at hm2
        exact List.mem_iff_getElem?.mpr ⟨m2, by rw [List.getElem?_take_of_lt (by omega)]; exact hm2⟩
    refine part_step (l := l) (l' := l2) (D := D) P3 (fun q hq => ?_) t11 (fun b2 o2 hb b1 b2' b3 b4 b5 => ?_) hl20 hl2o hl2 hn0 hst.1 hk0 hab hlB ?_ ?_ ⟨ks, ?_, k1, hkvm⟩ ?_ ⟨nl_o, P3.same.free hlB⟩ ?_ upd_same ⟨P3.same.free hD5, nD_pp, nD_pk, nD_pt, ?_⟩
    · obtain ⟨m, hm⟩ := List.mem_iff_getElem?.mp (List.mem_of_mem_take hq)
      exact (hok m q hm).2.1
    · rw [upd_ne b4, upd_ne (ne_of_none hb hD5), upd_ne (ne_of_none hb h28), upd_ne (ne_of_none hb hD5), upd_ne (ne_of_none hb h16), upd_ne (ne_of_none hb hD5), upd_ne b5, upd_ne b3, upd_ne (ne_of_none hb hlB), upd_ne b2', upd_ne b1]
      exact hb
    · rw [upd_ne n_pt_o.symm, upd_ne nD_o.symm, upd_ne n2_o.symm, upd_ne nD_o.symm, upd_ne n1_o.symm, upd_ne nD_o.symm, upd_ne hl2o.symm, upd_ne n_pk_o.symm, upd_ne nl_o.symm, upd_ne n_pp_o.symm]
      exact upd_same
    · rw [upd_ne n_pp_pt, upd_ne nD_pp.symm, upd_ne n2_pp.symm, upd_ne nD_pp.symm, upd_ne n1_pp.symm, upd_ne nD_pp.symm, upd_ne n_l2_pp.symm, upd_ne n_pp_pk, upd_ne nl_pp.symm]
      exact upd_same
    · rw [upd_ne n_pk_pt, upd_ne nD_pk.symm, upd_ne n2_pk.symm, upd_ne nD_pk.symm, upd_ne n1_pk.symm, upd_ne nD_pk.symm, upd_ne n_l2_pk.symm]
      exact upd_same
    · rw [upd_ne nl_pt, upd_ne nD_l.symm, upd_ne n2_l.symm, upd_ne nD_l.symm, upd_ne n1_l.symm, upd_ne nD_l.symm, upd_ne n_l2_l.symm, upd_ne nl_pk]
      exact upd_same
    · rw [upd_ne n_l2_pt, upd_ne nD_l2.symm, upd_ne n2_l2.symm, upd_ne nD_l2.symm, upd_ne n1_l2.symm, upd_ne nD_l2.symm]
      exact upd_same
    · have t12 := ((TK.new h2 (.dK (mergeK [] dk))).trans (TK.dk ((upd_ne n2_D.symm).trans upd_same) (.dK (mergeK (mergeK [] left) (mergeK [] dk))))).trans (TK.dk (e_pt _ _ _ _ _ _ _ _ _ _) (.dK (tk ++ [(Sum.inr r.name, .ref D)])))
      have g3 := g2
      rw [ksnew, panew] at t12 g3
      exact ⟨_, (upd_ne nD_pt).trans upd_same, full_of (hLV _) (paired_monoM (fun kv du hm z => ⟨z.1, t12.val (hd.2 du hm).2 z.2⟩) g3) hd⟩
  · rintro σ H1 ⟨tk, o3, o4, o5, o6, o7, rfl, hP⟩
    rw [xl, List.take_length] at hP
    refine ⟨_, rfl, _, _, _, _, true, rfl, .ty _, .base (.bl b), kit_ty (by decide +kernel), true, rfl, ?_⟩
    refine iteF ?_
    refine ⟨_, rfl, _, rfl, p, C, dx, _, rfl, hP.ob, TCl.cl, TCl.n_hands, (by show 4 < 1000; decide), ?_⟩
    show Q .non (upd H1 p (.ins C dx (putF "hands" (.bl b) [("order", V.ref po), ("parents", .ref pp), ("kids", .ref pk), ("table", .ref pt)])))
    rw [putF_five]
    have tkk : TK H1 (upd H1 p (.ins C dx (tf5 po pp pk pt b))) := TK.ins hP.ob _
    refine q _ tk (fun b2 o2 hb => ?_) ⟨dx, po, pp, pk, pt, upd_same, ?_, ?_, ?_, ?_, ?_⟩ ?_
    · rw [upd_ne (ne_of_none hb p0)]
      exact hP.same _ _ hb
    · rw [upd_ne (ne_of hP.or_ hP.ob (by intro z; cases z))]
      exact hP.or_
    · rw [upd_ne (ne_of hP.pa hP.ob (by intro z; cases z))]
      exact hP.pa
    · rw [upd_ne (ne_of hP.tb hP.ob (by intro z; cases z))]
      exact hP.tb
    · refine paired_monoM (fun kv r hr z => ?_) hP.td
      obtain ⟨e1, d, e2, e3, e4, e5, e6, e7⟩ := z
      refine ⟨e1, d, e2, tkk.full ?_ ?_ e7⟩
      · obtain ⟨m, hm⟩ := List.mem_iff_getElem?.mp hr
        exact (hok m r hm).2.1
      · obtain ⟨fk, f1, _⟩ := e7
        rw [upd_ne (ne_of f1 hP.ob (by intro z; cases z))]
    · obtain ⟨ks, k1, k2, k3, _⟩ := hP.kd
      refine ⟨ks, (upd_ne (ne_of k1 hP.ob (by intro z; cases z))).trans k1, k2, fun kv hkv => ?_⟩
      obtain ⟨l, e1, e2, _⟩ := k3 kv hkv
      exact ⟨l, e1, (upd_ne (ne_of e2 hP.ob (by intro z; cases z))).trans e2⟩
    · intro kv hkv
      obtain ⟨m, hm⟩ := List.mem_iff_getElem?.mp hkv
      obtain ⟨r, _, _, d, e2, e3, _⟩ := paired_get hP.td hm
      exact ⟨d, e2, e3⟩

end
end Bd
end

section
namespace Bd
open PySem L2
abbrev sCheckGroup : Stmt := (top 44)
theorem scCheckGroup : FnScope ["tree", "name"] ["tree", "name"] (defScope sCheckGroup) := ⟨rfl, rfl, rfl, by decide +kernel, rfl, by decide +kernel, by decide +kernel⟩
abbrev sTNames : Stmt := (inClass (top 41) 2)
theorem scTNames : FnScope ["self"] ["self"] (defScope sTNames) := ⟨rfl, rfl, rfl, by decide +kernel, rfl, by decide +kernel, by decide +kernel⟩
abbrev sTAbove : Stmt := (inClass (top 41) 3)
theorem scTAbove : FnScope ["self", "name"] ["self", "name"] (defScope sTAbove) := ⟨rfl, rfl, rfl, by decide +kernel, rfl, by decide +kernel, by decide +kernel⟩
abbrev sTKids : Stmt := (inClass (top 41) 4)
theorem scTKids : FnScope ["self", "name"] ["self", "name"] (defScope sTKids) := ⟨rfl, rfl, rfl, by decide +kernel, rfl, by decide +kernel, by decide +kernel⟩
abbrev sTLeaves : Stmt := (inClass (top 41) 5)
theorem scTLeaves : FnScope ["self", "name"] ["self"] (defScope sTLeaves) := ⟨rfl, rfl, rfl, by decide +kernel, rfl, by decide +kernel, by decide +kernel⟩
abbrev sTPath : Stmt := (inClass (top 41) 6)
theorem scTPath : FnScope ["self", "name", "groups"] ["self", "name"] (defScope sTPath) := ⟨rfl, rfl, rfl, by decide +kernel, rfl, by decide +kernel, by decide +kernel⟩
abbrev sTDue : Stmt := (inClass (top 41) 7)
theorem scTDue : FnScope ["self", "name", "word"] ["self", "name", "word"] (defScope sTDue) := ⟨rfl, rfl, rfl, by decide +kernel, rfl, by decide +kernel, by decide +kernel⟩
abbrev sTHanding : Stmt := (inClass (top 41) 8)
theorem scTHanding : FnScope ["self"] ["self"] (defScope sTHanding) := ⟨rfl, rfl, rfl, by decide +kernel, rfl, by decide +kernel, by decide +kernel⟩

/-- a def that may raise, as its callers see it -/
structure CalX (P : Program) (w : World) (K : PySem.W.Frag) (mg : Str → Option Value) (base : Heap) (x : Str) (ps : List Str) (k : Nat) (sp : Sp) (f : Addr) (fd : FuncData) : Prop where
  ok : FnOk P w K mg base (L2.CX P w) k f fd ps sp
  mg : mg x = some (.ref f)
  kp : PySem.W.keepIn K (.ref f) = true
  bd : Binds K fd ps []
/-- an own error without a maker of its own -/
structure XN (K : PySem.W.Frag) (mg : Str → Option Value) (x : Str) (C : Addr) : Prop where
  q : PySem.W.excIn K C [.type "ValueError", .type "Exception", .type "BaseException", .type "object"] "ValueError.__new__" = true
  g : mg x = some (.ref C)
  k : PySem.W.keepIn K (.ref C) = true
  r1 : PySem.W.subIn K (.ref C) (.type "BaseException") = some true
  r2 : PySem.W.typeIn K (.ref C) = some (.type "type")
/-- no text of these -/
def OddN (K : PySem.W.Frag) (H : Hp) (xs : List Str) (v : V) : Prop := (∃ t : String, TyX K H v (.type t) ∧ kitB t "str" = some false) ∨ ∃ x, v = .str x ∧ x ∉ xs
def nms (rows : List RowM) : List Str := rows.map (·.name)
def spCG (K : PySem.W.Frag) (C CN : Addr) : Sp := fun vs H Q E => ∃ (p : Addr) (v : V) (rows : List RowM) (h : Bool) (tk : List (Key × V)), vs = [.ref p, v] ∧ TreeAt K H C p rows h tk ∧
  ((∃ x, v = .str x ∧ x ∈ nms rows ∧ Q .non H) ∨ (OddN K H (nms rows) v ∧ E (.ref CN) none H))
def spTNames (K : PySem.W.Frag) (C : Addr) : Sp := fun vs H Q _ => ∃ (p : Addr) (rows : List RowM) (h : Bool) (tk : List (Key × V)), vs = [.ref p] ∧ TreeAt K H C p rows h tk ∧ ∀ l, H l = none → Q (.ref l) (upd H l (.lst ((nms rows).map .str)))
def spTHanding (K : PySem.W.Frag) (C : Addr) : Sp := fun vs H Q _ => ∃ (p : Addr) (rows : List RowM) (h : Bool) (tk : List (Key × V)), vs = [.ref p] ∧ TreeAt K H C p rows h tk ∧ Q (.bl h) H
def spTAbove (K : PySem.W.Frag) (C CN : Addr) : Sp := fun vs H Q E => ∃ (p : Addr) (v : V) (rows : List RowM) (h : Bool) (tk : List (Key × V)), vs = [.ref p, v] ∧ TreeAt K H C p rows h tk ∧ (nms rows).Nodup ∧
  ((∃ r ∈ rows, v = .str r.name ∧ Q (.str r.above) H) ∨ (OddN K H (nms rows) v ∧ E (.ref CN) none H))
def spTKids (K : PySem.W.Frag) (C CN : Addr) : Sp := fun vs H Q E => ∃ (p : Addr) (v : V) (rows : List RowM) (h : Bool) (tk : List (Key × V)), vs = [.ref p, v] ∧ TreeAt K H C p rows h tk ∧ RowsOk rows ∧
  ((∃ x, v = .str x ∧ x ∈ ("" : Str) :: nms rows ∧ ∀ l, H l = none → Q (.ref l) (upd H l (.lst ((kidsOf rows (Sum.inr x)).map .str)))) ∨ (OddN K H (("" : Str) :: nms rows) v ∧ E (.ref CN) none H))
def spTLeaves (K : PySem.W.Frag) (C : Addr) : Sp := fun vs H Q _ => ∃ (p : Addr) (rows : List RowM) (h : Bool) (tk : List (Key × V)), vs = [.ref p] ∧ TreeAt K H C p rows h tk ∧ RowsOk rows ∧ rows.length ≤ 200 ∧ ∀ l, H l = none → Q (.ref l) (upd H l (.lst ((leavesOf rows).map .str)))
def upOf (rows : List RowM) (x : Str) : Str := ((rows.find? fun r => decide (r.name = x)).map (·.above)).getD ""
def upN (rows : List RowM) : Nat → Str → Str
  | 0, x => x
  | n + 1, x => upOf rows (upN rows n x)
def pathL (rows : List RowM) (x : Str) (m : Nat) : List Str := (List.range m).map fun j => upN rows j x
/-- m steps up to the root, and no fewer -/
def UpM (rows : List RowM) (x : Str) (m : Nat) : Prop := (∀ j < m, upN rows j x ∈ nms rows) ∧ upN rows m x = ""
def spTPath (K : PySem.W.Frag) (C CN : Addr) : Sp := fun vs H Q E => ∃ (p : Addr) (v : V) (rows : List RowM) (h : Bool) (tk : List (Key × V)), vs = [.ref p, v] ∧ TreeAt K H C p rows h tk ∧ (nms rows).Nodup ∧ ("" : Str) ∉ nms rows ∧
  ((∃ x m, v = .str x ∧ x ∈ nms rows ∧ UpM rows x m ∧ m ≤ 200 ∧ ∀ l, H l = none → Q (.ref l) (upd H l (.lst ((pathL rows x m).map .str)))) ∨ (OddN K H (nms rows) v ∧ E (.ref CN) none H))
def spTDue (K : PySem.W.Frag) (C CN CW : Addr) : Sp := fun vs H Q E => ∃ (p : Addr) (v wv : V) (rows : List RowM) (h : Bool) (tk : List (Key × V)), vs = [.ref p, v, wv] ∧ TreeAt K H C p rows h tk ∧ (nms rows).Nodup ∧
  ((∃ r ∈ rows, v = .str r.name ∧ ((∃ x ∈ leftW, wv = .str x ∧ ∀ u d, dueOf (fullD r.dues) x = some d → Dp K H u d → Q u H) ∨ (OddN K H leftW wv ∧ E (.ref CW) none H))) ∨ (OddN K H (nms rows) v ∧ E (.ref CN) none H))
def spIsWord2 (K : PySem.W.Frag) : Sp := fun vs H Q _ => ∃ v : V, vs = [v] ∧ ((∃ x ∈ leftW, v = .str x ∧ Q (.bl true) H) ∨ (OddN K H leftW v ∧ Q (.bl false) H))
section
variable {P : Program} {w : World} {K : PySem.W.Frag} {mg : Str → Option Value} {base : Heap} {aL C CN CW : Addr} {left : List (Key × V)}
theorem par_val (rows : List RowM) (x : Str) : (valV (rows.map fun r => ((Sum.inr r.name : Key), V.str r.above)) (Sum.inr x)).isSome = decide (x ∈ nms rows) := by
  by_cases c : x ∈ nms rows
  · rw [decide_eq_true c]
    refine val_some ?_
    rw [List.map_map]
    obtain ⟨r, hr, e⟩ := List.mem_map.mp c
    exact List.mem_map.mpr ⟨r, hr, by rw [← e]; rfl⟩
  · rw [decide_eq_false c]
    rw [keys_none fun m => c ?_]
    · rfl
    · rw [List.map_map] at m
      obtain ⟨r, hr, e⟩ := List.mem_map.mp m
      exact List.mem_map.mpr ⟨r, hr, Sum.inr.inj e⟩
theorem ok_isWord2 {f : Addr} {fd : FuncData} (F : Fun K "is_word" "is_word" sIsWord f fd) (T : TP P w K mg aL left) : FnOk P w K mg base CX0 1 f fd ["thing"] (spIsWord2 K) := by
  refine F.ok scIsWord (fun vs H Q E h => ?_) (fun cdv A outer s H vs Q E hr h => ?_)
  · obtain ⟨v, rfl, _⟩ := h
    rfl
  obtain ⟨v, rfl, h⟩ := h
  refine ⟨_, (pss_one (ps_ret (pe_and (pe_callB call_isi (by rfl) T.z_isinstance (by decide +kernel) (pa_cons (pv 0) (pa_cons (pe_bltn (v := .ty "str") (u := .type "str") (by rfl) T.z_str (by decide +kernel) rfl) pa_nil))) (pe_one (pe_cmpR op_inT (pv 0) (pe_glob (v := .ref aL) rfl T.g_LEFT_OUT rfl) (by first | exact nomark _ | rfl)))))), ?_⟩
  rcases h with ⟨x, hx, rfl, q⟩ | ⟨⟨t, ty, kt⟩ | ⟨x, rfl, hx⟩, q⟩
  · refine ⟨_, rfl, _, _, _, _, true, rfl, .ty _, .base (.str _), kit_ty (by decide +kernel), true, rfl, ?_⟩
    refine ⟨_, rfl, aL, left, Sum.inr x, rfl, rfl, T.tab, ?_⟩
    rw [val_some (k := (Sum.inr x : Key)) (by rw [T.keys]; exact List.mem_map.mpr ⟨x, hx, rfl⟩)]
    exact q
  · exact ⟨_, rfl, _, _, _, _, false, rfl, .ty _, ty, kit_ty kt, false, rfl, iteF q⟩
  · refine ⟨_, rfl, _, _, _, _, true, rfl, .ty _, .base (.str _), kit_ty (by decide +kernel), true, rfl, ?_⟩
    refine ⟨_, rfl, aL, left, Sum.inr x, rfl, rfl, T.tab, ?_⟩
    rw [keys_none (k := (Sum.inr x : Key)) (by
      rw [T.keys]
      intro m
      obtain ⟨y, hy, e⟩ := List.mem_map.mp m
      exact hx (Sum.inr.inj e ▸ hy))]
    exact q
theorem ok_checkGroup {f : Addr} {fd : FuncData} (F : Fun K "check_group" "check_group" sCheckGroup f fd) (T : TP P w K mg aL left) (TCl : TC K mg C) (XN : XN K mg "NoName" CN) : FnOk P w K mg base (L2.CX P w) 1 f fd ["tree", "name"] (spCG K C CN) := by
  refine F.okX scCheckGroup (fun vs H Q E h => ?_) (fun cdv A outer s H vs Q E hr h => ?_)
  · obtain ⟨p, v, rows, h, tk, rfl, _⟩ := h
    rfl
  obtain ⟨p, v, rows, h, tk, rfl, ⟨dx, po, pp, pk, pt, o1, o2, o3, o4, o5, o6⟩, q⟩ := h
  have hu := hu_of hr
  refine ⟨_, (pss_one (ps_if (PW.pt (pw_or (pt_not (pt_val (pe_callB call_isi (by rfl) T.z_isinstance (by decide +kernel) (pa_cons (pv 1) (pa_cons (pe_bltn (v := .ty "str") (u := .type "str") (by rfl) T.z_str (by decide +kernel) rfl) pa_nil))))) (pw_or1 (pt_cmp (pc_dnotin hu (pv 1) (pe_fld (pv 0) rfl)))))) (pss_one (ps_raise rfl (takes_of rfl rfl rfl rfl) (pmk_own PySem.F.excBase_ValueError XN.q XN.g XN.k (raises_own XN.r1 XN.r2) rfl))) pss_nil)), ?_⟩
  rcases q with ⟨x, rfl, hx, q⟩ | ⟨⟨t, ty, kt⟩ | ⟨x, rfl, hx⟩, q⟩
  · refine ⟨_, rfl, _, _, _, _, true, rfl, .ty _, .base (.str _), kit_ty (by decide +kernel), true, rfl, ?_⟩
    refine iteF ?_
    refine ⟨_, rfl, _, rfl, p, C, dx, _, _, rfl, o1, TCl.cl, TCl.n_parents, tf5_parents, pp, _, rfl, DGet.k (k := Sum.inr x) o3, ?_⟩
    rw [par_val, decide_eq_true hx]
    exact ⟨false, rfl, iteF q⟩
  · exact ⟨_, rfl, _, _, _, _, false, rfl, .ty _, ty, kit_ty kt, false, rfl, iteT q⟩
  · refine ⟨_, rfl, _, _, _, _, true, rfl, .ty _, .base (.str _), kit_ty (by decide +kernel), true, rfl, ?_⟩
    refine iteF ?_
    refine ⟨_, rfl, _, rfl, p, C, dx, _, _, rfl, o1, TCl.cl, TCl.n_parents, tf5_parents, pp, _, rfl, DGet.k (k := Sum.inr x) o3, ?_⟩
    rw [par_val, decide_eq_false hx]
    exact ⟨true, rfl, iteT q⟩
theorem ok_tnames {f : Addr} {fd : FuncData} (F : Fun K "names" "Tree.names" sTNames f fd) (T : TP P w K mg aL left) (TCl : TC K mg C) : FnOk P w K mg base CX0 1 f fd ["self"] (spTNames K C) := by
  refine F.ok scTNames (fun vs H Q E h => ?_) (fun cdv A outer s H vs Q E hr h => ?_)
  · obtain ⟨p, rows, h, tk, rfl, _⟩ := h
    rfl
  obtain ⟨p, rows, h, tk, rfl, ⟨dx, po, pp, pk, pt, o1, o2, o3, o4, o5, o6⟩, q⟩ := h
  refine ⟨_, (pss_one (ps_ret (pe_callTy call_list_of (by rfl) T.z_list (by decide +kernel) (pa_cons (pe_fld (pv 0) rfl) pa_nil)))), ?_⟩
  refine ⟨_, rfl, p, C, dx, _, _, rfl, o1, TCl.cl, TCl.n_order, tf5_order, po, _, rfl, .inl (SqL.of o2), fun l hl => ?_⟩
  have := q l hl
  unfold nms at this
  rw [List.map_map] at this
  exact this
theorem ok_thanding {f : Addr} {fd : FuncData} (F : Fun K "handing" "Tree.handing" sTHanding f fd) (TCl : TC K mg C) : FnOk P w K mg base CX0 1 f fd ["self"] (spTHanding K C) := by
  refine F.ok scTHanding (fun vs H Q E h => ?_) (fun cdv A outer s H vs Q E hr h => ?_)
  · obtain ⟨p, rows, h, tk, rfl, _⟩ := h
    rfl
  obtain ⟨p, rows, h, tk, rfl, ⟨dx, po, pp, pk, pt, o1, o2, o3, o4, o5, o6⟩, q⟩ := h
  refine ⟨_, (pss_one (ps_ret (pe_fld (pv 0) rfl))), ?_⟩
  exact ⟨_, rfl, p, C, dx, _, _, rfl, o1, TCl.cl, TCl.n_hands, tf5_hands, q⟩
theorem par_get {rows : List RowM} (nd : (nms rows).Nodup) {r : RowM} (hr : r ∈ rows) : valV (rows.map fun r => ((Sum.inr r.name : Key), V.str r.above)) (Sum.inr r.name) = some (.str r.above) := by
  have nk : ((rows.map fun r => ((Sum.inr r.name : Key), V.str r.above)).map (·.1)).Nodup := by
    have := nodup_inr nd
    unfold nms at this
    rw [List.map_map] at this ⊢
    exact this
  exact val_nd nk ((Sum.inr r.name : Key), V.str r.above) (List.mem_map.mpr ⟨r, hr, rfl⟩)
theorem ok_tabove {f g : Addr} {fd gd : FuncData} (F : Fun K "above" "Tree.above" sTAbove f fd) (TCl : TC K mg C) (cG : CalX P w K mg base "check_group" ["tree", "name"] 1 (spCG K C CN) g gd) : FnOk P w K mg base (L2.CX P w) 2 f fd ["self", "name"] (spTAbove K C CN) := by
  refine F.okX scTAbove (fun vs H Q E h => ?_) (fun cdv A outer s H vs Q E hr h => ?_)
  · obtain ⟨p, v, rows, h, tk, rfl, _⟩ := h
    rfl
  obtain ⟨p, v, rows, h, tk, rfl, ht, nd, q⟩ := h
  have hu := hu_of hr
  refine ⟨_, (pss_cons (ps_expr (pe_call cG.ok (hr.mono (by decide)) rfl cG.mg cG.kp cG.bd .nil (passes_call (takes_of rfl rfl rfl rfl) fun _ _ _ _ h => h) (pa_cons (pv 0) (pa_cons (pv 1) pa_nil)))) (pss_one (ps_ret (pe_dget hu (pe_fld (pv 0) rfl) (pv 1) (fun _ _ => rfl))))), ?_⟩
  rcases q with ⟨r, hrm, rfl, q⟩ | ⟨odd, q⟩
  · refine ⟨_, rfl, _, rfl, p, _, rows, h, tk, rfl, ht, .inl ⟨_, rfl, List.mem_map.mpr ⟨r, hrm, rfl⟩, ?_⟩⟩
    obtain ⟨dx, po, pp, pk, pt, o1, o2, o3, o4, o5, o6⟩ := ht
    exact ⟨_, rfl, p, C, dx, _, _, rfl, o1, TCl.cl, TCl.n_parents, tf5_parents, _, rfl, pp, _, rfl, dget_of o3 (par_get nd hrm), q⟩
  · exact ⟨_, rfl, _, rfl, p, _, rows, h, tk, rfl, ht, .inr ⟨odd, q⟩⟩
theorem kid_get {H : Hp} {pk : Addr} {rows : List RowM} (h : KidsAt H pk rows) (nd : (nms rows).Nodup) (ne : ("" : Str) ∉ nms rows) {x : Str} (hx : x ∈ ("" : Str) :: nms rows) : ∃ l ks, H pk = some (.dK ks) ∧ valV ks (Sum.inr x) = some (.ref l) ∧ H l = some (.lst ((kidsOf rows (Sum.inr x)).map .str)) := by
  obtain ⟨ks, k1, k2, k3⟩ := h
  have hk : (Sum.inr x : Key) ∈ ks.map (·.1) := by
    rw [k2]
    rcases List.mem_cons.mp hx with rfl | m
    · exact List.mem_cons_self
    · obtain ⟨r, hr, rfl⟩ := List.mem_map.mp m
      exact List.mem_cons_of_mem _ (List.mem_map.mpr ⟨r, hr, rfl⟩)
  obtain ⟨kv, hkv, e⟩ := List.mem_map.mp hk
  have nk : (ks.map (·.1)).Nodup := by
    rw [k2]
    refine List.nodup_cons.mpr ⟨fun m => ?_, ?_⟩
    · obtain ⟨r, hr, e⟩ := List.mem_map.mp m
      exact ne (List.mem_map.mpr ⟨r, hr, Sum.inr.inj e⟩)
    · have := nodup_inr nd
      unfold nms at this
      rw [List.map_map] at this
      exact this
  obtain ⟨l, e1, e2⟩ := k3 kv hkv
  have := val_nd nk kv hkv
  rw [e, e1] at this
  rw [e] at e2
  exact ⟨l, ks, k1, this, e2⟩
theorem kid_val {ks : List (Key × V)} {rows : List RowM} (k2 : ks.map (·.1) = (Sum.inr "" : Key) :: rows.map (fun r => (Sum.inr r.name : Key))) (x : Str) : (valV ks (Sum.inr x)).isSome = decide (x ∈ ("" : Str) :: nms rows) := by
  have e : (Sum.inr x : Key) ∈ ks.map (·.1) ↔ x ∈ ("" : Str) :: nms rows := by
    rw [k2, List.mem_cons, List.mem_cons]
    constructor
    · rintro (z | m)
      · exact .inl (Sum.inr.inj z)
      · obtain ⟨r, hr, z⟩ := List.mem_map.mp m
        exact .inr (List.mem_map.mpr ⟨r, hr, Sum.inr.inj z⟩)
    · rintro (rfl | m)
      · exact .inl rfl
      · obtain ⟨r, hr, rfl⟩ := List.mem_map.mp m
        exact .inr (List.mem_map.mpr ⟨r, hr, rfl⟩)
  by_cases c : x ∈ ("" : Str) :: nms rows
  · rw [decide_eq_true c]
    exact val_some (e.mpr c)
  · rw [decide_eq_false c, keys_none fun m => c (e.mp m)]
    rfl
theorem nms_nd {rows : List RowM} (h : RowsOk rows) : (nms rows).Nodup := by
  have := names_nd h rows.length
  rw [List.take_length] at this
  exact this
theorem nms_ne {rows : List RowM} (h : RowsOk rows) : ("" : Str) ∉ nms rows := fun m => by
  obtain ⟨r, hr, e⟩ := List.mem_map.mp m
  obtain ⟨i, hi⟩ := List.mem_iff_getElem?.mp hr
  have := (h i r hi).1.1
  rw [e] at this
  exact absurd this (by decide +kernel)
theorem ok_tkids {f : Addr} {fd : FuncData} (F : Fun K "children" "Tree.children" sTKids f fd) (T : TP P w K mg aL left) (TCl : TC K mg C) (XN : XN K mg "NoName" CN) : FnOk P w K mg base (L2.CX P w) 1 f fd ["self", "name"] (spTKids K C CN) := by
  refine F.okX scTKids (fun vs H Q E h => ?_) (fun cdv A outer s H vs Q E hr h => ?_)
  · obtain ⟨p, v, rows, h, tk, rfl, _⟩ := h
    rfl
  obtain ⟨p, v, rows, h, tk, rfl, ⟨dx, po, pp, pk, pt, o1, o2, o3, o4, o5, o6⟩, ok, q⟩ := h
  have hu := hu_of hr
  refine ⟨_, (pss_cons (ps_if (PW.pt (pw_or (pt_not (pt_val (pe_callB call_isi (by rfl) T.z_isinstance (by decide +kernel) (pa_cons (pv 1) (pa_cons (pe_bltn (v := .ty "str") (u := .type "str") (by rfl) T.z_str (by decide +kernel) rfl) pa_nil))))) (pw_or1 (pt_cmp (pc_dnotin hu (pv 1) (pe_fld (pv 0) rfl)))))) (pss_one (ps_raise rfl (takes_of rfl rfl rfl rfl) (pmk_own PySem.F.excBase_ValueError XN.q XN.g XN.k (raises_own XN.r1 XN.r2) rfl))) pss_nil) (pss_one (ps_ret (pe_callTy call_list_of (by rfl) T.z_list (by decide +kernel) (pa_cons (pe_dget hu (pe_fld (pv 0) rfl) (pv 1) (fun _ _ => rfl)) pa_nil))))), ?_⟩
  obtain ⟨ks, k1, k2, k3⟩ := id o6
  rcases q with ⟨x, rfl, hx, q⟩ | ⟨⟨t, ty, kt⟩ | ⟨x, rfl, hx⟩, q⟩
  · refine ⟨_, rfl, _, _, _, _, true, rfl, .ty _, .base (.str _), kit_ty (by decide +kernel), true, rfl, ?_⟩
    refine iteF ?_
    refine ⟨_, rfl, _, rfl, p, C, dx, _, _, rfl, o1, TCl.cl, TCl.n_kids, tf5_kids, pk, _, rfl, DGet.k (k := Sum.inr x) k1, ?_⟩
    rw [kid_val k2, decide_eq_true hx]
    refine ⟨false, rfl, iteF ?_⟩
    obtain ⟨l, ks', e1, e2, e3⟩ := kid_get o6 (nms_nd ok) (nms_ne ok) hx
    exact ⟨_, rfl, p, C, dx, _, _, rfl, o1, TCl.cl, TCl.n_kids, tf5_kids, _, rfl, pk, _, rfl, dget_of e1 e2, l, _, rfl, .inl (SqL.of e3), q⟩
  · exact ⟨_, rfl, _, _, _, _, false, rfl, .ty _, ty, kit_ty kt, false, rfl, iteT q⟩
  · refine ⟨_, rfl, _, _, _, _, true, rfl, .ty _, .base (.str _), kit_ty (by decide +kernel), true, rfl, ?_⟩
    refine iteF ?_
    refine ⟨_, rfl, _, rfl, p, C, dx, _, _, rfl, o1, TCl.cl, TCl.n_kids, tf5_kids, pk, _, rfl, DGet.k (k := Sum.inr x) k1, ?_⟩
    rw [kid_val k2, decide_eq_false hx]
    exact ⟨true, rfl, iteT q⟩

end
end Bd
end

section
namespace Bd
open PySem L2
section
variable {P : Program} {w : World} {K : PySem.W.Frag} {mg : Str → Option Value} {base : Heap} {aL C CN CW : Addr} {left : List (Key × V)}
theorem kids_empty (rows : List RowM) (x : Str) : ((kidsOf rows (Sum.inr x)).map V.str).isEmpty = !(rows.any fun q => decide (q.above = x)) := by
  have e : ((kidsOf rows (Sum.inr x)).map V.str).isEmpty = (kidsOf rows (Sum.inr x)).isEmpty := by
    cases kidsOf rows (Sum.inr x) <;> rfl
  rw [e]
  unfold kidsOf
  cases z : rows.any fun q => decide (q.above = x) with
  | true =>
    obtain ⟨q, hq, e⟩ := List.any_eq_true.mp z
    have : q ∈ rows.filter fun r => decide ((Sum.inr r.above : Key) = Sum.inr x) := List.mem_filter.mpr ⟨hq, by simpa using e⟩
    cases w : rows.filter fun r => decide ((Sum.inr r.above : Key) = Sum.inr x) with
    | nil =>
      rw [w] at this
      cases this
    | cons a b => rfl
  | false =>
    have : rows.filter (fun r => decide ((Sum.inr r.above : Key) = Sum.inr x)) = [] := List.filter_eq_nil_iff.mpr fun q hq => by
      have := List.any_eq_false.mp z q hq
      simpa using this
    rw [this]
    rfl
theorem ok_tleaves {f : Addr} {fd : FuncData} (F : Fun K "leaves" "Tree.leaves" sTLeaves f fd) (TCl : TC K mg C) : FnOk P w K mg base CX0 1 f fd ["self"] (spTLeaves K C) := by
  refine F.ok scTLeaves (fun vs H Q E h => ?_) (fun cdv A outer s H vs Q E hr h => ?_)
  · obtain ⟨p, rows, h, tk, rfl, _⟩ := h
    rfl
  obtain ⟨p, rows, h, tk, rfl, ⟨dx, po, pp, pk, pt, o1, o2, o3, o4, o5, o6⟩, ok, len, q⟩ := h
  have hu := hu_of hr
  refine ⟨_, (pss_one (ps_ret (pe_lc (own := [("name", 1)]) (g := gName 1) (tt := tNot (fun σ H Q => tDGet (tFld K (tVar 0) "kids") (tVar 1) σ H fun x H1 => ∃ k, TruV K x H1 k ∧ Q k H1)) (te := tVar 1) rfl scTLeaves.nd (pi_list (pe_fld (pv 0) rfl)) (blkOk_by (own := [("name", 1)]) (N := ["self", "name"]) (sc := defScope sTLeaves) (by decide +kernel)) (fun _ _ _ _ _ => (pg_name (i := 1) scTLeaves.nd rfl (Or.inl rfl))) (fun _ _ _ _ _ => (pts_one (pt_not (pt_truth (pe_dget hu (pe_fld (pv 0) rfl) (pv 1) (fun _ _ => rfl)) (by intro _; rfl))))) (fun _ _ _ _ _ => (pv 1))))), ?_⟩
  refine ⟨_, rfl, p, C, dx, _, _, rfl, o1, TCl.cl, TCl.n_order, tf5_order, po, rfl, ⟨_, SqL.of o2⟩, fun D hD => lc_list (K := K) (a := po) (xs := rows.map fun r => .str r.name) (fun i H' => H' = upd H D (.lst ((((rows.take i).filter (leafB rows)).map (·.name)).map V.str))) rfl ?_ ?_ ?_⟩
  · rintro i _ _ rfl
    exact SqL.of (by rw [upd_ne (ne_of_none o2 hD)]; exact o2)
  · rintro i x _ hx rfl
    obtain ⟨r, hr1, rfl⟩ : ∃ r, rows[i]? = some r ∧ x = .str r.name := by
      rw [List.getElem?_map] at hx
      obtain ⟨a, b, c⟩ := Option.map_eq_some_iff.mp hx
      exact ⟨a, b, c.symm⟩
    have hmem : r.name ∈ ("" : Str) :: nms rows := List.mem_cons_of_mem _ (List.mem_map.mpr ⟨r, List.mem_of_getElem? hr1, rfl⟩)
    obtain ⟨l, ks, e1, e2, e3⟩ := kid_get o6 (nms_nd ok) (nms_ne ok) hmem
    have il : i < rows.length := (List.getElem?_eq_some_iff.mp hr1).1
    have et : (((rows.take (i + 1)).filter (leafB rows)).map (·.name)).map V.str = (((rows.take i).filter (leafB rows)).map (·.name)).map V.str ++ (if leafB rows r = true then [V.str r.name] else []) := by
      rw [List.take_add_one, hr1, Option.toList_some, List.filter_append, List.map_append, List.map_append]
      cases z : leafB rows r with
      | true =>
        rw [List.filter_cons_of_pos z]
        rfl
      | false =>
        rw [List.filter_cons_of_neg (by rw [z]; decide)]
        rfl
    have eb : (!!((kidsOf rows (Sum.inr r.name)).map V.str).isEmpty) = leafB rows r := by
      rw [kids_empty]
      unfold leafB
      simp
    refine ⟨rfl, ?_⟩
    refine ⟨_, rfl, p, C, dx, _, _, rfl, (upd_ne (ne_of_none o1 hD)).trans o1, TCl.cl, TCl.n_kids, tf5_kids, _, rfl, pk, _, rfl, dget_of ((upd_ne (ne_of_none e1 hD)).trans e1) e2, _, .inl ⟨_, SqL.of ((upd_ne (ne_of_none e3 hD)).trans e3), rfl⟩, ?_⟩
    dsimp only
    rw [eb, et]
    cases z : leafB rows r with
    | true =>
      refine iteT ⟨_, rfl, _, upd_same, ?_, ?_⟩
      · rw [List.length_map, List.length_map]
        have := List.length_filter_le (leafB rows) (rows.take i)
        rw [List.length_take] at this
        exact small1000 (by omega)
      · rw [upd_upd]
        rfl
    | false =>
      refine iteF ?_
      rw [if_neg (by decide), List.append_nil]
  · rintro _ rfl
    rw [List.length_map, List.take_length]
    exact q D hD
theorem up_of {rows : List RowM} (nd : (nms rows).Nodup) {r : RowM} (hr : r ∈ rows) : upOf rows r.name = r.above := by
  unfold upOf
  cases e : rows.find? fun q => decide (q.name = r.name) with
  | none =>
    have := List.find?_eq_none.mp e r hr
    simp at this
  | some q =>
    have h1 := List.mem_of_find?_eq_some e
    have h2 : q.name = r.name := by
      have := List.find?_some e
      simpa using this
    have : q = r := by
      obtain ⟨i, hi⟩ := List.mem_iff_getElem?.mp h1
      obtain ⟨j, hj⟩ := List.mem_iff_getElem?.mp hr
      have li := (List.getElem?_eq_some_iff.mp hi)
      have lj := (List.getElem?_eq_some_iff.mp hj)
      obtain ⟨li, ei⟩ := li
      obtain ⟨lj, ej⟩ := lj
      have : i = j := (List.getElem_inj nd (h₀ := by unfold nms; rw [List.length_map]; exact li) (h₁ := by unfold nms; rw [List.length_map]; exact lj)).mp (by
        unfold nms
        rw [List.getElem_map, List.getElem_map, ei, ej, h2])
      subst this
      rw [← ei, ej]
    rw [this]
    rfl
theorem ok_tdue {f g e : Addr} {fd gd ed : FuncData} (F : Fun K "due" "Tree.due" sTDue f fd) (TCl : TC K mg C) (XW : XN K mg "NoWord" CW) (cG : CalX P w K mg base "check_group" ["tree", "name"] 1 (spCG K C CN) g gd) (cW : Cal P w K mg base "is_word" ["thing"] 1 (spIsWord2 K) e ed) :
    FnOk P w K mg base (L2.CX P w) 2 f fd ["self", "name", "word"] (spTDue K C CN CW) := by
  refine F.okX scTDue (fun vs H Q E h => ?_) (fun cdv A outer s H vs Q E hr h => ?_)
  · obtain ⟨p, v, wv, rows, h, tk, rfl, _⟩ := h
    rfl
  obtain ⟨p, v, wv, rows, h, tk, rfl, ht, nd, q⟩ := h
  have hu := hu_of hr
  refine ⟨_, (pss_cons (ps_expr (pe_call cG.ok (hr.mono (by decide)) rfl cG.mg cG.kp cG.bd .nil (passes_call (takes_of rfl rfl rfl rfl) fun _ _ _ _ h => h) (pa_cons (pv 0) (pa_cons (pv 1) pa_nil)))) (pss_cons (ps_if (pt_not (pt_val (pe_call cW.ok (hr.mono (by decide)) rfl cW.mg cW.kp cW.bd .nil pass0 (pa_cons (pv 2) pa_nil)))) (pss_one (ps_raise rfl (takes_of rfl rfl rfl rfl) (pmk_own PySem.F.excBase_ValueError XW.q XW.g XW.k (raises_own XW.r1 XW.r2) rfl))) pss_nil) (pss_one (ps_ret (pe_dget hu (pe_dget hu (pe_fld (pv 0) rfl) (pv 1) (fun _ _ => rfl)) (pv 2) (fun _ _ => rfl)))))), ?_⟩
  rcases q with ⟨r, hrm, rfl, q⟩ | ⟨odd, q⟩
  · refine ⟨_, rfl, _, rfl, p, _, rows, h, tk, rfl, ht, .inl ⟨_, rfl, List.mem_map.mpr ⟨r, hrm, rfl⟩, ?_⟩⟩
    obtain ⟨dx, po, pp, pk, pt, o1, o2, o3, o4, o5, o6⟩ := ht
    rcases q with ⟨x, hx, rfl, q⟩ | ⟨odd, q⟩
    · refine ⟨_, rfl, _, rfl, .inl ⟨x, hx, rfl, true, rfl, iteF ?_⟩⟩
      obtain ⟨kv, hkv, hk1, d, hk2, fk, fk1, fk2⟩ := paired_of o5 r hrm
      have nt : (tk.map (·.1)).Nodup := by
        rw [td_keys (fun _ _ z => z.1) o5]
        have := nodup_inr nd
        unfold nms at this
        rw [List.map_map] at this
        exact this
      have g1 : valV tk (Sum.inr r.name : Key) = some (.ref d) := by
        have := val_nd nt kv hkv
        rw [hk1, hk2] at this
        exact this
      obtain ⟨u, du, g2, g3, g4⟩ : ∃ u du, valV fk (Sum.inr x : Key) = some u ∧ dueOf (fullD r.dues) x = some du ∧ Dp K H u du := by
        rcases val_due x fk2 with ⟨_, z⟩ | ⟨u, d2, z1, z2, z3⟩
        · exfalso
          unfold fullD at z
          unfold dueOf at z
          rw [Option.map_eq_none_iff, List.find?_eq_none] at z
          rw [← leftD_words] at hx
          obtain ⟨wd, h1, h2⟩ := List.mem_map.mp hx
          exact z _ (List.mem_map.mpr ⟨wd, h1, rfl⟩) (by simpa using h2)
        · exact ⟨u, d2, z1, z2, z3⟩
      exact ⟨_, rfl, p, C, dx, _, _, rfl, o1, TCl.cl, TCl.n_table, tf5_table, _, rfl, pt, _, rfl, dget_of o4 g1, _, rfl, d, _, rfl, dget_of fk1 g2, q u du g3 g4⟩
    · exact ⟨_, rfl, _, rfl, .inr ⟨odd, false, rfl, iteT q⟩⟩
  · exact ⟨_, rfl, _, rfl, p, _, rows, h, tk, rfl, ht, .inr ⟨odd, q⟩⟩
end
end Bd
end

section
namespace Bd
open PySem L2 PySem.Spec PyProof.Rows
/-- the answer of looking up each pair of one dict in another, by the answers at the values -/
inductive HitsV (F : V → V → Bool → Prop) (ls : List (Key × V)) : List (Key × V) → Bool → Prop
  | nil : HitsV F ls [] true
  | miss {k : Key} {v : V} {r : List (Key × V)} : valV ls k = none → HitsV F ls ((k, v) :: r) false
  | hit {k : Key} {v y : V} {r : List (Key × V)} {e b : Bool} : valV ls k = some y → F v y e → HitsV F ls r b → HitsV F ls ((k, v) :: r) (e && b)
/-- x == y is r: data, or dicts of such, n deep -/
def EqF (K : PySem.W.Frag) (H : Hp) : Nat → V → V → Bool → Prop
  | 0 => fun x y r => ∃ d e, Dp K H x d ∧ Dp K H y e ∧ SeqAt.shaped d = true ∧ SeqAt.shaped e = true ∧ r = PyData.eqv d e
  | n + 1 => fun x y r => ∃ (a b : Addr), x = .ref a ∧ y = .ref b ∧ ((a = b ∧ r = true) ∨ (a ≠ b ∧ ∃ ks ls q, H a = some (.dK ks) ∧ H b = some (.dK ls) ∧ (ks.length = ls.length → HitsV (EqF K H n) ls ks q) ∧ r = (ks.length == ls.length && q)))
theorem hits_runV {P : Program} {w : World} {A : Around} {s : Shared} {F : V → V → Bool → Prop} (ih : ∀ x y v u r, F x y r → RelV x v → RelV y u → SeqAt.EqP P w A s v u r) {ls : List (Key × V)} {vb : List (Key × Value)} (rb : KV ls vb) {ks : List (Key × V)} {b : Bool} (h : HitsV F ls ks b) :
    ∀ {va : List (Key × Value)}, KV ks va → PySem.W.KeqHitsP P w A s vb va b := by
  induction h with
  | nil =>
    intro va ra
    cases ra
    exact .nil
  | @miss k v r hn =>
    intro va ra
    cases ra with
    | cons h1 t =>
      rename_i q qs
      obtain ⟨h1, h2⟩ := h1
      obtain ⟨k2, v2⟩ := q
      have h1 : k = k2 := h1
      subst h1
      have rr := rb.val k
      rw [hn] at rr
      refine .miss ?_
      cases z : valueAt vb k with
      | none => rfl
      | some y =>
        rw [z] at rr
        exact (show False from rr).elim
  | @hit k v y r e b hy hf hr k3 =>
    intro va ra
    cases ra with
    | cons h1 t =>
      rename_i q qs
      obtain ⟨h1, h2⟩ := h1
      obtain ⟨k2, v2⟩ := q
      have h1 : k = k2 := h1
      subst h1
      have rr := rb.val k
      rw [hy] at rr
      obtain ⟨z, hz, rz⟩ := rr.some_of
      exact .hit hz (ih _ _ _ _ _ hf h2 rz) (k3 t)
section
variable {X : Cx} {pins : List (Addr × Obj)} {σ : L2.St} {H : Hp} {s : Shared}
theorem eqF_run (I : Inv X pins σ H s) : ∀ (n : Nat) (A : Around), A.units + n + 65 < cLine → ∀ (x y : V) (v u : Value) (r : Bool), EqF X.K H n x y r → RelV x v → RelV y u → SeqAt.EqP X.prog X.w A s v u r
  | 0, A, hu, x, y, v, u, r, h, rx, ry => by
    obtain ⟨d, e, hd, he, sd, se, rfl⟩ := h
    obtain ⟨as, r1⟩ := Dp.reads I d x v hd rx
    obtain ⟨bs, r2⟩ := Dp.reads I e y u he ry
    exact (SeqAt.eqAt_reads d e A s v u as bs r1 r2 (SeqAt.canLay_of_shaped sd) (SeqAt.canLay_of_shaped se) (SeqAt.room_of_shaped sd (by omega))).eqP
  | n + 1, A, hu, x, y, v, u, r, h, rx, ry => by
    obtain ⟨a, b, rfl, rfl, h⟩ := h
    cases (show v = Value.ref a from rx)
    cases (show u = Value.ref b from ry)
    rcases h with ⟨rfl, rfl⟩ | ⟨hab, ks, ls, q, ha, hb, hits, rfl⟩
    · exact (SeqAt.EqAt.same _).eqP
    · refine SeqAt.eqP_refs hab fun E Q hq => ?_
      obtain ⟨_, ya, va, ra, da⟩ := (show ObjOk X.prog X.w H s.heap a (.dK ks) from I.hok a _ ha)
      obtain ⟨_, yb, vb, rb, db⟩ := (show ObjOk X.prog X.w H s.heap b (.dK ls) from I.hok b _ hb)
      refine PySem.W.rcP_dicts (knd := mixKind X.prog X.w) (r := q) ya yb da db (by omega) (fun hl => hits_runV (eqF_run I n A.in1 (by show A.units + 1 + n + 65 < cLine; omega)) rb (hits (by rw [ra.length, rb.length]; exact hl)) ra) E Q ?_
      rw [← ra.length, ← rb.length]
      exact hq
end
section
variable {X : Cx}
theorem op_eqF (hu : X.A.units + 100 < cLine) : OpR X (compareOp .Eq) (fun x y H Q => ∃ (a b : Addr) (ks ls : List (Key × V)) (q : Bool) (n : Nat), n ≤ 10 ∧ x = .ref a ∧ y = .ref b ∧ H a = some (.dK ks) ∧ H b = some (.dK ls) ∧ (ks.length = ls.length → HitsV (EqF X.K H n) ls ks q) ∧ Q (.bl (ks.length == ls.length && q)) H) := by
  intro pins s σ H x y v u Q I rx ry h
  obtain ⟨a, b, ks, ls, q, n, hn, rfl, rfl, ha, hb, hits, hq⟩ := h
  cases (show v = Value.ref a from rx)
  cases (show u = Value.ref b from ry)
  obtain ⟨_, ya, va, ra, da⟩ := (show ObjOk X.prog X.w H s.heap a (.dK ks) from I.hok a _ ha)
  obtain ⟨_, yb, vb, rb, db⟩ := (show ObjOk X.prog X.w H s.heap b (.dK ls) from I.hok b _ hb)
  refine PySem.W.rcP_dicts (knd := mixKind X.prog X.w) (r := q) ya yb da db (by omega) (fun hl => hits_runV (eqF_run I n X.A.in1 (by show X.A.units + 1 + n + 65 < cLine; omega)) rb (hits (by rw [ra.length, rb.length]; exact hl)) ra) _ _ ?_
  rw [← ra.length, ← rb.length]
  exact ⟨.bl _, H, I, rfl, hq⟩
end
end Bd
end

section
namespace Bd
open PySem L2 PySem.Spec PyProof.Rows
section
variable {prog : Program} {w : World} {A : Around} {E : Value → Shared → Prop} {s : Shared} {K : PySem.W.Frag} {x C f : Addr} {ox : Obj} {od : Option Obj} {b tb : Value}
theorem ne_bound {M : Model} {Q : Option Value → Shared → Prop} (X : K.In s.heap) (I : PySem.W.InstAt s.heap x ox C od) (hne : PySem.W.findIn K (.ref C) "__ne__" = some (some (.builtin "object.__ne__")))
    (h : wpAny M A (call (.builtin "object.__ne__") [.ref x, b]) (fun v => Q (some v)) E s) : wpAny M A (callSpecialIfBound? (.ref x) "__ne__" [b]) Q E s := by
  simp only [callSpecialIfBound?, bindSpecialIfBound?]
  refine wpAny_holding (wpAny_bind (wpAny_bind (wpAny_bind (I.type.here ((PySem.W.looks_findIn X hne).here ?_)))))
  simp only [PySem.F.cmp_object.ne.bind]
  refine wpAny_bind (wpAny_askSetting (wpAny_ite ?_))
  have fin : wpAny M A (call (.builtin "object.__ne__") ([.ref x] ++ [b]) >>= fun v => pure (some v)) Q E s := wpAny_bind (wpAny_mono h (fun v s' h' => wpAny_pure h') fun _ _ h' => h')
  split
  · exact wpAny_bind (wpAny_pure (wpAny_pure fin))
  · exact wpAny_tryCatch (wpAny_bind (wpAny_pure (wpAny_pure fin)))
theorem ne_check {M : Model} {Q : Unit → Shared → Prop} (X : K.In s.heap) (I : PySem.W.InstAt s.heap x ox C od) (hob : PySem.W.subIn K (.ref C) (.type "object") = some true) (q : Q () s) :
    wpAny M A (checkBuiltinCall "object.__ne__" ⟨[.ref x, b], []⟩) Q E s := by
  simp only [checkBuiltinCall, PySem.F.cmpKind_ne, PySem.F.cmpSplit_ne]
  refine wpAny_bind ?_
  unfold isInstance
  refine wpAny_bind (I.type.here ((PySem.W.looks_subIn X hob).here ?_))
  have ha : argsOk "object.__ne__" ⟨[.ref x, b], []⟩ := PySem.F.cmpArgs_ne _ _
  rw [if_neg (by decide)]
  cases hsig : Manifest.signature? "object.__ne__" with
  | none => exact wpAny_pure q
  | some sig =>
    simp only [argsOk, hsig] at ha
    have h2 : Bind.checkArgs "object.__ne__" sig ⟨[.ref x, b], []⟩ = pure () := ha
    show wpAny M A (Bind.checkArgs "object.__ne__" sig ⟨[.ref x, b], []⟩) Q E _
    rw [h2]
    exact wpAny_pure q
theorem ne_run {Q : Fin → Shared → Prop} (hu : A.units < cLine) (X : K.In s.heap) (I : PySem.W.InstAt s.heap x ox C od) (hs : PySem.W.findIn K (.ref C) "__eq__" = some (some (.ref f))) (hf : PySem.W.isFn K (.ref f) = true)
    (h : wpAny (model prog w) A (call (.ref f) [.ref x, b]) (fun v s' => ∃ r, v = .bool r ∧ Q (.done (.ret (.bool (!r)))) s') E s) :
    wpAny (model prog w) A (Builtin.«object.__ne__» ⟨[.ref x, b], []⟩) Q E s := by
  obtain ⟨hp, g, d, t, os⟩ := s
  unfold Builtin.«object.__ne__»
  repeat (first
    | with_reducible refine wpAny_cRoomFor hu ?_
    | (refine wpAny_bind (m := callSpecialIfBound? (.ref x) (Str.ofString "__eq__") [b])
        (PySem.W.ifBound_K X I hs hf (wpAny_mono h (fun v s' hr => by
          obtain ⟨r, rfl, hq⟩ := hr
          repeat (first | exact hq | exact wpAny_pure hq | exact wpAny_truthy_bool hq | (refine wpAny_bind (m := truthy (.bool _)) (wpAny_truthy_bool ?_)) | wp_step)) fun _ _ e => e)))
    | wp_step)
theorem ne_K {Q : Value → Shared → Prop} (hu : A.units + 1 < cLine) (X : K.In s.heap) (I : PySem.W.InstAt s.heap x ox C od) (hb : PySem.W.Looks (model prog w) s.heap (typeOf b) tb) (hn : PySem.W.notFirst K C tb = true)
    (hne : PySem.W.findIn K (.ref C) "__ne__" = some (some (.builtin "object.__ne__"))) (hob : PySem.W.subIn K (.ref C) (.type "object") = some true)
    (hs : PySem.W.findIn K (.ref C) "__eq__" = some (some (.ref f))) (hf : PySem.W.isFn K (.ref f) = true)
    (h : wpAny (model prog w) A.in1 (call (.ref f) [.ref x, b]) (fun v s' => ∃ r, v = .bool r ∧ Q (.bool (!r)) s') E s) : wpAny (model prog w) A (richCompare .NotEq (.ref x) b) Q E s := by
  have one : wpAny (model prog w) A (tryCompare (.ref x) "__ne__" b) (fun r s' => ∃ v, r = some v ∧ Q v s') E s := by
    simp only [tryCompare]
    refine wpAny_bind (ne_bound X I hne (wpAny_call (codeAny_call_builtin PySem.F.cmp_object.ne.plain PySem.F.cmpEntry_ne (ne_check X I hob (ne_run (A := A.in1) (by show A.units + 1 < cLine; exact hu) X I hs hf (wpAny_mono h (fun v s' hv => ?_) fun _ _ e => e))))))
    obtain ⟨r, rfl, hq⟩ := hv
    first | exact ⟨r, rfl, wpAny_pure ⟨_, rfl, hq⟩⟩ | exact ⟨r, rfl, wpAny_pure (wpAny_pure ⟨_, rfl, hq⟩)⟩ | exact ⟨r, rfl, _, rfl, hq⟩
  unfold richCompare
  simp only [oneThing_ref]
  refine wpAny_holding (wpAny_bind (wpAny_cRoomFor (Nat.lt_of_succ_lt hu) ?_))
  rw [cmpInfo_NotEq]
  dsimp only
  refine wpAny_bind (I.type.here (wpAny_bind (hb.here ?_)))
  split
  · rename_i q
    have e : PySem.W.subIn K tb (.ref C) = some false := by
      rcases Bool.or_eq_true_iff.mp hn with e | e
      · rw [beq_iff_eq.mp e] at q
        simp at q
      · exact beq_iff_eq.mp e
    refine wpAny_bind ((PySem.W.looks_subIn X e).here ?_)
    simp only [Bool.false_eq_true, if_false]
    refine wpAny_bind (wpAny_mono one (fun r s' z => ?_) fun _ _ e => e)
    obtain ⟨v, rfl, hq⟩ := z
    exact wpAny_pure hq
  · refine wpAny_bind (wpAny_pure ?_)
    simp only [Bool.false_eq_true, if_false]
    refine wpAny_bind (wpAny_mono one (fun r s' z => ?_) fun _ _ e => e)
    obtain ⟨v, rfl, hq⟩ := z
    exact wpAny_pure hq
end
end Bd
end

section
namespace Bd
open PySem L2 PySem.Spec PyProof.Rows
section
variable {prog : Program} {w : World} {A : Around} {E : Value → Shared → Prop} {s : Shared} {K : PySem.W.Frag} {x C dx f : Addr} {ox : Obj} {od : Option Obj} {b tb : Value}
theorem dec_none : wpAny (model prog w) A (call (.builtin "NoneType.__eq__") [.none, .ref x]) (fun v s1 => v = .notImplemented ∧ s1 = s) E s := by
  refine wpAny_call_entry PySem.F.slot_NoneType_eq rfl PySem.F.entry_NoneType_eq ?_ (PySem.F.args_NoneType_eq_2 _ _)
  obtain ⟨hp, g, d, tk, os⟩ := s
  wp_walk
  exact ⟨_, rfl, rfl, rfl⟩
theorem dec_int {i : Int} {t : Tok} (hx : s.heap.get? x = some (PySem.W.instObj C dx)) : wpAny (model prog w) A (call (.builtin "int.__eq__") [.int i t, .ref x]) (fun v s1 => v = .notImplemented ∧ s1 = s) E s := by
  refine wpAny_call_entry PySem.F.slot_int_eq (typeIs_int s i t) PySem.F.entry_int_eq ?_ (PySem.F.args_int_eq_2 _ _)
  obtain ⟨hp, g, d, tk, os⟩ := s
  wp_walk using AutoSeq1.wpAny_loadPart' hx
  exact ⟨_, rfl, rfl, rfl⟩
theorem dec_str {i : Str} {t : Tok} (hx : s.heap.get? x = some (PySem.W.instObj C dx)) : wpAny (model prog w) A (call (.builtin "str.__eq__") [.str i t, .ref x]) (fun v s1 => v = .notImplemented ∧ s1 = s) E s := by
  refine wpAny_call_entry PySem.F.slot_str_eq (typeIs_str s i t) PySem.F.entry_str_eq ?_ (PySem.F.args_str_eq_2 _ _)
  obtain ⟨hp, g, d, tk, os⟩ := s
  wp_walk using AutoSeq1.wpAny_loadPart' hx
  exact ⟨_, rfl, rfl, rfl⟩
theorem not_inst {M : Model} {T : String} {Q : Bool → Shared → Prop} (X : K.In s.heap) (I : PySem.W.InstAt s.heap x ox C od) (hsub : PySem.W.subIn K (.ref C) (.type T) = some false) (q : Q false s) : wpAny M A (isInstance (.ref x) (.type T)) Q E s := by
  unfold isInstance
  exact wpAny_bind (I.type.here ((PySem.W.looks_subIn X hsub).here q))
theorem dec_list {l : Addr} (hl : s.TypeIs (.ref l) "list") (X : K.In s.heap) (I : PySem.W.InstAt s.heap x ox C od) (hsub : PySem.W.subIn K (.ref C) (.type "list") = some false) :
    wpAny (model prog w) A (call (.builtin "list.__eq__") [.ref l, .ref x]) (fun v s1 => v = .notImplemented ∧ s1 = s) E s := by
  refine wpAny_call_entry PySem.F.slot_list_eq hl PySem.F.entry_list_eq ?_ (PySem.F.args_list_eq_2 _ _)
  obtain ⟨hp, g, d, tk, os⟩ := s
  unfold Builtin.«list.__eq__»
  repeat (first
    | (refine wpAny_bind (m := isInstance (.ref x) (.type "list")) (not_inst X I hsub ?_))
    | wp_step)
  exact ⟨_, rfl, rfl, rfl⟩
theorem dec_tup {l : Addr} (hl : s.TypeIs (.ref l) "tuple") (X : K.In s.heap) (I : PySem.W.InstAt s.heap x ox C od) (hsub : PySem.W.subIn K (.ref C) (.type "tuple") = some false) :
    wpAny (model prog w) A (call (.builtin "tuple.__eq__") [.ref l, .ref x]) (fun v s1 => v = .notImplemented ∧ s1 = s) E s := by
  refine wpAny_call_entry PySem.F.slot_tuple_eq hl PySem.F.entry_tuple_eq ?_ (PySem.F.args_tuple_eq_2 _ _)
  obtain ⟨hp, g, d, tk, os⟩ := s
  unfold Builtin.«tuple.__eq__»
  repeat (first
    | (refine wpAny_bind (m := isInstance (.ref x) (.type "tuple")) (not_inst X I hsub ?_))
    | wp_step)
  exact ⟨_, rfl, rfl, rfl⟩
theorem eq_right {v : Value} {T id : String} {Q : Value → Shared → Prop} (hu : A.units < cLine) (X : K.In s.heap) (I : PySem.W.InstAt s.heap x ox C od) (hv : s.TypeIs v T) (h1 : Slot T (cmpInfo .Eq).2.1 id) (hone : oneThing? .Eq v (.ref x) = none)
    (hsub : PySem.W.subIn K (.ref C) (.type T) = some false) (hdec : wpAny (model prog w) A (call (.builtin id) [v, .ref x]) (fun r s1 => r = .notImplemented ∧ s1 = s) E s)
    (hs : PySem.W.findIn K (.ref C) "__eq__" = some (some (.ref f))) (hf : PySem.W.isFn K (.ref f) = true)
    (h : wpAny (model prog w) A (call (.ref f) [.ref x, v]) (PySem.W.CmpBack Q) E s) : wpAny (model prog w) A (richCompare .Eq v (.ref x)) Q E s := by
  have two : wpAny (model prog w) A (tryCompare (.ref x) "__eq__" v) (fun r s' => ∃ z, r = some z ∧ Q z s') E s := by
    unfold tryCompare
    refine wpAny_bind (PySem.W.ifBound_K X I hs hf (wpAny_mono h (fun z s' hz => ?_) fun _ _ e => e))
    cases z <;> first | exact hz.elim | exact wpAny_pure ⟨_, rfl, hz⟩
  unfold richCompare
  rw [hone]
  refine wpAny_holding (wpAny_bind (wpAny_cRoomFor hu ?_))
  have hi : cmpInfo CmpOp.Eq = (("==" : String), ("__eq__" : Str), ("__eq__" : Str)) := rfl
  rw [hi] at h1 ⊢
  dsimp only at h1 ⊢
  refine wpAny_bind (wpAny_typeOf hv (wpAny_bind (I.type.here ?_)))
  rw [show (Value.type T != Value.ref C) = true from rfl]
  rw [if_pos rfl]
  refine wpAny_bind ((PySem.W.looks_subIn X hsub).here ?_)
  simp only [Bool.false_eq_true, if_false, Bool.not_false, if_true]
  refine wpAny_bind (m := tryCompare v _ (.ref x)) (wpAny_tryCompare_declines hv h1 (wpAny_mono hdec (fun r s1 hr => ⟨hr.1, ?_⟩) fun _ _ e => e))
  obtain ⟨rfl, rfl⟩ := hr
  refine wpAny_bind (wpAny_mono two (fun r s' z => ?_) fun _ _ e => e)
  obtain ⟨z, rfl, hq⟩ := z
  exact wpAny_pure hq
end
/-- what of the class the comparisons ask -/
structure OwnCmp (K : PySem.W.Frag) (C f : Addr) : Prop where
  eq : PySem.W.findIn K (.ref C) "__eq__" = some (some (.ref f))
  fn : PySem.W.isFn K (.ref f) = true
  ne : PySem.W.findIn K (.ref C) "__ne__" = some (some (.builtin "object.__ne__"))
  ob : PySem.W.subIn K (.ref C) (.type "object") = some true
  li : PySem.W.subIn K (.ref C) (.type "list") = some false
  tu : PySem.W.subIn K (.ref C) (.type "tuple") = some false
  st : PySem.W.subIn K (.ref C) (.type "str") = some false
  it : PySem.W.subIn K (.ref C) (.type "int") = some false
  nt : PySem.W.subIn K (.ref C) (.type "NoneType") = some false
  li' : PySem.W.subIn K (.type "list") (.ref C) = some false
  tu' : PySem.W.subIn K (.type "tuple") (.ref C) = some false
  st' : PySem.W.subIn K (.type "str") (.ref C) = some false
  it' : PySem.W.subIn K (.type "int") (.ref C) = some false
  nt' : PySem.W.subIn K (.type "NoneType") (.ref C) = some false
/-- things an instance is compared with -/
inductive YTy (K : PySem.W.Frag) (H : Hp) (C : Addr) : V → Prop
  | non : YTy K H C .non
  | int (i : Int) : YTy K H C (.int i)
  | str (i : Str) : YTy K H C (.str i)
  | lst {a : Addr} {xs : List V} : SqL K H a xs → YTy K H C (.ref a)
  | tup {a : Addr} {xs : List V} : SqT K H a xs → YTy K H C (.ref a)
  | ins {a dx : Addr} {fs : List (Str × V)} : H a = some (.ins C dx fs) → YTy K H C (.ref a)
section
variable {X : Cx} {pins : List (Addr × Obj)} {σ : L2.St} {H : Hp} {s : Shared} {C f : Addr}
theorem looks_ty {M : Model} {h : Heap} {a : Addr} {T : String} {o : Obj} (ho : h.get? a = some o) (hc : o.cls = .type T) : PySem.W.Looks M h (typeOf (.ref a)) (.type T) := fun _ _ _ s k q => wpAny_typeOf (s := s) ⟨o, k _ _ ho, hc⟩ q
theorem yty_look (O : OwnCmp X.K C f) (I : Inv X pins σ H s) {y : V} {u : Value} (t : YTy X.K H C y) (r : RelV y u) : ∃ tb, PySem.W.Looks (model X.prog X.w) s.heap (typeOf u) tb ∧ PySem.W.notFirst X.K C tb = true := by
  have nf : ∀ {tb : Value}, PySem.W.subIn X.K tb (.ref C) = some false → PySem.W.notFirst X.K C tb = true := fun {tb} e => by
    unfold PySem.W.notFirst
    rw [e]
    simp
  cases t with
  | non =>
    cases r
    exact ⟨.type "NoneType", .of_pure rfl, nf O.nt'⟩
  | int i =>
    obtain ⟨t, rfl⟩ := r
    exact ⟨.type "int", .of_pure rfl, nf O.it'⟩
  | str i =>
    obtain ⟨t, rfl⟩ := r
    exact ⟨.type "str", .of_pure rfl, nf O.st'⟩
  | lst h =>
    cases r
    obtain ⟨its, _, ⟨o, n, ho, hc, _⟩, _⟩ := I.list h
    exact ⟨.type "list", looks_ty ho hc, nf O.li'⟩
  | tup h =>
    cases r
    obtain ⟨its, _, ⟨o, ho, hc, _⟩, _⟩ := I.tuple h
    exact ⟨.type "tuple", looks_ty ho hc, nf O.tu'⟩
  | ins h =>
    cases r
    obtain ⟨mA, J, _⟩ := ins_get I.hok h
    obtain ⟨od, J, _⟩ := J.look
    exact ⟨.ref C, J.type, by simp [PySem.W.notFirst]⟩
/-- tree == y -/
theorem op_eqL {CX : CXT} {n : Nat} {fd : FuncData} {ps : List Str} {sp : Sp} {E : XK} (O : OwnCmp X.K C f) (F : FnOk X.prog X.w X.K X.mg X.base CX n f fd ps sp) (hb : Binds X.K fd ps []) (hr : Room n X.A) (hx : Passes CX X E) :
    OpR X (compareOp .Eq) (fun x y H Q => ∃ a dx fs, x = .ref a ∧ H a = some (.ins C dx fs) ∧ YTy X.K H C y ∧ sp [x, y] H (fun v H' => ∃ b, v = .bl b ∧ Q (.bl b) H') E) := by
  intro pins s σ H x y v u Q I rx ry h
  obtain ⟨a, dx, fs, rfl, ha, ty, q⟩ := h
  cases (show v = Value.ref a from rx)
  obtain ⟨mA, J, _⟩ := ins_get I.hok ha
  obtain ⟨od, J, _⟩ := J.look
  obtain ⟨tb, lk, nf⟩ := yty_look O I ty ry
  obtain ⟨m, hF⟩ := I.fr
  show wpAny _ _ (richCompare .Eq _ _) _ _ _
  refine PySem.W.cmp_K (op := .Eq) (tb := tb) hr.units0 hF I.ok.mod.kin J lk nf O.eq O.fn ?_
  refine wpAny_mono (wpAny_call (run_fnR (us := [.ref a, u]) (vs := [.ref a, y]) (FnOk.raw F hb .nil) hr hx I (.cons rfl (.cons ry .nil)) q)) (fun w s' z => ?_) fun _ _ x => x
  obtain ⟨z', H', I', rz, b, rfl, qz⟩ := z
  exact SlX.cmpback rz ⟨.bl b, H', I', rz, qz⟩
/-- tree != y -/
theorem op_neL {CX : CXT} {n : Nat} {fd : FuncData} {ps : List Str} {sp : Sp} {E : XK} (O : OwnCmp X.K C f) (F : FnOk X.prog X.w X.K X.mg X.base CX n f fd ps sp) (hb : Binds X.K fd ps []) (hr : Room (n + 1) X.A) (hx : Passes CX X E) :
    OpR X (compareOp .NotEq) (fun x y H Q => ∃ a dx fs, x = .ref a ∧ H a = some (.ins C dx fs) ∧ YTy X.K H C y ∧ sp [x, y] H (fun v H' => ∃ b, v = .bl b ∧ Q (.bl (!b)) H') E) := by
  intro pins s σ H x y v u Q I rx ry h
  obtain ⟨a, dx, fs, rfl, ha, ty, q⟩ := h
  cases (show v = Value.ref a from rx)
  obtain ⟨mA, J, _⟩ := ins_get I.hok ha
  obtain ⟨od, J, _⟩ := J.look
  obtain ⟨tb, lk, nf⟩ := yty_look O I ty ry
  show wpAny _ _ (richCompare .NotEq _ _) _ _ _
  refine ne_K (by have := hr.un; omega) I.kIn J lk nf O.ne O.ob O.eq O.fn ?_
  refine wpAny_mono (wpAny_call (SlX.run_at (A := X.A.in1) (us := [.ref a, u]) (ws := [.ref a, y]) (FnOk.raw F hb .nil) hr.in1 I.env0.in1 hx I (.cons rfl (.cons ry .nil)) q)) (fun w s' z => ?_) fun _ _ x => x
  obtain ⟨z', H', I', rz, b, rfl, qz⟩ := z
  cases (show w = Value.bool b from rz)
  exact ⟨b, rfl, .bl (!b), H', I', rfl, qz⟩
/-- y == tree, y no instance -/
theorem op_eqR {CX : CXT} {n : Nat} {fd : FuncData} {ps : List Str} {sp : Sp} {E : XK} (O : OwnCmp X.K C f) (F : FnOk X.prog X.w X.K X.mg X.base CX n f fd ps sp) (hb : Binds X.K fd ps []) (hr : Room n X.A) (hx : Passes CX X E) :
    OpR X (compareOp .Eq) (fun y x H Q => ∃ a dx fs, x = .ref a ∧ H a = some (.ins C dx fs) ∧ YTy X.K H C y ∧ sp [x, y] H (fun v H' => ∃ b, v = .bl b ∧ Q (.bl b) H') E ∧ (∀ c dy gs, y = .ref c → H c = some (.ins C dy gs) → sp [y, x] H (fun v H' => ∃ b, v = .bl b ∧ Q (.bl b) H') E)) := by
  intro pins s σ H y x u v Q I ry rx h
  obtain ⟨a, dx, fs, rfl, ha, ty, q, q2⟩ := h
  cases (show v = Value.ref a from rx)
  obtain ⟨mA, J0, _⟩ := ins_get I.hok ha
  have hat : s.heap.get? a = some (PySem.W.instObj C dx) := J0.1
  obtain ⟨od, J, _⟩ := J0.look
  obtain ⟨m, hF⟩ := I.fr
  have fin : wpAny (model X.prog X.w) X.A (call (.ref f) [.ref a, u]) (PySem.W.CmpBack (EP X pins σ Q)) X.xe s := by
    refine wpAny_mono (wpAny_call (run_fnR (us := [.ref a, u]) (vs := [.ref a, y]) (FnOk.raw F hb .nil) hr hx I (.cons rfl (.cons ry .nil)) q)) (fun w s' z => ?_) fun _ _ x => x
    obtain ⟨z', H', I', rz, b, rfl, qz⟩ := z
    exact SlX.cmpback rz ⟨.bl b, H', I', rz, qz⟩
  show wpAny _ _ (richCompare .Eq _ _) _ _ _
  cases ty with
  | non =>
    cases ry
    exact eq_right hr.units0 I.kIn J rfl PySem.F.slot_NoneType_eq rfl O.nt dec_none O.eq O.fn fin
  | int i =>
    obtain ⟨t, rfl⟩ := ry
    exact eq_right hr.units0 I.kIn J (typeIs_int s i t) PySem.F.slot_int_eq rfl O.it (dec_int hat) O.eq O.fn fin
  | str i =>
    obtain ⟨t, rfl⟩ := ry
    exact eq_right hr.units0 I.kIn J (typeIs_str s i t) PySem.F.slot_str_eq rfl O.st (dec_str hat) O.eq O.fn fin
  | lst h =>
    cases ry
    obtain ⟨its, _, ⟨o, n, ho, hc, _⟩, _⟩ := I.list h
    exact eq_right hr.units0 I.kIn J ⟨o, ho, hc⟩ PySem.F.slot_list_eq (oneThing_ref ..) O.li (dec_list ⟨o, ho, hc⟩ I.kIn J O.li) O.eq O.fn fin
  | tup h =>
    cases ry
    obtain ⟨its, _, ⟨o, ho, hc, _⟩, _⟩ := I.tuple h
    exact eq_right hr.units0 I.kIn J ⟨o, ho, hc⟩ PySem.F.slot_tuple_eq (oneThing_ref ..) O.tu (dec_tup ⟨o, ho, hc⟩ I.kIn J O.tu) O.eq O.fn fin
  | @ins c dy gs hc =>
    cases ry
    have q3 := q2 c dy gs rfl hc
    obtain ⟨mB, K0, _⟩ := ins_get I.hok hc
    obtain ⟨od2, J2, _⟩ := K0.look
    refine PySem.W.cmp_K (op := .Eq) (tb := .ref C) hr.units0 hF I.ok.mod.kin J2 J.type (by simp [PySem.W.notFirst]) O.eq O.fn ?_
    · refine wpAny_mono (wpAny_call (run_fnR (us := [.ref c, .ref a]) (vs := [.ref c, .ref a]) (FnOk.raw F hb .nil) hr hx I (.cons rfl (.cons rfl .nil)) q3)) (fun w s' z => ?_) fun _ _ x => x
      obtain ⟨z', H', I', rz, b, rfl, qz⟩ := z
      exact SlX.cmpback rz ⟨.bl b, H', I', rz, qz⟩
end
end Bd
end

section
namespace Bd
open PySem L2
abbrev sTEq : Stmt := (inClass (top 41) 1)
theorem scTEq : FnScope ["self", "other"] ["self", "other"] (defScope sTEq) := ⟨rfl, rfl, rfl, by decide +kernel, rfl, by decide +kernel, by decide +kernel⟩

def duesEqB (a b : List (Str × PyData)) : Bool := (List.zipWith (fun x y => PyData.eqv x.2 y.2) a b).all id
def treeEqB (rows : List RowM) (h : Bool) (rows' : List RowM) (h' : Bool) : Bool :=
  decide (rows.map (·.name) = rows'.map (·.name)) && (decide (rows.map (·.above) = rows'.map (·.above)) && ((List.zipWith (fun r r' => duesEqB (fullD r.dues) (fullD r'.dues)) rows rows').all id && decide (h = h')))
/-- three lists in step -/
inductive P3 {α β γ : Type} (F : α → β → γ → Prop) : List α → List β → List γ → Prop
  | nil : P3 F [] [] []
  | cons {a : α} {b : β} {c : γ} {as : List α} {bs : List β} {cs : List γ} : F a b c → P3 F as bs cs → P3 F (a :: as) (b :: bs) (c :: cs)
theorem hits_al {F : V → V → Bool → Prop} {ls : List (Key × V)} (nd : (ls.map (·.1)).Nodup) {ks us : List (Key × V)} {rs : List Bool} (h : P3 (fun (k u : Key × V) r => k.1 = u.1 ∧ F k.2 u.2 r) ks us rs) (hu : ∀ u ∈ us, u ∈ ls) : HitsV F ls ks (rs.all id) := by
  induction h with
  | nil => exact .nil
  | @cons k u r ks us rs h1 h2 ih =>
    obtain ⟨k1, k2⟩ := k
    have e : valV ls k1 = some u.2 := by
      have := val_nd nd u (hu u List.mem_cons_self)
      rw [← h1.1] at this
      exact this
    rw [List.all_cons]
    exact .hit e h1.2 (ih fun x hx => hu x (List.mem_cons_of_mem _ hx))
theorem eqv_strs : ∀ (xs ys : List Str), PyData.eqvAll (xs.map .str) (ys.map .str) = decide (xs = ys)
  | [], [] => by simp [PyData.eqvAll]
  | [], y :: ys => by simp [PyData.eqvAll]
  | x :: xs, [] => by simp [PyData.eqvAll]
  | x :: xs, y :: ys => by
    rw [List.map_cons, List.map_cons, PyData.eqvAll, eqv_strs xs ys, PyData.eqv]
    by_cases a : x = y
    · subst a
      simp
    · simp [a]
theorem eqv_strL (xs ys : List Str) : PyData.eqv (.list (xs.map .str)) (.list (ys.map .str)) = decide (xs = ys) := by
  rw [PyData.eqv]
  exact eqv_strs xs ys
theorem lay_strs : ∀ xs : List Str, (∀ x ∈ xs, PyData.canLay0 (.str x) = true) → PyData.canLayAll0 (xs.map .str) = true
  | [], _ => by simp [PyData.canLayAll0]
  | x :: xs, h => by
    rw [List.map_cons, PyData.canLayAll0, lay_strs xs fun y hy => h y (List.mem_cons_of_mem _ hy), h x List.mem_cons_self]
    rfl
theorem dep_strs : ∀ xs : List Str, PyData.depthAll (xs.map .str) = 0
  | [] => by simp [PyData.depthAll]
  | x :: xs => by
    rw [List.map_cons, PyData.depthAll, dep_strs xs, PyData.depth]
    rfl
theorem shaped_strs {xs : List Str} (h : ∀ x ∈ xs, PyData.canLay0 (.str x) = true) : SeqAt.shaped (.list (xs.map .str)) = true := by
  unfold SeqAt.shaped
  rw [PyData.canLay0, lay_strs xs h, PyData.depth, dep_strs]
  rfl
theorem lay_name {x : Str} (h : NameOk x) : PyData.canLay0 (.str x) = true := by
  have e : PyData.canLay0 (.str x) = x.cps.all (· < 0x110000) := by
    rw [PyData.canLay0]
    rfl
  rw [e, Array.all_eq_true']
  intro c hc
  have := (h.2.2 c (Array.mem_toList_iff.mpr hc)).2
  exact decide_eq_true (by omega)
theorem lay_ints : ∀ xs : List Int, PyData.canLayAll0 (xs.map .int) = true
  | [] => by simp [PyData.canLayAll0]
  | x :: xs => by
    rw [List.map_cons, PyData.canLayAll0, lay_ints xs, PyData.canLay0]
    rfl
theorem dep_ints : ∀ xs : List Int, PyData.depthAll (xs.map .int) = 0
  | [] => by simp [PyData.depthAll]
  | x :: xs => by
    rw [List.map_cons, PyData.depthAll, dep_ints xs, PyData.depth]
    rfl
theorem shaped_ints (xs : List Int) : SeqAt.shaped (.tuple (xs.map .int)) = true := by
  unfold SeqAt.shaped
  rw [PyData.canLay0, lay_ints xs, PyData.depth, dep_ints]
  rfl
theorem shaped_val {x : Str} {d : PyData} (h : ValOk x d) : SeqAt.shaped d = true := by
  cases h with
  | amt => exact shaped_ints [_, _]
  | endl => decide +kernel
  | none => decide +kernel
  | set => exact shaped_ints _
  | alone =>
    unfold SeqAt.shaped
    rw [PyData.canLay0, PyData.depth]
    rfl
theorem shaped_name {x : Str} (h : PyData.canLay0 (.str x) = true) : SeqAt.shaped (.str x) = true := by
  unfold SeqAt.shaped
  rw [h, PyData.depth]
  rfl
/-- aboves, too, are names or the root's -/
theorem lay_above {rows : List RowM} (h : RowsOk rows) {i : Nat} {r : RowM} (e : rows[i]? = some r) : PyData.canLay0 (.str r.above) = true := by
  rcases (h i r e).2.2.2 with z | ⟨q, hq, z, _⟩
  · rw [z]
    decide +kernel
  · rw [← z]
    obtain ⟨m, hm⟩ := List.mem_iff_getElem?.mp (List.mem_of_mem_take hq)
    exact lay_name (h m q hm).1
theorem dp_strs {K : PySem.W.Frag} {H : Hp} : ∀ xs : List Str, DpAll K H (xs.map V.str) (xs.map .str)
  | [] => .nil
  | x :: xs => .cons (.str x) (dp_strs xs)
/-- a thing that is no instance of the class -/
def NonIns (K : PySem.W.Frag) (H : Hp) (C : Addr) (y : V) : Prop := ∃ t, TyX K H y t ∧ PySem.W.kitOne K t (.ref C) = some false
/-- what isinstance asks of the class -/
structure TI (K : PySem.W.Frag) (C : Addr) : Prop where
  ha : PySem.W.findIn K (.ref C) "__class__" = some (some (.builtin "object.__class__"))
  hn : PySem.W.specialIn K (.builtin "object.__class__") "__get__" = some (some (.builtin "getset_descriptor.__get__"))
  htk : PySem.W.takesIn K (.builtin "object.__class__") = some true
  hm : PySem.W.mroIn K C (.type "object") = some true
def spTEq (K : PySem.W.Frag) (C : Addr) : Sp := fun vs H Q _ => ∃ (p : Addr) (y : V) (rows : List RowM) (h : Bool) (tk : List (Key × V)), vs = [.ref p, y] ∧ TreeAt K H C p rows h tk ∧ RowsOk rows ∧
  ((NonIns K H C y ∧ Q (.bl false) H) ∨ ∃ p' rows' h' tk', y = .ref p' ∧ TreeAt K H C p' rows' h' tk' ∧ RowsOk rows' ∧ (∀ kv ∈ tk, ∀ kv' ∈ tk', kv.2 ≠ kv'.2) ∧ Q (.bl (treeEqB rows h rows' h')) H)
section
variable {P : Program} {w : World} {K : PySem.W.Frag} {mg : Str → Option Value} {base : Heap} {aL C : Addr} {left : List (Key × V)}
theorem hu100 {A : Around} {k : Nat} (hr : Room k A) : A.units + 100 < cLine := by
  have := hr.un
  omega
theorem p3_dues {H : Hp} : ∀ {kvs lvs : List (Key × V)} {a b : List (Str × PyData)}, Paired (PV K H) kvs a → Paired (PV K H) lvs b → a.map (·.1) = b.map (·.1) → (∀ x ∈ a, ValOk x.1 x.2) → (∀ x ∈ b, ValOk x.1 x.2) →
    P3 (fun (k u : Key × V) r => k.1 = u.1 ∧ EqF K H 0 k.2 u.2 r) kvs lvs (List.zipWith (fun x y => PyData.eqv x.2 y.2) a b)
  | _, _, _, _, .nil, .nil, _, _, _ => .nil
  | _, _, _, _, .cons x1 x2, .cons y1 y2, e, h1, h2 => by
    rw [List.map_cons, List.map_cons] at e
    injection e with e1 e2
    exact .cons ⟨by rw [x1.1, y1.1, e1], _, _, x1.2, y1.2, shaped_val (h1 _ List.mem_cons_self), shaped_val (h2 _ List.mem_cons_self), rfl⟩ (p3_dues x2 y2 e2 (fun z hz => h1 z (List.mem_cons_of_mem _ hz)) fun z hz => h2 z (List.mem_cons_of_mem _ hz))
  | _, _, _, _, .nil, .cons _ _, e, _, _ => by cases e
  | _, _, _, _, .cons _ _, .nil, e, _, _ => by cases e
theorem fullD_keys (a : List (Str × PyData)) : (fullD a).map (·.1) = leftW := by
  rw [← leftD_words]
  unfold fullD
  rw [List.map_map]
  rfl
theorem full_nd {H : Hp} {kvs : List (Key × V)} {a : List (Str × PyData)} (h : Paired (PV K H) kvs (fullD a)) : (kvs.map (·.1)).Nodup := by
  have e : (fullD a).map (fun du => (Sum.inr du.1 : Key)) = leftW.map fun x => (Sum.inr x : Key) := by
    rw [← fullD_keys a, List.map_map]
    rfl
  rw [pv_keys h, e]
  exact nodup_inr leftW_nd
theorem p3_table {H : Hp} : ∀ {tk tk' : List (Key × V)} {rows rows' : List RowM}, Paired (fun (kv : Key × V) (r : RowM) => kv.1 = (Sum.inr r.name : Key) ∧ ∃ d, kv.2 = .ref d ∧ FullAt K H d r.dues) tk rows →
    Paired (fun (kv : Key × V) (r : RowM) => kv.1 = (Sum.inr r.name : Key) ∧ ∃ d, kv.2 = .ref d ∧ FullAt K H d r.dues) tk' rows' → rows.map (·.name) = rows'.map (·.name) → (∀ r ∈ rows, DuesOk r.dues) → (∀ r ∈ rows', DuesOk r.dues) →
    (∀ kv ∈ tk, ∀ kv' ∈ tk', kv.2 ≠ kv'.2) → P3 (fun (k u : Key × V) r => k.1 = u.1 ∧ EqF K H 1 k.2 u.2 r) tk tk' (List.zipWith (fun r r' => duesEqB (fullD r.dues) (fullD r'.dues)) rows rows')
  | _, _, _, _, .nil, .nil, _, _, _, _ => .nil
  | _, _, _, _, .cons (a := kv) (b := r) x1 x2, .cons (a := kv') (b := r') y1 y2, e, h1, h2, h3 => by
    rw [List.map_cons, List.map_cons] at e
    injection e with e1 e2
    obtain ⟨k1, d, k2, fk, f1, f2⟩ := x1
    obtain ⟨l1, d', l2, gk, g1, g2⟩ := y1
    refine .cons ⟨by rw [k1, l1, e1], d, d', k2, l2, .inr ⟨fun z => h3 kv List.mem_cons_self kv' List.mem_cons_self (by rw [k2, l2, z]), fk, gk, _, f1, g1, fun _ => hits_al (full_nd g2) (p3_dues f2 g2 ?_ ?_ ?_) fun u hu => hu, ?_⟩⟩
      (p3_table x2 y2 e2 (fun z hz => h1 z (List.mem_cons_of_mem _ hz)) (fun z hz => h2 z (List.mem_cons_of_mem _ hz)) fun z hz z' hz' => h3 z (List.mem_cons_of_mem _ hz) z' (List.mem_cons_of_mem _ hz'))
    · rw [fullD_keys, fullD_keys]
    · exact fullD_ok (h1 _ List.mem_cons_self)
    · exact fullD_ok (h2 _ List.mem_cons_self)
    · have z1 : fk.length = gk.length := by
        rw [Paired.length f2, Paired.length g2]
        unfold fullD
        rw [List.length_map, List.length_map]
      unfold duesEqB
      rw [z1]
      simp
  | _, _, _, _, .nil, .cons _ _, e, _, _, _ => by cases e
  | _, _, _, _, .cons _ _, .nil, e, _, _, _ => by cases e
theorem p3_above {H : Hp} : ∀ {rows rows' : List RowM}, rows.map (·.name) = rows'.map (·.name) → (∀ r ∈ rows, PyData.canLay0 (.str r.above) = true) → (∀ r ∈ rows', PyData.canLay0 (.str r.above) = true) →
    P3 (fun (k u : Key × V) r => k.1 = u.1 ∧ EqF K H 0 k.2 u.2 r) (rows.map fun r => ((Sum.inr r.name : Key), V.str r.above)) (rows'.map fun r => ((Sum.inr r.name : Key), V.str r.above)) (List.zipWith (fun r r' => decide (r.above = r'.above)) rows rows')
  | [], [], _, _, _ => .nil
  | r :: rows, r' :: rows', e, h1, h2 => by
    rw [List.map_cons, List.map_cons] at e
    injection e with e1 e2
    refine .cons ⟨congrArg Sum.inr e1, _, _, .str _, .str _, shaped_name (h1 _ List.mem_cons_self), shaped_name (h2 _ List.mem_cons_self), ?_⟩ (p3_above e2 (fun z hz => h1 z (List.mem_cons_of_mem _ hz)) fun z hz => h2 z (List.mem_cons_of_mem _ hz))
    rw [PyData.eqv]
    show decide (r.above = r'.above) = (r.above == r'.above)
    by_cases c : r.above = r'.above
    · rw [decide_eq_true c, c]
      exact (beq_self_eq_true _).symm
    · rw [decide_eq_false c]
      exact (beq_eq_false_iff_ne.mpr c).symm
  | [], _ :: _, e, _, _ => by cases e
  | _ :: _, [], e, _, _ => by cases e
theorem above_all : ∀ {rows rows' : List RowM}, rows.length = rows'.length → (List.zipWith (fun (r r' : RowM) => decide (r.above = r'.above)) rows rows').all id = decide (rows.map (·.above) = rows'.map (·.above))
  | [], [], _ => by simp
  | r :: rows, r' :: rows', e => by
    rw [List.zipWith_cons_cons, List.all_cons, above_all (by simpa using e), List.map_cons, List.map_cons]
    by_cases c : r.above = r'.above
    · simp [c]
    · simp [c]
  | [], _ :: _, e => by cases e
  | _ :: _, [], e => by cases e
theorem ok_teq {f : Addr} {fd : FuncData} (F : Fun K "__eq__" "Tree.__eq__" sTEq f fd) (T : TP P w K mg aL left) (TCl : TC K mg C) (TIs : TI K C) : FnOk P w K mg base CX0 1 f fd ["self", "other"] (spTEq K C) := by
  refine F.ok scTEq (fun vs H Q E h => ?_) (fun cdv A outer s H vs Q E hr h => ?_)
  · obtain ⟨p, y, rows, h, tk, rfl, _⟩ := h
    rfl
  obtain ⟨p, y, rows, h, tk, rfl, ht, hok, hy⟩ := h
  refine ⟨_, (pss_one (ps_ret (pe_and (pe_callB call_isi (by rfl) T.z_isinstance (by decide +kernel) (pa_cons (pv 1) (pa_cons (pe_glob (v := .ref C) rfl TCl.g_Tree rfl) pa_nil))) (pe_and (pe_cmpR (op_eqD hr.units) (pe_fld (pv 0) rfl) (pe_fld (pv 1) rfl) (nomark _)) (pe_and (pe_cmpR (op_eqF (hu100 hr)) (pe_fld (pv 0) rfl) (pe_fld (pv 1) rfl) (nomark _)) (pe_and (pe_cmpR (op_eqF (hu100 hr)) (pe_fld (pv 0) rfl) (pe_fld (pv 1) rfl) (nomark _)) (pe_one (pe_cmpR op_eq (pe_fld (pv 0) rfl) (pe_fld (pv 1) rfl) (nomark _))))))))), ?_⟩
  rcases hy with ⟨⟨t, ty, kt⟩, q⟩ | ⟨p', rows', h', tk', rfl, ht', hok', hdis, q⟩
  · exact ⟨_, rfl, _, _, _, _, false, rfl, .own C, ty, kt, false, rfl, iteF q⟩
  obtain ⟨dx, po, pp, pk, pt, o1, o2, o3, o4, o5, _⟩ := ht
  obtain ⟨dx', po', pp', pk', pt', w1, w2, w3, w4, w5, _⟩ := ht'
  refine ⟨_, rfl, _, _, _, _, true, rfl, .own C, .base (.ins w1 TCl.cl TIs.ha TIs.hn TIs.htk TIs.hm), by simp [PySem.W.kitOne], true, rfl, iteT ?_⟩
  refine ⟨_, rfl, p, C, dx, _, _, rfl, o1, TCl.cl, TCl.n_order, tf5_order, _, rfl, p', C, dx', _, _, rfl, w1, TCl.cl, TCl.n_order, tf5_order, ?_⟩
  have mem : ∀ {rs : List RowM}, RowsOk rs → ∀ r ∈ rs, NameOk r.name ∧ DuesOk r.dues ∧ PyData.canLay0 (.str r.above) = true := fun ok r hr => by
    obtain ⟨m, hm⟩ := List.mem_iff_getElem?.mp hr
    exact ⟨(ok m r hm).1, (ok m r hm).2.1, lay_above ok hm⟩
  have lays : ∀ {rs : List RowM}, RowsOk rs → ∀ x ∈ rs.map (·.name), PyData.canLay0 (.str x) = true := fun ok x hx => by
    obtain ⟨r, hr, rfl⟩ := List.mem_map.mp hx
    exact lay_name (mem ok r hr).1
  refine ⟨.list ((rows.map (·.name)).map .str), .list ((rows'.map (·.name)).map .str), .lst (SqL.of o2) ?_, .lst (SqL.of w2) ?_, shaped_strs (lays hok), shaped_strs (lays hok'), ?_⟩
  · have := dp_strs (K := K) (H := H) (rows.map (·.name))
    rw [List.map_map] at this
    exact this
  · have := dp_strs (K := K) (H := H) (rows'.map (·.name))
    rw [List.map_map] at this
    exact this
  rw [eqv_strL]
  unfold treeEqB at q
  by_cases en : rows.map (·.name) = rows'.map (·.name)
  · rw [decide_eq_true en]
    rw [decide_eq_true en, Bool.true_and] at q
    have el : rows.length = rows'.length := by
      have := congrArg List.length en
      simpa using this
    refine ⟨true, rfl, iteT ?_⟩
    refine ⟨_, rfl, p, C, dx, _, _, rfl, o1, TCl.cl, TCl.n_parents, tf5_parents, _, rfl, p', C, dx', _, _, rfl, w1, TCl.cl, TCl.n_parents, tf5_parents, ?_⟩
    have ndp : ((rows'.map fun r => ((Sum.inr r.name : Key), V.str r.above)).map (·.1)).Nodup := by
      have := names_nd hok' rows'.length
      rw [List.take_length] at this
      have := nodup_inr this
      rw [List.map_map] at this ⊢
      exact this
    refine ⟨pp, pp', _, _, _, 0, by decide, rfl, rfl, o3, w3, fun _ => hits_al ndp (p3_above en (fun r hr => (mem hok r hr).2.2) fun r hr => (mem hok' r hr).2.2) fun u hu => hu, ?_⟩
    rw [above_all el, List.length_map, List.length_map, el, beq_self_eq_true, Bool.true_and]
    by_cases ea : rows.map (·.above) = rows'.map (·.above)
    · rw [decide_eq_true ea]
      rw [decide_eq_true ea, Bool.true_and] at q
      refine ⟨true, rfl, iteT ?_⟩
      refine ⟨_, rfl, p, C, dx, _, _, rfl, o1, TCl.cl, TCl.n_table, tf5_table, _, rfl, p', C, dx', _, _, rfl, w1, TCl.cl, TCl.n_table, tf5_table, ?_⟩
      have ndt : (tk'.map (·.1)).Nodup := by
        rw [td_keys (fun _ _ z => z.1) w5]
        rw [List.map_map] at ndp
        exact ndp
      refine ⟨pt, pt', _, _, _, 1, by decide, rfl, rfl, o4, w4, fun _ => hits_al ndt (p3_table o5 w5 en (fun r hr => (mem hok r hr).2.1) (fun r hr => (mem hok' r hr).2.1) hdis) fun u hu => hu, ?_⟩
      rw [Paired.length o5, Paired.length w5, el, beq_self_eq_true, Bool.true_and]
      cases et : (List.zipWith (fun r r' => duesEqB (fullD r.dues) (fullD r'.dues)) rows rows').all id with
      | false =>
        rw [et, Bool.false_and] at q
        exact ⟨false, rfl, iteF q⟩
      | true =>
        rw [et, Bool.true_and] at q
        refine ⟨true, rfl, iteT ?_⟩
        refine ⟨_, rfl, p, C, dx, _, _, rfl, o1, TCl.cl, TCl.n_hands, tf5_hands, _, rfl, p', C, dx', _, _, rfl, w1, TCl.cl, TCl.n_hands, tf5_hands, rfl, ?_⟩
        have e : decide (V.bl h = V.bl h') = decide (h = h') := by
          by_cases c : h = h'
          · rw [c]
            simp
          · rw [decide_eq_false c, decide_eq_false fun z => c (V.bl.inj z)]
        show Q (.bl (decide (V.bl h = V.bl h'))) H
        rw [e]
        exact q
    · rw [decide_eq_false ea]
      rw [decide_eq_false ea, Bool.false_and] at q
      exact ⟨false, rfl, iteF q⟩
  · rw [decide_eq_false en]
    rw [decide_eq_false en, Bool.false_and] at q
    exact ⟨false, rfl, iteF q⟩
end
end Bd
end

section
namespace Bd
open PySem L2
abbrev sNames2 : Stmt := (top 70)
theorem scNames2 : FnScope ["_law_source_here", "_law_many", "_law_some", "_law_found", "_law_turn"] ["_law_source_here", "_law_many"] (defScope sNames2) := ⟨rfl, rfl, rfl, by decide +kernel, rfl, by decide +kernel, by decide +kernel⟩
def menu : List Str := ["a", "b", "c", "d", "e", "f", "g", "h", "k", "m", "pit", "shed", "tenletters", "zz"]
def spNames2 : Sp := fun vs H Q _ => ∃ (s : Addr) (m : Nat), vs = [.ref s, .int (m : Int)] ∧ Src H s ∧ m ≤ 12 ∧
  ∀ r H' (xs : List Str), H r = none → H' r = some (.lst (xs.map .str)) → xs.Nodup → (∀ x ∈ xs, x ∈ menu) → xs.length = m → Src H' s → Kept s H H' → Q (.ref r) H'
section
variable {P : Program} {w : World} {K : PySem.W.Frag} {mg : Str → Option Value} {base : Heap}
theorem src_ne {H : Hp} {p r : Addr} (h : Src H p) (hr : H r = none) : p ≠ r := by
  obtain ⟨_, _, _, h⟩ := h
  exact ne_of_none h hr
theorem src_new {H : Hp} {p r : Addr} {o : HO} (h : Src H p) (hr : H r = none) : Src (upd H r o) p := by
  have n := src_ne h hr
  obtain ⟨x, y, z, h⟩ := h
  exact ⟨x, y, z, by rw [upd_ne n]; exact h⟩
theorem src_upd {H : Hp} {p r : Addr} {o : HO} (h : Src H p) (hr : p ≠ r) : Src (upd H r o) p := by
  obtain ⟨x, y, z, h⟩ := h
  exact ⟨x, y, z, by rw [upd_ne hr]; exact h⟩
theorem seq_nat {k n : Nat} (h : k < n) : seqIndex? (k : Int) n = some k := by
  rw [seqIndex_of (by omega) (by omega)]
  rfl
theorem map_erase {α β : Type} (f : α → β) : ∀ (xs : List α) (i : Nat), (xs.map f).eraseIdx i = (xs.eraseIdx i).map f
  | [], _ => rfl
  | x :: xs, 0 => rfl
  | x :: xs, i + 1 => by
    rw [List.map_cons, List.eraseIdx_cons_succ, List.eraseIdx_cons_succ, List.map_cons, map_erase f xs i]
theorem perm_erase {α : Type} : ∀ (ys : List α) (k : Nat) (h : k < ys.length), (ys[k] :: ys.eraseIdx k).Perm ys
  | y :: ys, 0, _ => List.Perm.refl _
  | y :: ys, k + 1, h => by
    rw [List.eraseIdx_cons_succ, List.getElem_cons_succ]
    exact (List.Perm.swap _ _ _).trans ((perm_erase ys k (by simpa using h)).cons y)
theorem ok_names2 {f g : Addr} {fd gd : FuncData} (F : Fun K "_law_names" "_law_names" sNames2 f fd) (T : TA mg) (cN : Cal P w K mg base "_law_next" ["_law_source_here", "_law_many"] 2 spNext g gd) : FnOk P w K mg base CX0 3 f fd ["_law_source_here", "_law_many"] spNames2 := by
  refine F.ok scNames2 (fun vs H Q E h => ?_) (fun cdv A outer s H vs Q E hr h => ?_)
  · obtain ⟨p, m, rfl, _⟩ := h
    rfl
  obtain ⟨p, m, rfl, hp, hm, q⟩ := h
  refine ⟨_, (pss_cons (ps_set (i := 2) scNames2.nd rfl (Or.inl rfl) (pe_lst (pa_cons pe_str (pa_cons pe_str (pa_cons pe_str (pa_cons pe_str (pa_cons pe_str (pa_cons pe_str (pa_cons pe_str (pa_cons pe_str (pa_cons pe_str (pa_cons pe_str (pa_cons pe_str (pa_cons pe_str (pa_cons pe_str (pa_cons pe_str pa_nil)))))))))))))))) (pss_cons (ps_set (i := 3) scNames2.nd rfl (Or.inl rfl) (pe_lst pa_nil)) (pss_cons (ps_for PassesOwn.never rfl (pi_range1 rfl T.z_range (pa_cons (pv 1) pa_nil)) (pg_name (i := 4) scNames2.nd rfl (Or.inl rfl)) (pss_one (ps_expr (pe_bm PySem.F.plainAttrs_list PySem.F.slot_list_append PySem.F.type_list_append mt_append (pv 3) (pa_cons (pe_bm PySem.F.plainAttrs_list PySem.F.slot_list_pop PySem.F.type_list_pop mt_popAt (pv 2) (pa_cons (pe_call cN.ok (hr.mono (by decide)) rfl cN.mg cN.kp cN.bd .nil pass0 (pa_cons (pv 0) (pa_cons (pe_callB call_len_seq (by rfl) T.z_len PySem.boot_len (pa_cons (pv 2) pa_nil)) pa_nil))) pa_nil)) pa_nil))))) (pss_one (ps_ret (pv 3)))))), ?_⟩
  refine ⟨by show 14 ≤ sizeLine; decide, fun a ha => ?_⟩
  refine ⟨Nat.zero_le _, fun r hr' => ?_⟩
  obtain ⟨nra, hr0⟩ := none_upd hr'
  have npa := src_ne hp ha
  have npr := src_ne hp hr0
  refine ⟨_, rfl, _, rfl, ?_, ?_, for_range (n := m) (fun i σ H' => ∃ (o : Option V) (xs ys : List Str), σ = [some (.ref p), some (.int (m : Int)), some (.ref a), some (.ref r), o] ∧ Src H' p ∧ Kept p H H' ∧ H' a = some (.lst (ys.map .str)) ∧ H' r = some (.lst (xs.map .str)) ∧ (xs ++ ys).Perm menu ∧ xs.length = i)
    ⟨none, [], menu, rfl, src_new (src_new hp ha) hr', ((Kept.refl p H).new ha _).new hr' _, by rw [upd_ne nra.symm]; exact upd_same, upd_same, List.Perm.refl _, rfl⟩ ?_ ?_⟩
  · omega
  · omega
  · rintro i σ H1 hi ⟨o, xs, ys, rfl, hs, k1, ea, er, hperm, hlen⟩
    have l14 : (xs ++ ys).length = 14 := hperm.length_eq
    rw [List.length_append] at l14
    have yl : (ys.map V.str).length = ys.length := List.length_map _
    refine ⟨_, rfl, .inl ⟨rfl, _, SqL.of er⟩, _, rfl, .inl ⟨rfl, _, SqL.of ea⟩, _, rfl, _, rfl, a, _, rfl, .inl (SqL.of ea), p, (ys.map V.str).length, rfl, hs, by omega, by omega, fun k H2 hk hs2 kk => ?_⟩
    have ea2 := kk a _ npa.symm ea
    have er2 := kk r _ npr.symm er
    have hk' : k < ys.length := by omega
    have hy : (ys.map V.str)[k]? = some (V.str ys[k]) := by rw [List.getElem?_map, List.getElem?_eq_getElem hk']; rfl
    refine ⟨a, _, (k : Int), k, V.str ys[k], rfl, rfl, ea2, by omega, by omega, seq_nat (by omega), hy, r, _, _, rfl, rfl, (upd_ne nra).trans er2, ?_, ?_⟩
    · rw [List.length_map]
      exact small1000 (by omega)
    · refine ⟨_, xs ++ [ys[k]], ys.eraseIdx k, rfl, src_upd (src_upd hs2 npa) npr, ?_, ?_, ?_, ?_, ?_⟩
      · intro b2 o2 hb e
        have e1 := k1 b2 o2 hb e
        have e2 := kk b2 o2 hb e1
        rw [upd_ne (ne_of_none e hr0), upd_ne (ne_of_none e ha)]
        exact e2
      · rw [upd_ne nra.symm, upd_same, map_erase]
      · rw [upd_same, List.map_append]
        rfl
      · refine List.Perm.trans ?_ hperm
        rw [List.append_assoc]
        exact (List.perm_append_left_iff xs).mpr (perm_erase ys k hk')
      · rw [List.length_append, hlen]
        rfl
  · rintro σ H1 ⟨o, xs, ys, rfl, hs, k1, ea, er, hperm, hlen⟩
    have nd : (xs ++ ys).Nodup := hperm.nodup_iff.mpr (by decide +kernel)
    exact ⟨_, rfl, q r H1 xs hr0 er (List.nodup_append.mp nd).1 (fun x hx => hperm.mem_iff.mp (List.mem_append_left _ hx)) hlen hs k1⟩

end
end Bd
end

section
namespace Bd
open PySem L2
theorem full_val {dues : List (Str × PyData)} (h : ∀ x ∈ dues, ValOk x.1 x.2) : ∀ wd ∈ fullD dues, ValOk wd.1 wd.2 := by
  intro wd m
  unfold fullD at m
  obtain ⟨ld, hl, rfl⟩ := List.mem_map.mp m
  show ValOk ld.1 ((dueOf dues ld.1).getD ld.2)
  cases c : dueOf dues ld.1 with
  | none => exact (leftD_ok ld hl).2
  | some d => exact h _ (dueOf_mem c)
theorem rows_due {rows : List RowM} (h : RowsOk rows) : ∀ r ∈ rows, DuesOk r.dues := fun r hr => by
  obtain ⟨j, hj⟩ := List.mem_iff_getElem?.mp hr
  exact (h j r hj).2.1
theorem TreeAt.same {K : PySem.W.Frag} {H H' : Hp} {C p : Addr} {rows : List RowM} {h : Bool} {tk : List (Key × V)} (k : Same H H') (ok : RowsOk rows) (t : TreeAt K H C p rows h tk) : TreeAt K H' C p rows h tk := by
  obtain ⟨dx, po, pp, pk, pt, o1, o2, o3, o4, o5, ks, k1, k2, k3⟩ := t
  refine ⟨dx, po, pp, pk, pt, k _ _ o1, k _ _ o2, k _ _ o3, k _ _ o4, paired_monoM (fun kv r hr z => ?_) o5, ks, k _ _ k1, k2, fun kv hkv => ?_⟩
  · obtain ⟨z1, d, z2, kvs, z3, z4⟩ := z
    exact ⟨z1, d, z2, kvs, k _ _ z3, paired_monoM (fun kv wd hw z => ⟨z.1, (TK.of k).val (full_val (fun x hx => ((rows_due ok r hr).2 x hx).2) wd hw) z.2⟩) z4⟩
  · obtain ⟨l, e1, e2⟩ := k3 kv hkv
    exact ⟨l, e1, k _ _ e2⟩
theorem rows_same {K : PySem.W.Frag} {H H' : Hp} (k : Same H H') {xs : List V} {rows : List RowM} (h : Paired (RowAt K H) xs rows) : Paired (RowAt K H') xs rows := paired_mono (fun _ _ z => RowAt.same k z) h
theorem kids_flt (rows : List RowM) (x : Str) : kidsOf rows (Sum.inr x) = (rows.filter fun r => decide (r.above = x)).map (·.name) := by
  unfold kidsOf
  congr 1
  refine List.filter_congr fun r _ => ?_
  by_cases c : r.above = x
  · rw [decide_eq_true c, c]
    simp
  · rw [decide_eq_false c]
    exact decide_eq_false fun z => c (Sum.inr.inj z)
theorem dec_strs (a b : Str) : decide (V.str a = V.str b) = decide (a = b) := by
  by_cases c : a = b
  · rw [c]
    simp
  · rw [decide_eq_false c]
    exact decide_eq_false fun z => c (V.str.inj z)
theorem flt_take (f : RowM → Bool) {rows : List RowM} {i : Nat} {r : RowM} (h : rows[i]? = some r) : (((rows.take (i + 1)).filter f).map (·.name)).map V.str = (((rows.take i).filter f).map (·.name)).map V.str ++ (if f r = true then [V.str r.name] else []) := by
  rw [List.take_add_one, h, Option.toList_some, List.filter_append, List.map_append, List.map_append]
  cases z : f r with
  | true =>
    rw [List.filter_cons_of_pos z]
    rfl
  | false =>
    rw [List.filter_cons_of_neg (by rw [z]; decide)]
    rfl
theorem ne_self {xs ys : List Str} (e : xs = ys) : (!PyData.eqv (.list (xs.map .str)) (.list (ys.map .str))) = false := by
  rw [eqv_strL, decide_eq_true e]
  rfl
theorem dp_strL {K : PySem.W.Frag} {H : Hp} {a : Addr} {xs : List Str} (h : H a = some (.lst (xs.map V.str))) : Dp K H (.ref a) (.list (xs.map .str)) := .lst (SqL.of h) (dp_strs xs)
theorem lay_nms {rows : List RowM} (ok : RowsOk rows) : ∀ x ∈ nms rows, PyData.canLay0 (.str x) = true := fun x hx => by
  obtain ⟨r, hr, rfl⟩ := List.mem_map.mp hx
  obtain ⟨m, hm⟩ := List.mem_iff_getElem?.mp hr
  exact lay_name (ok m r hm).1
theorem kids_in (rows : List RowM) (k : Key) : ∀ x ∈ kidsOf rows k, x ∈ nms rows := fun x hx => by
  obtain ⟨r, hr, rfl⟩ := List.mem_map.mp hx
  exact List.mem_map.mpr ⟨r, (List.mem_filter.mp hr).1, rfl⟩
theorem leaves_in (rows : List RowM) : ∀ x ∈ leavesOf rows, x ∈ nms rows := fun x hx => by
  obtain ⟨r, hr, rfl⟩ := List.mem_map.mp hx
  exact List.mem_map.mpr ⟨r, (List.mem_filter.mp hr).1, rfl⟩
theorem same_upd2 {H : Hp} {a b : Addr} {o u : HO} (ha : H a = none) (hb : upd H a o b = none) : Same H (upd (upd H a o) b u) := Same.new (Same.new (Same.refl H) ha o) hb u
theorem none_of_same {H H' : Hp} {a : Addr} (s : Same H H') (h : H' a = none) : H a = none := s.free h
/-- a list that is not in H may be changed -/
theorem Same.ch {H H1 : Hp} {a : Addr} (s : Same H H1) (h : H a = none) (o : HO) : Same H (upd H1 a o) := fun b u e => by
  rw [upd_ne (ne_of_none e h)]
  exact s b u e
end Bd
end

section
namespace Am
theorem natCast_dvd' {d : Nat} {n : Int} : (d : Int) ∣ n ↔ d ∣ n.natAbs := by
  rw [← Int.natAbs_dvd_natAbs, Int.natAbs_natCast]
/-! ### sums of fractions in lowest terms -/
/-- what may be cancelled has something in common with `common` -/
def NC (top : Int) (bottom common : Nat) : Prop := ∀ d : Nat, d ∣ top.natAbs → d ∣ bottom → Nat.Coprime d common → d = 1
theorem nc_step {top : Int} {bottom common : Nat} {more : Int} {parts : Nat} (hb : 0 < bottom) (hp : 0 < parts) (h : NC top bottom common) (hq : Nat.Coprime more.natAbs parts) :
    NC (top * ((parts / Nat.gcd bottom parts : Nat) : Int) + more * ((bottom / Nat.gcd bottom parts : Nat) : Int)) (bottom * (parts / Nat.gcd bottom parts)) (common * Nat.gcd bottom parts) := by
  intro d h1 h2 h3
  have hg : 0 < Nat.gcd bottom parts := Nat.gcd_pos_of_pos_left _ hb
  generalize hs : Nat.gcd bottom parts = s at *
  have sb : s ∣ bottom := by rw [← hs]; exact Nat.gcd_dvd_left _ _
  have sp : s ∣ parts := by rw [← hs]; exact Nat.gcd_dvd_right _ _
  obtain ⟨b, rfl⟩ := sb
  obtain ⟨f, rfl⟩ := sp
  rw [Nat.mul_div_cancel_left _ hg, Nat.mul_div_cancel_left _ hg] at h1
  rw [Nat.mul_div_cancel_left _ hg] at h2
  have dc : Nat.Coprime d common := Nat.Coprime.coprime_dvd_right (Nat.dvd_mul_right _ _) h3
  have ds : Nat.Coprime d s := Nat.Coprime.coprime_dvd_right (Nat.dvd_mul_left _ _) h3
  -- d has nothing in common with f
  have df : Nat.Coprime d f := by
    show Nat.gcd d f = 1
    have e1 : Nat.gcd d f ∣ d := Nat.gcd_dvd_left _ _
    have e2 : Nat.gcd d f ∣ f := Nat.gcd_dvd_right _ _
    generalize Nat.gcd d f = e at e1 e2 ⊢
    have z1 : (e : Int) ∣ top * (f : Int) + more * (b : Int) := natCast_dvd'.mpr (Nat.dvd_trans e1 h1)
    have z2 : (e : Int) ∣ top * (f : Int) := Int.dvd_trans (Int.natCast_dvd_natCast.mpr e2) (Int.dvd_mul_left _ _)
    have z3 : (e : Int) ∣ more * (b : Int) := (Int.dvd_add_right z2).mp z1
    have z4 : e ∣ more.natAbs * b := by
      have := natCast_dvd'.mp z3
      rw [Int.natAbs_mul, Int.natAbs_natCast] at this
      exact this
    have em : Nat.Coprime e more.natAbs := Nat.Coprime.coprime_dvd_left e2 (Nat.Coprime.symm (Nat.Coprime.coprime_dvd_right (Nat.dvd_mul_left _ _) hq))
    have eb : e ∣ b := Nat.Coprime.dvd_of_dvd_mul_left em z4
    -- b and f have nothing in common
    have bf : Nat.Coprime b f := by
      have : Nat.gcd (s * b) (s * f) = s * 1 := by rw [hs, Nat.mul_one]
      rw [Nat.gcd_mul_left] at this
      exact Nat.eq_of_mul_eq_mul_left hg this
    have : e ∣ 1 := by
      have := Nat.dvd_gcd eb e2
      rw [bf] at this
      exact this
    exact Nat.dvd_one.mp this
  have d1 : d ∣ s * b := Nat.Coprime.dvd_of_dvd_mul_right df h2
  have d2 : d ∣ b := Nat.Coprime.dvd_of_dvd_mul_left ds d1
  have z1 : (d : Int) ∣ top * (f : Int) + more * (b : Int) := natCast_dvd'.mpr h1
  have z2 : (d : Int) ∣ more * (b : Int) := Int.dvd_trans (Int.natCast_dvd_natCast.mpr d2) (Int.dvd_mul_left _ _)
  have z3 : (d : Int) ∣ top * (f : Int) := (Int.dvd_add_left z2).mp z1
  have z4 : d ∣ top.natAbs * f := by
    have := natCast_dvd'.mp z3
    rw [Int.natAbs_mul, Int.natAbs_natCast] at this
    exact this
  exact h d (Nat.Coprime.dvd_of_dvd_mul_right df z4) d1 dc
theorem nc_self {top : Int} {bottom : Nat} : NC top bottom bottom := fun d _ h2 h3 => by
  have := Nat.dvd_gcd (Nat.dvd_refl d) h2
  rw [h3] at this
  exact Nat.dvd_one.mp this
theorem nc_down {top : Int} {bottom common s : Nat} (h : NC top bottom common) (h1 : (s : Int) ∣ top) (h2 : s ∣ bottom) : NC (top / (s : Int)) (bottom / s) common := fun d d1 d2 d3 => by
  refine h d (Nat.dvd_trans d1 ?_) (Nat.dvd_trans d2 (Nat.div_dvd_of_dvd h2)) d3
  obtain ⟨k, rfl⟩ := h1
  by_cases s0 : s = 0
  · subst s0
    simp
  · rw [Int.mul_ediv_cancel_left _ (by omega), Int.natAbs_mul]
    exact Nat.dvd_mul_left _ _
theorem nc_end {top : Int} {bottom common : Nat} (h : NC top bottom common) (e : Nat.gcd bottom (Nat.gcd top.natAbs common) = 1) : Nat.Coprime top.natAbs bottom := by
  refine h _ (Nat.gcd_dvd_left _ _) (Nat.gcd_dvd_right _ _) ?_
  show Nat.gcd (Nat.gcd top.natAbs bottom) common = 1
  rw [← e, Nat.gcd_comm top.natAbs bottom, Nat.gcd_assoc]
/-- one more -/
theorem mk_step {top more : Int} {bottom parts : Nat} (hb : 0 < bottom) (hp : 0 < parts) :
    mkRat (top * ((parts / Nat.gcd bottom parts : Nat) : Int) + more * ((bottom / Nat.gcd bottom parts : Nat) : Int)) (bottom * (parts / Nat.gcd bottom parts)) = mkRat top bottom + mkRat more parts := by
  have hg : 0 < Nat.gcd bottom parts := Nat.gcd_pos_of_pos_left _ hb
  generalize hs : Nat.gcd bottom parts = s at *
  have sb : s ∣ bottom := by rw [← hs]; exact Nat.gcd_dvd_left _ _
  have sp : s ∣ parts := by rw [← hs]; exact Nat.gcd_dvd_right _ _
  obtain ⟨b, rfl⟩ := sb
  obtain ⟨f, rfl⟩ := sp
  rw [Nat.mul_div_cancel_left _ hg, Nat.mul_div_cancel_left _ hg, Rat.mkRat_add_mkRat _ _ (by omega) (by omega)]
  have e1 : top * ((s * f : Nat) : Int) + more * ((s * b : Nat) : Int) = (top * (f : Int) + more * (b : Int)) * (s : Int) := by
    push_cast
    grind
  have e2 : s * b * (s * f) = s * b * f * s := by grind
  rw [e1, e2, Rat.mkRat_mul_right (by omega)]
theorem mk_low {n : Int} {d : Nat} (hd : 0 < d) (h : Nat.Coprime n.natAbs d) : (mkRat n d).num = n ∧ (mkRat n d).den = d := by
  have : mkRat n d = ⟨n, d, by omega, h⟩ := by
    rw [Rat.mk_eq_mkRat]
  rw [this]
  exact ⟨rfl, rfl⟩
theorem mk_self (q : Rat) : mkRat q.num q.den = q := Rat.mkRat_self q
theorem mk_div {n : Int} {d s : Nat} (hs : 0 < s) (h1 : (s : Int) ∣ n) (h2 : s ∣ d) : mkRat (n / (s : Int)) (d / s) = mkRat n d := by
  obtain ⟨k, rfl⟩ := h1
  obtain ⟨e, rfl⟩ := h2
  rw [Int.mul_ediv_cancel_left _ (by omega), Nat.mul_div_cancel_left _ hs, Int.mul_comm, Nat.mul_comm, Rat.mkRat_mul_right (by omega)]
end Am
namespace Am
theorem nonneg_num {n : Int} {d : Nat} (hd : 0 < d) (h : 0 ≤ mkRat n d) : 0 ≤ n := by
  rw [← Rat.divInt_ofNat] at h
  exact (Rat.divInt_nonneg_iff_of_pos_right (by omega)).mp h
theorem nat_num {q : Rat} (h : 0 ≤ q) : q.num = ((q.num.natAbs : Nat) : Int) := by
  have := Rat.num_nonneg.mpr h
  omega
/-- products: what stands across is cancelled first -/
theorem mul_low {a b c d : Nat} (hb : 0 < b) (hd : 0 < d) (h1 : Nat.Coprime a b) (h2 : Nat.Coprime c d) :
    (mkRat ((a / Nat.gcd a d : Nat) * (c / Nat.gcd c b : Nat) : Nat) ((b / Nat.gcd c b) * (d / Nat.gcd a d)) = mkRat (a : Nat) b * mkRat (c : Nat) d) ∧
    Nat.Coprime ((a / Nat.gcd a d) * (c / Nat.gcd c b)) ((b / Nat.gcd c b) * (d / Nat.gcd a d)) ∧ 0 < (b / Nat.gcd c b) * (d / Nat.gcd a d) := by
  have hf : 0 < Nat.gcd a d := Nat.gcd_pos_of_pos_right _ hd
  have hs : 0 < Nat.gcd c b := Nat.gcd_pos_of_pos_right _ hb
  have k1 : Nat.Coprime (a / Nat.gcd a d) (d / Nat.gcd a d) := Nat.coprime_div_gcd_div_gcd hf
  have k2 : Nat.Coprime (c / Nat.gcd c b) (b / Nat.gcd c b) := Nat.coprime_div_gcd_div_gcd hs
  have k3 : Nat.Coprime (a / Nat.gcd a d) (b / Nat.gcd c b) := Nat.Coprime.coprime_div_left (Nat.Coprime.coprime_div_right h1 (Nat.gcd_dvd_right _ _)) (Nat.gcd_dvd_left _ _)
  have k4 : Nat.Coprime (c / Nat.gcd c b) (d / Nat.gcd a d) := Nat.Coprime.coprime_div_left (Nat.Coprime.coprime_div_right h2 (Nat.gcd_dvd_right _ _)) (Nat.gcd_dvd_left _ _)
  have p1 : 0 < b / Nat.gcd c b := Nat.div_pos (Nat.le_of_dvd hb (Nat.gcd_dvd_right _ _)) hs
  have p2 : 0 < d / Nat.gcd a d := Nat.div_pos (Nat.le_of_dvd hd (Nat.gcd_dvd_right _ _)) hf
  refine ⟨?_, Nat.Coprime.mul_left (Nat.Coprime.mul_right k3 k1) (Nat.Coprime.mul_right k2 k4), Nat.mul_pos p1 p2⟩
  rw [Rat.mkRat_mul_mkRat]
  have ea := Nat.div_mul_cancel (Nat.gcd_dvd_left a d)
  have ed := Nat.div_mul_cancel (Nat.gcd_dvd_right a d)
  have ec := Nat.div_mul_cancel (Nat.gcd_dvd_left c b)
  have eb := Nat.div_mul_cancel (Nat.gcd_dvd_right c b)
  generalize a / Nat.gcd a d = a1 at *
  generalize d / Nat.gcd a d = d1 at *
  generalize c / Nat.gcd c b = c1 at *
  generalize b / Nat.gcd c b = b1 at *
  generalize Nat.gcd a d = f at *
  generalize Nat.gcd c b = s at *
  have e1 : ((a : Nat) : Int) * ((c : Nat) : Int) = ((a1 * c1 : Nat) : Int) * ((f * s : Nat) : Int) := by
    rw [← ea, ← ec]
    push_cast
    grind
  have e2 : b * d = b1 * d1 * (f * s) := by
    rw [← eb, ← ed]
    grind
  rw [e1, e2, Rat.mkRat_mul_right (Nat.pos_iff_ne_zero.mp (Nat.mul_pos hf hs))]
theorem inv_low {q : Rat} (h : 0 < q) : (q⁻¹).num = (q.den : Int) ∧ (q⁻¹).den = q.num.natAbs := by
  have hn : 0 < q.num := by
    have h1 := Rat.num_nonneg.mpr (Rat.le_of_lt h)
    rcases Int.lt_or_eq_of_le h1 with z | z
    · exact z
    · exact absurd (Rat.num_eq_zero.mp z.symm) (fun e => by rw [e] at h; exact absurd h (by decide))
  refine ⟨?_, ?_⟩
  · rw [Rat.num_inv, Int.sign_eq_one_of_pos hn, Int.one_mul]
  · rw [Rat.den_inv, if_neg (by omega)]
/-- sums in the order of a list -/
def sumQ (qs : List Rat) : Rat := qs.foldl (· + ·) 0
theorem sum_snoc (qs : List Rat) (q : Rat) : sumQ (qs ++ [q]) = sumQ qs + q := by
  unfold sumQ
  rw [List.foldl_append]
  rfl
theorem top_step {top more : Int} {bottom parts S i : Nat} (hb : 0 < bottom) (h1 : top.natAbs ≤ S * i * bottom) (h2 : more.natAbs ≤ S * parts) :
    (top * ((parts / Nat.gcd bottom parts : Nat) : Int) + more * ((bottom / Nat.gcd bottom parts : Nat) : Int)).natAbs ≤ S * (i + 1) * (bottom * (parts / Nat.gcd bottom parts)) := by
  have eb := Nat.div_mul_cancel (Nat.gcd_dvd_left bottom parts)
  have ep := Nat.div_mul_cancel (Nat.gcd_dvd_right bottom parts)
  generalize bottom / Nat.gcd bottom parts = b at *
  generalize parts / Nat.gcd bottom parts = f at *
  generalize Nat.gcd bottom parts = s at *
  refine Nat.le_trans (Int.natAbs_add_le _ _) ?_
  rw [Int.natAbs_mul, Int.natAbs_mul, Int.natAbs_natCast, Int.natAbs_natCast]
  have g1 : top.natAbs * f ≤ S * i * bottom * f := Nat.mul_le_mul_right _ h1
  have g2 : more.natAbs * b ≤ S * parts * b := Nat.mul_le_mul_right _ h2
  have e : S * (i + 1) * (bottom * f) = S * i * bottom * f + S * parts * b := by
    rw [← ep, ← eb]
    grind
  omega
theorem lcm_dvd' {bottom parts M : Nat} (h1 : bottom ∣ M) (h2 : parts ∣ M) : bottom * (parts / Nat.gcd bottom parts) ∣ M := by
  have := Nat.lcm_dvd h1 h2
  unfold Nat.lcm at this
  rw [Nat.mul_div_assoc _ (Nat.gcd_dvd_right _ _)] at this
  exact this
end Am
end

section
namespace Bd
open PySem L2 Am
open Evl hiding tCut pss_cut
abbrev sTotal : Stmt := (top 13)
theorem scTotal : FnScope ["amounts", "top", "bottom", "common", "more", "parts", "same", "finer"] ["amounts"] (defScope sTotal) := ⟨rfl, rfl, rfl, by decide +kernel, rfl, by decide +kernel, by decide +kernel⟩
abbrev sCancelled : Stmt := (top 14)
theorem scCancelled : FnScope ["top", "bottom", "common", "same"] ["top", "bottom", "common"] (defScope sCancelled) := ⟨rfl, rfl, rfl, by decide +kernel, rfl, by decide +kernel, by decide +kernel⟩
abbrev sPlus : Stmt := (top 15)
theorem scPlus : FnScope ["one", "other"] ["one", "other"] (defScope sPlus) := ⟨rfl, rfl, rfl, by decide +kernel, rfl, by decide +kernel, by decide +kernel⟩
abbrev sMinus : Stmt := (top 16)
theorem scMinus : FnScope ["one", "other"] ["one", "other"] (defScope sMinus) := ⟨rfl, rfl, rfl, by decide +kernel, rfl, by decide +kernel, by decide +kernel⟩
abbrev sTimes : Stmt := (top 17)
theorem scTimes : FnScope ["one", "other", "first", "second"] ["one", "other"] (defScope sTimes) := ⟨rfl, rfl, rfl, by decide +kernel, rfl, by decide +kernel, by decide +kernel⟩
abbrev sOver : Stmt := (top 18)
theorem scOver : FnScope ["one", "other"] ["one", "other"] (defScope sOver) := ⟨rfl, rfl, rfl, by decide +kernel, rfl, by decide +kernel, by decide +kernel⟩
abbrev sIsLess : Stmt := (top 19)
theorem scIsLess : FnScope ["one", "other"] ["one", "other"] (defScope sIsLess) := ⟨rfl, rfl, rfl, by decide +kernel, rfl, by decide +kernel, by decide +kernel⟩
abbrev sLesser : Stmt := (top 20)
theorem scLesser : FnScope ["one", "other"] ["one", "other"] (defScope sLesser) := ⟨rfl, rfl, rfl, by decide +kernel, rfl, by decide +kernel, by decide +kernel⟩

structure TMn (mg : Str → Option Value) : Prop where
  z_min : mg "min" = none
/-- an amount as it stands: a pair in lowest terms -/
def AmtQ (K : PySem.W.Frag) (H : Hp) (v : V) (q : Rat) : Prop := ∃ a, v = .ref a ∧ SqT K H a [.int q.num, .int (q.den : Int)]
theorem AmtQ.same {K : PySem.W.Frag} {H H' : Hp} {v : V} {q : Rat} (s : Same H H') (h : AmtQ K H v q) : AmtQ K H' v q := by
  obtain ⟨a, e, h⟩ := h
  exact ⟨a, e, Same.seqT s h⟩
theorem AmtQ.tk {K : PySem.W.Frag} {H H' : Hp} {v : V} {q : Rat} (s : TK H H') (h : AmtQ K H v q) : AmtQ K H' v q := by
  obtain ⟨a, e, h⟩ := h
  exact ⟨a, e, s.seqT h⟩
def spCanc (K : PySem.W.Frag) : Sp := fun vs H Q _ => ∃ n d c : Nat, vs = [.int (n : Int), .int (d : Int), .int (c : Int)] ∧ 0 < d ∧ n < 2 ^ 3000 ∧ d < 2 ^ 3000 ∧ c < 2 ^ 3000 ∧ NC (n : Int) d c ∧ ∀ v H', Same H H' → AmtQ K H' v (mkRat (n : Int) d) → Q v H'
def spTotal (K : PySem.W.Frag) : Sp := fun vs H Q _ => ∃ (l : Addr) (ws : List V) (qs : List Rat) (M S : Nat), vs = [.ref l] ∧ SqL K H l ws ∧ Paired (AmtQ K H) ws qs ∧ 0 < M ∧ M < 2 ^ 3000 ∧ S * qs.length * M < 2 ^ 3000 ∧ (∀ q ∈ qs, q.den ∣ M ∧ q.num.natAbs ≤ S * q.den) ∧ 0 ≤ sumQ qs ∧ ∀ v H', Same H H' → AmtQ K H' v (sumQ qs) → Q v H'
def spPlus (K : PySem.W.Frag) : Sp := fun vs H Q _ => ∃ (va vb : V) (a b : Rat) (M S : Nat), vs = [va, vb] ∧ AmtQ K H va a ∧ AmtQ K H vb b ∧ 0 < M ∧ M < 2 ^ 3000 ∧ S * 2 * M < 2 ^ 3000 ∧ (a.den ∣ M ∧ a.num.natAbs ≤ S * a.den) ∧ (b.den ∣ M ∧ b.num.natAbs ≤ S * b.den) ∧ 0 ≤ a + b ∧ ∀ v H', Same H H' → AmtQ K H' v (a + b) → Q v H'
def spMinus (K : PySem.W.Frag) : Sp := fun vs H Q _ => ∃ (va vb : V) (a b : Rat) (M S : Nat), vs = [va, vb] ∧ AmtQ K H va a ∧ AmtQ K H vb b ∧ 0 < M ∧ M < 2 ^ 3000 ∧ S * 2 * M < 2 ^ 3000 ∧ (a.den ∣ M ∧ a.num.natAbs ≤ S * a.den) ∧ (b.den ∣ M ∧ b.num.natAbs ≤ S * b.den) ∧ b ≤ a ∧ ∀ v H', Same H H' → AmtQ K H' v (a - b) → Q v H'
/-- short enough for one divisor -/
def Sz (q : Rat) : Prop := q.num.natAbs < 2 ^ 3000 ∧ q.den < 2 ^ 3000
def spTimes (K : PySem.W.Frag) : Sp := fun vs H Q _ => ∃ (va vb : V) (a b : Rat), vs = [va, vb] ∧ AmtQ K H va a ∧ AmtQ K H vb b ∧ Sz a ∧ Sz b ∧ 0 ≤ a ∧ 0 ≤ b ∧ ∀ v H', Same H H' → AmtQ K H' v (a * b) → Q v H'
def spOver (K : PySem.W.Frag) : Sp := fun vs H Q _ => ∃ (va vb : V) (a b : Rat), vs = [va, vb] ∧ AmtQ K H va a ∧ AmtQ K H vb b ∧ Sz a ∧ Sz b ∧ 0 ≤ a ∧ 0 < b ∧ ∀ v H', Same H H' → AmtQ K H' v (a / b) → Q v H'
def spLess (K : PySem.W.Frag) : Sp := fun vs H Q _ => ∃ (va vb : V) (a b : Rat), vs = [va, vb] ∧ AmtQ K H va a ∧ AmtQ K H vb b ∧ Sz a ∧ Sz b ∧ ∀ H', Same H H' → Q (.bl (decide (a < b))) H'
def spLesser (K : PySem.W.Frag) : Sp := fun vs H Q _ => ∃ (va vb : V) (a b : Rat), vs = [va, vb] ∧ AmtQ K H va a ∧ AmtQ K H vb b ∧ Sz a ∧ Sz b ∧ ∀ H', Same H H' → Q (if b < a then vb else va) H'
theorem log_lt {n : Nat} (h : n < 2 ^ 3000) : n.log2 < 3000 := by
  by_cases e : n = 0
  · subst e
    decide
  · exact (Nat.log2_lt e).mpr h
theorem log_ltI {n : Int} (h : n.natAbs < 2 ^ 3000) : n.natAbs.log2 < 3000 := log_lt h
theorem div_nat (a b : Nat) : ((a : Int) / (b : Int)) = ((a / b : Nat) : Int) := (Int.natCast_ediv a b).symm
theorem q_par {σ : L2.St} {H : Hp} {ta : L2.TA} {x y : V} {D : Ends} {tz : TS} {i j : Nat} (h : EvA ta σ H [x, y]) (k : ∀ H1, Ex H H1 → tz D ((σ.set i (some x)).set j (some y)) H1) : tSeq (tPar i j ta) tz D σ H :=
  h H (Ex.refl H) _ fun H1 e => ⟨_, _, rfl, k H1 e⟩
theorem ev_gcd {σ : L2.St} {H : Hp} {ta tb : TE} {a b : Nat} (h1 : Ev ta σ H (.int (a : Int))) (h2 : Ev tb σ H (.int (b : Int))) (ha : a < 2 ^ 3000) (hb : b < 2 ^ 3000) : Ev (tCall spDivisor [] E0 (tCons ta (tCons tb tNil))) σ H (.int ((Nat.gcd a b : Nat) : Int)) :=
  ev_call (vs := [.int (a : Int), .int (b : Int)]) (ea_cons h1 (ea_cons h2 ea_nil)) fun H3 e3 Q3 k3 E3 => ⟨a, b, rfl, ha, hb, k3 H3 (Ex.refl H3)⟩
theorem rv_div {H : Hp} {a b : Nat} (hb : 0 < b) (h : b < 2 ^ 3000) : RV (rI CDivW fun i j => V.int (i / j)) (.int (a : Int)) (.int (b : Int)) H (.int ((a / b : Nat) : Int)) := by
  rw [← div_nat]
  exact rv_I ⟨by omega, by have := log_lt h; rw [Int.natAbs_natCast]; omega⟩
section
variable {P : Program} {w : World} {K : PySem.W.Frag} {mg : Str → Option Value} {base : Heap}
theorem gcd_lt {a b : Nat} (hb : 0 < b) (h : b < 2 ^ 3000) : Nat.gcd a b < 2 ^ 3000 := Nat.lt_of_le_of_lt (Nat.gcd_le_right a hb) h
theorem ok_canc {f g : Addr} {fd gd : FuncData} (F : Fun K "cancelled" "cancelled" sCancelled f fd) (cD : Cal P w K mg base "divisor" ["one", "other"] 1 spDivisor g gd) : FnOk P w K mg base CX0 2 f fd ["top", "bottom", "common"] (spCanc K) := by
  refine F.ok scCancelled (fun vs H Q E h => ?_) (fun cdv A outer s H vs Q E hr h => ?_)
  · obtain ⟨n, d, c, rfl, _⟩ := h
    rfl
  obtain ⟨n, d, c, rfl, d0, hn, hd, hc, nc, q⟩ := h
  refine ⟨_, (pss_cons (ps_if (pt_cmpR op_eq (pv 2) (pv 1) (nomark _)) (pss_cons (ps_set (i := 3) scCancelled.nd rfl (Or.inl rfl) (pe_call cD.ok (hr.mono (by decide)) rfl cD.mg cD.kp cD.bd .nil pass0 (pa_cons (pv 0) (pa_cons (pv 1) pa_nil)))) (pss_one (ps_ret (pe_tup (pa_cons (pe_op op_fdivW (pv 0) (pv 3)) (pa_cons (pe_op op_fdivW (pv 1) (pv 3)) pa_nil)))))) pss_nil) (pss_cons (ps_set (i := 3) scCancelled.nd rfl (Or.inl rfl) (pe_call cD.ok (hr.mono (by decide)) rfl cD.mg cD.kp cD.bd .nil pass0 (pa_cons (pv 1) (pa_cons (pe_call cD.ok (hr.mono (by decide)) rfl cD.mg cD.kp cD.bd .nil pass0 (pa_cons (pv 0) (pa_cons (pv 2) pa_nil))) pa_nil)))) (pss_cons (ps_while PassesOwn.never (pt_cmpR op_gt (pv 3) pe_int (nomark _)) (pss_cons (ps_par (i := 0) (j := 1) (by rfl) scCancelled.nd rfl rfl (by decide) rfl rfl (pa_cons (pe_op op_fdivW (pv 0) (pv 3)) (pa_cons (pe_op op_fdivW (pv 1) (pv 3)) pa_nil)) (by rfl)) (pss_one (ps_set (i := 3) scCancelled.nd rfl (Or.inl rfl) (pe_call cD.ok (hr.mono (by decide)) rfl cD.mg cD.kp cD.bd .nil pass0 (pa_cons (pv 1) (pa_cons (pe_call cD.ok (hr.mono (by decide)) rfl cD.mg cD.kp cD.bd .nil pass0 (pa_cons (pv 0) (pa_cons (pv 2) pa_nil))) pa_nil))))))) (pss_one (ps_ret (pe_tup (pa_cons (pv 0) (pa_cons (pv 1) pa_nil)))))))), ?_⟩
  refine q_when (b := decide (c = d)) (et_is (et_test (ev_op (ev_var rfl) (ev_var rfl) (rv_eq rfl))) ?_) (fun hb H1 e1 => ?_) fun hb H1 e1 => ?_
  · by_cases e : c = d
    · rw [e]
      simp
    · rw [decide_eq_false e]
      exact decide_eq_false fun z => e (by have := V.int.inj z; omega)
  · have e := of_decide_eq_true hb
    subst e
    have hg := Nat.gcd_pos_of_pos_right n d0
    refine q_asg (ev_gcd (ev_var rfl) (ev_var rfl) hn hd) fun H2 e2 => ?_
    refine s_retU (eu_tup (ea_cons (ev_op (ev_var rfl) (ev_var rfl) (rv_div hg (gcd_lt d0 hd))) (ea_cons (ev_op (ev_var rfl) (ev_var rfl) (rv_div hg (gcd_lt d0 hd))) ea_nil)) (by show 2 ≤ 100000; decide)) fun p H3 _ e3 f => ?_
    have hk : Nat.Coprime (n / Nat.gcd n c) (c / Nat.gcd n c) := Nat.coprime_div_gcd_div_gcd hg
    have hm : mkRat ((n / Nat.gcd n c : Nat) : Int) (c / Nat.gcd n c) = mkRat (n : Int) c := by
      rw [← div_nat]
      exact mk_div hg (Int.natCast_dvd_natCast.mpr (Nat.gcd_dvd_left _ _)) (Nat.gcd_dvd_right _ _)
    obtain ⟨z1, z2⟩ := mk_low (n := ((n / Nat.gcd n c : Nat) : Int)) (Nat.div_pos (Nat.le_of_dvd d0 (Nat.gcd_dvd_right _ _)) hg) (by rw [Int.natAbs_natCast]; exact hk)
    rw [hm] at z1 z2
    refine q _ H3 (Same.trans (Same.trans e1 e2) e3) ⟨p, rfl, ?_⟩
    rw [z1, z2]
    exact SqT.of f
  · refine q_asg (ev_gcd (b := Nat.gcd n c) (ev_var rfl) (ev_gcd (ev_var rfl) (ev_var rfl) hn hc) hd ?_) fun H2 e2 => ?_
    · by_cases c0 : c = 0
      · rw [c0, Nat.gcd_zero_right]
        exact hn
      · exact gcd_lt (by omega) hc
    refine q_while (fun m σ G => ∃ n' d' : Nat, σ = [some (.int (n' : Int)), some (.int (d' : Int)), some (.int (c : Int)), some (.int ((Nat.gcd d' (Nat.gcd n' c) : Nat) : Int))] ∧ Same H G ∧ m = d' ∧ 0 < d' ∧ n' < 2 ^ 3000 ∧ d' < 2 ^ 3000 ∧ NC (n' : Int) d' c ∧ mkRat (n' : Int) d' = mkRat (n : Int) d)
      d ⟨n, d, rfl, Same.trans e1 e2, rfl, d0, hn, hd, nc, rfl⟩ ?_
    rintro m σ G ⟨n', d', rfl, sG, rfl, d0', hn', hd', nc', em⟩
    have hg : 0 < Nat.gcd m (Nat.gcd n' c) := Nat.gcd_pos_of_pos_left _ d0'
    have hs : Nat.gcd m (Nat.gcd n' c) ≤ m := Nat.gcd_le_left _ d0'
    have dv1 : Nat.gcd m (Nat.gcd n' c) ∣ n' := Nat.dvd_trans (Nat.gcd_dvd_right _ _) (Nat.gcd_dvd_left _ _)
    have dv2 : Nat.gcd m (Nat.gcd n' c) ∣ m := Nat.gcd_dvd_left _ _
    refine ⟨decide (1 < Nat.gcd m (Nat.gcd n' c)), et_is (et_test (ev_op (ev_var rfl) ev_c rv_I0)) ?_, fun hb H1 e1 => ?_, fun hb H1 e1 => ?_⟩
    · exact decide_eq_decide.mpr (by omega)
    · have h1 := of_decide_eq_true hb
      refine ⟨fun σ2 H2 => ∃ m', m' < m ∧ ∃ n' d' : Nat, σ2 = [some (.int (n' : Int)), some (.int (d' : Int)), some (.int (c : Int)), some (.int ((Nat.gcd d' (Nat.gcd n' c) : Nat) : Int))] ∧ Same H H2 ∧ m' = d' ∧ 0 < d' ∧ n' < 2 ^ 3000 ∧ d' < 2 ^ 3000 ∧ NC (n' : Int) d' c ∧ mkRat (n' : Int) d' = mkRat (n : Int) d, fun _ _ h => h, ?_⟩
      generalize hgs : Nat.gcd m (Nat.gcd n' c) = s at *
      have k0 : 0 < m / s := Nat.div_pos hs hg
      have k1 : n' / s < 2 ^ 3000 := Nat.lt_of_le_of_lt (Nat.div_le_self _ _) hn'
      have k2 : m / s < 2 ^ 3000 := Nat.lt_of_le_of_lt (Nat.div_le_self _ _) hd'
      refine q_par (ea_cons (ev_op (ev_var rfl) (ev_var rfl) (rv_div hg (by omega))) (ea_cons (ev_op (ev_var rfl) (ev_var rfl) (rv_div hg (by omega))) ea_nil)) fun H2 e2 => ?_
      refine s_asg (ev_gcd (b := Nat.gcd (n' / s) c) (ev_var rfl) (ev_gcd (ev_var rfl) (ev_var rfl) k1 hc) k2 ?_) fun H3 e3 => ?_
      · by_cases c0 : c = 0
        · rw [c0, Nat.gcd_zero_right]
          exact k1
        · exact gcd_lt (by omega) hc
      refine ⟨m / s, Nat.div_lt_self d0' h1, n' / s, m / s, rfl, ((sG.trans e1).trans e2).trans e3, rfl, k0, k1, k2, ?_, ?_⟩
      · have := nc_down nc' (Int.natCast_dvd_natCast.mpr dv1) dv2
        rw [div_nat] at this
        exact this
      · rw [← em, ← div_nat]
        exact mk_div hg (Int.natCast_dvd_natCast.mpr dv1) dv2
    · have h1 : ¬ 1 < Nat.gcd m (Nat.gcd n' c) := of_decide_eq_false hb
      have hk := nc_end nc' (by rw [Int.natAbs_natCast]; omega)
      obtain ⟨z1, z2⟩ := mk_low d0' hk
      rw [em] at z1 z2
      refine s_retU (eu_tup (ea_cons (ev_var rfl) (ea_cons (ev_var rfl) ea_nil)) (by show 2 ≤ 100000; decide)) fun p H3 _ e3 f => ?_
      refine q _ H3 ((sG.trans e1).trans e3) ⟨p, rfl, ?_⟩
      rw [z1, z2]
      exact SqT.of f
theorem ok_total {f g h : Addr} {fd gd hd : FuncData} (F : Fun K "total" "total" sTotal f fd) (Tm : TMn mg) (cD : Cal P w K mg base "divisor" ["one", "other"] 1 spDivisor g gd) (cC : Cal P w K mg base "cancelled" ["top", "bottom", "common"] 2 (spCanc K) h hd) : FnOk P w K mg base CX0 3 f fd ["amounts"] (spTotal K) := by
  refine F.ok scTotal (fun vs H Q E h => ?_) (fun cdv A outer s H vs Q E hr h => ?_)
  · obtain ⟨l, ws, qs, M, S, rfl, _⟩ := h
    rfl
  obtain ⟨l, ws, qs, M, S, rfl, hl, hq, M0, hM, hS, hd, s0, q⟩ := h
  refine ⟨_, (pss_cons (ps_asg (pe_tup (pa_cons pe_int (pa_cons pe_int (pa_cons pe_int pa_nil)))) (pg_tup (by rfl) (pgs_cons (pg_name (i := 1) scTotal.nd rfl (Or.inl rfl)) (pgs_cons (pg_name (i := 2) scTotal.nd rfl (Or.inl rfl)) (pgs_cons (pg_name (i := 3) scTotal.nd rfl (Or.inl rfl)) pgs_nil))))) (pss_cons (ps_for PassesOwn.never rfl (pi_list (pv 0)) (pg_tup (by rfl) (pgs_cons (pg_name (i := 4) scTotal.nd rfl (Or.inl rfl)) (pgs_cons (pg_name (i := 5) scTotal.nd rfl (Or.inl rfl)) pgs_nil))) (pss_cons (ps_set (i := 6) scTotal.nd rfl (Or.inl rfl) (pe_call cD.ok (hr.mono (by decide)) rfl cD.mg cD.kp cD.bd .nil pass0 (pa_cons (pv 2) (pa_cons (pv 5) pa_nil)))) (pss_cons (ps_set (i := 7) scTotal.nd rfl (Or.inl rfl) (pe_op op_fdivW (pv 5) (pv 6))) (pss_cons (ps_set (i := 1) scTotal.nd rfl (Or.inl rfl) (pe_op op_add (pe_op op_mulW (pv 1) (pv 7)) (pe_op op_mulW (pv 4) (pe_op op_fdivW (pv 2) (pv 6))))) (pss_cons (ps_set (i := 2) scTotal.nd rfl (Or.inl rfl) (pe_op op_mulW (pv 2) (pv 7))) (pss_one (ps_set (i := 3) scTotal.nd rfl (Or.inl rfl) (pe_callB (call_min2 rfl) (by rfl) Tm.z_min (by decide +kernel) (pa_cons (pe_op op_mulW (pv 3) (pv 6)) (pa_cons (pv 2) pa_nil)))))))))) (pss_one (ps_ret (pe_call cC.ok (hr.mono (by decide)) rfl cC.mg cC.kp cC.bd .nil pass0 (pa_cons (pv 1) (pa_cons (pv 2) (pa_cons (pv 3) pa_nil)))))))), ?_⟩
  refine ⟨by show 3 ≤ sizeLine; decide, fun tp htp => ⟨tp, _, rfl, SqT.of upd_same, rfl, _, _, rfl, _, _, rfl, _, _, rfl, rfl, ?_⟩⟩
  have s1 := Same.new (Same.refl H) htp (.tup [.int 0, .int 1, .int 1])
  generalize upd H tp (.tup [.int 0, .int 1, .int 1]) = H1 at s1 ⊢
  have hwl := Paired.length hq
  dsimp only
  refine q_forL (ev_var rfl) (Same.seq s1 hl) (fun i σ G => ∃ (top : Int) (bottom common : Nat) (o4 o5 o6 o7 : Option V), σ = [some (.ref l), some (.int top), some (.int (bottom : Int)), some (.int (common : Int)), o4, o5, o6, o7] ∧ Same H1 G ∧ 0 < bottom ∧ NC top bottom common ∧ mkRat top bottom = sumQ (qs.take i) ∧ bottom ∣ M ∧ top.natAbs ≤ S * i * bottom ∧ common ≤ bottom)
    (fun G e => ⟨0, 1, 1, _, _, _, _, rfl, e, by decide, nc_self, by rw [List.take_zero]; rfl, Nat.one_dvd _, by simp, Nat.le_refl _⟩) ?_ ?_ ?_
  · rintro i σ G _ ⟨_, _, _, _, _, _, _, rfl, e, _⟩
    exact Same.seq (s1.trans e) hl
  · rintro i x σ G hx ⟨top, bottom, common, o4, o5, o6, o7, rfl, sG, b0, nc, em, bM, ht, hcb⟩
    obtain ⟨r, hr1, a, rfl, ha⟩ := paired_get hq hx
    have hrm := List.mem_of_getElem? hr1
    obtain ⟨rM, rS⟩ := hd r hrm
    have hi : i < qs.length := (List.getElem?_eq_some_iff.mp hr1).1
    have r0 : 0 < r.den := r.den_pos
    have rl : r.den < 2 ^ 3000 := Nat.lt_of_le_of_lt (Nat.le_of_dvd M0 rM) hM
    have bl : bottom < 2 ^ 3000 := Nat.lt_of_le_of_lt (Nat.le_of_dvd M0 bM) hM
    have hg : 0 < Nat.gcd bottom r.den := Nat.gcd_pos_of_pos_left _ b0
    have gl : Nat.gcd bottom r.den < 2 ^ 3000 := gcd_lt r0 rl
    have ht2 := top_step b0 ht rS (parts := r.den)
    have nc2 := nc_step b0 r0 nc r.reduced
    have em2 := mk_step (top := top) (more := r.num) b0 r0
    have bM2 := lcm_dvd' bM rM
    have big : ∀ {k : Nat} {b : Nat}, k ≤ qs.length → b ∣ M → S * k * b < 2 ^ 3000 := fun {k b} hk hb => Nat.lt_of_le_of_lt (Nat.mul_le_mul (Nat.mul_le_mul_left _ hk) (Nat.le_of_dvd M0 hb)) hS
    have tl : top.natAbs < 2 ^ 3000 := Nat.lt_of_le_of_lt ht (big (by omega) bM)
    have nl : r.num.natAbs < 2 ^ 3000 := by
      have := big (k := 1) (by omega) rM
      rw [Nat.mul_one] at this
      omega
    refine ⟨a, _, rfl, Same.seqT (s1.trans sG) ha, rfl, _, _, rfl, _, _, rfl, rfl, ?_⟩
    refine q_asg (ev_gcd (ev_var rfl) (ev_var rfl) bl rl) fun G1 e1 => ?_
    refine q_asg (ev_op (ev_var rfl) (ev_var rfl) (rv_div hg gl)) fun G2 e2 => ?_
    have fl : r.den / Nat.gcd bottom r.den < 2 ^ 3000 := Nat.lt_of_le_of_lt (Nat.div_le_self _ _) rl
    have dl : bottom / Nat.gcd bottom r.den < 2 ^ 3000 := Nat.lt_of_le_of_lt (Nat.div_le_self _ _) bl
    have cm : ∀ {i j : Int}, i.natAbs < 2 ^ 3000 → j.natAbs < 2 ^ 3000 → CMulW i j := fun {i j} h1 h2 => by
      have := log_ltI h1
      have := log_ltI h2
      show i.natAbs.log2 + j.natAbs.log2 < 1000000
      omega
    refine q_asg (v := .int (top * ((r.den / Nat.gcd bottom r.den : Nat) : Int) + r.num * ((bottom / Nat.gcd bottom r.den : Nat) : Int))) (ev_op (ev_op (ev_var rfl) (ev_var rfl) (rv_I (cm tl (by rw [Int.natAbs_natCast]; exact fl)))) (ev_op (ev_var rfl) (ev_op (ev_var rfl) (ev_var rfl) (rv_div hg gl)) (rv_I (cm nl (by rw [Int.natAbs_natCast]; exact dl)))) rv_I0) fun G3 e3 => ?_
    refine q_asg (v := .int ((bottom * (r.den / Nat.gcd bottom r.den) : Nat) : Int)) (ev_is (ev_op (ev_var rfl) (ev_var rfl) (rv_I (cm (by rw [Int.natAbs_natCast]; exact bl) (by rw [Int.natAbs_natCast]; exact fl)))) (congrArg V.int (by push_cast; rfl))) fun G4 e4 => ?_
    have cl : common < 2 ^ 3000 := by omega
    refine s_asg (v := .int ((min (common * Nat.gcd bottom r.den) (bottom * (r.den / Nat.gcd bottom r.den)) : Nat) : Int)) (ev_cb (vs := [.int ((common * Nat.gcd bottom r.den : Nat) : Int), .int ((bottom * (r.den / Nat.gcd bottom r.den) : Nat) : Int)]) (ea_cons (ev_is (ev_op (ev_var rfl) (ev_var rfl) (rv_I (cm (by rw [Int.natAbs_natCast]; exact cl) (by rw [Int.natAbs_natCast]; exact gl)))) (congrArg V.int (by push_cast; rfl))) (ea_cons (ev_var rfl) ea_nil)) fun H5 e5 Q5 k5 => ⟨_, _, rfl, ?_⟩) fun G5 e5 => ?_
    · have : (if ((bottom * (r.den / Nat.gcd bottom r.den) : Nat) : Int) < ((common * Nat.gcd bottom r.den : Nat) : Int) then ((bottom * (r.den / Nat.gcd bottom r.den) : Nat) : Int) else ((common * Nat.gcd bottom r.den : Nat) : Int)) = ((min (common * Nat.gcd bottom r.den) (bottom * (r.den / Nat.gcd bottom r.den)) : Nat) : Int) := by
        split <;> omega
      rw [this]
      exact k5 H5 (Ex.refl H5)
    refine ⟨_, _, _, _, _, _, _, rfl, ((((sG.trans e1).trans e2).trans e3).trans e4).trans e5, Nat.mul_pos b0 (Nat.div_pos (Nat.le_of_dvd r0 (Nat.gcd_dvd_right _ _)) hg), ?_, ?_, bM2, ht2, Nat.min_le_right _ _⟩
    · by_cases z : common * Nat.gcd bottom r.den ≤ bottom * (r.den / Nat.gcd bottom r.den)
      · rw [Nat.min_eq_left z]
        exact nc2
      · rw [Nat.min_eq_right (by omega)]
        exact nc_self
    · rw [em2, em, List.take_add_one, hr1, Rat.mkRat_self]
      exact (sum_snoc _ _).symm
  · rintro σ G ⟨top, bottom, common, o4, o5, o6, o7, rfl, sG, b0, nc, em, bM, ht, hcb⟩
    rw [hwl, List.take_length] at em
    rw [hwl] at ht
    have bl : bottom < 2 ^ 3000 := Nat.lt_of_le_of_lt (Nat.le_of_dvd M0 bM) hM
    have tl : top.natAbs < 2 ^ 3000 := Nat.lt_of_le_of_lt ht (Nat.lt_of_le_of_lt (Nat.mul_le_mul_left _ (Nat.le_of_dvd M0 bM)) hS)
    have t0 : 0 ≤ top := nonneg_num b0 (by rw [em]; exact s0)
    have te : top = ((top.natAbs : Nat) : Int) := by omega
    refine ⟨_, rfl, _, rfl, _, rfl, top.natAbs, bottom, common, by rw [← te]; rfl, b0, tl, bl, by omega, by rw [← te]; exact nc, fun v H' s hv => ?_⟩
    rw [← te, em] at hv
    exact q v H' ((s1.trans sG).trans s) hv
theorem ok_plus {f g : Addr} {fd gd : FuncData} (F : Fun K "plus" "plus" sPlus f fd) (cT : Cal P w K mg base "total" ["amounts"] 3 (spTotal K) g gd) : FnOk P w K mg base CX0 4 f fd ["one", "other"] (spPlus K) := by
  refine F.ok scPlus (fun vs H Q E h => ?_) (fun cdv A outer s H vs Q E hr h => ?_)
  · obtain ⟨va, vb, a, b, M, S, rfl, _⟩ := h
    rfl
  obtain ⟨va, vb, a, b, M, S, rfl, ha, hb, M0, hM, hS, da, db, s0, q⟩ := h
  refine ⟨_, (pss_one (ps_ret (pe_call cT.ok (hr.mono (by decide)) rfl cT.mg cT.kp cT.bd .nil pass0 (pa_cons (pe_lst (pa_cons (pv 0) (pa_cons (pv 1) pa_nil))) pa_nil)))), ?_⟩
  have e : sumQ [a, b] = a + b := by
    show (0 + a) + b = a + b
    rw [Rat.zero_add]
  refine ⟨_, rfl, _, rfl, by show 2 ≤ sizeLine; decide, fun l hl => ⟨l, [va, vb], [a, b], M, S, rfl, SqL.of upd_same, ?_, M0, hM, hS, ?_, by rw [e]; exact s0, fun v H' s hv => ?_⟩⟩
  · have s1 := Same.new (Same.refl H) hl (.lst [va, vb])
    exact .cons (ha.same s1) (.cons (hb.same s1) .nil)
  · intro x hx
    simp only [List.mem_cons, List.not_mem_nil, or_false] at hx
    rcases hx with rfl | rfl
    · exact da
    · exact db
  · rw [e] at hv
    exact q v H' (Same.trans (Same.new (Same.refl H) hl _) s) hv
theorem ok_minus {f g : Addr} {fd gd : FuncData} (F : Fun K "minus" "minus" sMinus f fd) (cT : Cal P w K mg base "total" ["amounts"] 3 (spTotal K) g gd) : FnOk P w K mg base CX0 4 f fd ["one", "other"] (spMinus K) := by
  refine F.ok scMinus (fun vs H Q E h => ?_) (fun cdv A outer s H vs Q E hr h => ?_)
  · obtain ⟨va, vb, a, b, M, S, rfl, _⟩ := h
    rfl
  obtain ⟨va, _, a, b, M, S, rfl, ha, ⟨ob, rfl, hb⟩, M0, hM, hS, da, db, s0, q⟩ := h
  refine ⟨_, (pss_one (ps_ret (pe_call cT.ok (hr.mono (by decide)) rfl cT.mg cT.kp cT.bd .nil pass0 (pa_cons (pe_lst (pa_cons (pv 0) (pa_cons (pe_tup (pa_cons (pe_un un_neg (pe_ix ix_tup (pv 1) pe_int (fun _ _ => rfl))) (pa_cons (pe_ix ix_tup (pv 1) pe_int (fun _ _ => rfl)) pa_nil))) pa_nil))) pa_nil)))), ?_⟩
  have e : sumQ [a, -b] = a - b := by
    show (0 + a) + -b = a - b
    rw [Rat.zero_add, Rat.sub_eq_add_neg]
  refine ⟨_, rfl, _, rfl, ob, _, 0, _, rfl, rfl, hb, rfl, ⟨_, rfl, ?_⟩⟩
  refine ⟨_, rfl, ob, _, 1, _, rfl, rfl, hb, rfl, by show 2 ≤ sizeLine; decide, fun t ht => ⟨by show 2 ≤ sizeLine; decide, fun l hl => ?_⟩⟩
  have s1 := Same.new (Same.refl H) ht (.tup [.int (-b.num), .int (b.den : Int)])
  have f1 : upd H t (.tup [.int (-b.num), .int (b.den : Int)]) t = some (.tup [.int (-b.num), .int (b.den : Int)]) := upd_same
  generalize upd H t (.tup [.int (-b.num), .int (b.den : Int)]) = H1 at s1 f1 hl ⊢
  have s2 := Same.new (Same.refl H1) hl (.lst [va, .ref t])
  have f2 : upd H1 l (.lst [va, .ref t]) l = some (.lst [va, .ref t]) := upd_same
  generalize upd H1 l (.lst [va, .ref t]) = H2 at s2 f2 ⊢
  have hn : AmtQ K H2 (.ref t) (-b) := ⟨t, rfl, by rw [Rat.neg_num, Rat.neg_den]; exact SqT.of (s2 _ _ f1)⟩
  refine ⟨l, [va, .ref t], [a, -b], M, S, rfl, SqL.of f2, .cons (ha.same (s1.trans s2)) (.cons hn .nil), M0, hM, hS, ?_, ?_, fun v H' s hv => ?_⟩
  · intro x hx
    simp only [List.mem_cons, List.not_mem_nil, or_false] at hx
    rcases hx with rfl | rfl
    · exact da
    · rw [Rat.neg_den, Rat.neg_num, Int.natAbs_neg]
      exact db
  · rw [e]
    grind
  · rw [e] at hv
    exact q v H' ((s1.trans s2).trans s) hv
theorem cm_of {i j : Int} (h1 : i.natAbs < 2 ^ 3000) (h2 : j.natAbs < 2 ^ 3000) : CMulW i j := by
  have := log_ltI h1
  have := log_ltI h2
  show i.natAbs.log2 + j.natAbs.log2 < 1000000
  omega
theorem ev_at {σ : L2.St} {H : Hp} {ta : TE} {o : Addr} {n d : Int} (i : Nat) (h : Ev ta σ H (.ref o)) (hs : SqT K H o [.int n, .int d]) {z : V} (hz : atI [.int n, .int d] (i : Int) = some z) : Ev (tOp (rIxT K) ta (tC (.int (i : Int)))) σ H z := ev_op h ev_c (rv_ixT hs hz)
theorem ok_times {f g : Addr} {fd gd : FuncData} (F : Fun K "times" "times" sTimes f fd) (cD : Cal P w K mg base "divisor" ["one", "other"] 1 spDivisor g gd) : FnOk P w K mg base CX0 2 f fd ["one", "other"] (spTimes K) := by
  refine F.ok scTimes (fun vs H Q E h => ?_) (fun cdv A outer s H vs Q E hr h => ?_)
  · obtain ⟨va, vb, a, b, rfl, _⟩ := h
    rfl
  obtain ⟨_, _, a, b, rfl, ⟨oa, rfl, ha⟩, ⟨ob, rfl, hb⟩, ⟨an, ad⟩, ⟨bn, bd⟩, a0, b0, q⟩ := h
  refine ⟨_, (pss_cons (ps_set (i := 2) scTimes.nd rfl (Or.inl rfl) (pe_call cD.ok (hr.mono (by decide)) rfl cD.mg cD.kp cD.bd .nil pass0 (pa_cons (pe_ix ix_tup (pv 0) pe_int (fun _ _ => rfl)) (pa_cons (pe_ix ix_tup (pv 1) pe_int (fun _ _ => rfl)) pa_nil)))) (pss_cons (ps_set (i := 3) scTimes.nd rfl (Or.inl rfl) (pe_call cD.ok (hr.mono (by decide)) rfl cD.mg cD.kp cD.bd .nil pass0 (pa_cons (pe_ix ix_tup (pv 1) pe_int (fun _ _ => rfl)) (pa_cons (pe_ix ix_tup (pv 0) pe_int (fun _ _ => rfl)) pa_nil)))) (pss_one (ps_ret (pe_tup (pa_cons (pe_op op_mulW (pe_op op_fdivW (pe_ix ix_tup (pv 0) pe_int (fun _ _ => rfl)) (pv 2)) (pe_op op_fdivW (pe_ix ix_tup (pv 1) pe_int (fun _ _ => rfl)) (pv 3))) (pa_cons (pe_op op_mulW (pe_op op_fdivW (pe_ix ix_tup (pv 0) pe_int (fun _ _ => rfl)) (pv 3)) (pe_op op_fdivW (pe_ix ix_tup (pv 1) pe_int (fun _ _ => rfl)) (pv 2))) pa_nil))))))), ?_⟩
  have ea := nat_num a0
  have eb := nat_num b0
  have ra := a.reduced
  have rb := b.reduced
  have pa := a.den_pos
  have pb := b.den_pos
  have sa := mk_self a
  have sb := mk_self b
  rw [ea] at ha sa
  rw [eb] at hb sb
  generalize hx1 : a.num.natAbs = n1 at *
  generalize hx2 : a.den = d1 at *
  generalize hx3 : b.num.natAbs = n2 at *
  generalize hx4 : b.den = d2 at *
  obtain ⟨m1, m2, m3⟩ := mul_low pa pb ra rb
  have g1 : 0 < Nat.gcd n1 d2 := Nat.gcd_pos_of_pos_right _ pb
  have g2 : 0 < Nat.gcd n2 d1 := Nat.gcd_pos_of_pos_right _ pa
  have l1 : Nat.gcd n1 d2 < 2 ^ 3000 := gcd_lt pb bd
  have l2 : Nat.gcd n2 d1 < 2 ^ 3000 := gcd_lt pa ad
  have dl : ∀ {x y : Nat}, x < 2 ^ 3000 → ((x / y : Nat) : Int).natAbs < 2 ^ 3000 := fun {x y} h => by
    rw [Int.natAbs_natCast]
    exact Nat.lt_of_le_of_lt (Nat.div_le_self _ _) h
  refine q_asg (ev_gcd (ev_at 0 (ev_var rfl) ha rfl) (ev_at 1 (ev_var rfl) hb rfl) an bd) fun H1 e1 => ?_
  have ha1 := ex_t e1 ha
  have hb1 := ex_t e1 hb
  refine q_asg (ev_gcd (ev_at 0 (ev_var rfl) hb1 rfl) (ev_at 1 (ev_var rfl) ha1 rfl) bn ad) fun H2 e2 => ?_
  have ha2 := ex_t e2 ha1
  have hb2 := ex_t e2 hb1
  refine s_retU (xs := [.int (((n1 / Nat.gcd n1 d2) * (n2 / Nat.gcd n2 d1) : Nat) : Int), .int (((d1 / Nat.gcd n2 d1) * (d2 / Nat.gcd n1 d2) : Nat) : Int)]) (eu_tup (ea_cons (ev_is (ev_op (ev_op (ev_at 0 (ev_var rfl) ha2 rfl) (ev_var rfl) (rv_div g1 l1)) (ev_op (ev_at 0 (ev_var rfl) hb2 rfl) (ev_var rfl) (rv_div g2 l2)) (rv_I (cm_of (dl an) (dl bn)))) (congrArg V.int (by push_cast; rfl)))
    (ea_cons (ev_is (ev_op (ev_op (ev_at 1 (ev_var rfl) ha2 rfl) (ev_var rfl) (rv_div g2 l2)) (ev_op (ev_at 1 (ev_var rfl) hb2 rfl) (ev_var rfl) (rv_div g1 l1)) (rv_I (cm_of (dl ad) (dl bd)))) (congrArg V.int (by push_cast; rfl))) ea_nil)) (by show 2 ≤ 100000; decide)) fun p H3 _ e3 f => ?_
  obtain ⟨z1, z2⟩ := mk_low m3 (by rw [Int.natAbs_natCast]; exact m2)
  rw [m1, sa, sb] at z1 z2
  refine q _ H3 (Same.trans (Same.trans e1 e2) e3) ⟨p, rfl, ?_⟩
  rw [z1, z2]
  exact SqT.of f
theorem ok_over {f g : Addr} {fd gd : FuncData} (F : Fun K "over" "over" sOver f fd) (cM : Cal P w K mg base "times" ["one", "other"] 2 (spTimes K) g gd) : FnOk P w K mg base CX0 3 f fd ["one", "other"] (spOver K) := by
  refine F.ok scOver (fun vs H Q E h => ?_) (fun cdv A outer s H vs Q E hr h => ?_)
  · obtain ⟨va, vb, a, b, rfl, _⟩ := h
    rfl
  obtain ⟨va, _, a, b, rfl, ha, ⟨ob, rfl, hb⟩, za, zb, a0, b0, q⟩ := h
  refine ⟨_, (pss_one (ps_ret (pe_call cM.ok (hr.mono (by decide)) rfl cM.mg cM.kp cM.bd .nil pass0 (pa_cons (pv 0) (pa_cons (pe_tup (pa_cons (pe_ix ix_tup (pv 1) pe_int (fun _ _ => rfl)) (pa_cons (pe_ix ix_tup (pv 1) pe_int (fun _ _ => rfl)) pa_nil))) pa_nil))))), ?_⟩
  obtain ⟨i1, i2⟩ := inv_low b0
  refine ⟨_, rfl, _, rfl, ob, _, 1, _, rfl, rfl, hb, rfl, _, rfl, ob, _, 0, _, rfl, rfl, hb, rfl, by show 2 ≤ sizeLine; decide, fun t ht => ?_⟩
  have s1 := Same.new (Same.refl H) ht (.tup [.int (b.den : Int), .int b.num])
  have bnn := nat_num (Rat.le_of_lt b0)
  refine ⟨va, .ref t, a, b⁻¹, rfl, ha.same s1, ⟨t, rfl, by rw [i1, i2, ← bnn]; exact SqT.of upd_same⟩, za, ⟨by rw [i1, Int.natAbs_natCast]; exact zb.2, by rw [i2]; exact zb.1⟩, a0, ?_, fun v H' s hv => ?_⟩
  · exact Rat.le_of_lt (Rat.inv_pos.mpr b0)
  · rw [← Rat.div_def] at hv
    exact q v H' (s1.trans s) hv
theorem ok_less {f : Addr} {fd : FuncData} (F : Fun K "is_less" "is_less" sIsLess f fd) : FnOk P w K mg base CX0 1 f fd ["one", "other"] (spLess K) := by
  refine F.ok scIsLess (fun vs H Q E h => ?_) (fun cdv A outer s H vs Q E hr h => ?_)
  · obtain ⟨va, vb, a, b, rfl, _⟩ := h
    rfl
  obtain ⟨_, _, a, b, rfl, ⟨oa, rfl, ha⟩, ⟨ob, rfl, hb⟩, ⟨an, ad⟩, ⟨bn, bd⟩, q⟩ := h
  refine ⟨_, (pss_one (ps_ret (pe_cmpR op_lt (pe_op op_mulW (pe_ix ix_tup (pv 0) pe_int (fun _ _ => rfl)) (pe_ix ix_tup (pv 1) pe_int (fun _ _ => rfl))) (pe_op op_mulW (pe_ix ix_tup (pv 1) pe_int (fun _ _ => rfl)) (pe_ix ix_tup (pv 0) pe_int (fun _ _ => rfl))) (nomark _)))), ?_⟩
  have nd : ∀ {x : Nat}, x < 2 ^ 3000 → ((x : Int)).natAbs < 2 ^ 3000 := fun {x} h => by
    rw [Int.natAbs_natCast]
    exact h
  refine s_ret (v := .bl (decide (a < b))) (ev_is (ev_op (ev_op (ev_at 0 (ev_var rfl) ha rfl) (ev_at 1 (ev_var rfl) hb rfl) (rv_I (cm_of an (nd bd)))) (ev_op (ev_at 0 (ev_var rfl) hb rfl) (ev_at 1 (ev_var rfl) ha rfl) (rv_I (cm_of bn (nd ad)))) rv_I0) (congrArg V.bl ?_)) fun H1 e1 => ?_
  · exact decide_eq_decide.mpr (Rat.lt_iff a b).symm
  · exact q H1 e1
theorem ok_lesser {f g : Addr} {fd gd : FuncData} (F : Fun K "lesser" "lesser" sLesser f fd) (cL : Cal P w K mg base "is_less" ["one", "other"] 1 (spLess K) g gd) : FnOk P w K mg base CX0 2 f fd ["one", "other"] (spLesser K) := by
  refine F.ok scLesser (fun vs H Q E h => ?_) (fun cdv A outer s H vs Q E hr h => ?_)
  · obtain ⟨va, vb, a, b, rfl, _⟩ := h
    rfl
  obtain ⟨va, vb, a, b, rfl, ha, hb, za, zb, q⟩ := h
  refine ⟨_, (pss_one (ps_ret (pe_ifExp (pt_val (pe_call cL.ok (hr.mono (by decide)) rfl cL.mg cL.kp cL.bd .nil pass0 (pa_cons (pv 1) (pa_cons (pv 0) pa_nil)))) (pv 1) (pv 0)))), ?_⟩
  refine ⟨_, rfl, _, rfl, vb, va, b, a, rfl, hb, ha, zb, za, fun H1 s1 => ⟨_, rfl, ?_⟩⟩
  have q := q H1 s1
  by_cases c : b < a
  · rw [if_pos c] at q
    rw [decide_eq_true c]
    exact iteT ⟨_, rfl, q⟩
  · rw [if_neg c] at q
    rw [decide_eq_false c]
    exact iteF ⟨_, rfl, q⟩
end
end Bd
end

section
namespace Bd
open PySem L2 PySem.Spec PyProof.Rows
section
variable {X : Cx}
/-- d.update(e), both dicts with keys ints and texts -/
def rUpd : V → List V → Hp → VK → Prop := fun x xs H Q => ∃ (a b : Addr) (ks ls : List (Key × V)), x = .ref a ∧ xs = [.ref b] ∧ a ≠ b ∧ H a = some (.dK ks) ∧ H b = some (.dK ls) ∧ ks.length + ls.length ≤ 90000 ∧ Q .non (upd H a (.dK (mergeK ks ls)))
theorem mtd_update : MtR X "dict.update" rUpd := by
  intro pins s σ H x xs v us Q I rx rxs h
  obtain ⟨a, b, ks, ls, rfl, rfl, ne, ha, hb, hz, q⟩ := h
  cases rx
  cases rxs with
  | cons ry rt =>
    cases rt
    cases ry
    obtain ⟨z0, lo0, vs0, r0, d0⟩ := dk_of I.hok ha
    obtain ⟨z1, lo1, vs1, r1, d1⟩ := dk_of I.hok hb
    have hm : (mergeK ks ls).length ≤ sizeLine := by
      have := length_mergeK ls ks
      exact Nat.le_trans (Nat.le_trans this hz) (by decide : 90000 ≤ sizeLine)
    refine call_meetsIn PySem.F.slot_dict_update d0.typeIs PySem.F.entry_dict_update (PySem.F.args_dict_update_2 _ _) (meets_dict_update (mixKind X.prog X.w) a b ne lo1)
      ⟨vs0, vs1, d0, d1, Nat.le_trans (by rw [← r0.length, ← r1.length]; exact hz) (by decide : 90000 ≤ sizeLine), fun h' hmm _ hs => ?_⟩
    have he : ∃ q, h'.get? a = some q := let ⟨q, _, _, hq, _⟩ := hmm; ⟨q, hq⟩
    exact ⟨.non, _, d_write (t' := s.toks) I (by rw [ha]; exact True.intro) hs he (dk_new (H' := upd H a (.dK (mergeK ks ls))) hm lo0 (r1.merge r0) hmm), rfl, q⟩
end
end Bd
end

section
namespace Bd
open PySem L2 Am
open Evl hiding tCut pss_cut
theorem dc_lst {K : PySem.W.Frag} {a : Addr} {xs : List V} {g : TG} {tt : TT} {tk tv : TE} {vs : List Nat} {σ : L2.St} {H1 : Hp} {D : Addr} {Qd : Hp → Prop} (Iv : Nat → Hp → Prop) (z0 : Iv 0 (upd H1 D (.dK []))) (zl : ∀ i G, i ≤ xs.length → Iv i G → SqL K G a xs)
    (zs : ∀ i x G, xs[i]? = some x → Iv i G → g x (wipe σ vs) G fun σ2 G2 => wipe σ2 vs = wipe σ vs ∧ tt σ2 G2 fun b G3 =>
      if b = true then tk σ2 G3 fun y G4 => tv σ2 G4 fun z G5 => ∃ kvs k, y = kV k ∧ G5 D = some (.dK kvs) ∧ kvs.length < sizeLine ∧ Iv (i + 1) (upd G5 D (.dK (putK kvs k z))) else Iv (i + 1) G3) (zd : ∀ G, Iv xs.length G → Qd G) :
    ∃ W : Nat → Nat → Hp → Prop, (∃ m, W 0 m (upd H1 D (.dK []))) ∧ ∀ i m G, W i m G →
      ((Itl K a).stop i G ∧ Qd G) ∨ ((Itl K a).go i G ∧ ∃ Nx : Hp → Prop, (∀ G', Nx G' → ∃ m', m' < m ∧ W (i + 1) m' G') ∧ ∀ x G', (Itl K a).yld i G x G' → g x (wipe σ vs) G' fun σ2 G2 => wipe σ2 vs = wipe σ vs ∧ tt σ2 G2 fun b G3 =>
        if b = true then tk σ2 G3 fun y G4 => tv σ2 G4 fun z G5 => ∃ kvs k, y = kV k ∧ G5 D = some (.dK kvs) ∧ kvs.length < sizeLine ∧ Nx (upd G5 D (.dK (putK kvs k z))) else Nx G3) := by
  refine ⟨fun i m G => m + i = xs.length ∧ Iv i G, ⟨xs.length, rfl, z0⟩, ?_⟩
  rintro i m G ⟨hm, iv⟩
  have hq := zl i G (by omega) iv
  cases m with
  | zero =>
    have e : i = xs.length := by omega
    exact .inl ⟨⟨xs, hq, Nat.le_of_eq e.symm⟩, zd G (e ▸ iv)⟩
  | succ m =>
    have hi : i < xs.length := by omega
    refine .inr ⟨⟨xs, xs[i], hq, List.getElem?_eq_getElem hi⟩, Iv (i + 1), fun G' iv' => ⟨m, Nat.lt_succ_self m, by omega, iv'⟩, ?_⟩
    rintro x G' ⟨rfl, hx⟩
    exact zs i x _ (hx xs hq) iv
/-- a dict by names: each name with its value, in an order -/
def MapR (R : Hp → V → Str → Prop) (G : Hp) (kvs : List (Key × V)) (ns : List Str) : Prop := Paired (fun (kv : Key × V) (n : Str) => kv.1 = (Sum.inr n : Key) ∧ R G kv.2 n) kvs ns
theorem MapR.keys {R : Hp → V → Str → Prop} {G : Hp} : ∀ {kvs : List (Key × V)} {ns : List Str}, MapR R G kvs ns → kvs.map (·.1) = ns.map fun n => (Sum.inr n : Key)
  | _, _, .nil => rfl
  | _, _, .cons a b => by rw [List.map_cons, List.map_cons, a.1, MapR.keys b]
theorem MapR.mono {R : Hp → V → Str → Prop} {G G' : Hp} (h : ∀ v n, R G v n → R G' v n) {kvs : List (Key × V)} {ns : List Str} (m : MapR R G kvs ns) : MapR R G' kvs ns := paired_mono (fun _ _ z => ⟨z.1, h _ _ z.2⟩) m
theorem MapR.get {R : Hp → V → Str → Prop} {G : Hp} {kvs : List (Key × V)} {ns : List Str} (m : MapR R G kvs ns) (nd : ns.Nodup) {n : Str} (hn : n ∈ ns) : ∃ v, valV kvs (Sum.inr n) = some v ∧ R G v n := by
  have key : ∀ {kvs : List (Key × V)} {ns : List Str}, MapR R G kvs ns → n ∈ ns → ∃ kv ∈ kvs, kv.1 = (Sum.inr n : Key) ∧ R G kv.2 n := by
    intro kvs ns m
    induction m with
    | nil => exact fun h => by cases h
    | cons a b ih =>
      intro h
      rcases List.mem_cons.mp h with e | h
      · exact ⟨_, List.mem_cons_self, by rw [e]; exact a.1, by rw [e]; exact a.2⟩
      · obtain ⟨kv, h1, h2⟩ := ih h
        exact ⟨kv, List.mem_cons_of_mem _ h1, h2⟩
  obtain ⟨kv, h1, h2, h3⟩ := key m hn
  have ndk : (kvs.map (·.1)).Nodup := by
    rw [m.keys]
    exact nodup_inr nd
  have := val_nd ndk kv h1
  rw [h2] at this
  exact ⟨kv.2, this, h3⟩
/-- {name: value for name in names} -/
theorem dc_strs {K : PySem.W.Frag} {a : Addr} {names : List Str} {j : Nat} {tl tv : TE} {vs : List Nat} {σ : L2.St} {H : Hp} {Q : VK} (R : Hp → V → Str → Prop) (hR : ∀ {G G' : Hp} {v : V} {n : Str}, TK G G' → R G v n → R G' v n) (hl : Ev tl σ H (.ref a)) (hs : SqL K H a (names.map .str)) (nd : names.Nodup) (len : names.length ≤ 900)
    (hw : ∀ x, wipe ((wipe σ vs).set j (some x)) vs = wipe σ vs) (hj : ∀ x : V, ((wipe σ vs).set j (some x))[j]? = some (some x))
    (step : ∀ (i : Nat) (n : Str) (G : Hp) (φ : VK), names[i]? = some n → Same H G → (∀ v G', Same G G' → R G' v n → φ v G') → tv ((wipe σ vs).set j (some (.str n))) G φ)
    (k : ∀ d kvs G', H d = none → Same H G' → G' d = some (.dK kvs) → MapR R G' kvs names → Q (.ref d) G') : (tDc (iList K tl) (gName j) tYes (tVar j) tv vs) σ H Q := by
  refine hl H (Ex.refl H) _ fun H1 e1 => ⟨a, rfl, ⟨_, ex_l e1 hs⟩, fun D hD => ?_⟩
  refine dc_lst (K := K) (a := a) (xs := names.map V.str) (fun i G => ∃ kvs : List (Key × V), Same H1 G ∧ G D = some (.dK kvs) ∧ MapR R G kvs (names.take i)) ⟨[], Same.new (Same.refl H1) hD _, upd_same, .nil⟩ ?_ ?_ ?_
  · rintro i G _ ⟨kvs, s, _⟩
    exact ex_l (Same.trans e1 s) hs
  · rintro i x G hx ⟨kvs, sG, eD, m⟩
    rw [List.getElem?_map] at hx
    obtain ⟨n, hn, rfl⟩ := Option.map_eq_some_iff.mp hx
    have il : i < names.length := (List.getElem?_eq_some_iff.mp hn).1
    refine ⟨hw _, ?_⟩
    unfold tYes
    refine iteT ?_
    refine ⟨_, hj _, step i n G _ hn (Same.trans e1 sG) fun v G5 s5 hv => ?_⟩
    have eD5 := s5 _ _ eD
    have m5 : MapR R G5 kvs (names.take i) := m.mono fun _ _ z => hR (.of s5) z
    have hnew : valV kvs (Sum.inr n) = none := keys_none fun mm => by
      rw [m.keys] at mm
      obtain ⟨y, hy, e⟩ := List.mem_map.mp mm
      have e : y = n := Sum.inr.inj e
      subst e
      obtain ⟨k, hk⟩ := List.mem_iff_getElem?.mp hy
      have lk := (List.getElem?_eq_some_iff.mp hk).1
      rw [List.length_take] at lk
      rw [List.getElem?_take_of_lt (by omega)] at hk
      obtain ⟨l1, z1⟩ := List.getElem?_eq_some_iff.mp hk
      obtain ⟨l2, z2⟩ := List.getElem?_eq_some_iff.mp hn
      have := (List.getElem_inj nd (h₀ := l1) (h₁ := l2)).mp (z1.trans z2.symm)
      omega
    have kl : kvs.length ≤ 900 := by
      rw [Paired.length m, List.length_take]
      omega
    refine ⟨kvs, Sum.inr n, rfl, eD5, small1000 (by omega), _, ?_, upd_same, ?_⟩
    · exact fun b o hb => (upd_ne (fun e => by rw [e] at hb; rw [hD] at hb; cases hb)).trans ((Same.trans sG s5) b o hb)
    · rw [putK_new _ hnew, List.take_add_one, hn]
      have t := TK.dk eD5 (.dK (kvs ++ [(Sum.inr n, v)]))
      exact paired_snoc ⟨rfl, hR t hv⟩ (m5.mono fun _ _ z => hR t z)
  · rintro G ⟨kvs, sG, eD, m⟩
    rw [List.length_map, List.take_length] at m
    exact k D kvs G (fresh_back e1 hD) (Same.trans e1 sG) eD m
end Bd
end

section
namespace Am
/-! ### multiples of a part, and their size -/
def Of (M : Nat) (q : Rat) : Prop := ∃ x : Int, q = mkRat x M
theorem of_den {M : Nat} (hM : 0 < M) {q : Rat} (h : Of M q) : q.den ∣ M := by
  obtain ⟨x, rfl⟩ := h
  rw [Rat.den_mkRat, if_neg (by omega)]
  exact Nat.div_dvd_of_dvd (Nat.gcd_dvd_left _ _)
theorem den_of {M : Nat} {q : Rat} (h : q.den ∣ M) (hM : 0 < M) : Of M q := by
  obtain ⟨k, rfl⟩ := h
  have hk : k ≠ 0 := fun e => by rw [e] at hM; simp at hM
  exact ⟨q.num * (k : Int), by rw [Rat.mkRat_mul_right hk, Rat.mkRat_self]⟩
theorem Of.add {M : Nat} {a b : Rat} (hM : 0 < M) (h1 : Of M a) (h2 : Of M b) : Of M (a + b) := by
  obtain ⟨x, rfl⟩ := h1
  obtain ⟨y, rfl⟩ := h2
  refine ⟨x + y, ?_⟩
  rw [Rat.mkRat_add_mkRat _ _ (by omega) (by omega), ← Int.add_mul, Rat.mkRat_mul_right (by omega)]
theorem Of.neg {M : Nat} {a : Rat} (h1 : Of M a) : Of M (-a) := by
  obtain ⟨x, rfl⟩ := h1
  exact ⟨-x, Rat.neg_mkRat x M⟩
theorem Of.sub {M : Nat} {a b : Rat} (hM : 0 < M) (h1 : Of M a) (h2 : Of M b) : Of M (a - b) := by
  rw [Rat.sub_eq_add_neg]
  exact h1.add hM h2.neg
theorem Of.mul {M N : Nat} {a b : Rat} (h1 : Of M a) (h2 : Of N b) : Of (M * N) (a * b) := by
  obtain ⟨x, rfl⟩ := h1
  obtain ⟨y, rfl⟩ := h2
  exact ⟨x * y, Rat.mkRat_mul_mkRat _ _ _ _⟩
theorem Of.up {M : Nat} {a : Rat} (k : Nat) (hk : 0 < k) (h : Of M a) : Of (M * k) a := by
  obtain ⟨x, rfl⟩ := h
  exact ⟨x * (k : Int), (Rat.mkRat_mul_right (by omega)).symm⟩
theorem Of.upL {M : Nat} {a : Rat} (k : Nat) (hk : 0 < k) (h : Of M a) : Of (k * M) a := by
  rw [Nat.mul_comm]
  exact h.up k hk
theorem of_zero {M : Nat} : Of M 0 := ⟨0, (Rat.zero_mkRat M).symm⟩
/-- the top of what is not more than a whole number -/
theorem num_le {q : Rat} {S : Nat} (h0 : 0 ≤ q) (h : q ≤ (S : Rat)) : q.num.natAbs ≤ S * q.den := by
  have h1 := Rat.le_iff q (S : Rat) |>.mp h
  have h2 := Rat.num_nonneg.mpr h0
  have e1 : ((S : Rat)).num = (S : Int) := Rat.num_natCast S
  have e2 : ((S : Rat)).den = 1 := Rat.den_natCast S
  rw [e1, e2] at h1
  have h1 : q.num * 1 ≤ (S : Int) * (q.den : Int) := h1
  have : ((q.num.natAbs : Nat) : Int) ≤ ((S * q.den : Nat) : Int) := by
    push_cast
    omega
  omega
/-- a quotient's two numbers -/
theorem quot_sz {a b : Rat} (ha : 0 ≤ a) (hb : 0 < b) : (a / b).num.natAbs ≤ a.num.natAbs * b.den ∧ (a / b).den ≤ a.den * b.num.natAbs := by
  obtain ⟨i1, i2⟩ := inv_low hb
  have hn : 0 < b.num.natAbs := by
    rw [← i2]
    exact (b⁻¹).den_pos
  have e : a / b = mkRat (a.num * (b.den : Int)) (a.den * b.num.natAbs) := by
    rw [Rat.div_def, ← Rat.mkRat_self a, ← Rat.mkRat_self b⁻¹, i1, i2, Rat.mkRat_mul_mkRat]
    rw [Rat.mkRat_self a]
  have hd : 0 < a.den * b.num.natAbs := Nat.mul_pos a.den_pos hn
  rw [e]
  refine ⟨?_, ?_⟩
  · rw [Rat.num_mkRat, if_neg (by omega)]
    refine Nat.le_trans (Int.natAbs_ediv_le_natAbs _ _) ?_
    rw [Int.natAbs_mul, Int.natAbs_natCast]
    exact Nat.le_refl _
  · rw [Rat.den_mkRat, if_neg (by omega)]
    exact Nat.div_le_self _ _
theorem sum_of {M : Nat} (hM : 0 < M) : ∀ {qs : List Rat} {s : Rat}, Of M s → (∀ q ∈ qs, Of M q) → Of M (qs.foldl (· + ·) s)
  | [], s, h, _ => h
  | q :: qs, s, h, hq => sum_of (qs := qs) (s := s + q) hM (h.add hM (hq q List.mem_cons_self)) fun x hx => hq x (List.mem_cons_of_mem _ hx)
theorem sum_bd {S : Nat} : ∀ {qs : List Rat} {s : Rat} {k : Nat}, 0 ≤ s → s ≤ ((S * k : Nat) : Rat) → (∀ q ∈ qs, 0 ≤ q ∧ q ≤ (S : Rat)) → 0 ≤ qs.foldl (· + ·) s ∧ qs.foldl (· + ·) s ≤ ((S * (k + qs.length) : Nat) : Rat)
  | [], s, k, h0, h1, _ => ⟨h0, by simpa using h1⟩
  | q :: qs, s, k, h0, h1, hq => by
    obtain ⟨g1, g2⟩ := hq q List.mem_cons_self
    have e : ((S * (k + 1) : Nat) : Rat) = ((S * k : Nat) : Rat) + (S : Rat) := by
      push_cast
      grind
    have := sum_bd (qs := qs) (s := s + q) (k := k + 1) (by grind) (by rw [e]; grind) fun x hx => hq x (List.mem_cons_of_mem _ hx)
    rw [List.foldl_cons, List.length_cons]
    have e2 : k + (qs.length + 1) = k + 1 + qs.length := by omega
    rw [e2]
    exact this
end Am
end

section
namespace Bd
open PySem L2 Am
open Evl hiding tCut pss_cut
/-! words for amounts, for trees, for dicts by names -/
def EvQ (K : PySem.W.Frag) (te : TE) (σ : L2.St) (H : Hp) (q : Rat) : Prop := ∀ H1, Ex H H1 → ∀ Q : VK, (∀ v H2, Ex H1 H2 → AmtQ K H2 v q → Q v H2) → te σ H1 Q
/-- a new dict: each name with its amount -/
def AmR (K : PySem.W.Frag) (f : Str → Rat) (G : Hp) (v : V) (n : Str) : Prop := AmtQ K G v (f n)
def EvM (K : PySem.W.Frag) (te : TE) (σ : L2.St) (H : Hp) (f : Str → Rat) (names : List Str) : Prop := ∀ H1, Ex H H1 → ∀ Q : VK, (∀ d kvs H2, H1 d = none → Ex H1 H2 → H2 d = some (.dK kvs) → MapR (AmR K f) H2 kvs names → Q (.ref d) H2) → te σ H1 Q
/-- a dict that tells these names' amounts, and may tell others -/
def Amts (K : PySem.W.Frag) (G : Hp) (d : Addr) (names : List Str) (f : Str → Rat) : Prop := ∃ kvs, G d = some (.dK kvs) ∧ ∀ n ∈ names, ∃ v, valV kvs (Sum.inr n) = some v ∧ AmtQ K G v (f n)
theorem Amts.ex {K : PySem.W.Frag} {G G' : Hp} {d : Addr} {names : List Str} {f : Str → Rat} (s : Ex G G') (h : Amts K G d names f) : Amts K G' d names f := by
  obtain ⟨kvs, h1, h2⟩ := h
  exact ⟨kvs, s _ _ h1, fun n hn => let ⟨v, a, b⟩ := h2 n hn; ⟨v, a, b.same s⟩⟩
theorem Amts.sub {K : PySem.W.Frag} {G : Hp} {d : Addr} {names ns : List Str} {f : Str → Rat} (h : Amts K G d names f) (s : ∀ n ∈ ns, n ∈ names) : Amts K G d ns f := by
  obtain ⟨kvs, h1, h2⟩ := h
  exact ⟨kvs, h1, fun n hn => h2 n (s n hn)⟩
theorem Amts.of {K : PySem.W.Frag} {G : Hp} {d : Addr} {kvs : List (Key × V)} {names : List Str} {f : Str → Rat} (h : G d = some (.dK kvs)) (m : MapR (AmR K f) G kvs names) (nd : names.Nodup) : Amts K G d names f := ⟨kvs, h, fun n hn => m.get nd hn⟩
theorem Amts.congr {K : PySem.W.Frag} {G : Hp} {d : Addr} {names : List Str} {f g : Str → Rat} (h : Amts K G d names f) (e : ∀ n ∈ names, f n = g n) : Amts K G d names g := by
  obtain ⟨kvs, h1, h2⟩ := h
  exact ⟨kvs, h1, fun n hn => by rw [← e n hn]; exact h2 n hn⟩
section
variable {K : PySem.W.Frag} {H : Hp} {σ : L2.St} {ta tb te tl : TE}
theorem et_yes : EvT tYes σ H true := fun H1 _ Q q => q H1 (Ex.refl H1)
theorem EvQ.mono {H' : Hp} {q : Rat} (e : Ex H H') (h : EvQ K te σ H q) : EvQ K te σ H' q := fun H1 a Q k => h H1 (e.trans a) Q k
theorem EvQ.is {p q : Rat} (h : EvQ K te σ H p) (e : p = q) : EvQ K te σ H q := e ▸ h
theorem eq_var {i : Nat} {v : V} {q : Rat} (h : σ[i]? = some (some v)) (a : AmtQ K H v q) : EvQ K (tVar i) σ H q := fun H1 e Q k => ⟨v, h, k v H1 (Ex.refl H1) (a.same e)⟩
theorem eq_get {i : Nat} {ty : TE} {d : Addr} {names : List Str} {f : Str → Rat} {n : Str} (hv : σ[i]? = some (some (.ref d))) (hy : Ev ty σ H (.str n)) (h : Amts K H d names f) (hn : n ∈ names) : EvQ K (tDGet (tVar i) ty) σ H (f n) := fun H1 e Q k =>
  ⟨_, hv, hy H1 e _ fun H2 e2 => by
    obtain ⟨kvs, h1, h2⟩ := h.ex (e.trans e2)
    obtain ⟨v, h3, h4⟩ := h2 n hn
    exact ⟨d, v, rfl, dget_of (k := Sum.inr n) h1 h3, k v H2 e2 h4⟩⟩
theorem ea_two {a b : Rat} (ha : EvQ K ta σ H a) (hb : EvQ K tb σ H b) {H1 : Hp} (e : Ex H H1) {Q : List V → Hp → Prop} (k : ∀ va vb H2, Ex H1 H2 → AmtQ K H2 va a → AmtQ K H2 vb b → Q [va, vb] H2) : tCons ta (tCons tb tNil) σ H1 Q :=
  ha H1 e _ fun va H2 e2 qa => hb H2 (e.trans e2) _ fun vb H3 e3 qb => k va vb H3 (e2.trans e3) (qa.same e3) qb
theorem eq_times {E : XK} {a b : Rat} (ha : EvQ K ta σ H a) (hb : EvQ K tb σ H b) (za : Sz a) (zb : Sz b) (a0 : 0 ≤ a) (b0 : 0 ≤ b) : EvQ K (tCall (spTimes K) [] E (tCons ta (tCons tb tNil))) σ H (a * b) := fun H1 e Q k =>
  ea_two ha hb e fun va vb H2 e2 qa qb => ⟨va, vb, a, b, rfl, qa, qb, za, zb, a0, b0, fun v H' s h => k v H' (e2.trans s) h⟩
theorem eq_over {E : XK} {a b : Rat} (ha : EvQ K ta σ H a) (hb : EvQ K tb σ H b) (za : Sz a) (zb : Sz b) (a0 : 0 ≤ a) (b0 : 0 < b) : EvQ K (tCall (spOver K) [] E (tCons ta (tCons tb tNil))) σ H (a / b) := fun H1 e Q k =>
  ea_two ha hb e fun va vb H2 e2 qa qb => ⟨va, vb, a, b, rfl, qa, qb, za, zb, a0, b0, fun v H' s h => k v H' (e2.trans s) h⟩
theorem eq_plus {E : XK} {a b : Rat} {M S : Nat} (ha : EvQ K ta σ H a) (hb : EvQ K tb σ H b) (M0 : 0 < M) (hM : M < 2 ^ 3000) (hS : S * 2 * M < 2 ^ 3000) (da : a.den ∣ M ∧ a.num.natAbs ≤ S * a.den) (db : b.den ∣ M ∧ b.num.natAbs ≤ S * b.den) (z : 0 ≤ a + b) :
    EvQ K (tCall (spPlus K) [] E (tCons ta (tCons tb tNil))) σ H (a + b) := fun H1 e Q k =>
  ea_two ha hb e fun va vb H2 e2 qa qb => ⟨va, vb, a, b, M, S, rfl, qa, qb, M0, hM, hS, da, db, z, fun v H' s h => k v H' (e2.trans s) h⟩
theorem eq_minus {E : XK} {a b : Rat} {M S : Nat} (ha : EvQ K ta σ H a) (hb : EvQ K tb σ H b) (M0 : 0 < M) (hM : M < 2 ^ 3000) (hS : S * 2 * M < 2 ^ 3000) (da : a.den ∣ M ∧ a.num.natAbs ≤ S * a.den) (db : b.den ∣ M ∧ b.num.natAbs ≤ S * b.den) (z : b ≤ a) :
    EvQ K (tCall (spMinus K) [] E (tCons ta (tCons tb tNil))) σ H (a - b) := fun H1 e Q k =>
  ea_two ha hb e fun va vb H2 e2 qa qb => ⟨va, vb, a, b, M, S, rfl, qa, qb, M0, hM, hS, da, db, z, fun v H' s h => k v H' (e2.trans s) h⟩
theorem ev_less {E : XK} {a b : Rat} (ha : EvQ K ta σ H a) (hb : EvQ K tb σ H b) (za : Sz a) (zb : Sz b) : Ev (tCall (spLess K) [] E (tCons ta (tCons tb tNil))) σ H (.bl (decide (a < b))) := fun H1 e Q k =>
  ea_two ha hb e fun va vb H2 e2 qa qb => ⟨va, vb, a, b, rfl, qa, qb, za, zb, fun H' s => k H' (e2.trans s)⟩
theorem eq_lesser {E : XK} {a b : Rat} (ha : EvQ K ta σ H a) (hb : EvQ K tb σ H b) (za : Sz a) (zb : Sz b) : EvQ K (tCall (spLesser K) [] E (tCons ta (tCons tb tNil))) σ H (if b < a then b else a) := fun H1 e Q k =>
  ea_two ha hb e fun va vb H2 e2 qa qb => ⟨va, vb, a, b, rfl, qa, qb, za, zb, fun H' s => by
    by_cases c : b < a
    · rw [if_pos c]
      exact k vb H' (e2.trans s) (by rw [if_pos c]; exact qb.same s)
    · rw [if_neg c]
      exact k va H' (e2.trans s) (by rw [if_neg c]; exact qa.same s)⟩
theorem eq_total {E : XK} {ws : List V} {qs : List Rat} {M S : Nat} (h : EvL tl σ H ws) (hp : ∀ H1, Ex H H1 → Paired (AmtQ K H1) ws qs) (M0 : 0 < M) (hM : M < 2 ^ 3000) (hS : S * qs.length * M < 2 ^ 3000) (hd : ∀ q ∈ qs, q.den ∣ M ∧ q.num.natAbs ≤ S * q.den) (z : 0 ≤ sumQ qs) :
    EvQ K (tCall (spTotal K) [] E (tCons tl tNil)) σ H (sumQ qs) := fun H1 e Q k =>
  h H1 e _ fun p H2 _ e2 hl => ⟨p, ws, qs, M, S, rfl, SqL.of hl, hp H2 (e.trans e2), M0, hM, hS, hd, z, fun v H' s hv => k v H' (e2.trans s) hv⟩
/-! statements -/
variable {D : Ends} {tz : TS}
theorem q_asgQ {i : Nat} {q : Rat} (h : EvQ K te σ H q) (k : ∀ v H1, Ex H H1 → AmtQ K H1 v q → tz D (σ.set i (some v)) H1) : tSeq (tAsg te (gName i)) tz D σ H := h H (Ex.refl H) _ fun v H1 e a => k v H1 e a
theorem q_asgM {i : Nat} {f : Str → Rat} {names : List Str} (h : EvM K te σ H f names) (k : ∀ d kvs H1, H d = none → Ex H H1 → H1 d = some (.dK kvs) → MapR (AmR K f) H1 kvs names → tz D (σ.set i (some (.ref d))) H1) : tSeq (tAsg te (gName i)) tz D σ H := h H (Ex.refl H) _ fun d kvs H1 a b c e => k d kvs H1 a b c e
theorem s_retM {f : Str → Rat} {names : List Str} (h : EvM K te σ H f names) (k : ∀ d kvs H1, H d = none → Ex H H1 → H1 d = some (.dK kvs) → MapR (AmR K f) H1 kvs names → D.rt (.ref d) H1) : tRet te D σ H := h H (Ex.refl H) _ k
/-! over names -/
theorem tkAm {K : PySem.W.Frag} {f : Str → Rat} {G G' : Hp} {v : V} {n : Str} (t : TK G G') (h : AmR K f G v n) : AmR K f G' v n := AmtQ.tk t h
/-- {name: amount for name in names} -/
theorem em_dc {a : Addr} {names : List Str} {j : Nat} {tv : TE} {vs : List Nat} {f : Str → Rat} (hl : Ev tl σ H (.ref a)) (hs : SqL K H a (names.map .str)) (nd : names.Nodup) (len : names.length ≤ 900)
    (hw : ∀ x, wipe ((wipe σ vs).set j (some x)) vs = wipe σ vs) (hj : ∀ x : V, ((wipe σ vs).set j (some x))[j]? = some (some x))
    (step : ∀ n ∈ names, ∀ H1, Ex H H1 → EvQ K tv ((wipe σ vs).set j (some (.str n))) H1 (f n)) : EvM K (tDc (iList K tl) (gName j) tYes (tVar j) tv vs) σ H f names := fun H1 e Q k =>
  dc_strs (AmR K f) tkAm (hl.mono e) (ex_l e hs) nd len hw hj (fun i n G φ hn s q => step n (List.mem_of_getElem? hn) G (e.trans s) G (Ex.refl G) φ fun v G' s' hv => q v G' s' hv) fun d kvs G' h1 h2 h3 h4 => k d kvs G' h1 h2 h3 h4
/-- the same over a new list -/
theorem em_dcN {names : List Str} {j : Nat} {tv : TE} {vs : List Nat} {f : Str → Rat} (hl : EvL tl σ H (names.map .str)) (nd : names.Nodup) (len : names.length ≤ 900)
    (hw : ∀ x, wipe ((wipe σ vs).set j (some x)) vs = wipe σ vs) (hj : ∀ x : V, ((wipe σ vs).set j (some x))[j]? = some (some x))
    (step : ∀ n ∈ names, ∀ H1, Ex H H1 → EvQ K tv ((wipe σ vs).set j (some (.str n))) H1 (f n)) : EvM K (tDc (iList K tl) (gName j) tYes (tVar j) tv vs) σ H f names := fun H1 e Q k =>
  hl H1 e _ fun p H2 hp e2 hl2 => dc_strs (tl := tC (.ref p)) (σ := σ) (AmR K f) tkAm ev_c (sq_of hl2) nd len hw hj (fun i n G φ hn s q => step n (List.mem_of_getElem? hn) G ((e.trans e2).trans s) G (Ex.refl G) φ fun v G' s' hv => q v G' s' hv) fun d kvs G' h1 h2 h3 h4 => k d kvs G' (fresh_back e2 h1) (e2.trans h2) h3 h4
/-- [g name for name in names] -/
theorem giv_all {α : Type} (xs : List α) (g : α → V) : given xs.length (fun _ => true) (fun i => (xs[i]?.map g).getD .non) = xs.map g := by
  have main : ∀ n, n ≤ xs.length → given n (fun _ => true) (fun i => (xs[i]?.map g).getD .non) = (xs.take n).map g := by
    intro n
    induction n with
    | zero => intro _; rfl
    | succ n ih =>
      intro hn
      have e : xs[n]? = some xs[n] := List.getElem?_eq_getElem hn
      rw [List.take_add_one, e, Option.toList_some, List.map_append, ← ih (by omega), given_yes rfl, e]
      rfl
  have := main xs.length (Nat.le_refl _)
  rw [List.take_length] at this
  exact this
theorem el_strs {a : Addr} {j : Nat} {vs : List Nat} (names : List Str) (g : Str → V) (h : Ev tl σ H (.ref a)) (hx : SqL K H a (names.map .str)) (hz : names.length ≤ 1000) (hw : ∀ x, wipe ((wipe σ vs).set j (some x)) vs = wipe σ vs)
    (he : ∀ n ∈ names, ∀ H1, Ex H H1 → Ev te ((wipe σ vs).set j (some (.str n))) H1 (g n)) : EvL (tLc (iList K tl) (gName j) tYes te vs) σ H (names.map g) := by
  rw [← giv_all]
  have := el_lcL (K := K) (σ := σ) (H := H) (t := tYes) (te := te) (tl := tl) (j := j) (vs := vs) (fun _ => true) (fun i => (names[i]?.map g).getD .non) h hx (by rw [List.length_map]; omega) hw (fun _ _ _ _ _ => et_yes) fun i x H1 e hi _ => by
    rw [List.getElem?_map] at hi
    obtain ⟨n, hn, rfl⟩ := Option.map_eq_some_iff.mp hi
    rw [hn]
    exact he n (List.mem_of_getElem? hn) H1 e
  rw [List.length_map] at this
  exact this
/-! methods of a tree -/
variable {C CN CW : Addr} {p : Addr} {rows : List RowM} {h : Bool} {tk : List (Key × V)} {i : Nat} {tx ty : TE} {E : XK}
theorem amt_dp {v : V} {q : Rat} (h : Dp K H v (.tuple [.int q.num, .int (q.den : Int)])) : AmtQ K H v q := by
  obtain ⟨a, rfl, ha⟩ := dp_two h
  exact ⟨a, rfl, ha⟩
theorem eq_due (hv : σ[i]? = some (some (.ref p))) (ht : TreeAt K H C p rows h tk) (ok : RowsOk rows) {r : RowM} (hr : r ∈ rows) {w : Str} (hw : w ∈ leftW) {q : Rat} (hq : dueOf (fullD r.dues) w = some (.tuple [.int q.num, .int (q.den : Int)]))
    (hx : Ev tx σ H (.str r.name)) (hy : Ev ty σ H (.str w)) : EvQ K (tMeth C "due" (spTDue K C CN CW) [] E (tVar i) (tCons tx (tCons ty tNil))) σ H q := fun H1 e Q k => by
  obtain ⟨dx, po, pp, pk, pt, o1, _⟩ := id ht
  exact ⟨_, hv, p, dx, _, rfl, e _ _ o1, by rfl, hx H1 e _ fun H2 e2 => hy H2 (e.trans e2) _ fun H3 e3 => ⟨p, _, _, rows, h, tk, rfl, ht.same ((e.trans e2).trans e3) ok, nms_nd ok, .inl ⟨r, hr, rfl, .inl ⟨w, hw, rfl, fun u d h1 h2 => by
    rw [hq] at h1
    cases h1
    exact k u H3 (e2.trans e3) (amt_dp h2)⟩⟩⟩⟩
theorem el_kids (hv : σ[i]? = some (some (.ref p))) (ht : TreeAt K H C p rows h tk) (ok : RowsOk rows) {n : Str} (hn : n ∈ ("" : Str) :: nms rows) (hx : Ev tx σ H (.str n)) : EvL (tMeth C "children" (spTKids K C CN) [] E (tVar i) (tCons tx tNil)) σ H ((kidsOf rows (Sum.inr n)).map .str) := fun H1 e Q k => by
  obtain ⟨dx, po, pp, pk, pt, o1, _⟩ := id ht
  exact ⟨_, hv, p, dx, _, rfl, e _ _ o1, by rfl, hx H1 e _ fun H2 e2 => ⟨p, _, rows, h, tk, rfl, ht.same (e.trans e2) ok, ok, .inl ⟨n, rfl, hn, fun l hl => k l _ (fresh_back e2 hl) (e2.trans (Ex.new hl)) upd_same⟩⟩⟩
theorem ev_above (hv : σ[i]? = some (some (.ref p))) (ht : TreeAt K H C p rows h tk) (ok : RowsOk rows) {r : RowM} (hr : r ∈ rows) (hx : Ev tx σ H (.str r.name)) : Ev (tMeth C "above" (spTAbove K C CN) [] E (tVar i) (tCons tx tNil)) σ H (.str r.above) := fun H1 e Q k => by
  obtain ⟨dx, po, pp, pk, pt, o1, _⟩ := id ht
  exact ⟨_, hv, p, dx, _, rfl, e _ _ o1, by rfl, hx H1 e _ fun H2 e2 => ⟨p, _, rows, h, tk, rfl, ht.same (e.trans e2) ok, nms_nd ok, .inl ⟨r, hr, rfl, k H2 e2⟩⟩⟩
theorem el_names (hv : σ[i]? = some (some (.ref p))) (ht : TreeAt K H C p rows h tk) (ok : RowsOk rows) : EvL (tMeth C "names" (spTNames K C) [] E (tVar i) tNil) σ H ((nms rows).map .str) := fun H1 e Q k => by
  obtain ⟨dx, po, pp, pk, pt, o1, _⟩ := id ht
  exact ⟨_, hv, p, dx, _, rfl, e _ _ o1, by rfl, p, rows, h, tk, rfl, ht.same e ok, fun l hl => k l _ hl (Ex.new hl) upd_same⟩
theorem el_leaves (hv : σ[i]? = some (some (.ref p))) (ht : TreeAt K H C p rows h tk) (ok : RowsOk rows) (len : rows.length ≤ 200) : EvL (tMeth C "leaves" (spTLeaves K C) [] E (tVar i) tNil) σ H ((leavesOf rows).map .str) := fun H1 e Q k => by
  obtain ⟨dx, po, pp, pk, pt, o1, _⟩ := id ht
  exact ⟨_, hv, p, dx, _, rfl, e _ _ o1, by rfl, p, rows, h, tk, rfl, ht.same e ok, ok, len, fun l hl => k l _ hl (Ex.new hl) upd_same⟩
theorem ev_handing (hv : σ[i]? = some (some (.ref p))) (ht : TreeAt K H C p rows h tk) (ok : RowsOk rows) : Ev (tMeth C "handing" (spTHanding K C) [] E (tVar i) tNil) σ H (.bl h) := fun H1 e Q k => by
  obtain ⟨dx, po, pp, pk, pt, o1, _⟩ := id ht
  exact ⟨_, hv, p, dx, _, rfl, e _ _ o1, by rfl, p, rows, h, tk, rfl, ht.same e ok, k H1 (Ex.refl H1)⟩
end
end Bd
end

section
namespace Bd
open PySem Am
/-! how what is protected of a group is parted, and how long its numbers are -/
theorem lt_mul2 {x y a b : Nat} (h1 : x < 2 ^ a) (h2 : y < 2 ^ b) : x * y < 2 ^ (a + b) := by
  rw [Nat.pow_add]
  exact Nat.mul_lt_mul'' h1 h2
theorem lt_up {x a b : Nat} (h : x < 2 ^ a) (hab : a ≤ b) : x < 2 ^ b := Nat.lt_of_lt_of_le h (Nat.pow_le_pow_right (by decide) hab)
structure InMS (M S : Nat) (q : Rat) : Prop where
  den : q.den ∣ M
  lo : 0 ≤ q
  hi : q ≤ (S : Rat)
theorem InMS.num {M S : Nat} {q : Rat} (h : InMS M S q) : q.num.natAbs ≤ S * q.den := num_le h.lo h.hi
theorem InMS.dn {M S : Nat} {q : Rat} (h : InMS M S q) : q.den ∣ M ∧ q.num.natAbs ≤ S * q.den := ⟨h.den, h.num⟩
theorem InMS.denle {M S : Nat} {q : Rat} (h : InMS M S q) (M0 : 0 < M) : q.den ≤ M := Nat.le_of_dvd M0 h.den
theorem InMS.nlt {M S m s : Nat} {q : Rat} (h : InMS M S q) (M0 : 0 < M) (hM : M < 2 ^ m) (hS : S < 2 ^ s) : q.num.natAbs < 2 ^ (s + m) :=
  Nat.lt_of_le_of_lt (Nat.le_trans h.num (Nat.mul_le_mul_left _ (h.denle M0))) (lt_mul2 hS hM)
theorem InMS.sz {M S m s : Nat} {q : Rat} (h : InMS M S q) (M0 : 0 < M) (hM : M < 2 ^ m) (hS : S < 2 ^ s) (z : s + m ≤ 3000) : Sz q :=
  ⟨lt_up (h.nlt M0 hM hS) z, lt_up (Nat.lt_of_le_of_lt (h.denle M0) hM) (by omega)⟩
theorem InMS.up {M S N T : Nat} {q : Rat} (h : InMS M S q) (hN : M ∣ N) (hT : S ≤ T) : InMS N T q := ⟨Nat.dvd_trans h.den hN, h.lo, Rat.le_trans h.hi (by exact_mod_cast hT)⟩
theorem InMS.of {M S : Nat} {q : Rat} (h : InMS M S q) (M0 : 0 < M) : Of M q := den_of h.den M0
theorem InMS.sub {M S : Nat} {a b : Rat} (ha : InMS M S a) (hb : Of M b) (b0 : 0 ≤ b) (M0 : 0 < M) (z : b ≤ a) : InMS M S (a - b) := ⟨of_den M0 ((ha.of M0).sub M0 hb), by grind, by have := ha.hi; grind⟩
/-- what a child gets of `a`, protected of its group, which uses `un`, where its children claim `cl` together -/
def partQ (h : Bool) (a un cl : Rat) (U c : Str → Rat) (x : Str) : Rat := if a < cl then c x * (a / cl) else if h = true ∧ cl < un then c x + (U x - c x) * ((a - cl) / (un - cl)) else c x
structure PartOk (M S : Nat) (a un : Rat) (kids : List Str) (U c : Str → Rat) : Prop where
  M0 : 0 < M
  hM : M < 2 ^ 200
  hS : S < 2 ^ 200
  kl : kids.length ≤ 200
  ku : ∀ x ∈ kids, InMS M S (U x)
  kc : ∀ x ∈ kids, InMS M S (c x)
  cu : ∀ x ∈ kids, c x ≤ U x
  uin : InMS M S un
  a0 : 0 ≤ a
  au : a ≤ un
  ad : a.den < 2 ^ 1500
section
variable {M S : Nat} {a un : Rat} {kids : List Str} {U c : Str → Rat}
theorem PartOk.cl (h : PartOk M S a un kids U c) : InMS M (S * 256) (sumQ (kids.map c)) := by
  have h1 : Of M (sumQ (kids.map c)) := sum_of h.M0 of_zero fun q hq => by
    obtain ⟨x, hx, rfl⟩ := List.mem_map.mp hq
    exact (h.kc x hx).of h.M0
  have h2 := sum_bd (S := S) (qs := kids.map c) (s := 0) (k := 0) (Rat.le_refl) (by simp) fun q hq => by
    obtain ⟨x, hx, rfl⟩ := List.mem_map.mp hq
    exact ⟨(h.kc x hx).lo, (h.kc x hx).hi⟩
  refine ⟨of_den h.M0 h1, h2.1, Rat.le_trans h2.2 ?_⟩
  have : S * (0 + (kids.map c).length) ≤ S * 256 := Nat.mul_le_mul_left _ (by rw [List.length_map]; have := h.kl; omega)
  exact_mod_cast this
theorem PartOk.s1 (h : PartOk M S a un kids U c) : S * 256 < 2 ^ 209 := by
  exact lt_up (lt_mul2 h.hS (show 256 < 2 ^ 9 by decide)) (by decide)
theorem PartOk.an (h : PartOk M S a un kids U c) : a.num.natAbs ≤ S * a.den := num_le h.a0 (Rat.le_trans h.au h.uin.hi)
theorem PartOk.anl (h : PartOk M S a un kids U c) : a.num.natAbs < 2 ^ 1700 := Nat.lt_of_le_of_lt h.an (lt_up (lt_mul2 h.hS h.ad) (by decide))
theorem PartOk.az (h : PartOk M S a un kids U c) : Sz a := ⟨lt_up h.anl (by decide), lt_up h.ad (by decide)⟩
theorem PartOk.clz (h : PartOk M S a un kids U c) : Sz (sumQ (kids.map c)) := h.cl.sz h.M0 h.hM h.s1 (by decide)
theorem PartOk.uz (h : PartOk M S a un kids U c) : Sz un := h.uin.sz h.M0 h.hM h.hS (by decide)
theorem PartOk.cz (h : PartOk M S a un kids U c) {x : Str} (hx : x ∈ kids) : Sz (c x) := (h.kc x hx).sz h.M0 h.hM h.hS (by decide)
theorem PartOk.clp (h : PartOk M S a un kids U c) (l : a < sumQ (kids.map c)) : 0 < sumQ (kids.map c) := by
  have := h.a0
  grind
theorem PartOk.rz (h : PartOk M S a un kids U c) (l : a < sumQ (kids.map c)) : Sz (a / sumQ (kids.map c)) := by
  obtain ⟨q1, q2⟩ := quot_sz h.a0 (h.clp l)
  refine ⟨Nat.lt_of_le_of_lt q1 ?_, Nat.lt_of_le_of_lt q2 ?_⟩
  · exact lt_up (lt_mul2 h.anl (Nat.lt_of_le_of_lt (h.cl.denle h.M0) h.hM)) (by decide)
  · exact lt_up (lt_mul2 h.ad (h.cl.nlt h.M0 h.hM h.s1)) (by decide)
theorem PartOk.tot (h : PartOk M S a un kids U c) : M < 2 ^ 3000 ∧ S * (kids.map c).length * M < 2 ^ 3000 ∧ ∀ q ∈ kids.map c, q.den ∣ M ∧ q.num.natAbs ≤ S * q.den := by
  refine ⟨lt_up h.hM (by decide), ?_, fun q hq => ?_⟩
  · have : (kids.map c).length < 2 ^ 9 := by rw [List.length_map]; have := h.kl; omega
    exact lt_up (lt_mul2 (lt_mul2 h.hS this) h.hM) (by decide)
  · obtain ⟨x, hx, rfl⟩ := List.mem_map.mp hq
    exact (h.kc x hx).dn
theorem PartOk.big (h : PartOk M S a un kids U c) : S * 256 * 2 * M < 2 ^ 3000 := lt_up (lt_mul2 (lt_mul2 h.s1 (show 2 < 2 ^ 2 by decide)) h.hM) (by decide)
/-- the sum of what is beyond -/
theorem PartOk.m1 (h : PartOk M S a un kids U c) : 0 < a.den * M ∧ a.den * M < 2 ^ 1700 ∧ a.den * M < 2 ^ 3000 ∧ S * 256 * 2 * (a.den * M) < 2 ^ 3000 := by
  have z : a.den * M < 2 ^ 1700 := lt_up (lt_mul2 h.ad h.hM) (by decide)
  exact ⟨Nat.mul_pos a.den_pos h.M0, z, lt_up z (by decide), lt_up (lt_mul2 (lt_mul2 h.s1 (show 2 < 2 ^ 2 by decide)) z) (by decide)⟩
theorem up256 {q : Rat} (h : q.num.natAbs ≤ S * q.den) : q.num.natAbs ≤ S * 256 * q.den := Nat.le_trans h (Nat.mul_le_mul_right _ (by omega))
theorem PartOk.ad1 (h : PartOk M S a un kids U c) : a.den ∣ a.den * M ∧ a.num.natAbs ≤ S * 256 * a.den := ⟨Nat.dvd_mul_right _ _, up256 h.an⟩
theorem PartOk.cd1 (h : PartOk M S a un kids U c) : (sumQ (kids.map c)).den ∣ a.den * M ∧ (sumQ (kids.map c)).num.natAbs ≤ S * 256 * (sumQ (kids.map c)).den := ⟨Nat.dvd_trans h.cl.den (Nat.dvd_mul_left _ _), h.cl.num⟩
theorem PartOk.d1 (h : PartOk M S a un kids U c) (l : ¬ a < sumQ (kids.map c)) : InMS (a.den * M) S (a - sumQ (kids.map c)) := by
  refine InMS.sub ⟨Nat.dvd_mul_right _ _, h.a0, Rat.le_trans h.au h.uin.hi⟩ ?_ h.cl.lo h.m1.1 (by grind)
  exact (h.cl.of h.M0).upL _ a.den_pos
theorem PartOk.d2 (h : PartOk M S a un kids U c) (l : sumQ (kids.map c) < un) : InMS M S (un - sumQ (kids.map c)) := InMS.sub h.uin (h.cl.of h.M0) h.cl.lo h.M0 (by grind)
theorem PartOk.rr (h : PartOk M S a un kids U c) (l : ¬ a < sumQ (kids.map c)) (g : sumQ (kids.map c) < un) : 0 ≤ (a - sumQ (kids.map c)) / (un - sumQ (kids.map c)) ∧ (a - sumQ (kids.map c)) / (un - sumQ (kids.map c)) ≤ 1 ∧
    ((a - sumQ (kids.map c)) / (un - sumQ (kids.map c))).num.natAbs < 2 ^ 2100 ∧ ((a - sumQ (kids.map c)) / (un - sumQ (kids.map c))).den < 2 ^ 2100 := by
  have p1 : 0 ≤ a - sumQ (kids.map c) := by grind
  have p2 : 0 < un - sumQ (kids.map c) := by grind
  have p3 : a - sumQ (kids.map c) ≤ un - sumQ (kids.map c) := by have := h.au; grind
  obtain ⟨q1, q2⟩ := quot_sz p1 p2
  have e1 := h.d1 l
  have e2 := h.d2 g
  refine ⟨?_, ?_, Nat.lt_of_le_of_lt q1 ?_, Nat.lt_of_le_of_lt q2 ?_⟩
  · rw [Rat.div_def]
    exact Rat.mul_nonneg p1 (Rat.le_of_lt (Rat.inv_pos.mpr p2))
  · rw [Rat.div_def]
    have := Rat.mul_le_mul_of_nonneg_right p3 (Rat.le_of_lt (Rat.inv_pos.mpr p2))
    rwa [Rat.mul_inv_cancel _ (fun e => by rw [e] at p2; exact absurd p2 (by decide))] at this
  · exact lt_up (lt_mul2 (e1.nlt h.m1.1 h.m1.2.1 h.hS) (Nat.lt_of_le_of_lt (e2.denle h.M0) h.hM)) (by decide)
  · exact lt_up (lt_mul2 (Nat.lt_of_le_of_lt (e1.denle h.m1.1) h.m1.2.1) (e2.nlt h.M0 h.hM h.hS)) (by decide)
theorem PartOk.beyond (h : PartOk M S a un kids U c) {x : Str} (hx : x ∈ kids) : InMS M S (U x - c x) := InMS.sub (h.ku x hx) ((h.kc x hx).of h.M0) (h.kc x hx).lo h.M0 (h.cu x hx)
theorem PartOk.small (h : PartOk M S a un kids U c) : M < 2 ^ 3000 ∧ S * 2 * M < 2 ^ 3000 := ⟨lt_up h.hM (by decide), lt_up (lt_mul2 (lt_mul2 h.hS (show 2 < 2 ^ 2 by decide)) h.hM) (by decide)⟩
/-- what is added to a claim -/
theorem PartOk.more (h : PartOk M S a un kids U c) {x : Str} (hx : x ∈ kids) {r : Rat} (r0 : 0 ≤ r) (r1 : r ≤ 1) (rd : r.den < 2 ^ 2100) : InMS (M * r.den) S ((U x - c x) * r) := by
  have b := h.beyond hx
  refine ⟨of_den (Nat.mul_pos h.M0 r.den_pos) ((b.of h.M0).mul (den_of (Nat.dvd_refl _) r.den_pos)), Rat.mul_nonneg b.lo r0, Rat.le_trans ?_ b.hi⟩
  have := Rat.mul_le_mul_of_nonneg_left r1 b.lo
  rwa [Rat.mul_one] at this
theorem PartOk.m3 (h : PartOk M S a un kids U c) {r : Rat} (rd : r.den < 2 ^ 2100) : 0 < M * r.den ∧ M * r.den < 2 ^ 3000 ∧ S * 2 * (M * r.den) < 2 ^ 3000 := by
  have z := lt_mul2 h.hM rd
  exact ⟨Nat.mul_pos h.M0 r.den_pos, lt_up z (by decide), lt_up (lt_mul2 (lt_mul2 h.hS (show 2 < 2 ^ 2 by decide)) z) (by decide)⟩
end
end Bd
end

section
namespace Bd
open PySem L2 Am
open Evl hiding tCut pss_cut
abbrev sParted : Stmt := (top 54)
theorem scParted : FnScope ["tree", "name", "part", "used", "claims", "children", "claimed", "rate", "beyond", "child"] ["tree", "name", "part", "used", "claims"] (defScope sParted) := ⟨rfl, rfl, rfl, by decide +kernel, rfl, by decide +kernel, by decide +kernel⟩

section
variable {K : PySem.W.Frag} {H : Hp} {σ : L2.St}
theorem amts_list {d : Addr} {names : List Str} {f : Str → Rat} (h : Amts K H d names f) : ∃ g : Str → V, (∀ n ∈ names, ∀ H1, Ex H H1 → DGet H1 d (.str n) (some (g n))) ∧ ∀ ns : List Str, (∀ n ∈ ns, n ∈ names) → ∀ H1, Ex H H1 → Paired (AmtQ K H1) (ns.map g) (ns.map f) := by
  obtain ⟨kvs, h1, h2⟩ := h
  refine ⟨fun n => (valV kvs (Sum.inr n)).getD .non, fun n hn H1 e => ?_, fun ns => ?_⟩
  · obtain ⟨v, h3, _⟩ := h2 n hn
    show DGet H1 d (.str n) (some ((valV kvs (Sum.inr n)).getD .non))
    rw [h3]
    exact dget_of (k := Sum.inr n) (e _ _ h1) h3
  · induction ns with
    | nil => exact fun _ _ _ => .nil
    | cons n ns ih =>
      intro hs H1 e
      obtain ⟨v, h3, h4⟩ := h2 n (hs n List.mem_cons_self)
      refine .cons ?_ (ih (fun m hm => hs m (List.mem_cons_of_mem _ hm)) H1 e)
      show AmtQ K H1 ((valV kvs (Sum.inr n)).getD .non) (f n)
      rw [h3]
      exact h4.same e
/-- total([d[name] for name in names]) -/
theorem eq_totals {E : XK} {tl : TE} {i j : Nat} {vs : List Nat} {a d : Addr} {ns names : List Str} {f : Str → Rat} {M S : Nat} (hl : Ev tl σ H (.ref a)) (hs : SqL K H a (ns.map .str)) (hz : ns.length ≤ 1000) (hA : Amts K H d names f) (hn : ∀ n ∈ ns, n ∈ names)
    (hw : ∀ x, wipe ((wipe σ vs).set j (some x)) vs = wipe σ vs) (hi : ∀ x : V, ((wipe σ vs).set j (some x))[i]? = some (some (.ref d))) (hj : ∀ x : V, ((wipe σ vs).set j (some x))[j]? = some (some x))
    (M0 : 0 < M) (hM : M < 2 ^ 3000) (hS : S * (ns.map f).length * M < 2 ^ 3000) (hd : ∀ q ∈ ns.map f, q.den ∣ M ∧ q.num.natAbs ≤ S * q.den) (z : 0 ≤ sumQ (ns.map f)) :
    EvQ K (tCall (spTotal K) [] E (tCons (tLc (iList K tl) (gName j) tYes (tDGet (tVar i) (tVar j)) vs) tNil)) σ H (sumQ (ns.map f)) := by
  obtain ⟨g, g1, g2⟩ := amts_list hA
  exact eq_total (el_strs ns g hl hs hz hw fun n hm H1 e H2 e2 Q k => ⟨_, hi _, _, hj _, d, g n, rfl, g1 n (hn n hm) H2 (e.trans e2), k H2 (Ex.refl H2)⟩) (g2 ns hn) M0 hM hS hd z
end
def spParted (K : PySem.W.Frag) (C : Addr) : Sp := fun vs H Q _ => ∃ (p : Addr) (name : Str) (v : V) (du dc : Addr) (rows : List RowM) (h : Bool) (tk : List (Key × V)) (a : Rat) (U c : Str → Rat) (M S : Nat), vs = [.ref p, .str name, v, .ref du, .ref dc] ∧ TreeAt K H C p rows h tk ∧ RowsOk rows ∧ name ∈ nms rows ∧
  PartOk M S a (U name) (kidsOf rows (Sum.inr name)) U c ∧ AmtQ K H v a ∧ Amts K H du (name :: kidsOf rows (Sum.inr name)) U ∧ Amts K H dc (kidsOf rows (Sum.inr name)) c ∧
  ∀ d kvs H', H d = none → Same H H' → H' d = some (.dK kvs) → MapR (AmR K (partQ h a (U name) (sumQ ((kidsOf rows (Sum.inr name)).map c)) U c)) H' kvs (kidsOf rows (Sum.inr name)) → Q (.ref d) H'
theorem kids_nd {rows : List RowM} (ok : RowsOk rows) (k : Key) : (kidsOf rows k).Nodup := by
  have := nms_nd ok
  unfold nms at this
  unfold kidsOf
  exact this.sublist (List.filter_sublist.map _)
section
variable {P : Program} {w : World} {K : PySem.W.Frag} {mg : Str → Option Value} {base : Heap} {C CN : Addr}
theorem ok_parted {f fK fH gT gL gO gM gI gP : Addr} {fd dK dH dT dL dO dM dI dP : FuncData} (F : Fun K "parted" "parted" sParted f fd) (TCl : TC K mg C)
    (mK : Meth K C "children" fK) (FK : FnOk P w K mg base (L2.CX P w) 1 fK dK ["self", "name"] (spTKids K C CN)) (bK : Binds K dK ["self", "name"] []) (mH : Meth K C "handing" fH) (FH : FnOk P w K mg base CX0 1 fH dH ["self"] (spTHanding K C)) (bH : Binds K dH ["self"] [])
    (cT : Cal P w K mg base "total" ["amounts"] 3 (spTotal K) gT dT) (cL : Cal P w K mg base "is_less" ["one", "other"] 1 (spLess K) gL dL) (cO : Cal P w K mg base "over" ["one", "other"] 3 (spOver K) gO dO) (cM : Cal P w K mg base "times" ["one", "other"] 2 (spTimes K) gM dM)
    (cI : Cal P w K mg base "minus" ["one", "other"] 4 (spMinus K) gI dI) (cP : Cal P w K mg base "plus" ["one", "other"] 4 (spPlus K) gP dP) : FnOk P w K mg base CX0 5 f fd ["tree", "name", "part", "used", "claims"] (spParted K C) := by
  refine F.ok scParted (fun vs H Q E h => ?_) (fun cdv A outer s H vs Q E hr h => ?_)
  · obtain ⟨p, name, v, du, dc, rows, h, tk, a, U, c, M, S, rfl, _⟩ := h
    rfl
  obtain ⟨p, name, v, du, dc, rows, h, tk, a, U, c, M, S, rfl, ht, ok, hnm, po, hv, hu', hc', q⟩ := h
  have hu := hu_of hr
  refine ⟨_, (pss_cons (ps_set (i := 5) scParted.nd rfl (Or.inl rfl) (pe_meth (pv 0) TCl.cl mK FK (hr.mono (by decide)) bK .nil passL (pa_cons (pv 1) pa_nil))) (pss_cons (ps_set (i := 6) scParted.nd rfl (Or.inl rfl) (pe_call cT.ok (hr.mono (by decide)) rfl cT.mg cT.kp cT.bd .nil pass0 (pa_cons (pe_lc (own := [("child", 9)]) (g := gName 9) (tt := tYes) (te := (tDGet (tVar 4) (tVar 9))) rfl scParted.nd (pi_list (pv 5)) (blkOk_by (own := [("child", 9)]) (N := ["tree", "name", "part", "used", "claims", "children", "claimed", "rate", "beyond", "child"]) (sc := defScope sParted) (by decide +kernel)) (fun _ _ _ _ _ => (pg_name (i := 9) scParted.nd rfl (Or.inl rfl))) (fun _ _ _ _ _ => pts_nil) (fun _ _ _ _ _ => (pe_dget hu (pv 4) (pv 9) (fun _ _ => rfl)))) pa_nil))) (pss_cons (ps_if (pt_val (pe_call cL.ok (hr.mono (by decide)) rfl cL.mg cL.kp cL.bd .nil pass0 (pa_cons (pv 2) (pa_cons (pv 6) pa_nil)))) (pss_cons (ps_set (i := 7) scParted.nd rfl (Or.inr rfl) (pe_call cO.ok (hr.mono (by decide)) rfl cO.mg cO.kp cO.bd .nil pass0 (pa_cons (pv 2) (pa_cons (pv 6) pa_nil)))) (pss_one (ps_ret (pe_dc (own := [("child", 9)]) (g := gName 9) (tt := tYes) (tk := tVar 9) (tv := (tCall (spTimes K) [] E0 (tCons (tDGet (tVar 4) (tVar 9)) (tCons (tVar 7) tNil)))) rfl scParted.nd (pi_list (pv 5)) (blkOk_by (own := [("child", 9)]) (N := ["tree", "name", "part", "used", "claims", "children", "claimed", "rate", "beyond", "child"]) (sc := defScope sParted) (by decide +kernel)) (fun _ _ _ _ _ => (pg_name (i := 9) scParted.nd rfl (Or.inl rfl))) (fun _ _ _ _ _ => pts_nil) (fun _ _ _ _ _ => (pv 9)) (fun _ _ _ _ _ => (pe_call cM.ok (hr.mono (by decide)) rfl cM.mg cM.kp cM.bd .nil pass0 (pa_cons (pe_dget hu (pv 4) (pv 9) (fun _ _ => rfl)) (pa_cons (pv 7) pa_nil)))))))) pss_nil) (pss_cons (ps_if (PW.pt (pw_or (pt_not (pt_val (pe_meth0 (pv 0) TCl.cl mH FH (hr.mono (by decide)) bH .nil pass0))) (pw_or1 (pt_not (pt_val (pe_call cL.ok (hr.mono (by decide)) rfl cL.mg cL.kp cL.bd .nil pass0 (pa_cons (pv 6) (pa_cons (pe_dget hu (pv 3) (pv 1) (fun _ _ => rfl)) pa_nil)))))))) (pss_one (ps_ret (pe_dc (own := [("child", 9)]) (g := gName 9) (tt := tYes) (tk := tVar 9) (tv := (tDGet (tVar 4) (tVar 9))) rfl scParted.nd (pi_list (pv 5)) (blkOk_by (own := [("child", 9)]) (N := ["tree", "name", "part", "used", "claims", "children", "claimed", "rate", "beyond", "child"]) (sc := defScope sParted) (by decide +kernel)) (fun _ _ _ _ _ => (pg_name (i := 9) scParted.nd rfl (Or.inl rfl))) (fun _ _ _ _ _ => pts_nil) (fun _ _ _ _ _ => (pv 9)) (fun _ _ _ _ _ => (pe_dget hu (pv 4) (pv 9) (fun _ _ => rfl)))))) pss_nil) (pss_cons (ps_set (i := 7) scParted.nd rfl (Or.inr rfl) (pe_call cO.ok (hr.mono (by decide)) rfl cO.mg cO.kp cO.bd .nil pass0 (pa_cons (pe_call cI.ok (hr.mono (by decide)) rfl cI.mg cI.kp cI.bd .nil pass0 (pa_cons (pv 2) (pa_cons (pv 6) pa_nil))) (pa_cons (pe_call cI.ok (hr.mono (by decide)) rfl cI.mg cI.kp cI.bd .nil pass0 (pa_cons (pe_dget hu (pv 3) (pv 1) (fun _ _ => rfl)) (pa_cons (pv 6) pa_nil))) pa_nil)))) (pss_cons (ps_set (i := 8) scParted.nd rfl (Or.inr rfl) (pe_dc (own := [("child", 9)]) (g := gName 9) (tt := tYes) (tk := tVar 9) (tv := (tCall (spMinus K) [] E0 (tCons (tDGet (tVar 3) (tVar 9)) (tCons (tDGet (tVar 4) (tVar 9)) tNil)))) rfl scParted.nd (pi_list (pv 5)) (blkOk_by (own := [("child", 9)]) (N := ["tree", "name", "part", "used", "claims", "children", "claimed", "rate", "beyond", "child"]) (sc := defScope sParted) (by decide +kernel)) (fun _ _ _ _ _ => (pg_name (i := 9) scParted.nd rfl (Or.inl rfl))) (fun _ _ _ _ _ => pts_nil) (fun _ _ _ _ _ => (pv 9)) (fun _ _ _ _ _ => (pe_call cI.ok (hr.mono (by decide)) rfl cI.mg cI.kp cI.bd .nil pass0 (pa_cons (pe_dget hu (pv 3) (pv 9) (fun _ _ => rfl)) (pa_cons (pe_dget hu (pv 4) (pv 9) (fun _ _ => rfl)) pa_nil)))))) (pss_one (ps_ret (pe_dc (own := [("child", 9)]) (g := gName 9) (tt := tYes) (tk := tVar 9) (tv := (tCall (spPlus K) [] E0 (tCons (tDGet (tVar 4) (tVar 9)) (tCons (tCall (spTimes K) [] E0 (tCons (tDGet (tVar 8) (tVar 9)) (tCons (tVar 7) tNil))) tNil)))) rfl scParted.nd (pi_list (pv 5)) (blkOk_by (own := [("child", 9)]) (N := ["tree", "name", "part", "used", "claims", "children", "claimed", "rate", "beyond", "child"]) (sc := defScope sParted) (by decide +kernel)) (fun _ _ _ _ _ => (pg_name (i := 9) scParted.nd rfl (Or.inl rfl))) (fun _ _ _ _ _ => pts_nil) (fun _ _ _ _ _ => (pv 9)) (fun _ _ _ _ _ => (pe_call cP.ok (hr.mono (by decide)) rfl cP.mg cP.kp cP.bd .nil pass0 (pa_cons (pe_dget hu (pv 4) (pv 9) (fun _ _ => rfl)) (pa_cons (pe_call cM.ok (hr.mono (by decide)) rfl cM.mg cM.kp cM.bd .nil pass0 (pa_cons (pe_dget hu (pv 8) (pv 9) (fun _ _ => rfl)) (pa_cons (pv 7) pa_nil))) pa_nil))))))))))))), ?_⟩
  have nd := kids_nd ok (Sum.inr name)
  have hkl := po.kl
  refine q_asgL (el_kids rfl ht ok (List.mem_cons_of_mem _ hnm) (ev_var rfl)) fun l H1 hl e1 f1 => ?_
  have hle := hkl
  generalize hks : kidsOf rows (Sum.inr name) = kids at *
  have hc1 := hc'.ex e1
  obtain ⟨t1, t2, t3⟩ := po.tot
  refine q_asgQ (eq_totals (ns := kids) (d := dc) (ev_var rfl) (sq_of f1) (by omega) hc1 (fun _ h => h) (fun _ => rfl) (fun _ => rfl) (fun _ => rfl) po.M0 t1 t2 t3 po.cl.lo) fun vc H2 e2 qc => ?_
  have f2 := e2 _ _ f1
  have hc2 := hc1.ex e2
  have e12 := e1.trans e2
  have hv2 := hv.same e12
  have hu2 := hu'.ex e12
  have ht2 := ht.same e12 ok
  have fin : ∀ {d kvs H3 H4}, Ex H2 H3 → H3 d = none → Ex H3 H4 → H4 d = some (.dK kvs) → MapR (AmR K (partQ h a (U name) (sumQ (kids.map c)) U c)) H4 kvs kids → Q (.ref d) H4 := fun {d kvs H3 H4} s3 hd s4 h1 h2 => q d kvs H4 (fresh_back (e12.trans s3) hd) ((e12.trans s3).trans s4) h1 h2
  clear q
  have hU : ∀ {n : Str}, n ∈ kids → n ∈ name :: kids := fun h => List.mem_cons_of_mem _ h
  refine q_when (et_B (ev_less (eq_var rfl hv2) (eq_var rfl qc) po.az po.clz)) (fun hb H3 e3 => ?_) fun hb H3 e3 => ?_
  · have lt := of_decide_eq_true hb
    refine q_asgQ (eq_over (eq_var rfl (hv2.same e3)) (eq_var rfl (qc.same e3)) po.az po.clz po.a0 (po.clp lt)) fun vr H4 e4 qr => ?_
    have e24 := e3.trans e4
    have r0 : 0 ≤ a / sumQ (kids.map c) := by
      rw [Rat.div_def]
      exact Rat.mul_nonneg po.a0 (Rat.le_of_lt (Rat.inv_pos.mpr (po.clp lt)))
    refine s_retM (f := partQ h a (U name) (sumQ (kids.map c)) U c) (em_dc (names := kids) (ev_var rfl) (sq_of (e24 _ _ f2)) nd (by omega) (fun _ => rfl) (fun _ => rfl) fun n hn G s => ?_) fun d kvs G h1 h2 h3 h4 => fin e24 h1 h2 h3 h4
    refine EvQ.is (eq_times (eq_get rfl (ev_var rfl) ((hc2.ex e24).ex s) hn) (eq_var rfl (qr.same s)) (po.cz hn) (po.rz lt) (po.kc n hn).lo r0) ?_
    unfold partQ
    rw [if_pos lt]
  · have nlt := of_decide_eq_false hb
    have ht3 := ht2.same e3 ok
    have hu3 := hu2.ex e3
    have hc3 := hc2.ex e3
    have qc3 := qc.same e3
    have hv3 := hv2.same e3
    have f3 := e3 _ _ f2
    refine q_when (b := !h || !decide (sumQ (kids.map c) < U name)) (et_or (et_not (et_B (ev_handing rfl ht3 ok))) fun _ => et_not (et_B (ev_less (eq_var rfl qc3) (eq_get rfl (ev_var rfl) hu3 List.mem_cons_self) po.clz po.uz))) (fun hb2 H4 e4 => ?_) fun hb2 H4 e4 => ?_
    · refine s_retM (f := partQ h a (U name) (sumQ (kids.map c)) U c) (em_dc (names := kids) (ev_var rfl) (sq_of (e4 _ _ f3)) nd (by omega) (fun _ => rfl) (fun _ => rfl) fun n hn G s => ?_) fun d kvs G h1 h2 h3 h4 => fin (e3.trans e4) h1 h2 h3 h4
      refine EvQ.is (eq_get rfl (ev_var rfl) ((hc3.ex e4).ex s) hn) ?_
      unfold partQ
      rw [if_neg nlt, if_neg]
      rintro ⟨z1, z2⟩
      rw [z1, decide_eq_true z2] at hb2
      cases hb2
    · have z1 : h = true := by
        cases h with
        | true => rfl
        | false => cases hb2
      subst z1
      have z2 : sumQ (kids.map c) < U name := by
        by_cases z : sumQ (kids.map c) < U name
        · exact z
        · rw [decide_eq_false z] at hb2
          cases hb2
      have hu4 := hu3.ex e4
      have hc4 := hc3.ex e4
      have hv4 := hv3.same e4
      have qc4 := qc3.same e4
      have f4 := e4 _ _ f3
      have e34 := e3.trans e4
      have d1 := po.d1 nlt
      have d2 := po.d2 z2
      obtain ⟨r0, r1, rn, rd⟩ := po.rr nlt z2
      obtain ⟨m1, m2, m3, m4⟩ := po.m1
      have s256 : PartOk M S a (U name) kids U c → S ≤ S * 256 := fun _ => by omega
      refine q_asgQ (eq_over (eq_minus (eq_var rfl hv4) (eq_var rfl qc4) m1 m3 m4 po.ad1 po.cd1 (by grind)) (eq_minus (M := M) (S := S * 256) (eq_get rfl (ev_var rfl) hu4 List.mem_cons_self) (eq_var rfl qc4) po.M0 po.small.1 po.big ⟨po.uin.den, up256 po.uin.num⟩ po.cl.dn (by grind)) (d1.sz m1 m2 po.hS (by decide)) (d2.sz po.M0 po.hM po.hS (by decide)) d1.lo (by grind)) fun vr H5 e5 qr => ?_
      have f5 := e5 _ _ f4
      have hc5 := hc4.ex e5
      have hu5 := hu4.ex e5
      have rz : Sz ((a - sumQ (kids.map c)) / (U name - sumQ (kids.map c))) := ⟨lt_up rn (by decide), lt_up rd (by decide)⟩
      obtain ⟨r, er⟩ : ∃ r, (a - sumQ (kids.map c)) / (U name - sumQ (kids.map c)) = r := ⟨_, rfl⟩
      rw [er] at r0 r1 rn rd qr rz
      refine q_asgM (f := fun n => U n - c n) (em_dc (names := kids) (ev_var rfl) (sq_of f5) nd (by omega) (fun _ => rfl) (fun _ => rfl) fun n hn G s => eq_minus (eq_get rfl (ev_var rfl) (hu5.ex s) (hU hn)) (eq_get rfl (ev_var rfl) (hc5.ex s) hn) po.M0 po.small.1 po.small.2 (po.ku n hn).dn (po.kc n hn).dn (po.cu n hn)) fun db kb H6 hdb e6 fb mb => ?_
      have hb6 := Amts.of fb mb nd
      have hc6 := hc5.ex e6
      have qr6 := qr.same e6
      have e46 := (e34.trans e5).trans e6
      refine s_retM (f := partQ true a (U name) (sumQ (kids.map c)) U c) (em_dc (names := kids) (ev_var rfl) (sq_of (e6 _ _ f5)) nd (by omega) (fun _ => rfl) (fun _ => rfl) fun n hn G s => ?_) fun d kvs G h1 h2 h3 h4 => fin e46 h1 h2 h3 h4
      have mo := po.more hn r0 r1 rd
      obtain ⟨w1, w2, w3⟩ := po.m3 rd
      refine EvQ.is (eq_plus (eq_get rfl (ev_var rfl) (hc6.ex s) hn) (eq_times (eq_get (f := fun n => U n - c n) rfl (ev_var rfl) (hb6.ex s) hn) (eq_var rfl (qr6.same s)) ((po.beyond hn).sz po.M0 po.hM po.hS (by decide)) rz (po.beyond hn).lo r0) w1 w2 w3 ⟨Nat.dvd_trans (po.kc n hn).den (Nat.dvd_mul_right _ _), (po.kc n hn).num⟩ mo.dn (by have := (po.kc n hn).lo; have := mo.lo; grind)) ?_
      unfold partQ
      rw [if_neg nlt, if_pos ⟨rfl, z2⟩]
      rw [er]
end
end Bd
end

section
namespace Bd
open PySem L2 Am
open Evl hiding tCut pss_cut
abbrev sCTree : Stmt := (top 43)
theorem scCTree : FnScope ["thing"] ["thing"] (defScope sCTree) := ⟨rfl, rfl, rfl, by decide +kernel, rfl, by decide +kernel, by decide +kernel⟩
abbrev sCTop : Stmt := (top 45)
theorem scCTop : FnScope ["tree", "top"] ["tree", "top"] (defScope sCTop) := ⟨rfl, rfl, rfl, by decide +kernel, rfl, by decide +kernel, by decide +kernel⟩
abbrev sBelow : Stmt := (top 46)
theorem scBelow : FnScope ["tree", "top", "found", "name"] ["tree", "top"] (defScope sBelow) := ⟨rfl, rfl, rfl, by decide +kernel, rfl, by decide +kernel, by decide +kernel⟩

theorem ev_din {H : Hp} {σ : L2.St} {ty td : TE} {d : Addr} {kvs : List (Key × V)} {x : Str} (hy : Ev ty σ H (.str x)) (hd : Ev td σ H (.ref d)) (h : H d = some (.dK kvs)) : Ev (tDIn ty td) σ H (.bl (valV kvs (Sum.inr x)).isSome) := fun H1 e Q k =>
  hy H1 e _ fun H2 e2 => hd H2 (e.trans e2) _ fun H3 e3 => ⟨d, _, rfl, DGet.k (k := Sum.inr x) ((e.trans (e2.trans e3)) _ _ h), k H3 (e2.trans e3)⟩
/-- the two tuples of the top -/
structure TKk (K : PySem.W.Frag) (mg : Str → Option Value) (aK : Addr) : Prop where
  g_KINDS : mg "KINDS" = some (.ref aK)
  kinds : ∀ H, SqT K H aK [.str "min", .str "low"]
  z_reversed : mg "reversed" = none
structure TKd (K : PySem.W.Frag) (mg : Str → Option Value) (aK aZ : Addr) : Prop extends TKk K mg aK where
  g_ZERO : mg "ZERO" = some (.ref aZ)
  zero : ∀ H, SqT K H aZ [.int 0, .int 1]
theorem flat_strs (xs : List Str) : (xs.map V.str).all flatV = true := by
  rw [List.all_map]
  exact List.all_eq_true.mpr fun _ _ => rfl
theorem in_strs (x : Str) (xs : List Str) : inV (V.str x) (xs.map V.str) = decide (x ∈ xs) := by
  unfold inV
  induction xs with
  | nil => rfl
  | cons y ys ih =>
    rw [List.map_cons, List.any_cons, ih]
    show ((y == x) || decide (x ∈ ys)) = decide (x ∈ y :: ys)
    by_cases c : y = x
    · subst c
      simp
    · have c' : ¬ x = y := fun e => c e.symm
      have e1 : (y == x) = false := by simpa using c
      simp [e1, c']
abbrev mps (s : List Str) : List (Key × V) := s.map fun x => ((Sum.inr x : Key), V.bl true)
theorem mps_val (al : List Str) (x : Str) : (valV (mps al) (Sum.inr x)).isSome = decide (x ∈ al) := by
  have e : (Sum.inr x : Key) ∈ (mps al).map (·.1) ↔ x ∈ al := by
    rw [List.map_map]
    constructor
    · intro m
      obtain ⟨y, hy, e⟩ := List.mem_map.mp m
      rw [← Sum.inr.inj e]
      exact hy
    · intro m
      exact List.mem_map.mpr ⟨x, m, rfl⟩
  by_cases c : x ∈ al
  · rw [decide_eq_true c]
    exact val_some (e.mpr c)
  · rw [decide_eq_false c, keys_none fun m => c (e.mp m)]
    rfl
theorem mps_none {al : List Str} {x : Str} (h : x ∉ al) : valV (mps al) (Sum.inr x) = none := by
  have := mps_val al x
  rw [decide_eq_false h] at this
  cases z : valV (mps al) (Sum.inr x) with
  | none => rfl
  | some v => rw [z] at this; cases this
/-! ### the groups below a top -/
def bStep (top : Str) (acc : List Str) (r : RowM) : List Str := if r.above = top ∨ r.above ∈ acc then acc ++ [r.name] else acc
def belowL (rows : List RowM) (top : Str) : List Str := rows.foldl (bStep top) []
theorem below_in (top : Str) : ∀ {rows : List RowM} {acc : List Str} {x : Str}, x ∈ rows.foldl (bStep top) acc → x ∈ acc ∨ x ∈ nms rows
  | [], acc, x, h => .inl h
  | r :: rows, acc, x, h => by
    rcases below_in top (rows := rows) h with m | m
    · unfold bStep at m
      split at m
      · rcases List.mem_append.mp m with m | m
        · exact .inl m
        · exact .inr (by rw [List.mem_singleton.mp m]; exact List.mem_cons_self)
      · exact .inl m
    · exact .inr (List.mem_cons_of_mem _ m)
theorem below_nms {rows : List RowM} {top x : Str} (h : x ∈ belowL rows top) : x ∈ nms rows := by
  rcases below_in top h with m | m
  · cases m
  · exact m
theorem below_take {rows : List RowM} {top : Str} {i : Nat} {x : Str} (h : x ∈ (rows.take i).foldl (bStep top) []) : x ∈ nms (rows.take i) := by
  rcases below_in top h with m | m
  · cases m
  · exact m
theorem bStep_nd {top : Str} {acc : List Str} {r : RowM} (h : acc.Nodup) (n : r.name ∉ acc) : (bStep top acc r).Nodup := by
  unfold bStep
  split
  · refine List.nodup_append.mpr ⟨h, by simp, ?_⟩
    intro a ha b hb e
    rw [List.mem_singleton.mp hb] at e
    exact n (e ▸ ha)
  · exact h
theorem take_nin {rows : List RowM} (nd : (nms rows).Nodup) {i : Nat} {r : RowM} (h : rows[i]? = some r) : r.name ∉ nms (rows.take i) := fun m => by
  unfold nms at m nd
  obtain ⟨hl, e⟩ := List.getElem?_eq_some_iff.mp h
  have e2 : (rows.map (·.name))[i]? = some r.name := by rw [List.getElem?_map, h]; rfl
  rw [List.map_take] at m
  obtain ⟨k, hk⟩ := List.mem_iff_getElem?.mp m
  have lk := (List.getElem?_eq_some_iff.mp hk).1
  rw [List.length_take] at lk
  rw [List.getElem?_take_of_lt (by omega)] at hk
  obtain ⟨l1, z1⟩ := List.getElem?_eq_some_iff.mp hk
  obtain ⟨l2, z2⟩ := List.getElem?_eq_some_iff.mp e2
  have := (List.getElem_inj nd (h₀ := l1) (h₁ := l2)).mp (z1.trans z2.symm)
  omega
theorem below_nd_take {rows : List RowM} {top : Str} (nd : (nms rows).Nodup) : ∀ i, ((rows.take i).foldl (bStep top) []).Nodup := by
  intro i
  induction i with
  | zero => exact List.nodup_nil
  | succ i ih =>
    cases h : rows[i]? with
    | none =>
      rw [List.take_add_one, h]
      simpa using ih
    | some r =>
      rw [List.take_add_one, h, Option.toList_some, List.foldl_append]
      exact bStep_nd ih fun m => take_nin nd h (below_take m)
theorem below_nd {rows : List RowM} {top : Str} (nd : (nms rows).Nodup) : (belowL rows top).Nodup := by
  have := below_nd_take (top := top) nd rows.length
  rw [List.take_length] at this
  exact this
theorem below_len {rows : List RowM} {top : Str} : ∀ i, ((rows.take i).foldl (bStep top) []).length ≤ i := by
  intro i
  induction i with
  | zero => exact Nat.le_refl _
  | succ i ih =>
    cases h : rows[i]? with
    | none =>
      rw [List.take_add_one, h]
      simp only [Option.toList_none, List.append_nil]
      omega
    | some r =>
      rw [List.take_add_one, h, Option.toList_some, List.foldl_append]
      show (bStep top ((rows.take i).foldl (bStep top) []) r).length ≤ i + 1
      generalize (rows.take i).foldl (bStep top) [] = acc at ih ⊢
      unfold bStep
      split
      · rw [List.length_append, List.length_singleton]
        omega
      · omega
def spCTree (K : PySem.W.Frag) (C : Addr) : Sp := fun vs H Q _ => ∃ (p : Addr) (rows : List RowM) (h : Bool) (tk : List (Key × V)), vs = [.ref p] ∧ TreeAt K H C p rows h tk ∧ Q .non H
def spCTop (K : PySem.W.Frag) (C : Addr) : Sp := fun vs H Q _ => ∃ (p : Addr) (top : Str) (rows : List RowM) (h : Bool) (tk : List (Key × V)), vs = [.ref p, .str top] ∧ TreeAt K H C p rows h tk ∧ RowsOk rows ∧ top ∈ ("" : Str) :: nms rows ∧ (top = "" ∨ kidsOf rows (Sum.inr top) ≠ []) ∧ Q .non H
def spCKind : Sp := fun vs H Q _ => ∃ kd : Str, vs = [.str kd] ∧ (kd = "min" ∨ kd = "low") ∧ Q .non H
def spBelow (K : PySem.W.Frag) (C : Addr) : Sp := fun vs H Q _ => ∃ (p : Addr) (top : Str) (rows : List RowM) (h : Bool) (tk : List (Key × V)), vs = [.ref p, .str top] ∧ TreeAt K H C p rows h tk ∧ RowsOk rows ∧ rows.length ≤ 200 ∧
  ∀ l H', H l = none → Same H H' → H' l = some (.lst ((belowL rows top).map .str)) → Q (.ref l) H'
section
variable {P : Program} {w : World} {K : PySem.W.Frag} {mg : Str → Option Value} {base : Heap} {aL C CN aK aZ : Addr} {left : List (Key × V)}
theorem ok_ctree {f : Addr} {fd : FuncData} (F : Fun K "check_tree" "check_tree" sCTree f fd) (T : TP P w K mg aL left) (TCl : TC K mg C) (TIs : TI K C) : FnOk P w K mg base CX0 1 f fd ["thing"] (spCTree K C) := by
  refine F.ok scCTree (fun vs H Q E h => ?_) (fun cdv A outer s H vs Q E hr h => ?_)
  · obtain ⟨p, rows, h, tk, rfl, _⟩ := h
    rfl
  obtain ⟨p, rows, h, tk, rfl, ⟨dx, po, pp, pk, pt, o1, _⟩, q⟩ := h
  refine ⟨_, (pss_one (ps_if (pt_not (pt_val (pe_callB call_isi (by rfl) T.z_isinstance (by decide +kernel) (pa_cons (pv 0) (pa_cons (pe_glob (v := .ref C) rfl TCl.g_Tree rfl) pa_nil))))) (pss_one ps_never) pss_nil)), ?_⟩
  exact ⟨_, rfl, _, _, _, _, true, rfl, .own C, .base (.ins o1 TCl.cl TIs.ha TIs.hn TIs.htk TIs.hm), by simp [PySem.W.kitOne], true, rfl, iteF q⟩
theorem ok_ctop {f : Addr} {fd : FuncData} (F : Fun K "check_top" "check_top" sCTop f fd) (T : TP P w K mg aL left) (TCl : TC K mg C) : FnOk P w K mg base CX0 1 f fd ["tree", "top"] (spCTop K C) := by
  refine F.ok scCTop (fun vs H Q E h => ?_) (fun cdv A outer s H vs Q E hr h => ?_)
  · obtain ⟨p, top, rows, h, tk, rfl, _⟩ := h
    rfl
  obtain ⟨p, top, rows, h, tk, rfl, ⟨dx, po, pp, pk, pt, o1, o2, o3, o4, o5, o6⟩, ok, hx, hk, q⟩ := h
  have hu := hu_of hr
  refine ⟨_, (pss_cons (ps_if (PW.pt (pw_or (pt_not (pt_val (pe_callB call_isi (by rfl) T.z_isinstance (by decide +kernel) (pa_cons (pv 1) (pa_cons (pe_bltn (v := .ty "str") (u := .type "str") (by rfl) T.z_str (by decide +kernel) rfl) pa_nil))))) (pw_or1 (pt_cmp (pc_dnotin hu (pv 1) (pe_fld (pv 0) rfl)))))) (pss_one ps_never) pss_nil) (pss_one (ps_if (PW.pt (pw_and (pt_cmpR op_ne (pv 1) pe_str (nomark _)) (pw_and1 (pt_not (pt_truth (pe_dget hu (pe_fld (pv 0) rfl) (pv 1) (fun _ _ => rfl)) (by intro _; rfl)))))) (pss_one ps_never) pss_nil))), ?_⟩
  obtain ⟨ks, k1, k2, k3⟩ := id o6
  refine ⟨_, rfl, _, _, _, _, true, rfl, .ty _, .base (.str _), kit_ty (by decide +kernel), true, rfl, ?_⟩
  refine iteF ?_
  refine ⟨_, rfl, _, rfl, p, C, dx, _, _, rfl, o1, TCl.cl, TCl.n_kids, tf5_kids, pk, _, rfl, DGet.k (k := Sum.inr top) k1, ?_⟩
  rw [kid_val k2, decide_eq_true hx]
  refine ⟨false, rfl, iteF ?_⟩
  refine ⟨_, rfl, rfl, _, rfl, ?_⟩
  rw [dec_strs]
  by_cases c : top = ""
  · rw [decide_eq_true c]
    exact iteF (iteF q)
  · rw [decide_eq_false c]
    refine iteT ?_
    obtain ⟨l, ks', e1, e2, e3⟩ := kid_get o6 (nms_nd ok) (nms_ne ok) hx
    refine ⟨_, rfl, p, C, dx, _, _, rfl, o1, TCl.cl, TCl.n_kids, tf5_kids, _, rfl, pk, _, rfl, dget_of e1 e2, _, .inl ⟨_, SqL.of e3, rfl⟩, ?_⟩
    have : ((kidsOf rows (Sum.inr top)).map V.str).isEmpty = false := by
      cases z : kidsOf rows (Sum.inr top) with
      | nil => exact absurd z (hk.resolve_left c)
      | cons a b => rfl
    rw [this]
    exact iteF q
theorem ok_below {f fN fA : Addr} {fd dN dA : FuncData} (F : Fun K "groups_below" "groups_below" sBelow f fd) (T : TP P w K mg aL left) (TCl : TC K mg C) (mN : Meth K C "names" fN) (FN : FnOk P w K mg base CX0 1 fN dN ["self"] (spTNames K C)) (bN : Binds K dN ["self"] [])
    (mA : Meth K C "above" fA) (FA : FnOk P w K mg base (L2.CX P w) 2 fA dA ["self", "name"] (spTAbove K C CN)) (bA : Binds K dA ["self", "name"] []) : FnOk P w K mg base CX0 3 f fd ["tree", "top"] (spBelow K C) := by
  refine F.ok scBelow (fun vs H Q E h => ?_) (fun cdv A outer s H vs Q E hr h => ?_)
  · obtain ⟨p, top, rows, h, tk, rfl, _⟩ := h
    rfl
  obtain ⟨p, top, rows, h, tk, rfl, ht, ok, len, q⟩ := h
  have hu := hu_of hr
  refine ⟨_, (pss_cons (ps_set (i := 2) scBelow.nd rfl (Or.inl rfl) pe_dnewK) (pss_cons (ps_for PassesOwn.never rfl (pi_list (pe_meth0 (pv 0) TCl.cl mN FN (hr.mono (by decide)) bN .nil pass0)) (pg_name (i := 3) scBelow.nd rfl (Or.inl rfl)) (pss_one (ps_if (PW.pt (pw_or (pt_cmpR op_eq (pe_meth (pv 0) TCl.cl mA FA (hr.mono (by decide)) bA .nil passL (pa_cons (pv 3) pa_nil)) (pv 1) (nomark _)) (pw_or1 (pt_cmp (pc_din hu (pe_meth (pv 0) TCl.cl mA FA (hr.mono (by decide)) bA .nil passL (pa_cons (pv 3) pa_nil)) (pv 2)))))) (pss_one (ps_dput hu (pv 2) (pv 3) pe_bl rfl)) pss_nil))) (pss_one (ps_ret (pe_callTy (call_list_dK rfl) (by rfl) T.z_list (by decide +kernel) (pa_cons (pv 2) pa_nil)))))), ?_⟩
  have nd := nms_nd ok
  intro dd hdd
  have s0 := Same.new (Same.refl H) hdd (.dK [])
  have f0 : upd H dd (.dK []) dd = some (.dK []) := upd_same
  generalize upd H dd (.dK []) = H1 at s0 f0 ⊢
  refine q_forNLn (el_names rfl (ht.same s0 ok) ok) (fun l i σ G => ∃ o3 : Option V, σ = [some (.ref p), some (.str top), some (.ref dd), o3] ∧ Same H G ∧ G dd = some (.dK (mps ((rows.take i).foldl (bStep top) []))) ∧ G l = some (.lst ((nms rows).map .str))) (fun l G hl e f => ⟨_, rfl, Same.trans s0 e, e _ _ f0, f⟩) ?_ ?_ ?_
  · rintro l i σ G _ ⟨_, rfl, _, _, e⟩
    exact sq_of e
  · rintro l i x σ G hx ⟨o3, rfl, sG, fG, fl⟩
    obtain ⟨r, hr1, rfl⟩ : ∃ r, rows[i]? = some r ∧ x = .str r.name := by
      unfold nms at hx
      rw [List.getElem?_map, List.getElem?_map] at hx
      obtain ⟨m, h1, h2⟩ := Option.map_eq_some_iff.mp hx
      obtain ⟨r, h3, h4⟩ := Option.map_eq_some_iff.mp h1
      exact ⟨r, h3, by rw [← h2, ← h4]⟩
    have hrm := List.mem_of_getElem? hr1
    have il := (List.getElem?_eq_some_iff.mp hr1).1
    have htG := ht.same sG ok
    have et : (rows.take (i + 1)).foldl (bStep top) [] = bStep top ((rows.take i).foldl (bStep top) []) r := by
      rw [List.take_add_one, hr1, Option.toList_some, List.foldl_append]
      rfl
    have hn : r.name ∉ (rows.take i).foldl (bStep top) [] := fun m => take_nin nd hr1 (below_take m)
    have hlen := below_len (rows := rows) (top := top) i
    rw [et]
    generalize (rows.take i).foldl (bStep top) [] = acc at fG hn hlen ⊢
    refine s_when (b := decide (r.above = top) || decide (r.above ∈ acc)) (et_or (et_test (ev_is (ev_op (ev_above rfl htG ok hrm (ev_var rfl)) (ev_var rfl) (rv_eq rfl)) (by rw [dec_strs]))) fun _ => et_test (ev_is (ev_din (ev_above rfl htG ok hrm (ev_var rfl)) (ev_var rfl) fG) (by rw [mps_val]))) (fun hb G2 e2 => ?_) fun hb G2 e2 => ?_
    · have hb : r.above = top ∨ r.above ∈ acc := by simpa using hb
      have fG2 := e2 _ _ fG
      refine ⟨_, rfl, _, rfl, dd, _, rfl, .inl ⟨_, Sum.inr r.name, fG2, rfl, ?_, rfl⟩, ?_⟩
      · rw [List.length_map]
        exact small1000 (by omega)
      · refine ⟨_, rfl, Same.ch (Same.trans sG e2) hdd _, ?_, ?_⟩
        · rw [upd_same, putK_new _ (mps_none hn)]
          unfold bStep
          rw [if_pos hb, mps, mps, List.map_append]
          rfl
        · rw [upd_ne (ne_of (e2 _ _ fl) fG2 (by intro z; cases z))]
          exact e2 _ _ fl
    · refine ⟨_, rfl, Same.trans sG e2, ?_, e2 _ _ fl⟩
      unfold bStep
      rw [if_neg fun z => by rcases z with z | z <;> simp [z] at hb]
      exact e2 _ _ fG
  · rintro l σ G ⟨o3, rfl, sG, fG, fl⟩
    have el : ((nms rows).map V.str).length = rows.length := by
      unfold nms
      rw [List.length_map, List.length_map]
    rw [el, List.take_length] at fG
    refine ⟨_, rfl, dd, _, rfl, fG, fun q' hq' => ?_⟩
    have sQ := Same.new (Same.refl G) hq' (.lst ((mps (belowL rows top)).map fun kv => kV kv.1))
    refine q q' _ (Same.free sG hq') (sG.trans sQ) ?_
    rw [List.map_map]
    exact upd_same
end
end Bd
end

section
namespace Bd
open PySem L2 Am
open Evl hiding tCut pss_cut
/-! ### the order of the groups below a top -/
theorem row_up {rows : List RowM} (ok : RowsOk rows) {i : Nat} {r : RowM} (h : rows[i]? = some r) : r.above = "" ∨ ∃ k q, k < i ∧ rows[k]? = some q ∧ q.name = r.above := by
  rcases (ok i r h).2.2.2 with e | ⟨q, hq, e, _⟩
  · exact .inl e
  · obtain ⟨k, hk⟩ := List.mem_iff_getElem?.mp hq
    have lk := (List.getElem?_eq_some_iff.mp hk).1
    rw [List.length_take] at lk
    rw [List.getElem?_take_of_lt (by omega)] at hk
    exact .inr ⟨k, q, by omega, hk, e⟩
theorem row_inj {rows : List RowM} (nd : (nms rows).Nodup) {i j : Nat} {r q : RowM} (h1 : rows[i]? = some r) (h2 : rows[j]? = some q) (e : r.name = q.name) : i = j := by
  unfold nms at nd
  have e1 : (rows.map (·.name))[i]? = some r.name := by rw [List.getElem?_map, h1]; rfl
  have e2 : (rows.map (·.name))[j]? = some r.name := by rw [List.getElem?_map, h2, e]; rfl
  obtain ⟨l1, z1⟩ := List.getElem?_eq_some_iff.mp e1
  obtain ⟨l2, z2⟩ := List.getElem?_eq_some_iff.mp e2
  exact (List.getElem_inj nd (h₀ := l1) (h₁ := l2)).mp (z1.trans z2.symm)
theorem row_ne {rows : List RowM} (ok : RowsOk rows) {i : Nat} {r : RowM} (h : rows[i]? = some r) : r.name ≠ "" := fun e => nms_ne ok (List.mem_map.mpr ⟨r, List.mem_of_getElem? h, e⟩)
structure BInv (rows : List RowM) (top : Str) (i : Nat) (acc : List Str) : Prop where
  up : ∀ j x, acc[j]? = some x → ∃ r ∈ rows, r.name = x ∧ (r.above = top ∨ r.above ∈ acc.take j)
  dn : ∀ j n, acc[j]? = some n → ∀ k r, k < i → rows[k]? = some r → r.above = n → r.name ∈ acc.drop (j + 1)
  tp : ∀ k r, k < i → rows[k]? = some r → r.above = top → r.name ∈ acc
theorem b_inv {rows : List RowM} (ok : RowsOk rows) (top : Str) : ∀ i, i ≤ rows.length → BInv rows top i ((rows.take i).foldl (bStep top) []) := by
  intro i
  induction i with
  | zero => exact fun _ => ⟨fun j x h => by simp at h, fun j n h => by simp at h, fun k r h => by omega⟩
  | succ i ih =>
    intro hi
    have h : rows[i]? = some rows[i] := List.getElem?_eq_getElem (by omega)
    obtain ⟨u, d, t⟩ := ih (by omega)
    rw [List.take_add_one, h, Option.toList_some, List.foldl_append]
    generalize rows[i] = r at h
    show BInv rows top (i + 1) (bStep top _ r)
    generalize (rows.take i).foldl (bStep top) [] = acc at u d t ⊢
    unfold bStep
    split
    · rename_i c
      refine ⟨fun j x hx => ?_, fun j n hn k q hk hq e => ?_, fun k q hk hq e => ?_⟩
      · by_cases lj : j < acc.length
        · rw [List.getElem?_append_left lj] at hx
          rw [List.take_append_of_le_length (by omega)]
          exact u j x hx
        · have lj2 : j = acc.length := by
            have := (List.getElem?_eq_some_iff.mp hx).1
            rw [List.length_append, List.length_singleton] at this
            omega
          subst lj2
          rw [List.getElem?_append_right (Nat.le_refl _), Nat.sub_self] at hx
          cases hx
          rw [List.take_append_of_le_length (Nat.le_refl _), List.take_length]
          exact ⟨r, List.mem_of_getElem? h, rfl, c⟩
      · by_cases lj : j < acc.length
        · rw [List.getElem?_append_left lj] at hn
          rw [List.drop_append_of_le_length (by omega)]
          by_cases ki : k < i
          · exact List.mem_append_left _ (d j n hn k q ki hq e)
          · have : k = i := by omega
            subst this
            rw [h] at hq
            cases hq
            exact List.mem_append_right _ (List.mem_singleton.mpr rfl)
        · have lj2 : j = acc.length := by
            have := (List.getElem?_eq_some_iff.mp hn).1
            rw [List.length_append, List.length_singleton] at this
            omega
          subst lj2
          rw [List.getElem?_append_right (Nat.le_refl _), Nat.sub_self] at hn
          cases hn
          exfalso
          rcases row_up ok hq with e2 | ⟨m, z, hm, hz, e2⟩
          · exact row_ne ok h (e.symm.trans e2)
          · have := row_inj (nms_nd ok) hz h (e2.trans e)
            omega
      · by_cases ki : k < i
        · exact List.mem_append_left _ (t k q ki hq e)
        · have : k = i := by omega
          subst this
          rw [h] at hq
          cases hq
          exact List.mem_append_right _ (List.mem_singleton.mpr rfl)
    · rename_i c
      refine ⟨u, fun j n hn k q hk hq e => ?_, fun k q hk hq e => ?_⟩
      · by_cases ki : k < i
        · exact d j n hn k q ki hq e
        · have : k = i := by omega
          subst this
          rw [h] at hq
          cases hq
          exact absurd (.inr (e ▸ List.mem_of_getElem? hn)) c
      · by_cases ki : k < i
        · exact t k q ki hq e
        · have : k = i := by omega
          subst this
          rw [h] at hq
          cases hq
          exact absurd (.inl e) c
theorem below_inv {rows : List RowM} (ok : RowsOk rows) (top : Str) : BInv rows top rows.length (belowL rows top) := by
  have := b_inv ok top rows.length (Nat.le_refl _)
  rw [List.take_length] at this
  exact this
theorem kid_row {rows : List RowM} {n x : Str} (h : x ∈ kidsOf rows (Sum.inr n)) : ∃ (k : Nat) (r : RowM), rows[k]? = some r ∧ r.name = x ∧ r.above = n := by
  rw [kids_flt] at h
  obtain ⟨r, hr, e⟩ := List.mem_map.mp h
  obtain ⟨h1, h2⟩ := List.mem_filter.mp hr
  obtain ⟨k, hk⟩ := List.mem_iff_getElem?.mp h1
  exact ⟨k, r, hk, e, of_decide_eq_true h2⟩
theorem kid_of {rows : List RowM} {r : RowM} (h : r ∈ rows) : r.name ∈ kidsOf rows (Sum.inr r.above) := by
  rw [kids_flt]
  exact List.mem_map.mpr ⟨r, List.mem_filter.mpr ⟨h, decide_eq_true rfl⟩, rfl⟩
/-- children stand behind their group -/
theorem below_kids {rows : List RowM} (ok : RowsOk rows) {top : Str} {j : Nat} {n x : Str} (h : (belowL rows top)[j]? = some n) (hx : x ∈ kidsOf rows (Sum.inr n)) : x ∈ (belowL rows top).drop (j + 1) := by
  obtain ⟨k, r, hk, rfl, e⟩ := kid_row hx
  exact (below_inv ok top).dn j n h k r (List.getElem?_eq_some_iff.mp hk).1 hk e
theorem below_top {rows : List RowM} (ok : RowsOk rows) {top x : Str} (hx : x ∈ kidsOf rows (Sum.inr top)) : x ∈ belowL rows top := by
  obtain ⟨k, r, hk, rfl, e⟩ := kid_row hx
  exact (below_inv ok top).tp k r (List.getElem?_eq_some_iff.mp hk).1 hk e
theorem below_up {rows : List RowM} (ok : RowsOk rows) {top : Str} {j : Nat} {x : Str} (h : (belowL rows top)[j]? = some x) : ∃ r ∈ rows, r.name = x ∧ (r.above = top ∨ r.above ∈ (belowL rows top).take j) := (below_inv ok top).up j x h
/-! ### words -/
abbrev tTrl (K : PySem.W.Frag) (ta : TE) : TT := fun σ H Q => ta σ H fun x H' => ∃ k, TruV K x H' k ∧ Q k H'
section
variable {K : PySem.W.Frag} {H : Hp} {σ : L2.St} {ta tb te td tk : TE} {t : TT} {D : Ends}
theorem eq_if {b : Bool} {q : Rat} (h : EvT t σ H b) (h1 : b = true → EvQ K ta σ H q) (h2 : b = false → EvQ K tb σ H q) : EvQ K (tIf t ta tb) σ H q := fun H1 e Q k => h H1 e _ fun H2 e2 => by
  cases b with
  | true => exact h1 rfl H2 (e.trans e2) Q fun v H3 e3 => k v H3 (e2.trans e3)
  | false => exact h2 rfl H2 (e.trans e2) Q fun v H3 e3 => k v H3 (e2.trans e3)
theorem et_list {i : Nat} {a : Addr} {xs : List V} (hv : σ[i]? = some (some (.ref a))) (h : SqL K H a xs) : EvT (tTrl K (tVar i)) σ H (!xs.isEmpty) := fun H1 e Q k => ⟨_, hv, _, .inl ⟨_, ex_l e h, rfl⟩, k H1 (Ex.refl H1)⟩
theorem et_meth {xs : List V} (h : EvL te σ H xs) : EvT (tTrl K te) σ H (!xs.isEmpty) := fun H1 e Q k => h H1 e _ fun p H2 _ e2 hp => ⟨_, .inl ⟨_, sq_of hp, rfl⟩, k H2 e2⟩
theorem s_dputQ {i : Nat} {d : Addr} {kvs : List (Key × V)} {n : Str} {q : Rat} (hv : σ[i]? = some (some (.ref d))) (hk : Ev tk σ H (.str n)) (h : EvQ K te σ H q) (fd : H d = some (.dK kvs)) (len : kvs.length ≤ 900)
    (k : ∀ v H1, Ex H H1 → AmtQ K H1 v q → D.nx σ (upd H1 d (.dK (putK kvs (Sum.inr n) v)))) : sDPut (tVar i) tk te D σ H :=
  h H (Ex.refl H) _ fun v H1 e a => ⟨_, hv, hk H1 e _ fun H2 e2 => ⟨d, _, rfl, .inl ⟨kvs, Sum.inr n, e2 _ _ (e _ _ fd), rfl, small1000 (by omega), rfl⟩, k v H2 (e.trans e2) (a.same e2)⟩⟩
theorem Amts.put {d : Addr} {kvs : List (Key × V)} {names : List Str} {f : Str → Rat} {n : Str} {v : V} (h : Amts K H d names f) (fd : H d = some (.dK kvs)) (hv : AmtQ K H v (f n)) : Amts K (upd H d (.dK (putK kvs (Sum.inr n) v))) d (n :: names) f := by
  have t : TK H (upd H d (.dK (putK kvs (Sum.inr n) v))) := TK.dk fd _
  obtain ⟨ks, h1, h2⟩ := h
  rw [fd] at h1
  cases h1
  refine ⟨_, upd_same, fun m hm => ?_⟩
  rw [valV_put]
  by_cases c : (Sum.inr m : Key) = Sum.inr n
  · rw [if_pos c]
    have := Sum.inr.inj c
    subst this
    exact ⟨v, rfl, hv.tk t⟩
  · rw [if_neg c]
    rcases List.mem_cons.mp hm with e | hm
    · exact absurd (congrArg Sum.inr e) c
    · obtain ⟨u, a, b⟩ := h2 m hm
      exact ⟨u, a, b.tk t⟩
/-- [.. for k in d], d a dict -/
theorem el_lockKeys {i j : Nat} {d : Addr} {kvs : List (Key × V)} {vs : List Nat} (g : Key × V → V) (hi : σ[i]? = some (some (.ref d))) (fd : H d = some (.dK kvs)) (len : kvs.length ≤ 900) (hw : ∀ x, wipe ((wipe σ vs).set j (some x)) vs = wipe σ vs)
    (he : ∀ H1, Ex H H1 → ∀ od, ∀ kv ∈ kvs, ∀ G, Ex (upd H1 d (.frz od (.dK kvs))) G → Ev te ((wipe σ vs).set j (some (kV kv.1))) G (g kv)) : EvL (tLockE (tLc (iKeys (tVar i)) (gName j) tYes te vs)) σ H (kvs.map g) := by
  intro H1 e Q k
  have fd1 := e _ _ fd
  refine ⟨d, _, fd1, trivial, fun od => ?_⟩
  have fL : upd H1 d (.frz od (.dK kvs)) d = some (.frz od (.dK kvs)) := upd_same
  refine ⟨_, hi, d, od, rfl, .inl ⟨kvs, fL, fun Dl hD => ?_⟩⟩
  have ne : Dl ≠ d := fun z => by rw [z, fL] at hD; cases hD
  have hD1 : H1 Dl = none := by rw [upd_ne ne] at hD; exact hD
  refine lc_it walk_keys (fun m G => Ex (upd H1 d (.frz od (.dK kvs))) G ∧ G Dl = some (.lst ((kvs.take m).map g))) ⟨Ex.new hD, upd_same⟩ ?_ ?_ ?_
  · rintro m G _ ⟨a, _⟩
    exact a _ _ fL
  · rintro m x G G' hm ⟨a, b⟩ ⟨rfl, kk, v, hkv, rfl⟩
    refine ⟨hw _, ?_⟩
    unfold tYes
    refine iteT ?_
    refine he H1 e od (kk, v) (List.mem_of_getElem? hkv) G' a G' (Ex.refl _) _ fun G4 e4 => ⟨_, e4 _ _ b, ?_, Ex.mut (a.trans e4) hD, ?_⟩
    · rw [List.length_map, List.length_take]
      exact small1000 (by omega)
    · rw [upd_same, List.take_add_one, hkv, Option.toList_some, List.map_append]
      rfl
  · rintro G ⟨a, b⟩
    rw [List.take_length] at b
    refine ⟨a _ _ fL, k Dl _ hD1 ?_ ((upd_ne ne).trans b)⟩
    intro c o hc
    by_cases cd : c = d
    · subst cd
      rw [upd_same, ← fd1]
      exact hc
    · rw [upd_ne cd]
      exact a _ _ ((upd_ne cd).trans hc)
end
end Bd
end

section
namespace Bd
open PySem L2 Am
open Evl hiding tCut pss_cut
abbrev sFrom : Stmt := (top 47)
theorem scFrom : FnScope ["tree", "thing", "leaves", "leaf"] ["tree", "thing"] (defScope sFrom) := ⟨rfl, rfl, rfl, by decide +kernel, rfl, by decide +kernel, by decide +kernel⟩
abbrev sTold : Stmt := (top 51)
theorem scTold : FnScope ["tree", "uses", "leaf"] ["tree", "uses"] (defScope sTold) := ⟨rfl, rfl, rfl, by decide +kernel, rfl, by decide +kernel, by decide +kernel⟩
abbrev sWithG : Stmt := (top 52)
theorem scWithG : FnScope ["tree", "uses", "names", "used", "name", "children", "child"] ["tree", "uses", "names"] (defScope sWithG) := ⟨rfl, rfl, rfl, by decide +kernel, rfl, by decide +kernel, by decide +kernel⟩

/-- uses that were told: of leaves, each an amount -/
structure UsesAt (K : PySem.W.Frag) (H : Hp) (d : Addr) (rows : List RowM) (u : Str → Rat) : Prop where
  ex : ∃ kvs ns, H d = some (.dK kvs) ∧ MapR (AmR K u) H kvs ns ∧ ns.Nodup ∧ ns.length ≤ 200 ∧ (∀ n ∈ ns, n ∈ leavesOf rows ∧ Sz (u n) ∧ 0 ≤ u n) ∧ ∀ n ∈ leavesOf rows, n ∉ ns → u n = 0
theorem UsesAt.same {K : PySem.W.Frag} {H H' : Hp} {d : Addr} {rows : List RowM} {u : Str → Rat} (s : Same H H') (h : UsesAt K H d rows u) : UsesAt K H' d rows u := by
  obtain ⟨kvs, ns, h1, h2, h3⟩ := h.ex
  exact ⟨kvs, ns, s _ _ h1, h2.mono fun _ _ z => AmtQ.same s z, h3⟩
theorem leaves_nd {rows : List RowM} (ok : RowsOk rows) : (leavesOf rows).Nodup := by
  have := nms_nd ok
  unfold nms at this
  unfold leavesOf
  exact this.sublist (List.filter_sublist.map _)
theorem leaves_len {rows : List RowM} : (leavesOf rows).length ≤ rows.length := by
  unfold leavesOf
  rw [List.length_map]
  exact List.length_filter_le _ _
def spFrom (K : PySem.W.Frag) (C : Addr) : Sp := fun vs H Q _ => ∃ (p du : Addr) (rows : List RowM) (h : Bool) (tk : List (Key × V)) (u : Str → Rat), vs = [.ref p, .ref du] ∧ TreeAt K H C p rows h tk ∧ RowsOk rows ∧ rows.length ≤ 200 ∧ UsesAt K H du rows u ∧ ∀ H', Same H H' → Q (.bl true) H'
def spTold (K : PySem.W.Frag) (C : Addr) : Sp := fun vs H Q _ => ∃ (p du : Addr) (rows : List RowM) (h : Bool) (tk : List (Key × V)) (u : Str → Rat), vs = [.ref p, .ref du] ∧ TreeAt K H C p rows h tk ∧ RowsOk rows ∧ rows.length ≤ 200 ∧ UsesAt K H du rows u ∧
  ∀ d kvs H', H d = none → Same H H' → H' d = some (.dK kvs) → MapR (AmR K u) H' kvs (leavesOf rows) → Q (.ref d) H'
/-- what groups use: as their leaves -/
structure UseOk (rows : List RowM) (names : List Str) (M S : Nat) (U : Str → Rat) : Prop where
  M0 : 0 < M
  hM : M < 2 ^ 200
  hS : S < 2 ^ 200
  nd : names.Nodup
  len : names.length ≤ 200
  nm : ∀ n ∈ names, n ∈ nms rows
  sz : ∀ n ∈ names, InMS M S (U n)
  kid : ∀ j n, names[j]? = some n → ∀ x ∈ kidsOf rows (Sum.inr n), x ∈ names.drop (j + 1)
  sum : ∀ n ∈ names, kidsOf rows (Sum.inr n) ≠ [] → U n = sumQ ((kidsOf rows (Sum.inr n)).map U)
def spWithG (K : PySem.W.Frag) (C : Addr) : Sp := fun vs H Q _ => ∃ (p du l : Addr) (rows : List RowM) (h : Bool) (tk : List (Key × V)) (names : List Str) (M S : Nat) (U : Str → Rat), vs = [.ref p, .ref du, .ref l] ∧ TreeAt K H C p rows h tk ∧ RowsOk rows ∧ rows.length ≤ 200 ∧
  H l = some (.lst (names.map .str)) ∧ UseOk rows names M S U ∧ Amts K H du (names.filter fun n => (kidsOf rows (Sum.inr n)).isEmpty) U ∧ ∀ d H', H d = none → Same H H' → Amts K H' d names U → Q (.ref d) H'
theorem sums_ok {M S : Nat} {ks : List Str} {f : Str → Rat} (hM : M < 2 ^ 200) (hS : S < 2 ^ 200) (len : ks.length ≤ 200) (h : ∀ x ∈ ks, InMS M S (f x)) : M < 2 ^ 3000 ∧ S * (ks.map f).length * M < 2 ^ 3000 ∧ (∀ q ∈ ks.map f, q.den ∣ M ∧ q.num.natAbs ≤ S * q.den) ∧ 0 ≤ sumQ (ks.map f) := by
  refine ⟨lt_up hM (by decide), ?_, fun q hq => ?_, ?_⟩
  · have : (ks.map f).length < 2 ^ 9 := by rw [List.length_map]; omega
    exact lt_up (lt_mul2 (lt_mul2 hS this) hM) (by decide)
  · obtain ⟨x, hx, rfl⟩ := List.mem_map.mp hq
    exact (h x hx).dn
  · refine (sum_bd (S := S) (qs := ks.map f) (s := 0) (k := 0) Rat.le_refl (by simp) fun q hq => ?_).1
    obtain ⟨x, hx, rfl⟩ := List.mem_map.mp hq
    exact ⟨(h x hx).lo, (h x hx).hi⟩
theorem put_len (kvs : List (Key × V)) (k : Key) (v : V) : (putK kvs k v).length ≤ kvs.length + 1 := by
  unfold putK
  split
  · rw [List.length_map]; omega
  · rw [List.length_append, List.length_singleton]
    omega
theorem paired_memL {α β : Type} {F : α → β → Prop} : ∀ {xs : List α} {ys : List β}, Paired F xs ys → ∀ {x : α}, x ∈ xs → ∃ y ∈ ys, F x y
  | _, _, .nil, _, h => by cases h
  | _, _, .cons a b, x, h => by
    rcases List.mem_cons.mp h with e | h
    · rw [e]
      exact ⟨_, List.mem_cons_self, a⟩
    · obtain ⟨y, hy, r⟩ := paired_memL b h
      exact ⟨y, List.mem_cons_of_mem _ hy, r⟩
theorem all_true {α : Type} (xs : List α) : (xs.map fun _ => true).all id = true := by
  rw [List.all_map]
  exact List.all_eq_true.mpr fun _ _ => rfl
theorem ev_allTrue {K : PySem.W.Frag} {H : Hp} {σ : L2.St} {tl : TE} {α : Type} {xs : List α} (h : EvL tl σ H (xs.map fun _ => V.bl true)) : Ev (tCB (rAll K) (tCons tl tNil)) σ H (.bl true) := fun H1 e Q k =>
  h H1 e _ fun p H2 _ e2 hp => ⟨p, xs.map fun _ => true, rfl, by rw [List.map_map]; exact SqL.of hp, by rw [all_true]; exact k H2 e2⟩
section
variable {P : Program} {w : World} {K : PySem.W.Frag} {mg : Str → Option Value} {base : Heap} {aL C CN aK aZ : Addr} {left : List (Key × V)}
theorem ok_from {f fL gA : Addr} {fd dL dA : FuncData} (F : Fun K "is_from_leaves" "is_from_leaves" sFrom f fd) (T : TP P w K mg aL left) (TCl : TC K mg C) (mL : Meth K C "leaves" fL) (FL : FnOk P w K mg base CX0 1 fL dL ["self"] (spTLeaves K C)) (bL : Binds K dL ["self"] [])
    (cA : Cal P w K mg base "is_amount" ["thing"] 2 (spIsAmount K) gA dA) : FnOk P w K mg base CX0 3 f fd ["tree", "thing"] (spFrom K C) := by
  refine F.ok scFrom (fun vs H Q E h => ?_) (fun cdv A outer s H vs Q E hr h => ?_)
  · obtain ⟨p, du, rows, h, tk, u, rfl, _⟩ := h
    rfl
  obtain ⟨p, du, rows, h, tk, u, rfl, ht, ok, len, hu1, q⟩ := h
  have hu := hu_of hr
  refine ⟨_, (pss_cons (ps_if (pt_not (pt_val (pe_callB call_isi (by rfl) T.z_isinstance (by decide +kernel) (pa_cons (pv 1) (pa_cons (pe_bltn (v := .ty "dict") (u := .type "dict") (by rfl) T.z_dict (by decide +kernel) rfl) pa_nil))))) (pss_one (ps_ret pe_bl)) pss_nil) (pss_cons (ps_set (i := 2) scFrom.nd rfl (Or.inr rfl) (pe_dc (own := [("leaf", 3)]) (g := gName 3) (tt := tYes) (tk := tVar 3) (tv := (tC (.bl true))) rfl scFrom.nd (pi_list (pe_meth0 (pv 0) TCl.cl mL FL (hr.mono (by decide)) bL .nil pass0)) (blkOk_by (own := [("leaf", 3)]) (N := ["tree", "thing", "leaves", "leaf"]) (sc := defScope sFrom) (by decide +kernel)) (fun _ _ _ _ _ => (pg_name (i := 3) scFrom.nd rfl (Or.inl rfl))) (fun _ _ _ _ _ => pts_nil) (fun _ _ _ _ _ => (pv 3)) (fun _ _ _ _ _ => pe_bl))) (pss_one (ps_ret (pe_callB (cr_all rfl) (by rfl) T.z_all (by decide +kernel) (pa_cons (pe_lock (pe_lc (own := [("leaf", 3)]) (g := gName 3) (tt := tYes) (te := tAndV (tDIn (tVar 3) (tVar 2)) (tCall (spIsAmount K) [] E0 (tCons (tDGet (tVar 1) (tVar 3)) tNil))) rfl scFrom.nd (pi_keys (pv 1)) (blkOk_by (own := [("leaf", 3)]) (N := ["tree", "thing", "leaves", "leaf"]) (sc := defScope sFrom) (by decide +kernel)) (fun _ _ _ _ _ => (pg_name (i := 3) scFrom.nd rfl (Or.inl rfl))) (fun _ _ _ _ _ => pts_nil) (fun _ _ _ _ _ => (pe_and (pe_cmp (pc_din hu (pv 3) (pv 2)) rfl) (pe_one (pe_call cA.ok (hr.mono (by decide)) rfl cA.mg cA.kp cA.bd .nil pass0 (pa_cons (pe_dget hu (pv 1) (pv 3) (fun _ _ => rfl)) pa_nil))))))) pa_nil)))))), ?_⟩
  obtain ⟨kvs, ns, fd, hm, nd, nl, hns, hz⟩ := hu1.ex
  refine ⟨_, rfl, _, _, _, _, true, rfl, .ty _, .base (.dK fd), kit_ty (by decide +kernel), true, rfl, ?_⟩
  refine iteF ?_
  -- the leaves
  refine el_leaves rfl ht ok len H (Ex.refl H) _ fun l H1 hl e1 f1 => ?_
  refine ⟨l, rfl, ⟨_, sq_of f1⟩, fun D hD => ?_⟩
  have ndl := leaves_nd ok
  have lll := leaves_len (rows := rows)
  refine dc_lst (K := K) (a := l) (xs := (leavesOf rows).map V.str) (fun i G => G = upd H1 D (.dK (mps ((leavesOf rows).take i)))) rfl ?_ ?_ ?_
  · rintro i _ _ rfl
    exact sq_of (by rw [upd_ne (ne_of_none f1 hD)]; exact f1)
  · rintro i x _ hx rfl
    rw [List.getElem?_map] at hx
    obtain ⟨n, hn, rfl⟩ := Option.map_eq_some_iff.mp hx
    refine ⟨rfl, ?_⟩
    unfold tYes
    refine iteT ?_
    refine ⟨_, rfl, _, Sum.inr n, rfl, upd_same, ?_, ?_⟩
    · rw [List.length_map, List.length_take]
      exact small1000 (by omega)
    · rw [upd_upd, putK_new, List.take_add_one, hn]
      · show _ = upd H1 D (.dK (((leavesOf rows).take i ++ [n]).map _))
        rw [List.map_append]
        rfl
      · refine mps_none fun m => ?_
        obtain ⟨k, hk⟩ := List.mem_iff_getElem?.mp m
        have lk := (List.getElem?_eq_some_iff.mp hk).1
        rw [List.length_take] at lk
        rw [List.getElem?_take_of_lt (by omega)] at hk
        obtain ⟨l1, z1⟩ := List.getElem?_eq_some_iff.mp hk
        obtain ⟨l2, z2⟩ := List.getElem?_eq_some_iff.mp hn
        have := (List.getElem_inj ndl (h₀ := l1) (h₁ := l2)).mp (z1.trans z2.symm)
        omega
  rintro _ rfl
  rw [List.length_map, List.take_length]
  have s2 : Same H (upd H1 D (.dK (mps (leavesOf rows)))) := Same.trans e1 (Same.new (Same.refl H1) hD _)
  have f2 : upd H1 D (.dK (mps (leavesOf rows))) D = some (.dK (mps (leavesOf rows))) := upd_same
  generalize upd H1 D (.dK (mps (leavesOf rows))) = H2 at s2 f2 ⊢
  have fd2 := s2 _ _ fd
  have kl : kvs.length ≤ 900 := by
    rw [Paired.length hm]
    omega
  have ne2 : D ≠ du := (ne_of_none (e1 _ _ fd) hD).symm
  refine s_ret (ev_allTrue (xs := kvs) (el_lockKeys (σ := [some (.ref p), some (.ref du), some (.ref D), none]) (H := H2) (fun _ => V.bl true) rfl fd2 kl (fun _ => rfl) fun G1 e4 od kv hkv G e5 => ?_)) fun H3 e3 => q H3 (s2.trans e3)
  obtain ⟨n, hn, hk, hv⟩ := paired_memL hm hkv
  · obtain ⟨hnl, ⟨z1, z2⟩, z3⟩ := hns n hn
    obtain ⟨kk, v⟩ := kv
    have hk : kk = Sum.inr n := hk
    subst hk
    have fG : G du = some (.frz od (.dK kvs)) := e5 _ _ upd_same
    have fDG : G D = some (.dK (mps (leavesOf rows))) := e5 _ _ ((upd_ne ne2).trans (e4 _ _ f2))
    have hvG : AmtQ K G v (u n) := (((hv : AmtQ K H v (u n)).same (Same.trans s2 e4)).tk (TK.dk (e4 _ _ fd2) _)).same e5
    have ndk : (kvs.map (·.1)).Nodup := by
      rw [hm.keys]
      exact nodup_inr nd
    refine ev_is (ev_andV (a := true) (b := true) (ev_is (ev_din (x := n) (ev_var rfl) (ev_var rfl) fDG) (by rw [mps_val, decide_eq_true hnl])) fun _ G2 e7 Q7 k7 => ?_) rfl
    refine ⟨_, rfl, _, rfl, du, v, rfl, .inl ⟨kvs, Sum.inr n, .inr ⟨od, e7 _ _ fG⟩, rfl, (val_nd ndk _ hkv).symm⟩, ?_⟩
    obtain ⟨a, rfl, ha⟩ := hvG.same e7
    have en := nat_num z3
    rw [en] at ha
    exact ⟨.ref a, (u n).num.natAbs, (u n).den, rfl, .tup ha (.cons (.int _) (.cons (.int _) .nil)), z1, (u n).den_pos, z2, (u n).reduced, k7 G2 (Ex.refl _)⟩
theorem ok_told {f gF : Addr} {fd dF : FuncData} (F : Fun K "told_uses" "told_uses" sTold f fd) (T : TP P w K mg aL left) (Tk : TKd K mg aK aZ) (TCl : TC K mg C) {fL : Addr} {dL : FuncData} (mL : Meth K C "leaves" fL) (FL : FnOk P w K mg base CX0 1 fL dL ["self"] (spTLeaves K C)) (bL : Binds K dL ["self"] [])
    (cF : Cal P w K mg base "is_from_leaves" ["tree", "thing"] 3 (spFrom K C) gF dF) : FnOk P w K mg base CX0 4 f fd ["tree", "uses"] (spTold K C) := by
  refine F.ok scTold (fun vs H Q E h => ?_) (fun cdv A outer s H vs Q E hr h => ?_)
  · obtain ⟨p, du, rows, h, tk, u, rfl, _⟩ := h
    rfl
  obtain ⟨p, du, rows, h, tk, u, rfl, ht, ok, len, hu1, q⟩ := h
  have hu := hu_of hr
  refine ⟨_, (pss_cons (ps_if (pt_not (pt_val (pe_call cF.ok (hr.mono (by decide)) rfl cF.mg cF.kp cF.bd .nil pass0 (pa_cons (pv 0) (pa_cons (pv 1) pa_nil))))) (pss_one ps_never) pss_nil) (pss_one (ps_ret (pe_dc (own := [("leaf", 2)]) (g := gName 2) (tt := tYes) (tk := tVar 2) (tv := (tDGet2 (tVar 1) (tVar 2) (tC (.ref aZ)))) rfl scTold.nd (pi_list (pe_meth0 (pv 0) TCl.cl mL FL (hr.mono (by decide)) bL .nil pass0)) (blkOk_by (own := [("leaf", 2)]) (N := ["tree", "uses", "leaf"]) (sc := defScope sTold) (by decide +kernel)) (fun _ _ _ _ _ => (pg_name (i := 2) scTold.nd rfl (Or.inl rfl))) (fun _ _ _ _ _ => pts_nil) (fun _ _ _ _ _ => (pv 2)) (fun _ _ _ _ _ => (pe_dget2 hu (pv 1) (pv 2) (pe_glob (v := .ref aZ) rfl Tk.g_ZERO rfl) ⟨rfl, rfl, rfl, rfl⟩)))))), ?_⟩
  refine q_when (b := false) (et_not (et_B (b := true) fun H1 e1 Q1 k1 => ⟨_, rfl, _, rfl, p, du, rows, h, tk, u, rfl, ht.same e1 ok, ok, len, hu1.same e1, fun H' s => k1 H' s⟩)) (fun h => by cases h) fun _ H1 e1 => ?_
  have hu2 := hu1.same e1
  have ht1 := ht.same e1 ok
  obtain ⟨kvs, ns, fd, hm, nd, nl, hns, hz⟩ := hu2.ex
  have lll := leaves_len (rows := rows)
  refine s_retM (f := u) (em_dcN (names := leavesOf rows) (el_leaves rfl ht1 ok len) (leaves_nd ok) (by omega) (fun _ => rfl) (fun _ => rfl) fun n hn G s G1 e Q1 k1 => ?_) fun d kvs G h1 h2 h3 h4 => q d kvs G (fresh_back e1 h1) (Same.trans e1 h2) h3 h4
  have fd1 := (Ex.trans s e) _ _ fd
  refine ⟨_, rfl, du, rfl, .inl ⟨kvs, .inl fd1⟩, _, rfl, _, DGet.k (k := Sum.inr n) fd1, ?_⟩
  by_cases c : n ∈ ns
  · obtain ⟨v, h3, h4⟩ := hm.get nd c
    rw [h3]
    exact k1 v G1 (Ex.refl _) (AmtQ.same (Ex.trans s e) h4)
  · have hno : valV kvs (Sum.inr n) = none := keys_none fun m => by
      rw [hm.keys] at m
      obtain ⟨y, hy, e⟩ := List.mem_map.mp m
      exact c (Sum.inr.inj e ▸ hy)
    rw [hno]
    refine k1 _ G1 (Ex.refl _) ⟨aZ, rfl, ?_⟩
    rw [hz n hn c]
    exact Tk.zero G1
theorem ok_withg {f gT fK : Addr} {fd dT dK : FuncData} (F : Fun K "with_groups" "with_groups" sWithG f fd) (T : TP P w K mg aL left) (Tk : TKd K mg aK aZ) (TCl : TC K mg C) (mK : Meth K C "children" fK) (FK : FnOk P w K mg base (L2.CX P w) 1 fK dK ["self", "name"] (spTKids K C CN)) (bK : Binds K dK ["self", "name"] [])
    (cT : Cal P w K mg base "total" ["amounts"] 3 (spTotal K) gT dT) : FnOk P w K mg base CX0 4 f fd ["tree", "uses", "names"] (spWithG K C) := by
  refine F.ok scWithG (fun vs H Q E h => ?_) (fun cdv A outer s H vs Q E hr h => ?_)
  · obtain ⟨p, du, l, rows, h, tk, names, M, S, U, rfl, _⟩ := h
    rfl
  obtain ⟨p, du, l, rows, h, tk, names, M, S, U, rfl, ht, ok, len, hl, uo, hd, q⟩ := h
  have hu := hu_of hr
  refine ⟨_, (pss_cons (ps_set (i := 3) scWithG.nd rfl (Or.inr rfl) pe_dnewK) (pss_cons (ps_for PassesOwn.never rfl (RT.pi_revA rfl Tk.z_reversed (pv 2)) (pg_name (i := 4) scWithG.nd rfl (Or.inl rfl)) (pss_cons (ps_set (i := 5) scWithG.nd rfl (Or.inl rfl) (pe_meth (pv 0) TCl.cl mK FK (hr.mono (by decide)) bK .nil passL (pa_cons (pv 4) pa_nil))) (pss_one (ps_dput hu (pv 3) (pv 4) (pe_ifExp (pt_truth (pv 5) (by intro _; rfl)) (pe_call cT.ok (hr.mono (by decide)) rfl cT.mg cT.kp cT.bd .nil pass0 (pa_cons (pe_lc (own := [("child", 6)]) (g := gName 6) (tt := tYes) (te := (tDGet (tVar 3) (tVar 6))) rfl scWithG.nd (pi_list (pv 5)) (blkOk_by (own := [("child", 6)]) (N := ["tree", "uses", "names", "used", "name", "children", "child"]) (sc := defScope sWithG) (by decide +kernel)) (fun _ _ _ _ _ => (pg_name (i := 6) scWithG.nd rfl (Or.inl rfl))) (fun _ _ _ _ _ => pts_nil) (fun _ _ _ _ _ => (pe_dget hu (pv 3) (pv 6) (fun _ _ => rfl)))) pa_nil)) (pe_dget hu (pv 1) (pv 4) (fun _ _ => rfl))) rfl)))) (pss_one (ps_ret (pv 3))))), ?_⟩
  intro dd hdd
  have s0 := Same.new (Same.refl H) hdd (.dK [])
  have f0 : upd H dd (.dK []) dd = some (.dK []) := upd_same
  generalize upd H dd (.dK []) = H1 at s0 f0 ⊢
  have nl := uo.len
  refine ⟨_, rfl, l, names.map V.str, rfl, .inl ⟨sq_of (s0 _ _ hl), RT.for_Itv (fun i σ G => ∃ (o4 o5 o6 : Option V) (kvs : List (Key × V)), σ = [some (.ref p), some (.ref du), some (.ref l), some (.ref dd), o4, o5, o6] ∧ Same H G ∧ G dd = some (.dK kvs) ∧ kvs.length ≤ i ∧ Amts K G dd (names.drop (names.length - i)) U)
    ⟨_, _, _, [], rfl, s0, f0, Nat.le_refl _, [], f0, fun n hn => by rw [Nat.sub_zero, List.drop_length] at hn; cases hn⟩ ?_ ?_ ?_⟩⟩
  · rintro i σ G ⟨_, _, _, _, rfl, sG, _⟩
    exact sq_of (sG _ _ hl)
  · rintro i x σ G hi hx ⟨o4, o5, o6, kvs, rfl, sG, fG, kl, aG⟩
    rw [List.length_map] at hi hx
    rw [List.getElem?_map] at hx
    obtain ⟨n, hn, rfl⟩ := Option.map_eq_some_iff.mp hx
    have hnm := List.mem_of_getElem? hn
    generalize hj : names.length - 1 - i = j at hn
    have e1 : names.length - i = j + 1 := by omega
    have e2 : names.length - (i + 1) = j := by omega
    have ed : names.drop j = n :: names.drop (j + 1) := by
      obtain ⟨lj, ej⟩ := List.getElem?_eq_some_iff.mp hn
      rw [List.drop_eq_getElem_cons lj, ej]
    rw [e1] at aG
    rw [e2, ed]
    have hkid := uo.kid j n hn
    have hksz : ∀ x ∈ kidsOf rows (Sum.inr n), InMS M S (U x) := fun x hx => uo.sz x (List.mem_of_mem_drop (hkid x hx))
    have hkl : (kidsOf rows (Sum.inr n)).length ≤ 200 := Nat.le_trans (kids_le rows _) len
    have hsum := uo.sum n hnm
    have hdu : Amts K G du (names.filter fun n => (kidsOf rows (Sum.inr n)).isEmpty) U := hd.ex sG
    have hfl : (kidsOf rows (Sum.inr n)).isEmpty = true → n ∈ names.filter fun n => (kidsOf rows (Sum.inr n)).isEmpty := fun h => List.mem_filter.mpr ⟨hnm, h⟩
    refine q_asgL (el_kids rfl (ht.same sG ok) ok (List.mem_cons_of_mem _ (uo.nm n hnm)) (ev_var rfl)) fun lk G1 hlk e1 f1 => ?_
    generalize kidsOf rows (Sum.inr n) = ks at hkid hksz hkl hsum f1 hfl
    have eE : (ks.map V.str).isEmpty = ks.isEmpty := by cases ks <;> rfl
    obtain ⟨t1, t2, t3, t4⟩ := sums_ok uo.hM uo.hS hkl hksz
    have fG1 := e1 _ _ fG
    have aG1 := aG.ex e1
    refine s_dputQ (K := K) (q := U n) (kvs := kvs) rfl (ev_var rfl) (eq_if (et_list rfl (sq_of f1)) (fun hb => ?_) (fun hb => ?_)) fG1 (by omega) fun v G2 e2 hv => ?_
    · rw [eE] at hb
      refine EvQ.is (eq_totals (ns := ks) (d := dd) (ev_var rfl) (sq_of f1) (by omega) aG1 hkid (fun _ => rfl) (fun _ => rfl) (fun _ => rfl) uo.M0 t1 t2 t3 t4) (hsum fun z => by rw [z] at hb; cases hb).symm
    · rw [eE] at hb
      exact eq_get rfl (ev_var rfl) (hdu.ex e1) (hfl (by simpa using hb))
    · have fG2 := e2 _ _ fG1
      exact ⟨_, _, _, _, rfl, Same.ch ((sG.trans e1).trans e2) hdd _, upd_same, Nat.le_trans (put_len _ _ _) (by omega), (aG1.ex e2).put fG2 hv⟩
  · rintro σ G ⟨o4, o5, o6, kvs, rfl, sG, fG, kl, aG⟩
    rw [List.length_map, Nat.sub_self, List.drop_zero] at aG
    exact ⟨_, rfl, q dd G hdd sG aG⟩
end
end Bd
end

section
namespace Bd
open PySem L2 Am
open Evl hiding tCut pss_cut
abbrev sHeld : Stmt := (top 53)
theorem scHeld : FnScope ["tree", "uses", "top", "kind", "names", "used", "name", "claims", "parts"] ["tree", "uses", "top", "kind"] (defScope sHeld) := ⟨rfl, rfl, rfl, by decide +kernel, rfl, by decide +kernel, by decide +kernel⟩

theorem val_merge : ∀ (ls : List (Key × V)) (ks : List (Key × V)) (k : Key), (ls.map (·.1)).Nodup → valV (mergeK ks ls) k = match valV ls k with
    | some v => some v
    | none => valV ks k
  | [], ks, k, _ => rfl
  | p :: r, ks, k, h => by
    have h : (p.1 :: r.map (·.1)).Nodup := h
    obtain ⟨h1, h2⟩ := List.nodup_cons.mp h
    have e : mergeK ks (p :: r) = mergeK (putK ks p.1 p.2) r := rfl
    rw [e, val_merge r _ k h2, valV_put]
    by_cases c : k = p.1
    · subst c
      rw [valV_pos rfl, if_pos rfl]
      cases z : valV r p.1 with
      | none => rfl
      | some v => exact absurd (valV_in z) h1
    · rw [valV_neg (fun z => c z.symm), if_neg c]
theorem Amts.merge {K : PySem.W.Frag} {G : Hp} {d : Addr} {ks ls : List (Key × V)} {names ns : List Str} {f : Str → Rat} (h : Amts K G d names f) (fd : G d = some (.dK ks)) (m : MapR (AmR K f) G ls ns) (nd : ns.Nodup) : Amts K (upd G d (.dK (mergeK ks ls))) d (names ++ ns) f := by
  have t : TK G (upd G d (.dK (mergeK ks ls))) := TK.dk fd _
  obtain ⟨ks', h1, h2⟩ := h
  rw [fd] at h1
  cases h1
  have ndk : (ls.map (·.1)).Nodup := by
    rw [m.keys]
    exact nodup_inr nd
  refine ⟨_, upd_same, fun n hn => ?_⟩
  rw [val_merge ls ks _ ndk]
  by_cases c : n ∈ ns
  · obtain ⟨v, a, b⟩ := m.get nd c
    rw [a]
    exact ⟨v, rfl, AmtQ.tk t b⟩
  · have hno : valV ls (Sum.inr n) = none := keys_none fun mm => by
      rw [m.keys] at mm
      obtain ⟨y, hy, e⟩ := List.mem_map.mp mm
      exact c (Sum.inr.inj e ▸ hy)
    rw [hno]
    obtain ⟨v, a, b⟩ := h2 n ((List.mem_append.mp hn).resolve_right c)
    exact ⟨v, a, b.tk t⟩
/-- the settings of a kind -/
def KindOk (rows : List RowM) (kd : Str) (k : Str → Rat) : Prop := ∀ r ∈ rows, dueOf (fullD r.dues) kd = some (.tuple [.int (k r.name).num, .int ((k r.name).den : Int)])
/-- what is protected below a top -/
structure HeldOk (rows : List RowM) (top : Str) (h : Bool) (k U c p : Str → Rat) (M S : Nat) : Prop where
  M0 : 0 < M
  hM : M < 2 ^ 200
  hS : S < 2 ^ 200
  uz : ∀ n ∈ belowL rows top, InMS M S (U n)
  kz : ∀ n ∈ belowL rows top, InMS M S (k n)
  sum : ∀ n ∈ belowL rows top, kidsOf rows (Sum.inr n) ≠ [] → U n = sumQ ((kidsOf rows (Sum.inr n)).map U)
  cl : ∀ n ∈ belowL rows top, c n = if k n < U n then k n else U n
  tp : ∀ n ∈ kidsOf rows (Sum.inr top), p n = c n
  part : ∀ n ∈ belowL rows top, ∀ x ∈ kidsOf rows (Sum.inr n), p x = partQ h (p n) (U n) (sumQ ((kidsOf rows (Sum.inr n)).map c)) U c x
  p0 : ∀ n ∈ belowL rows top, 0 ≤ p n ∧ p n ≤ U n ∧ (p n).den < 2 ^ 1500
def spHeld (K : PySem.W.Frag) (C : Addr) : Sp := fun vs H Q _ => ∃ (t du : Addr) (top kd : Str) (rows : List RowM) (h : Bool) (tk : List (Key × V)) (k U c p : Str → Rat) (M S : Nat), vs = [.ref t, .ref du, .str top, .str kd] ∧ TreeAt K H C t rows h tk ∧ RowsOk rows ∧ rows.length ≤ 200 ∧ top ∈ ("" : Str) :: nms rows ∧
  kd ∈ leftW ∧ KindOk rows kd k ∧ HeldOk rows top h k U c p M S ∧ Amts K H du (leavesOf rows) U ∧ ∀ d kvs H', H d = none → Same H H' → H' d = some (.dK kvs) → MapR (AmR K p) H' kvs (belowL rows top) → Q (.ref d) H'
def spProt (K : PySem.W.Frag) (C : Addr) : Sp := fun vs H Q _ => ∃ (t du : Addr) (top kd : Str) (rows : List RowM) (h : Bool) (tk : List (Key × V)) (k U c p : Str → Rat) (M S : Nat), vs = [.ref t, .ref du, .str top, .str kd] ∧ TreeAt K H C t rows h tk ∧ RowsOk rows ∧ rows.length ≤ 200 ∧ top ∈ ("" : Str) :: nms rows ∧ (top = "" ∨ kidsOf rows (Sum.inr top) ≠ []) ∧
  (kd = "min" ∨ kd = "low") ∧ KindOk rows kd k ∧ HeldOk rows top h k U c p M S ∧ UsesAt K H du rows U ∧ ∀ d kvs H', H d = none → Same H H' → H' d = some (.dK kvs) → MapR (AmR K p) H' kvs (belowL rows top) → Q (.ref d) H'
theorem HeldOk.cz {rows : List RowM} {top : Str} {h : Bool} {k U c p : Str → Rat} {M S : Nat} (o : HeldOk rows top h k U c p M S) {n : Str} (hn : n ∈ belowL rows top) : InMS M S (c n) ∧ c n ≤ U n := by
  rw [o.cl n hn]
  split
  · rename_i z
    exact ⟨o.kz n hn, Rat.le_of_lt z⟩
  · exact ⟨o.uz n hn, Rat.le_refl⟩
theorem HeldOk.po {rows : List RowM} {top : Str} {h : Bool} {k U c p : Str → Rat} {M S : Nat} (o : HeldOk rows top h k U c p M S) (ok : RowsOk rows) (len : rows.length ≤ 200) {n : Str} (hn : n ∈ belowL rows top) : PartOk M S (p n) (U n) (kidsOf rows (Sum.inr n)) U c := by
  have sub : ∀ x ∈ kidsOf rows (Sum.inr n), x ∈ belowL rows top := fun x hx => by
    obtain ⟨j, hj⟩ := List.mem_iff_getElem?.mp hn
    exact List.mem_of_mem_drop (below_kids ok hj hx)
  obtain ⟨a, b, d⟩ := o.p0 n hn
  exact ⟨o.M0, o.hM, o.hS, Nat.le_trans (kids_le rows _) len, fun x hx => o.uz x (sub x hx), fun x hx => (o.cz (sub x hx)).1, fun x hx => (o.cz (sub x hx)).2, o.uz n hn, a, b, d⟩
theorem HeldOk.uo {rows : List RowM} {top : Str} {h : Bool} {k U c p : Str → Rat} {M S : Nat} (o : HeldOk rows top h k U c p M S) (ok : RowsOk rows) (len : rows.length ≤ 200) : UseOk rows (belowL rows top) M S U := by
  have l := below_len (rows := rows) (top := top) rows.length
  rw [List.take_length] at l
  have l : (belowL rows top).length ≤ rows.length := l
  exact ⟨o.M0, o.hM, o.hS, below_nd (nms_nd ok), by omega, fun n hn => below_nms hn, o.uz, fun j n hj x hx => below_kids ok hj hx, o.sum⟩
theorem leaf_mem {rows : List RowM} {n : Str} (hn : n ∈ nms rows) (h : (kidsOf rows (Sum.inr n)).isEmpty = true) : n ∈ leavesOf rows := by
  obtain ⟨r, hr, rfl⟩ := List.mem_map.mp hn
  refine List.mem_map.mpr ⟨r, List.mem_filter.mpr ⟨hr, ?_⟩, rfl⟩
  have := kids_empty rows r.name
  have e : ((kidsOf rows (Sum.inr r.name)).map V.str).isEmpty = (kidsOf rows (Sum.inr r.name)).isEmpty := by cases kidsOf rows (Sum.inr r.name) <;> rfl
  rw [e, h] at this
  exact this.symm
section
variable {P : Program} {w : World} {K : PySem.W.Frag} {mg : Str → Option Value} {base : Heap} {aL C CN CW aK aZ : Addr} {left : List (Key × V)}
theorem ok_held {f fK fD gB gG gL gP : Addr} {fd dK dD dB dG dL dP : FuncData} (F : Fun K "held" "held" sHeld f fd) (T : TP P w K mg aL left) (TCl : TC K mg C) (mK : Meth K C "children" fK) (FK : FnOk P w K mg base (L2.CX P w) 1 fK dK ["self", "name"] (spTKids K C CN)) (bK : Binds K dK ["self", "name"] [])
    (mD : Meth K C "due" fD) (FD : FnOk P w K mg base (L2.CX P w) 2 fD dD ["self", "name", "word"] (spTDue K C CN CW)) (bD : Binds K dD ["self", "name", "word"] []) (cB : Cal P w K mg base "groups_below" ["tree", "top"] 3 (spBelow K C) gB dB)
    (cG : Cal P w K mg base "with_groups" ["tree", "uses", "names"] 4 (spWithG K C) gG dG) (cL : Cal P w K mg base "lesser" ["one", "other"] 2 (spLesser K) gL dL) (cP : Cal P w K mg base "parted" ["tree", "name", "part", "used", "claims"] 5 (spParted K C) gP dP) :
    FnOk P w K mg base CX0 6 f fd ["tree", "uses", "top", "kind"] (spHeld K C) := by
  refine F.ok scHeld (fun vs H Q E h => ?_) (fun cdv A outer s H vs Q E hr h => ?_)
  · obtain ⟨t, du, top, kd, rows, h, tk, k, U, c, p, M, S, rfl, _⟩ := h
    rfl
  obtain ⟨t, du, top, kd, rows, h, tk, k, U, c, p, M, S, rfl, ht, ok, len, htop, hkd, hk, ho, hd, q⟩ := h
  have hu := hu_of hr
  refine ⟨_, (pss_cons (ps_set (i := 4) scHeld.nd rfl (Or.inl rfl) (pe_call cB.ok (hr.mono (by decide)) rfl cB.mg cB.kp cB.bd .nil pass0 (pa_cons (pv 0) (pa_cons (pv 2) pa_nil)))) (pss_cons (ps_set (i := 5) scHeld.nd rfl (Or.inr rfl) (pe_call cG.ok (hr.mono (by decide)) rfl cG.mg cG.kp cG.bd .nil pass0 (pa_cons (pv 0) (pa_cons (pv 1) (pa_cons (pv 4) pa_nil))))) (pss_cons (ps_set (i := 7) scHeld.nd rfl (Or.inr rfl) (pe_dc (own := [("name", 6)]) (g := gName 6) (tt := tYes) (tk := tVar 6) (tv := (tCall (spLesser K) [] E0 (tCons (tDGet (tVar 5) (tVar 6)) (tCons (tMeth C "due" (spTDue K C CN CW) [] E0 (tVar 0) (tCons (tVar 6) (tCons (tVar 3) tNil))) tNil)))) rfl scHeld.nd (pi_list (pv 4)) (blkOk_by (own := [("name", 6)]) (N := ["tree", "uses", "top", "kind", "names", "used", "name", "claims", "parts"]) (sc := defScope sHeld) (by decide +kernel)) (fun _ _ _ _ _ => (pg_name (i := 6) scHeld.nd rfl (Or.inl rfl))) (fun _ _ _ _ _ => pts_nil) (fun _ _ _ _ _ => (pv 6)) (fun _ _ _ _ _ => (pe_call cL.ok (hr.mono (by decide)) rfl cL.mg cL.kp cL.bd .nil pass0 (pa_cons (pe_dget hu (pv 5) (pv 6) (fun _ _ => rfl)) (pa_cons (pe_meth (pv 0) TCl.cl mD FD (hr.mono (by decide)) bD .nil passL (pa_cons (pv 6) (pa_cons (pv 3) pa_nil))) pa_nil)))))) (pss_cons (ps_set (i := 8) scHeld.nd rfl (Or.inr rfl) (pe_dc (own := [("name", 6)]) (g := gName 6) (tt := tYes) (tk := tVar 6) (tv := (tDGet (tVar 7) (tVar 6))) rfl scHeld.nd (pi_list (pe_meth (pv 0) TCl.cl mK FK (hr.mono (by decide)) bK .nil passL (pa_cons (pv 2) pa_nil))) (blkOk_by (own := [("name", 6)]) (N := ["tree", "uses", "top", "kind", "names", "used", "name", "claims", "parts"]) (sc := defScope sHeld) (by decide +kernel)) (fun _ _ _ _ _ => (pg_name (i := 6) scHeld.nd rfl (Or.inl rfl))) (fun _ _ _ _ _ => pts_nil) (fun _ _ _ _ _ => (pv 6)) (fun _ _ _ _ _ => (pe_dget hu (pv 7) (pv 6) (fun _ _ => rfl))))) (pss_cons (ps_for PassesOwn.never rfl (pi_list (pv 4)) (pg_name (i := 6) scHeld.nd rfl (Or.inl rfl)) (pss_one (ps_if (pt_truth (pe_meth (pv 0) TCl.cl mK FK (hr.mono (by decide)) bK .nil passL (pa_cons (pv 6) pa_nil)) (by intro _; rfl)) (pss_one (ps_expr (pe_bm PySem.F.plainAttrs_dict PySem.F.slot_dict_update PySem.F.type_dict_update mtd_update (pv 8) (pa_cons (pe_call cP.ok (hr.mono (by decide)) rfl cP.mg cP.kp cP.bd .nil pass0 (pa_cons (pv 0) (pa_cons (pv 6) (pa_cons (pe_dget hu (pv 8) (pv 6) (fun _ _ => rfl)) (pa_cons (pv 5) (pa_cons (pv 7) pa_nil)))))) pa_nil)))) pss_nil))) (pss_one (ps_ret (pe_dc (own := [("name", 6)]) (g := gName 6) (tt := tYes) (tk := tVar 6) (tv := (tDGet (tVar 8) (tVar 6))) rfl scHeld.nd (pi_list (pv 4)) (blkOk_by (own := [("name", 6)]) (N := ["tree", "uses", "top", "kind", "names", "used", "name", "claims", "parts"]) (sc := defScope sHeld) (by decide +kernel)) (fun _ _ _ _ _ => (pg_name (i := 6) scHeld.nd rfl (Or.inl rfl))) (fun _ _ _ _ _ => pts_nil) (fun _ _ _ _ _ => (pv 6)) (fun _ _ _ _ _ => (pe_dget hu (pv 8) (pv 6) (fun _ _ => rfl))))))))))), ?_⟩
  have nd := nms_nd ok
  have bnd := below_nd (top := top) nd
  have uo := ho.uo ok len
  have bl := uo.len
  -- names
  refine ⟨_, rfl, _, rfl, t, top, rows, h, tk, rfl, ht, ok, len, fun ln H1 hln s1 f1 => ?_⟩
  -- used
  have hd1 := hd.ex s1
  refine ⟨_, rfl, _, rfl, _, rfl, t, du, ln, rows, h, tk, belowL rows top, M, S, U, rfl, ht.same s1 ok, ok, len, f1, uo, hd1.sub (fun n hn => ?_), fun dU H2 hdU s2 aU => ?_⟩
  · obtain ⟨a, b⟩ := List.mem_filter.mp hn
    exact leaf_mem (below_nms a) b
  have s12 := s1.trans s2
  have f2 := s2 _ _ f1
  have ht2 := ht.same s12 ok
  -- claims
  refine q_asgM (K := K) (f := c) (em_dc (names := belowL rows top) (ev_var rfl) (sq_of f2) bnd (by omega) (fun _ => rfl) (fun _ => rfl) fun n hn G e => ?_) fun dC kc H3 hdC e3 fC mC => ?_
  · obtain ⟨r, hrm, rfl⟩ := List.mem_map.mp (below_nms hn)
    refine EvQ.is (eq_lesser (eq_get rfl (ev_var rfl) (aU.ex e) hn) (eq_due rfl (ht2.same e ok) ok hrm hkd (hk r hrm) (ev_var rfl) (ev_var rfl)) ((ho.uz _ hn).sz ho.M0 ho.hM ho.hS (by decide)) ((ho.kz _ hn).sz ho.M0 ho.hM ho.hS (by decide))) (ho.cl _ hn).symm
  have aC := Amts.of fC mC bnd
  have ht3 := ht2.same e3 ok
  have aU3 := aU.ex e3
  -- parts
  refine q_asgM (K := K) (f := p) (em_dcN (names := kidsOf rows (Sum.inr top)) (el_kids rfl ht3 ok htop (ev_var rfl)) (kids_nd ok _) (Nat.le_trans (kids_le rows _) (by omega)) (fun _ => rfl) (fun _ => rfl) fun n hn G e => ?_) fun dP kp H4 hdP e4 fP mP => ?_
  · exact EvQ.is (eq_get rfl (ev_var rfl) (aC.ex e) (below_top ok hn)) (ho.tp n hn).symm
  have aP := Amts.of fP mP (kids_nd ok _)
  have ht4 := ht3.same e4 ok
  have aU4 := aU3.ex e4
  have aC4 := aC.ex e4
  have f4 := e4 _ _ (e3 _ _ f2)
  have s14 := (s12.trans e3).trans e4
  have hP0 : H dP = none := fresh_back (s12.trans e3) hdP
  have hP3 : H3 dP = none := hdP
  have kpl : kp.length ≤ 200 := by
    rw [Paired.length mP]
    exact Nat.le_trans (kids_le rows _) len
  have ht3' := ht3
  have aU3' := aU3
  have aC3' := aC
  have f3 := e3 _ _ f2
  refine q_forLn (xs := (belowL rows top).map V.str) (ev_var rfl) (sq_of f4) (fun i σ G => ∃ (o6 : Option V) (kvs : List (Key × V)), σ = [some (.ref t), some (.ref du), some (.str top), some (.str kd), some (.ref ln), some (.ref dU), o6, some (.ref dC), some (.ref dP)] ∧ Same H3 G ∧ G dP = some (.dK kvs) ∧ kvs.length ≤ 200 + 200 * i ∧
      Amts K G dP (kidsOf rows (Sum.inr top) ++ ((belowL rows top).take i).flatMap fun n => kidsOf rows (Sum.inr n)) p) (fun G e => ⟨_, kp, rfl, Same.trans e4 e, e _ _ fP, by omega, by rw [List.take_zero]; simpa using aP.ex e⟩) ?_ ?_ ?_
  · rintro i σ G _ ⟨_, _, rfl, sG, _⟩
    exact sq_of (sG _ _ f3)
  · rintro i x σ G hx ⟨o6, kvs, rfl, sG, fG, kl, aG⟩
    rw [List.getElem?_map] at hx
    obtain ⟨n, hn, rfl⟩ := Option.map_eq_some_iff.mp hx
    have il := (List.getElem?_eq_some_iff.mp hn).1
    have hnm := List.mem_of_getElem? hn
    have htG := ht3.same sG ok
    have aUG := aU3.ex sG
    have aCG := aC.ex sG
    have sub : ∀ x ∈ kidsOf rows (Sum.inr n), x ∈ belowL rows top := fun x hx => List.mem_of_mem_drop (below_kids ok hn hx)
    have hin : n ∈ kidsOf rows (Sum.inr top) ++ ((belowL rows top).take i).flatMap fun n => kidsOf rows (Sum.inr n) := by
      obtain ⟨r, hrm, rfl, hup⟩ := below_up ok hn
      have := kid_of hrm
      rcases hup with e | m
      · rw [e] at this
        exact List.mem_append_left _ this
      · exact List.mem_append_right _ (List.mem_flatMap.mpr ⟨_, m, this⟩)
    have eE : ((kidsOf rows (Sum.inr n)).map V.str).isEmpty = (kidsOf rows (Sum.inr n)).isEmpty := by cases kidsOf rows (Sum.inr n) <;> rfl
    have et : ((belowL rows top).take (i + 1)).flatMap (fun n => kidsOf rows (Sum.inr n)) = ((belowL rows top).take i).flatMap (fun n => kidsOf rows (Sum.inr n)) ++ kidsOf rows (Sum.inr n) := by
      rw [List.take_add_one, hn, Option.toList_some, List.flatMap_append]
      simp
    refine s_when (et_meth (el_kids rfl htG ok (List.mem_cons_of_mem _ (below_nms hnm)) (ev_var rfl))) (fun hb G1 e1 => ?_) fun hb G1 e1 => ?_
    · have fG1 := e1 _ _ fG
      have aG1 := aG.ex e1
      have aU1 := aUG.ex e1
      have aC1 := aCG.ex e1
      refine ⟨_, rfl, .inr (.inr (.inl ⟨rfl, .inl ⟨_, fG1⟩⟩)), _, rfl, _, rfl, ?_⟩
      refine eq_get rfl (ev_var rfl) aG1 hin G1 (Ex.refl _) _ fun v G2 e2 hv => ?_
      refine ⟨_, rfl, _, rfl, t, n, v, dU, dC, rows, h, tk, p n, U, c, M, S, rfl, (htG.same e1 ok).same e2 ok, ok, below_nms hnm, ho.po ok len hnm, hv, (aU1.ex e2).sub (fun m hm => ?_), (aC1.ex e2).sub sub, fun dN kn G3 hdN s3 fN mN => ?_⟩
      · rcases List.mem_cons.mp hm with e | hm
        · rw [e]; exact hnm
        · exact sub m hm
      have e13 := e2.trans s3
      have fG3 := e13 _ _ fG1
      have ne : dP ≠ dN := ne_of_none (e2 _ _ fG1) hdN
      have knl : kn.length ≤ 200 := by
        rw [Paired.length mN]
        exact Nat.le_trans (kids_le rows _) len
      refine ⟨dP, dN, kvs, kn, rfl, rfl, ne, fG3, fN, by omega, ?_⟩
      have mN' : MapR (AmR K p) G3 kn (kidsOf rows (Sum.inr n)) := paired_monoM (fun kv x hx z => ⟨z.1, by have := z.2; unfold AmR at this ⊢; rw [ho.part n hnm x hx]; exact this⟩) mN
      refine ⟨_, _, rfl, Same.ch ((sG.trans e1).trans e13) hP3 _, upd_same, ?_, ?_⟩
      · have := length_mergeK kn kvs
        omega
      · rw [et, ← List.append_assoc]
        exact (aG1.ex e13).merge fG3 mN' (kids_nd ok _)
    · rw [eE] at hb
      have hz : kidsOf rows (Sum.inr n) = [] := by simpa using hb
      refine ⟨_, kvs, rfl, Same.trans sG e1, e1 _ _ fG, by omega, ?_⟩
      rw [et, hz, List.append_nil]
      exact aG.ex e1
  · rintro σ G ⟨o6, kvs, rfl, sG, fG, kl, aG⟩
    rw [List.length_map, List.take_length] at aG
    refine s_retM (K := K) (f := p) (em_dc (names := belowL rows top) (ev_var rfl) (sq_of (sG _ _ f3)) bnd (by omega) (fun _ => rfl) (fun _ => rfl) fun n hn G' e => ?_) fun d kvs G' h1 h2 h3 h4 => q d kvs G' (fresh_back ((s12.trans e3).trans sG) h1) (((s12.trans e3).trans sG).trans h2) h3 h4
    refine eq_get rfl (ev_var rfl) (aG.ex e) ?_
    obtain ⟨j, hj⟩ := List.mem_iff_getElem?.mp hn
    obtain ⟨r, hrm, rfl, hup⟩ := below_up ok hj
    have := kid_of hrm
    rcases hup with e | m
    · rw [e] at this
      exact List.mem_append_left _ this
    · exact List.mem_append_right _ (List.mem_flatMap.mpr ⟨_, List.mem_of_mem_take m, this⟩)
end
end Bd
end

section
namespace Bd
open PySem L2 Am
abbrev sCommon : Stmt := (top 65)
theorem scCommon : FnScope ["_law_one_here", "_law_other"] ["_law_one_here", "_law_other"] (defScope sCommon) := ⟨rfl, rfl, rfl, by decide +kernel, rfl, by decide +kernel, by decide +kernel⟩
abbrev sFraction : Stmt := (top 66)
theorem scFraction : FnScope ["_law_top_here", "_law_bottom", "_law_measure"] ["_law_top_here", "_law_bottom"] (defScope sFraction) := ⟨rfl, rfl, rfl, by decide +kernel, rfl, by decide +kernel, by decide +kernel⟩
abbrev sAmount : Stmt := (top 69)
theorem scAmount : FnScope ["_law_source_here", "_law_way"] ["_law_source_here"] (defScope sAmount) := ⟨rfl, rfl, rfl, by decide +kernel, rfl, by decide +kernel, by decide +kernel⟩

def spCommon : Sp := fun vs H Q _ => ∃ (a b : Nat), vs = [.int (a : Int), .int (b : Int)] ∧ Q (.int (Nat.gcd a b : Nat)) H
/-- a pair in lowest terms at p -/
def AmtAt (H : Hp) (v : V) (n d : Nat) : Prop := ∃ p, v = .ref p ∧ H p = some (.tup [.int (n : Int), .int (d : Int)])
def spFraction : Sp := fun vs H Q _ => ∃ (a b : Nat), vs = [.int (a : Int), .int (b : Int)] ∧ a ≤ 10 ^ 13 ∧ 0 < b ∧ b ≤ 1000 ∧
  ∀ p n d, H p = none → AmtOk n d → d ≤ b → Q (.ref p) (upd H p (.tup [.int (n : Nat), .int (d : Nat)]))
/-- what the laws draw: whole numbers, or parts up to ninths -/
def Drawn (q : Rat) : Prop := 0 ≤ q ∧ q ≤ ((10 ^ 13 : Nat) : Rat) ∧ q.den ∣ 2520
def spAmount (K : PySem.W.Frag) : Sp := fun vs H Q _ => ∃ (s : Addr), vs = [.ref s] ∧ Src H s ∧
  ∀ v q H', Drawn q → AmtQ K H' v q → Src H' s → Kept s H H' → Q v H'
def spUnder (K : PySem.W.Frag) : Sp := fun vs H Q _ => ∃ (va vb : V) (a b : Rat), vs = [va, vb] ∧ AmtQ K H va a ∧ AmtQ K H vb b ∧ Sz a ∧ Sz b ∧ ∀ H', Same H H' → Q (.bl (decide (a < b))) H'
def spLeast (K : PySem.W.Frag) : Sp := fun vs H Q _ => ∃ (va vb : V) (a b : Rat), vs = [va, vb] ∧ AmtQ K H va a ∧ AmtQ K H vb b ∧ Sz a ∧ Sz b ∧ ∀ v H', Same H H' → AmtQ K H' v (if a < b then a else b) → Q v H'
theorem drawn_of {n d : Nat} (h : AmtOk n d) (d9 : d ≤ 9) : ∃ q : Rat, Drawn q ∧ q.num = (n : Int) ∧ q.den = d := by
  obtain ⟨h1, h2, h3, h4⟩ := h
  obtain ⟨z1, z2⟩ := mk_low (n := (n : Int)) h1 (by rw [Int.natAbs_natCast]; exact h2)
  refine ⟨mkRat (n : Int) d, ⟨?_, ?_, ?_⟩, z1, z2⟩
  · rw [← Rat.num_nonneg, z1]
    omega
  · rw [Rat.le_iff, z1, z2, Rat.num_natCast, Rat.den_natCast]
    have : (n : Int) ≤ ((10 ^ 13 : Nat) : Int) := by exact_mod_cast h3
    have h5 : (1 : Int) ≤ (d : Int) := by omega
    have h6 : ((10 ^ 13 : Nat) : Int) * 1 ≤ ((10 ^ 13 : Nat) : Int) * (d : Int) := Int.mul_le_mul_of_nonneg_left h5 (by omega)
    omega
  · rw [z2]
    have : d = 1 ∨ d = 2 ∨ d = 3 ∨ d = 4 ∨ d = 5 ∨ d = 6 ∨ d = 7 ∨ d = 8 ∨ d = 9 := by omega
    rcases this with rfl | rfl | rfl | rfl | rfl | rfl | rfl | rfl | rfl <;> decide
theorem Drawn.ms {q : Rat} (h : Drawn q) : InMS 2520 (10 ^ 13) q := ⟨h.2.2, h.1, h.2.1⟩
theorem Drawn.sz {q : Rat} (h : Drawn q) : Sz q := h.ms.sz (m := 200) (s := 200) (by decide) (by decide) (by decide) (by decide)
theorem AmtAt.amt {K : PySem.W.Frag} {H : Hp} {v : V} {n d : Nat} {q : Rat} (h : AmtAt H v n d) (e1 : q.num = (n : Int)) (e2 : q.den = d) : AmtQ K H v q := by
  obtain ⟨p, rfl, h⟩ := h
  exact ⟨p, rfl, by rw [e1, e2]; exact SqT.of h⟩
section
variable {P : Program} {w : World} {K : PySem.W.Frag} {mg : Str → Option Value} {base : Heap}
def mu1 : St → Hp → Nat := fun σ _ => match σ[1]? with
  | some (some (V.int b)) => b.toNat
  | _ => 0
theorem ok_common {f : Addr} {fd : FuncData} (F : Fun K "_law_common" "_law_common" sCommon f fd) (T : TA mg) : FnOk P w K mg base CX0 1 f fd ["_law_one_here", "_law_other"] spCommon := by
  refine F.ok scCommon (fun vs H Q E h => ?_) (fun cdv A outer s H vs Q E hr h => ?_)
  · obtain ⟨a, b, rfl, _⟩ := h
    rfl
  obtain ⟨a, b, rfl, q⟩ := h
  refine ⟨_, (pss_cons (ps_while PassesOwn.never (pt_cmpR op_gt (pv 1) pe_int (nomark _)) (pss_one (ps_par (i := 0) (j := 1) (by rfl) scCommon.nd rfl rfl (by decide) rfl rfl (pa_cons (pv 1) (pa_cons (pe_op op_modN (pe_callTy call_int1 (by rfl) T.z_int (by decide +kernel) (pa_cons (pv 0) pa_nil)) (pv 1)) pa_nil)) (by rfl)))) (pss_one (ps_ret (pe_callB call_abs (by rfl) T.z_abs (by decide +kernel) (pa_cons (pv 0) pa_nil))))), ?_⟩
  refine while_by (fun σ H' => H' = H ∧ ∃ x y : Nat, σ = [some (.int (x : Int)), some (.int (y : Int))] ∧ Nat.gcd x y = Nat.gcd a b) mu1 ⟨rfl, a, b, rfl, rfl⟩ ?_ ?_
  · rintro σ H' ⟨rfl, x, y, rfl, e⟩
    refine ⟨_, rfl, _, _, rfl, rfl, _, rfl, ?_⟩
    refine ite2 (fun c => ?_) (fun c => ?_)
    · have c' : (0 : Int) < (y : Int) := of_decide_eq_true c
      refine ⟨_, rfl, _, rfl, .inl ⟨_, rfl, _, rfl, _, _, rfl, rfl, by show (y : Int) ≠ 0; omega, _, _, rfl, ?_⟩⟩
      have em : (x : Int).fmod (y : Int) = ((x % y : Nat) : Int) := by
        rw [Int.fmod_eq_emod_of_nonneg _ (by omega)]
        exact (Int.natCast_emod x y).symm
      refine ⟨⟨rfl, y, x % y, ?_, ?_⟩, ?_⟩
      · show [some (V.int (y : Int)), some (V.int ((x : Int).fmod (y : Int)))] = _
        rw [em]
      · rw [← e, Nat.gcd_comm x y, Nat.gcd_rec y x, Nat.gcd_comm]
      · show ((x : Int).fmod (y : Int)).toNat < (y : Int).toNat
        rw [em]
        have := Nat.mod_lt x (show 0 < y by omega)
        omega
    · have c' : ¬ (0 : Int) < (y : Int) := of_decide_eq_false (Bool.eq_false_iff.mpr c)
      have y0 : y = 0 := by omega
      subst y0
      refine ⟨_, rfl, _, rfl, ?_⟩
      rw [Nat.gcd_zero_right] at e
      rw [if_neg (show ¬ (x : Int) < 0 by omega), e]
      exact q
  · rintro σ H' Q Q' f ⟨v, h1, i, j, h2, h3, k, h4, q⟩
    exact ⟨v, h1, i, j, h2, h3, k, h4, f _ _ q⟩

theorem gcd_low {a b : Nat} (hb : 0 < b) : Nat.gcd (a / Nat.gcd a b) (b / Nat.gcd a b) = 1 := by
  rw [Nat.gcd_div (Nat.gcd_dvd_left a b) (Nat.gcd_dvd_right a b)]
  exact Nat.div_self (Nat.gcd_pos_of_pos_right a hb)
theorem ok_fraction {f g : Addr} {fd gd : FuncData} (F : Fun K "_law_fraction" "_law_fraction" sFraction f fd) (T : TA mg) (cC : Cal P w K mg base "_law_common" ["_law_one_here", "_law_other"] 1 spCommon g gd) : FnOk P w K mg base CX0 2 f fd ["_law_top_here", "_law_bottom"] spFraction := by
  refine F.ok scFraction (fun vs H Q E h => ?_) (fun cdv A outer s H vs Q E hr h => ?_)
  · obtain ⟨a, b, rfl, _⟩ := h
    rfl
  obtain ⟨a, b, rfl, ha, h0, h1, q⟩ := h
  have hg : 0 < Nat.gcd a b := Nat.gcd_pos_of_pos_right a h0
  have hl : Nat.gcd a b ≤ b := Nat.gcd_le_right a h0
  have e1 : ∀ x : Nat, (x : Int).fdiv (Nat.gcd a b : Nat) = ((x / Nat.gcd a b : Nat) : Int) := fun x => by
    rw [Int.fdiv_eq_ediv_of_nonneg _ (by omega)]
    exact (Int.natCast_ediv x _).symm
  refine ⟨_, (pss_cons (ps_set (i := 2) scFraction.nd rfl (Or.inl rfl) (pe_call cC.ok (hr.mono (by decide)) rfl cC.mg cC.kp cC.bd .nil pass0 (pa_cons (pv 0) (pa_cons (pv 1) pa_nil)))) (pss_one (ps_ret (pe_tup (pa_cons (pe_op op_fdivN (pv 0) (pv 2)) (pa_cons (pe_op op_fdivN (pv 1) (pv 2)) pa_nil)))))), ?_⟩
  refine ⟨_, rfl, _, rfl, a, b, rfl, ?_⟩
  refine ⟨_, rfl, _, rfl, _, _, rfl, rfl, ⟨by show ((Nat.gcd a b : Nat) : Int) ≠ 0; omega, by omega⟩, _, rfl, _, rfl, _, _, rfl, rfl, ⟨by show ((Nat.gcd a b : Nat) : Int) ≠ 0; omega, by omega⟩, by show 2 ≤ sizeLine; decide, fun p hp => ?_⟩
  have := q p (a / Nat.gcd a b) (b / Nat.gcd a b) hp ⟨Nat.div_pos hl hg, gcd_low h0, Nat.le_trans (Nat.div_le_self _ _) ha, Nat.le_trans (Nat.div_le_self _ _) (Nat.le_trans h1 (by decide))⟩ (Nat.div_le_self _ _)
  show Q (.ref p) (upd H p (.tup [.int ((a : Int).fdiv (Nat.gcd a b : Nat)), .int ((b : Int).fdiv (Nat.gcd a b : Nat))]))
  rw [e1, e1]
  exact this

theorem ev_endF {σ : L2.St} {H : Hp} {ta : TE} {v : V} {q : Rat} (h : Evl.Ev ta σ H v) (a : AmtQ K H v q) : Evl.Ev (tOp (rEqD K) ta (tC (.str "endless"))) σ H (.bl false) :=
  Evl.ev_op h Evl.ev_c fun H1 e Q k => by
    obtain ⟨o, rfl, ho⟩ := a.same e
    exact ⟨.tuple [.int q.num, .int (q.den : Int)], .str "endless", .tup ho (.cons (.int _) (.cons (.int _) .nil)), .str _, shaped_ints [q.num, (q.den : Int)], by decide +kernel, k H1 (Evl.Ex.refl H1)⟩
theorem ok_amount {f g e : Addr} {fd gd ed : FuncData} (F : Fun K "_law_amount" "_law_amount" sAmount f fd) (T : TA mg) (cN : Cal P w K mg base "_law_next" ["_law_source_here", "_law_many"] 2 spNext g gd) (cF : Cal P w K mg base "_law_fraction" ["_law_top_here", "_law_bottom"] 2 spFraction e ed) : FnOk P w K mg base CX0 3 f fd ["_law_source_here"] (spAmount K) := by
  refine F.ok scAmount (fun vs H Q E h => ?_) (fun cdv A outer s H vs Q E hr h => ?_)
  · obtain ⟨p, rfl, _⟩ := h
    rfl
  obtain ⟨p, rfl, hp, q'⟩ := h
  have q : ∀ v n d H', AmtOk n d → d ≤ 9 → AmtAt H' v n d → Src H' p → Kept p H H' → Q v H' := fun v n d H' h1 h9 h2 h3 h4 => by
    obtain ⟨x, z1, z2, z3⟩ := drawn_of h1 h9
    exact q' v x H' z1 (h2.amt z2 z3) h3 h4
  have np : ∀ {H1 : Hp} {r : Addr}, Src H1 p → H1 r = none → p ≠ r := fun h hr => by
    obtain ⟨_, _, _, h⟩ := h
    exact ne_of_none h hr
  have sr : ∀ {H1 : Hp} {r : Addr} {o : HO}, Src H1 p → H1 r = none → Src (upd H1 r o) p := fun h hr => by
    have n := np h hr
    obtain ⟨x, y, z, h⟩ := h
    exact ⟨x, y, z, by rw [upd_ne n]; exact h⟩
  refine ⟨_, (pss_cons (ps_set (i := 1) scAmount.nd rfl (Or.inl rfl) (pe_call cN.ok (hr.mono (by decide)) rfl cN.mg cN.kp cN.bd .nil pass0 (pa_cons (pv 0) (pa_cons pe_int pa_nil)))) (pss_cons (ps_if (pt_cmpR op_eq (pv 1) pe_int (nomark _)) (pss_one (ps_ret (pe_tup (pa_cons pe_int (pa_cons pe_int pa_nil))))) pss_nil) (pss_cons (ps_if (pt_cmpR op_eq (pv 1) pe_int (nomark _)) (pss_one (ps_ret (pe_call cF.ok (hr.mono (by decide)) rfl cF.mg cF.kp cF.bd .nil pass0 (pa_cons (pe_op op_add pe_int (pe_call cN.ok (hr.mono (by decide)) rfl cN.mg cN.kp cN.bd .nil pass0 (pa_cons (pv 0) (pa_cons pe_int pa_nil)))) (pa_cons (pe_op op_add pe_int (pe_call cN.ok (hr.mono (by decide)) rfl cN.mg cN.kp cN.bd .nil pass0 (pa_cons (pv 0) (pa_cons pe_int pa_nil)))) pa_nil))))) pss_nil) (pss_cons (ps_if (pt_cmpR op_eq (pv 1) pe_int (nomark _)) (pss_one (ps_ret (pe_tup (pa_cons (pe_op op_mul (pe_op op_pow pe_int pe_int) (pe_op op_add pe_int (pe_call cN.ok (hr.mono (by decide)) rfl cN.mg cN.kp cN.bd .nil pass0 (pa_cons (pv 0) (pa_cons pe_int pa_nil))))) (pa_cons pe_int pa_nil))))) pss_nil) (pss_one (ps_ret (pe_tup (pa_cons (pe_op op_add pe_int (pe_call cN.ok (hr.mono (by decide)) rfl cN.mg cN.kp cN.bd .nil pass0 (pa_cons (pv 0) (pa_cons pe_int pa_nil)))) (pa_cons pe_int pa_nil))))))))), ?_⟩
  refine ⟨_, rfl, p, 12, rfl, hp, by decide, by decide, fun v H1 hv hp1 k1 => ?_⟩
  refine ⟨_, rfl, rfl, _, rfl, ?_⟩
  refine ite2 (fun c => ?_) (fun c => ?_)
  · refine ⟨by show 2 ≤ sizeLine; decide, fun r hr' => ?_⟩
    exact q _ 0 1 _ ⟨by decide, by decide, by decide, by decide⟩ (by decide) ⟨r, rfl, upd_same⟩ (sr hp1 hr') (k1.new hr' _)
  refine ⟨_, rfl, rfl, _, rfl, ?_⟩
  refine ite2 (fun c => ?_) (fun c => ?_)
  · refine ⟨_, rfl, p, 40, rfl, hp1, by decide, by decide, fun a H2 ha hp2 k2 => ?_⟩
    refine ⟨_, _, rfl, rfl, _, rfl, p, 9, rfl, hp2, by decide, by decide, fun b H3 hb hp3 k3 => ?_⟩
    refine ⟨_, _, rfl, rfl, 1 + a, 1 + b, rfl, by omega, by omega, by omega, fun r n d hr' hk hdb => ?_⟩
    exact q _ n d _ hk (by omega) ⟨r, rfl, upd_same⟩ (sr hp3 hr') (((k1.trans k2).trans k3).new hr' _)
  refine ⟨_, rfl, rfl, _, rfl, ?_⟩
  refine ite2 (fun c => ?_) (fun c => ?_)
  · refine ⟨_, _, rfl, rfl, ⟨by decide, by decide, by decide⟩, _, rfl, p, 9, rfl, hp1, by decide, by decide, fun b H3 hb hp3 k3 => ?_⟩
    refine ⟨_, _, rfl, rfl, _, _, rfl, rfl, .inl ⟨by decide, by decide⟩, by show 2 ≤ sizeLine; decide, fun r hr' => ?_⟩
    refine q _ (10 ^ 12 * (1 + b)) 1 _ ⟨by decide, Nat.gcd_one_right _, by omega, by decide⟩ (by decide) ⟨r, rfl, ?_⟩ (sr hp3 hr') ((k1.trans k3).new hr' _)
    rw [upd_same]
    have : (10 : Int) ^ Int.toNat 12 * (1 + (b : Int)) = ((10 ^ 12 * (1 + b) : Nat) : Int) := by
      show (1000000000000 : Int) * (1 + (b : Int)) = ((1000000000000 * (1 + b) : Nat) : Int)
      omega
    exact congrArg (fun z => some (HO.tup [V.int z, V.int 1])) this
  · refine ⟨_, rfl, p, 20, rfl, hp1, by decide, by decide, fun b H3 hb hp3 k3 => ?_⟩
    refine ⟨_, _, rfl, rfl, by show 2 ≤ sizeLine; decide, fun r hr' => ?_⟩
    refine q _ (1 + b) 1 _ ⟨by decide, Nat.gcd_one_right _, by omega, by decide⟩ (by decide) ⟨r, rfl, ?_⟩ (sr hp3 hr') ((k1.trans k3).new hr' _)
    rw [upd_same]
    have : (1 + (b : Int)) = ((1 + b : Nat) : Int) := by omega
    exact congrArg (fun z => some (HO.tup [V.int z, V.int 1])) this

end
end Bd
end

section
namespace Bd
open PySem L2 Am PySem.Spec PyProof.Rows
open Evl hiding tCut pss_cut
abbrev sLPlus : Stmt := (top 67)
theorem scLPlus : FnScope ["_law_one_here", "_law_other"] ["_law_one_here", "_law_other"] (defScope sLPlus) := ⟨rfl, rfl, rfl, by decide +kernel, rfl, by decide +kernel, by decide +kernel⟩
abbrev sLSum : Stmt := (top 68)
theorem scLSum : FnScope ["_law_amounts", "_law_found", "_law_one_here"] ["_law_amounts"] (defScope sLSum) := ⟨rfl, rfl, rfl, by decide +kernel, rfl, by decide +kernel, by decide +kernel⟩

/-! the law's own fractions -/
theorem hu65 {A : Around} {k : Nat} (hr : Room k A) : A.units + 65 < cLine := by
  have := hu100 hr
  omega
def rInDT (K : PySem.W.Frag) : R2 := fun x y H Q => ∃ d ds, Dp K H x d ∧ Dp K H y (.tuple ds) ∧ SeqAt.shaped d = true ∧ SeqAt.shaped (.tuple ds) = true ∧ Q (.bl (ds.any fun z => PyData.eqv z d)) H
theorem op_inDT {X : Cx} (hu : X.A.units + 65 < cLine) : OpR X (compareOp .In) (rInDT X.K) := by
  intro pins s σ H x y v u Q I rx ry h
  obtain ⟨d, ds, hd, he, sd, se, q⟩ := h
  obtain ⟨as, r1⟩ := Dp.reads I d x v hd rx
  obtain ⟨bs, r2⟩ := Dp.reads I (.tuple ds) y u he ry
  exact SeqAt.in_tuple_reads r2 r1 (SeqAt.canLay_of_shaped se) (SeqAt.canLay_of_shaped sd) (room_in_shaped sd hu) ⟨.bl _, H, I, rfl, q⟩
theorem rv_div9 {H : Hp} {a b : Nat} (hb : 0 < b) (h : b < 2 ^ 9000) : RV (rI CDivW fun i j => V.int (i / j)) (.int (a : Int)) (.int (b : Int)) H (.int ((a / b : Nat) : Int)) := by
  rw [← div_nat]
  exact rv_I ⟨by omega, by
    rw [Int.natAbs_natCast]
    by_cases e : b = 0
    · subst e
      decide
    · exact (Nat.log2_lt e).mpr h⟩
def spFrac2 (K : PySem.W.Frag) : Sp := fun vs H Q _ => ∃ n b : Nat, vs = [.int (n : Int), .int (b : Int)] ∧ 0 < b ∧ b < 2 ^ 9000 ∧ ∀ v H', Same H H' → AmtQ K H' v (mkRat (n : Int) b) → Q v H'
def spQ (K : PySem.W.Frag) (P : Rat → Rat → Prop) (f : Rat → Rat → Rat) : Sp := fun vs H Q _ => ∃ (va vb : V) (a b : Rat), vs = [va, vb] ∧ AmtQ K H va a ∧ AmtQ K H vb b ∧ Sz a ∧ Sz b ∧ 0 ≤ a ∧ 0 ≤ b ∧ P a b ∧ ∀ v H', Same H H' → AmtQ K H' v (f a b) → Q v H'
abbrev spLPlus (K : PySem.W.Frag) : Sp := spQ K (fun _ _ => True) (· + ·)
abbrev spLMinus (K : PySem.W.Frag) : Sp := spQ K (fun a b => b ≤ a) (· - ·)
abbrev spLTimes (K : PySem.W.Frag) : Sp := spQ K (fun _ _ => True) (· * ·)
abbrev spLOver (K : PySem.W.Frag) : Sp := spQ K (fun _ b => 0 < b) (· / ·)
def spLSum (K : PySem.W.Frag) : Sp := fun vs H Q _ => ∃ (l : Addr) (ws : List V) (qs : List Rat) (M S : Nat), vs = [.ref l] ∧ SqL K H l ws ∧ Paired (AmtQ K H) ws qs ∧ 0 < M ∧ M < 2 ^ 2700 ∧ S < 2 ^ 200 ∧ qs.length ≤ 200 ∧ (∀ q ∈ qs, InMS M S q) ∧ ∀ v H', Same H H' → AmtQ K H' v (sumQ qs) → Q v H'
theorem eq_lq {K : PySem.W.Frag} {H : Hp} {σ : L2.St} {ta tb : TE} {E : XK} {P : Rat → Rat → Prop} {f : Rat → Rat → Rat} {a b : Rat} (ha : EvQ K ta σ H a) (hb : EvQ K tb σ H b) (za : Sz a) (zb : Sz b) (a0 : 0 ≤ a) (b0 : 0 ≤ b) (hp : P a b) : EvQ K (tCall (spQ K P f) [] E (tCons ta (tCons tb tNil))) σ H (f a b) := fun H1 e Q k =>
  ea_two ha hb e fun va vb H2 e2 qa qb => ⟨va, vb, a, b, rfl, qa, qb, za, zb, a0, b0, hp, fun v H' s h => k v H' (e2.trans s) h⟩
theorem eq_lleast {K : PySem.W.Frag} {H : Hp} {σ : L2.St} {ta tb : TE} {E : XK} {a b : Rat} (ha : EvQ K ta σ H a) (hb : EvQ K tb σ H b) (za : Sz a) (zb : Sz b) : EvQ K (tCall (spLeast K) [] E (tCons ta (tCons tb tNil))) σ H (if a < b then a else b) := fun H1 e Q k =>
  ea_two ha hb e fun va vb H2 e2 qa qb => ⟨va, vb, a, b, rfl, qa, qb, za, zb, fun v H' s h => k v H' (e2.trans s) h⟩
theorem ev_lunder {K : PySem.W.Frag} {H : Hp} {σ : L2.St} {ta tb : TE} {E : XK} {a b : Rat} (ha : EvQ K ta σ H a) (hb : EvQ K tb σ H b) (za : Sz a) (zb : Sz b) : Ev (tCall (spUnder K) [] E (tCons ta (tCons tb tNil))) σ H (.bl (decide (a < b))) := fun H1 e Q k =>
  ea_two ha hb e fun va vb H2 e2 qa qb => ⟨va, vb, a, b, rfl, qa, qb, za, zb, fun H' s => k H' (e2.trans s)⟩
theorem eq_lsum {K : PySem.W.Frag} {H : Hp} {σ : L2.St} {tl : TE} {E : XK} {ws : List V} {qs : List Rat} {M S : Nat} (h : EvL tl σ H ws) (hp : ∀ H1, Ex H H1 → Paired (AmtQ K H1) ws qs) (M0 : 0 < M) (hM : M < 2 ^ 200) (hS : S < 2 ^ 200) (hl : qs.length ≤ 200) (hd : ∀ q ∈ qs, InMS M S q) :
    EvQ K (tCall (spLSum K) [] E (tCons tl tNil)) σ H (sumQ qs) := fun H1 e Q k => h H1 e _ fun p H2 _ e2 f2 => ⟨p, ws, qs, M, S, rfl, SqL.of f2, hp H2 (e.trans e2), M0, lt_up hM (by decide), hS, hl, hd, fun v H' s hv => k v H' (e2.trans s) hv⟩
theorem eq_lsumB {K : PySem.W.Frag} {H : Hp} {σ : L2.St} {tl : TE} {E : XK} {ws : List V} {qs : List Rat} {M S : Nat} (h : EvL tl σ H ws) (hp : ∀ H1, Ex H H1 → Paired (AmtQ K H1) ws qs) (M0 : 0 < M) (hM : M < 2 ^ 2700) (hS : S < 2 ^ 200) (hl : qs.length ≤ 200) (hd : ∀ q ∈ qs, InMS M S q) :
    EvQ K (tCall (spLSum K) [] E (tCons tl tNil)) σ H (sumQ qs) := fun H1 e Q k => h H1 e _ fun p H2 _ e2 f2 => ⟨p, ws, qs, M, S, rfl, SqL.of f2, hp H2 (e.trans e2), M0, hM, hS, hl, hd, fun v H' s hv => k v H' (e2.trans s) hv⟩
theorem eq_frac {K : PySem.W.Frag} {H : Hp} {σ : L2.St} {ta tb : TE} {E : XK} {n b : Nat} (h1 : Ev ta σ H (.int (n : Int))) (h2 : Ev tb σ H (.int (b : Int))) (b0 : 0 < b) (hb : b < 2 ^ 9000) : EvQ K (tCall (spFrac2 K) [] E (tCons ta (tCons tb tNil))) σ H (mkRat (n : Int) b) := fun H1 e Q k =>
  h1 H1 e _ fun H2 e2 => h2 H2 (e.trans e2) _ fun H3 e3 => ⟨n, b, rfl, b0, hb, fun v H' s hv => k v H' ((e2.trans e3).trans s) hv⟩
theorem s_retQ {K : PySem.W.Frag} {H : Hp} {σ : L2.St} {te : TE} {D : Ends} {q : Rat} (h : EvQ K te σ H q) (k : ∀ v H1, Ex H H1 → AmtQ K H1 v q → D.rt v H1) : tRet te D σ H := h H (Ex.refl H) _ k
theorem big_mul {x y : Nat} (h1 : x < 2 ^ 3000) (h2 : y < 2 ^ 3000) : x * y < 2 ^ 9000 := lt_up (lt_mul2 h1 h2) (by decide)
theorem add_mk (a b : Rat) : mkRat (a.num * (b.den : Int) + b.num * (a.den : Int)) (a.den * b.den) = a + b := by
  rw [← Rat.mkRat_add_mkRat _ _ (Rat.den_nz a) (Rat.den_nz b), Rat.mkRat_self, Rat.mkRat_self]
theorem sub_mk (a b : Rat) : mkRat (a.num * (b.den : Int) - b.num * (a.den : Int)) (a.den * b.den) = a - b := by
  have e : a.num * (b.den : Int) - b.num * (a.den : Int) = a.num * (b.den : Int) + (-b.num) * (a.den : Int) := by grind
  rw [e, ← Rat.mkRat_add_mkRat _ _ (Rat.den_nz a) (Rat.den_nz b), Rat.mkRat_self, ← Rat.neg_mkRat, Rat.mkRat_self, Rat.sub_eq_add_neg]
theorem mul_mk (a b : Rat) : mkRat (a.num * b.num) (a.den * b.den) = a * b := by
  rw [← Rat.mkRat_mul_mkRat, Rat.mkRat_self, Rat.mkRat_self]
theorem div_mk {a b : Rat} (hb : 0 < b) : mkRat (a.num * (b.den : Int)) (a.den * b.num.natAbs) = a / b := by
  obtain ⟨i1, i2⟩ := inv_low hb
  rw [Rat.div_def, ← i1, ← i2, mul_mk]
/-- an amount's data -/
def amtDD (q : Rat) : PyData := .tuple [.int q.num, .int (q.den : Int)]
theorem shaped_two (a b : Rat) : SeqAt.shaped (.tuple [amtDD a, amtDD b]) = true := by
  simp [SeqAt.shaped, amtDD, PyData.canLay0, PyData.canLayAll0, PyData.depth, PyData.depthAll]
section
variable {P : Program} {w : World} {K : PySem.W.Frag} {mg : Str → Option Value} {base : Heap}
theorem ok_frac2 {f g : Addr} {fd gd : FuncData} (F : Fun K "_law_fraction" "_law_fraction" sFraction f fd) (T : TA mg) (cC : Cal P w K mg base "_law_common" ["_law_one_here", "_law_other"] 1 spCommon g gd) : FnOk P w K mg base CX0 2 f fd ["_law_top_here", "_law_bottom"] (spFrac2 K) := by
  refine F.ok scFraction (fun vs H Q E h => ?_) (fun cdv A outer s H vs Q E hr h => ?_)
  · obtain ⟨a, b, rfl, _⟩ := h
    rfl
  obtain ⟨n, c, rfl, c0, hc, q⟩ := h
  refine ⟨_, (pss_cons (ps_set (i := 2) scFraction.nd rfl (Or.inl rfl) (pe_call cC.ok (hr.mono (by decide)) rfl cC.mg cC.kp cC.bd .nil pass0 (pa_cons (pv 0) (pa_cons (pv 1) pa_nil)))) (pss_one (ps_ret (pe_tup (pa_cons (pe_op op_fdivW (pv 0) (pv 2)) (pa_cons (pe_op op_fdivW (pv 1) (pv 2)) pa_nil)))))), ?_⟩
  have hg : 0 < Nat.gcd n c := Nat.gcd_pos_of_pos_right n c0
  have gl : Nat.gcd n c < 2 ^ 9000 := Nat.lt_of_le_of_lt (Nat.gcd_le_right n c0) hc
  refine q_asg (v := .int ((Nat.gcd n c : Nat) : Int)) (ev_call (vs := [.int (n : Int), .int (c : Int)]) (ea_cons (ev_var rfl) (ea_cons (ev_var rfl) ea_nil)) fun H3 e3 Q3 k3 E3 => ⟨n, c, rfl, k3 H3 (Ex.refl H3)⟩) fun H2 e2 => ?_
  refine s_retU (eu_tup (ea_cons (ev_op (ev_var rfl) (ev_var rfl) (rv_div9 hg gl)) (ea_cons (ev_op (ev_var rfl) (ev_var rfl) (rv_div9 hg gl)) ea_nil)) (by show 2 ≤ 100000; decide)) fun p H3 _ e3 f => ?_
  have hk : Nat.Coprime (n / Nat.gcd n c) (c / Nat.gcd n c) := Nat.coprime_div_gcd_div_gcd hg
  have hm : mkRat ((n / Nat.gcd n c : Nat) : Int) (c / Nat.gcd n c) = mkRat (n : Int) c := by
    rw [← div_nat]
    exact mk_div hg (Int.natCast_dvd_natCast.mpr (Nat.gcd_dvd_left _ _)) (Nat.gcd_dvd_right _ _)
  obtain ⟨z1, z2⟩ := mk_low (n := ((n / Nat.gcd n c : Nat) : Int)) (Nat.div_pos (Nat.le_of_dvd c0 (Nat.gcd_dvd_right _ _)) hg) (by rw [Int.natAbs_natCast]; exact hk)
  rw [hm] at z1 z2
  refine q _ H3 (Same.trans e2 e3) ⟨p, rfl, ?_⟩
  rw [z1, z2]
  exact SqT.of f
--<LPLUS
theorem ok_lplus {f g : Addr} {fd gd : FuncData} (F : Fun K "_law_plus" "_law_plus" sLPlus f fd) (cF : Cal P w K mg base "_law_fraction" ["_law_top_here", "_law_bottom"] 2 (spFrac2 K) g gd) : FnOk P w K mg base CX0 3 f fd ["_law_one_here", "_law_other"] (spLPlus K) := by
  refine F.ok scLPlus (fun vs H Q E h => ?_) (fun cdv A outer s H vs Q E hr h => ?_)
  · obtain ⟨va, vb, a, b, rfl, _⟩ := h
    rfl
  obtain ⟨_, _, a, b, rfl, ⟨oa, rfl, ha⟩, ⟨ob, rfl, hb⟩, ⟨an, ad⟩, ⟨bn, bd⟩, a0, b0, _, q⟩ := h
  refine ⟨_, (pss_cons (ps_if (pt_cmpR (op_inDT (hu65 hr)) pe_str (pe_tup (pa_cons (pv 0) (pa_cons (pv 1) pa_nil))) (by first | exact nomark _ | rfl)) (pss_one (ps_ret pe_str)) pss_nil) (pss_one (ps_ret (pe_call cF.ok (hr.mono (by decide)) rfl cF.mg cF.kp cF.bd .nil pass0 (pa_cons (pe_op op_add (pe_op op_mulW (pe_ix ix_tup (pv 0) pe_int (fun _ _ => rfl)) (pe_ix ix_tup (pv 1) pe_int (fun _ _ => rfl))) (pe_op op_mulW (pe_ix ix_tup (pv 1) pe_int (fun _ _ => rfl)) (pe_ix ix_tup (pv 0) pe_int (fun _ _ => rfl)))) (pa_cons (pe_op op_mulW (pe_ix ix_tup (pv 0) pe_int (fun _ _ => rfl)) (pe_ix ix_tup (pv 1) pe_int (fun _ _ => rfl))) pa_nil)))))), ?_⟩
  have nd : ∀ {x : Nat}, x < 2 ^ 3000 → ((x : Int)).natAbs < 2 ^ 3000 := fun {x} h => by
    rw [Int.natAbs_natCast]
    exact h
  refine q_when (b := false) (et_test (ev_opU (xs := [.ref oa, .ref ob]) ev_c (eu_tup (ea_cons (ev_var rfl) (ea_cons (ev_var rfl) ea_nil)) (by show 2 ≤ 100000; decide)) fun p H1 h1 e1 => rv_val fun H2 e2 Q2 k2 => ?_)) (fun h => by cases h) fun _ H1 e1 => ?_
  · have ha2 := ex_t (e1.trans e2) ha
    have hb2 := ex_t (e1.trans e2) hb
    refine ⟨.str "endless", [amtDD a, amtDD b], .str _, .tup (SqT.of (e2 _ _ h1)) (.cons (.tup ha2 (.cons (.int _) (.cons (.int _) .nil))) (.cons (.tup hb2 (.cons (.int _) (.cons (.int _) .nil))) .nil)), by decide +kernel, shaped_two a b, ?_⟩
    have e : ([amtDD a, amtDD b].any fun z => PyData.eqv z (.str "endless")) = false := by
      simp [amtDD, PyData.eqv]
    rw [e]
    exact k2
  have ha1 := ex_t e1 ha
  have hb1 := ex_t e1 hb
  have ea := nat_num a0
  have eb := nat_num b0
  refine s_retQ (K := K) (EvQ.is (eq_frac (n := a.num.natAbs * b.den + b.num.natAbs * a.den) (b := a.den * b.den) (ev_is (ev_op (ev_op (ev_at 0 (ev_var rfl) ha1 rfl) (ev_at 1 (ev_var rfl) hb1 rfl) (rv_I (cm_of an (nd bd)))) (ev_op (ev_at 0 (ev_var rfl) hb1 rfl) (ev_at 1 (ev_var rfl) ha1 rfl) (rv_I (cm_of bn (nd ad)))) rv_I0) ?_)
    (ev_is (ev_op (ev_at 1 (ev_var rfl) ha1 rfl) (ev_at 1 (ev_var rfl) hb1 rfl) (rv_I (cm_of (nd ad) (nd bd)))) (congrArg V.int (by push_cast; rfl))) (Nat.mul_pos a.den_pos b.den_pos) (big_mul ad bd)) ?_) fun v H2 e2 hv => q v H2 (Same.trans e1 e2) hv
  · refine congrArg V.int ?_
    push_cast
    rw [← ea, ← eb]
  · show _ = a + b
    rw [← add_mk]
    congr 1
    push_cast
    rw [← ea, ← eb]
-->LPLUS
--<LSUM
theorem ok_lsum {f g : Addr} {fd gd : FuncData} (F : Fun K "_law_sum" "_law_sum" sLSum f fd) (cP : Cal P w K mg base "_law_plus" ["_law_one_here", "_law_other"] 3 (spLPlus K) g gd) : FnOk P w K mg base CX0 4 f fd ["_law_amounts"] (spLSum K) := by
  refine F.ok scLSum (fun vs H Q E h => ?_) (fun cdv A outer s H vs Q E hr h => ?_)
  · obtain ⟨l, ws, qs, M, S, rfl, _⟩ := h
    rfl
  obtain ⟨l, ws, qs, M, S, rfl, hl, hp, M0, hM, hS, len, hd, q⟩ := h
  refine ⟨_, (pss_cons (ps_set (i := 1) scLSum.nd rfl (Or.inl rfl) (pe_tup (pa_cons pe_int (pa_cons pe_int pa_nil)))) (pss_cons (ps_for PassesOwn.never rfl (pi_list (pv 0)) (pg_name (i := 2) scLSum.nd rfl (Or.inl rfl)) (pss_one (ps_set (i := 1) scLSum.nd rfl (Or.inl rfl) (pe_call cP.ok (hr.mono (by decide)) rfl cP.mg cP.kp cP.bd .nil pass0 (pa_cons (pv 1) (pa_cons (pv 2) pa_nil)))))) (pss_one (ps_ret (pv 1))))), ?_⟩
  refine ⟨by show 2 ≤ sizeLine; decide, fun tp htp => ?_⟩
  have s1 := Same.new (Same.refl H) htp (.tup [.int 0, .int 1])
  have f1 : upd H tp (.tup [.int 0, .int 1]) tp = some (.tup [.int 0, .int 1]) := upd_same
  generalize upd H tp (.tup [.int 0, .int 1]) = H1 at s1 f1 ⊢
  have hwl := Paired.length hp
  have part : ∀ i, InMS M (S * 256) (sumQ (qs.take i)) := fun i => by
    have h1 : Of M (sumQ (qs.take i)) := sum_of M0 of_zero fun q hq => (hd q (List.mem_of_mem_take hq)).of M0
    have h2 := sum_bd (S := S) (qs := qs.take i) (s := 0) (k := 0) Rat.le_refl (by simp) fun q hq => ⟨(hd q (List.mem_of_mem_take hq)).lo, (hd q (List.mem_of_mem_take hq)).hi⟩
    refine ⟨of_den M0 h1, h2.1, Rat.le_trans h2.2 ?_⟩
    have : S * (0 + (qs.take i).length) ≤ S * 256 := Nat.mul_le_mul_left _ (by rw [List.length_take]; omega)
    exact_mod_cast this
  have s256 : S * 256 < 2 ^ 209 := lt_up (lt_mul2 hS (show 256 < 2 ^ 9 by decide)) (by decide)
  refine q_forLn (xs := ws) (ev_var rfl) (ex_l s1 hl) (fun i σ G => ∃ (fv : V) (o2 : Option V), σ = [some (.ref l), some fv, o2] ∧ Same H G ∧ AmtQ K G fv (sumQ (qs.take i))) (fun G e => ⟨_, _, rfl, Same.trans s1 e, tp, rfl, SqT.of (e _ _ f1)⟩) ?_ ?_ ?_
  · rintro i σ G _ ⟨_, _, rfl, sG, _⟩
    exact ex_l sG hl
  · rintro i x σ G hx ⟨fv, o2, rfl, sG, hf⟩
    obtain ⟨r, hr1, hx2⟩ := paired_get hp hx
    have hrm := hd r (List.mem_of_getElem? hr1)
    refine eq_lq (K := K) (σ := [some (.ref l), some fv, some x]) (H := G) (ta := tVar 1) (tb := tVar 2) (a := sumQ (qs.take i)) (b := r) (P := fun _ _ => True) (f := (· + ·)) (E := E0) (eq_var rfl hf) (eq_var rfl (hx2.same sG)) ((part i).sz M0 hM s256 (by decide)) (hrm.sz M0 hM hS (by decide)) (part i).lo hrm.lo trivial G (Ex.refl _) _ fun v G2 e2 hv => ?_
    refine ⟨_, _, rfl, sG.trans e2, ?_⟩
    rw [List.take_add_one, hr1]
    show AmtQ K G2 v (sumQ (qs.take i ++ [r]))
    rw [sum_snoc]
    exact hv
  · rintro σ G ⟨fv, o2, rfl, sG, hf⟩
    rw [hwl, List.take_length] at hf
    exact ⟨_, rfl, q fv G sG hf⟩
-->LSUM
end
end Bd
end

section
namespace Bd
open PySem L2 Am
/-! ### amounts of all groups, from below and from above -/
def setF (f : Str → Rat) (n : Str) (v : Rat) : Str → Rat := fun x => if x = n then v else f x
theorem setF_eq {f : Str → Rat} {n : Str} {v : Rat} : setF f n v n = v := if_pos rfl
theorem setF_ne {f : Str → Rat} {n x : Str} {v : Rat} (h : x ≠ n) : setF f n v x = f x := if_neg h
/-- from the last row up: each group by its children -/
theorem ex_down {rows : List RowM} (ok : RowsOk rows) (F : Str → (Str → Rat) → Rat) (hF : ∀ n U U', (∀ x ∈ kidsOf rows (Sum.inr n), U x = U' x) → F n U = F n U') : ∃ U : Str → Rat, ∀ r ∈ rows, U r.name = F r.name U := by
  have key : ∀ i, i ≤ rows.length → ∃ U : Str → Rat, ∀ j r, rows[j]? = some r → rows.length ≤ j + i → U r.name = F r.name U := by
    intro i
    induction i with
    | zero =>
      intro _
      refine ⟨fun _ => 0, fun j r h hj => ?_⟩
      have := (List.getElem?_eq_some_iff.mp h).1
      omega
    | succ i ih =>
      intro hi
      obtain ⟨U, hU⟩ := ih (by omega)
      have hl : rows.length - (i + 1) < rows.length := by omega
      have hr : rows[rows.length - (i + 1)]? = some rows[rows.length - (i + 1)] := List.getElem?_eq_getElem hl
      generalize rows[rows.length - (i + 1)] = q at hr
      -- children stand behind
      have kid : ∀ {j : Nat} {r : RowM}, rows[j]? = some r → rows.length ≤ j + (i + 1) → ∀ x ∈ kidsOf rows (Sum.inr r.name), x ≠ q.name := fun {j r} h hj x hx e => by
        obtain ⟨k, z, hk, hz, hab⟩ := kid_row hx
        have ek : k = rows.length - (i + 1) := row_inj (nms_nd ok) hk hr (hz.trans e)
        subst ek
        rcases row_up ok hk with e2 | ⟨m, y, hm, hy, e2⟩
        · exact row_ne ok h (hab.symm.trans e2)
        · have := row_inj (nms_nd ok) hy h (e2.trans hab)
          omega
      refine ⟨setF U q.name (F q.name U), fun j r h hj => ?_⟩
      have e : F r.name (setF U q.name (F q.name U)) = F r.name U := hF _ _ _ fun x hx => setF_ne (kid h hj x hx)
      rw [e]
      by_cases c : r.name = q.name
      · rw [c, setF_eq]
      · rw [setF_ne c]
        have : j ≠ rows.length - (i + 1) := fun z => by
          subst z
          rw [hr] at h
          cases h
          exact c rfl
        exact hU j r h (by omega)
  obtain ⟨U, hU⟩ := key rows.length (Nat.le_refl _)
  exact ⟨U, fun r hr => by
    obtain ⟨j, hj⟩ := List.mem_iff_getElem?.mp hr
    exact hU j r hj (by omega)⟩
/-- from the first row down: each group by the one above it -/
theorem ex_up {rows : List RowM} (ok : RowsOk rows) (F : RowM → Rat → Rat) : ∃ p : Str → Rat, ∀ r ∈ rows, p r.name = F r (p r.above) := by
  have key : ∀ i, i ≤ rows.length → ∃ p : Str → Rat, ∀ j r, rows[j]? = some r → j < i → p r.name = F r (p r.above) := by
    intro i
    induction i with
    | zero => exact fun _ => ⟨fun _ => 0, fun j r h hj => by omega⟩
    | succ i ih =>
      intro hi
      obtain ⟨p, hp⟩ := ih (by omega)
      have hr : rows[i]? = some rows[i] := List.getElem?_eq_getElem (by omega)
      generalize rows[i] = q at hr
      have up : ∀ {j : Nat} {r : RowM}, rows[j]? = some r → j ≤ i → r.above ≠ q.name := fun {j r} h hj e => by
        rcases row_up ok h with e2 | ⟨m, y, hm, hy, e2⟩
        · exact row_ne ok hr (e.symm.trans e2)
        · have := row_inj (nms_nd ok) hy hr (e2.trans e)
          omega
      refine ⟨setF p q.name (F q (p q.above)), fun j r h hj => ?_⟩
      rw [setF_ne (up h (by omega))]
      by_cases c : j = i
      · subst c
        rw [hr] at h
        cases h
        exact setF_eq
      · rw [setF_ne fun z => c (row_inj (nms_nd ok) h hr z)]
        exact hp j r h (by omega)
  obtain ⟨p, hp⟩ := key rows.length (Nat.le_refl _)
  exact ⟨p, fun r hr => by
    obtain ⟨j, hj⟩ := List.mem_iff_getElem?.mp hr
    exact hp j r hj (List.getElem?_eq_some_iff.mp hj).1⟩
/-- what a law reckons of a tree: uses, claims, and what is protected below a top -/
structure Reck (rows : List RowM) (top : Str) (h : Bool) (k u U c p : Str → Rat) : Prop where
  use : ∀ r ∈ rows, U r.name = if kidsOf rows (Sum.inr r.name) = [] then u r.name else sumQ ((kidsOf rows (Sum.inr r.name)).map U)
  cl : ∀ r ∈ rows, c r.name = if k r.name < U r.name then k r.name else U r.name
  up : ∀ r ∈ rows, p r.name = if r.above = top then c r.name else partQ h (p r.above) (U r.above) (sumQ ((kidsOf rows (Sum.inr r.above)).map c)) U c r.name
theorem map_eq {α : Type} {xs : List α} {f g : α → Rat} (h : ∀ x ∈ xs, f x = g x) : xs.map f = xs.map g := List.map_congr_left h
theorem use_ex {rows : List RowM} (ok : RowsOk rows) (u : Str → Rat) : ∃ U : Str → Rat, ∀ r ∈ rows, U r.name = if kidsOf rows (Sum.inr r.name) = [] then u r.name else sumQ ((kidsOf rows (Sum.inr r.name)).map U) :=
  ex_down ok (fun n U => if kidsOf rows (Sum.inr n) = [] then u n else sumQ ((kidsOf rows (Sum.inr n)).map U)) fun n U U' h => by
    show (if kidsOf rows (Sum.inr n) = [] then u n else sumQ ((kidsOf rows (Sum.inr n)).map U)) = if kidsOf rows (Sum.inr n) = [] then u n else sumQ ((kidsOf rows (Sum.inr n)).map U')
    rw [map_eq h]
theorem reck_of {rows : List RowM} (ok : RowsOk rows) (top : Str) (h : Bool) (k u U : Str → Rat) (hU : ∀ r ∈ rows, U r.name = if kidsOf rows (Sum.inr r.name) = [] then u r.name else sumQ ((kidsOf rows (Sum.inr r.name)).map U)) :
    ∃ p, Reck rows top h k u U (fun n => if k n < U n then k n else U n) p := by
  obtain ⟨p, hp⟩ := ex_up ok fun r a => if r.above = top then (if k r.name < U r.name then k r.name else U r.name) else partQ h a (U r.above) (sumQ ((kidsOf rows (Sum.inr r.above)).map fun n => if k n < U n then k n else U n)) U (fun n => if k n < U n then k n else U n) r.name
  exact ⟨p, hU, fun r hr => rfl, fun r hr => hp r hr⟩
section
variable {rows : List RowM} {top : Str} {h : Bool} {k u U c p : Str → Rat}
theorem of_mono {M : Nat} (M0 : 0 < M) {q : Rat} (hq : Drawn q) (hM : M = 2520) : Of M q := hM ▸ den_of hq.2.2 (by decide)
theorem kid_ix (ok : RowsOk rows) {j : Nat} {r : RowM} (hj : rows[j]? = some r) {x : Str} (hx : x ∈ kidsOf rows (Sum.inr r.name)) : ∃ m z, rows[m]? = some z ∧ z.name = x ∧ z.above = r.name ∧ j < m := by
  obtain ⟨m, z, hm, hz, ha⟩ := kid_row hx
  refine ⟨m, z, hm, hz, ha, ?_⟩
  rcases row_up ok hm with e | ⟨l, y, hl, hy, e⟩
  · exact absurd (ha.symm.trans e) (row_ne ok hj)
  · have := row_inj (nms_nd ok) hy hj (e.trans ha)
    omega
/-- how great uses grow -/
theorem Reck.uz (R : Reck rows top h k u U c p) (ok : RowsOk rows) (len : rows.length ≤ 12) (hu : ∀ n, Drawn (u n)) : ∀ r ∈ rows, InMS 2520 (10 ^ 13 * 12 ^ 12) (U r.name) := by
  have key : ∀ i, ∀ j r, rows[j]? = some r → rows.length ≤ j + i → InMS 2520 (10 ^ 13 * 12 ^ i) (U r.name) := by
    intro i
    induction i with
    | zero =>
      intro j r hj hl
      have := (List.getElem?_eq_some_iff.mp hj).1
      omega
    | succ i ih =>
      intro j r hj hl
      rw [R.use r (List.mem_of_getElem? hj)]
      split
      · exact (hu _).ms.up (Nat.dvd_refl _) (Nat.le_mul_of_pos_right _ (Nat.pow_pos (by decide)))
      · have kin : ∀ x ∈ kidsOf rows (Sum.inr r.name), InMS 2520 (10 ^ 13 * 12 ^ i) (U x) := fun x hx => by
          obtain ⟨m, z, hm, rfl, _, hlt⟩ := kid_ix ok hj hx
          exact ih m z hm (by omega)
        have h1 : Of 2520 (sumQ ((kidsOf rows (Sum.inr r.name)).map U)) := sum_of (by decide) of_zero fun q hq => by
          obtain ⟨x, hx, rfl⟩ := List.mem_map.mp hq
          exact (kin x hx).of (by decide)
        have h2 := sum_bd (S := 10 ^ 13 * 12 ^ i) (qs := (kidsOf rows (Sum.inr r.name)).map U) (s := 0) (k := 0) Rat.le_refl (by simp) fun q hq => by
          obtain ⟨x, hx, rfl⟩ := List.mem_map.mp hq
          exact ⟨(kin x hx).lo, (kin x hx).hi⟩
        refine ⟨of_den (by decide) h1, h2.1, Rat.le_trans h2.2 ?_⟩
        have hk := kids_le rows (Sum.inr r.name)
        have : 10 ^ 13 * 12 ^ i * (0 + ((kidsOf rows (Sum.inr r.name)).map U).length) ≤ 10 ^ 13 * 12 ^ (i + 1) := by
          show 10 ^ 13 * 12 ^ i * _ ≤ 10 ^ 13 * (12 ^ i * 12)
          rw [← Nat.mul_assoc, List.length_map]
          exact Nat.mul_le_mul_left _ (by omega)
        exact_mod_cast this
  intro r hr
  obtain ⟨j, hj⟩ := List.mem_iff_getElem?.mp hr
  exact key 12 j r hj (by omega)
end
theorem S_lt : 10 ^ 13 * 12 ^ 12 < 2 ^ 87 := by decide
/-- what a child gets: within its use, and not too long -/
theorem part_bd {M S : Nat} {a un : Rat} {kids : List Str} {U c : Str → Rat} {h : Bool} (o : PartOk M S a un kids U c) (hM : M < 2 ^ 12) (hS : S < 2 ^ 87) (clu : sumQ (kids.map c) ≤ (S : Rat)) {x : Str} (hx : x ∈ kids) :
    0 ≤ partQ h a un (sumQ (kids.map c)) U c x ∧ partQ h a un (sumQ (kids.map c)) U c x ≤ U x ∧ (partQ h a un (sumQ (kids.map c)) U c x).den ≤ a.den * 2 ^ 123 := by
  have hc := o.kc x hx
  have hU := o.ku x hx
  have cu := o.cu x hx
  have clin : InMS M S (sumQ (kids.map c)) := ⟨o.cl.den, o.cl.lo, clu⟩
  have cd : ∀ {q : Rat}, InMS M S q → q.den < 2 ^ 12 := fun h => Nat.lt_of_le_of_lt (h.denle o.M0) hM
  have cn : ∀ {q : Rat}, InMS M S q → q.num.natAbs < 2 ^ 99 := fun h => h.nlt o.M0 hM hS
  have one : ∀ {q : Rat}, q.den < 2 ^ 12 → q.den ≤ a.den * 2 ^ 123 := fun {q} h => by
    have := Nat.le_mul_of_pos_left (2 ^ 123) a.den_pos
    have : (2 : Nat) ^ 12 ≤ 2 ^ 123 := Nat.pow_le_pow_right (by decide) (by decide)
    omega
  unfold partQ
  by_cases l : a < sumQ (kids.map c)
  · rw [if_pos l]
    have lp := o.clp l
    have r0 : 0 ≤ a / sumQ (kids.map c) := by
      rw [Rat.div_def]
      exact Rat.mul_nonneg o.a0 (Rat.le_of_lt (Rat.inv_pos.mpr lp))
    have r1 : a / sumQ (kids.map c) ≤ 1 := by
      rw [Rat.div_def]
      have := Rat.mul_le_mul_of_nonneg_right (Rat.le_of_lt l) (Rat.le_of_lt (Rat.inv_pos.mpr lp))
      rwa [Rat.mul_inv_cancel _ (fun e => by rw [e] at lp; exact absurd lp (by decide))] at this
    have m1 := Rat.mul_le_mul_of_nonneg_left r1 hc.lo
    rw [Rat.mul_one] at m1
    refine ⟨Rat.mul_nonneg hc.lo r0, Rat.le_trans m1 cu, ?_⟩
    obtain ⟨q1, q2⟩ := quot_sz o.a0 lp
    have e1 : (c x * (a / sumQ (kids.map c))).den ∣ M * (a / sumQ (kids.map c)).den := of_den (Nat.mul_pos o.M0 (Rat.den_pos _)) ((hc.of o.M0).mul (den_of (Nat.dvd_refl _) (Rat.den_pos _)))
    have e2 := Nat.le_of_dvd (Nat.mul_pos o.M0 (Rat.den_pos _)) e1
    refine Nat.le_trans e2 (Nat.le_trans (Nat.mul_le_mul (Nat.le_of_lt hM) (Nat.le_trans q2 (Nat.mul_le_mul_left _ (Nat.le_of_lt (cn clin))))) ?_)
    have : 2 ^ 12 * (a.den * 2 ^ 99) = a.den * 2 ^ 111 := by
      rw [Nat.mul_left_comm, ← Nat.pow_add]
    rw [this]
    exact Nat.mul_le_mul_left _ (Nat.pow_le_pow_right (by decide) (by decide))
  · rw [if_neg l]
    by_cases g : h = true ∧ sumQ (kids.map c) < un
    · rw [if_pos g]
      obtain ⟨r0, r1, _, _⟩ := o.rr l g.2
      have d1 := o.d1 l
      have d2 := o.d2 g.2
      have p1 : 0 ≤ a - sumQ (kids.map c) := d1.lo
      have p2 : 0 < un - sumQ (kids.map c) := by have := g.2; grind
      obtain ⟨q1, q2⟩ := quot_sz p1 p2
      generalize hr : (a - sumQ (kids.map c)) / (un - sumQ (kids.map c)) = r at r0 r1 q1 q2 ⊢
      have b := o.beyond hx
      have m1 := Rat.mul_le_mul_of_nonneg_left r1 b.lo
      rw [Rat.mul_one] at m1
      have m0 := Rat.mul_nonneg b.lo r0
      have c0 := hc.lo
      refine ⟨by grind, by grind, ?_⟩
      have pm : 0 < M * r.den := Nat.mul_pos o.M0 r.den_pos
      have e1 : Of (M * r.den) ((U x - c x) * r) := (b.of o.M0).mul (den_of (Nat.dvd_refl _) r.den_pos)
      have e2 : Of (M * r.den) (c x) := (hc.of o.M0).up _ r.den_pos
      have e3 := Nat.le_of_dvd pm (of_den pm (e2.add pm e1))
      have e4 : r.den ≤ (a.den * 2 ^ 12) * 2 ^ 99 := Nat.le_trans q2 (Nat.mul_le_mul (Nat.le_trans (d1.denle o.m1.1) (Nat.mul_le_mul_left _ (Nat.le_of_lt hM))) (Nat.le_of_lt (cn d2)))
      refine Nat.le_trans e3 (Nat.le_trans (Nat.mul_le_mul (Nat.le_of_lt hM) e4) ?_)
      have : 2 ^ 12 * (a.den * 2 ^ 12 * 2 ^ 99) = a.den * 2 ^ 123 := by
        rw [Nat.mul_assoc, ← Nat.pow_add, Nat.mul_left_comm, ← Nat.pow_add]
      rw [this]
      exact Nat.le_refl _
    · rw [if_neg g]
      exact ⟨hc.lo, cu, one (cd hc)⟩
/-- a top is not below itself -/
theorem top_nin {rows : List RowM} (ok : RowsOk rows) (top : Str) : top ∉ belowL rows top := fun hn => by
  obtain ⟨r0, hr0, e0⟩ := List.mem_map.mp (below_nms hn)
  obtain ⟨i0, hi0⟩ := List.mem_iff_getElem?.mp hr0
  -- rows below stand behind the top
  have key : ∀ (j : Nat) (x : Str), (belowL rows top)[j]? = some x → ∀ (i : Nat) (r : RowM), rows[i]? = some r → r.name = x → i0 < i := by
    intro j
    induction j using Nat.strongRecOn with
    | ind j ih =>
      intro x hx i r hi e
      obtain ⟨r', hr', en, hup⟩ := below_up ok hx
      have : r' = r := by
        obtain ⟨i', hi'⟩ := List.mem_iff_getElem?.mp hr'
        have := row_inj (nms_nd ok) hi' hi (en.trans e.symm)
        subst this
        rw [hi] at hi'
        exact (Option.some.inj hi').symm
      subst this
      rcases hup with z | z
      · rcases row_up ok hi with a | ⟨m, y, hm, hy, a⟩
        · exact absurd (e0.trans (z.symm.trans a)) (row_ne ok hi0)
        · have := row_inj (nms_nd ok) hy hi0 (a.trans (z.trans e0.symm))
          omega
      · obtain ⟨l, hl⟩ := List.mem_iff_getElem?.mp z
        have ll := (List.getElem?_eq_some_iff.mp hl).1
        rw [List.length_take] at ll
        rw [List.getElem?_take_of_lt (by omega)] at hl
        rcases row_up ok hi with a | ⟨m, y, hm, hy, a⟩
        · have := below_nms (List.mem_of_getElem? hl)
          rw [a] at this
          exact absurd this (nms_ne ok)
        · have := ih l (by omega) _ hl m y hy a
          omega
  obtain ⟨j, hj⟩ := List.mem_iff_getElem?.mp hn
  have := key j top hj i0 r0 hi0 e0
  omega
section
variable {rows : List RowM} {top : Str} {h : Bool} {k u U c p : Str → Rat}
theorem Reck.cz (R : Reck rows top h k u U c p) (ok : RowsOk rows) (len : rows.length ≤ 12) (hu : ∀ n, Drawn (u n)) (hk : ∀ n, Drawn (k n)) {r : RowM} (hr : r ∈ rows) : InMS 2520 (10 ^ 13 * 12 ^ 12) (c r.name) ∧ c r.name ≤ U r.name := by
  have h1 := R.uz ok len hu r hr
  have h2 : InMS 2520 (10 ^ 13 * 12 ^ 12) (k r.name) := (hk _).ms.up (Nat.dvd_refl _) (Nat.le_mul_of_pos_right _ (Nat.pow_pos (by decide)))
  rw [R.cl r hr]
  split
  · rename_i z
    exact ⟨h2, Rat.le_of_lt z⟩
  · exact ⟨h1, Rat.le_refl⟩
theorem sum_le {ks : List Str} {f g : Str → Rat} (h : ∀ x ∈ ks, f x ≤ g x) : sumQ (ks.map f) ≤ sumQ (ks.map g) := by
  have key : ∀ (ks : List Str) (a b : Rat), a ≤ b → (∀ x ∈ ks, f x ≤ g x) → (ks.map f).foldl (· + ·) a ≤ (ks.map g).foldl (· + ·) b := by
    intro ks
    induction ks with
    | nil => exact fun a b hab _ => hab
    | cons x r ih =>
      intro a b hab hx
      rw [List.map_cons, List.map_cons, List.foldl_cons, List.foldl_cons]
      exact ih _ _ (by have := hx x List.mem_cons_self; grind) fun y hy => hx y (List.mem_cons_of_mem _ hy)
  exact key ks 0 0 Rat.le_refl h
/-- sums of claims are within the use -/
theorem Reck.clu (R : Reck rows top h k u U c p) (ok : RowsOk rows) (len : rows.length ≤ 12) (hu : ∀ n, Drawn (u n)) (hk : ∀ n, Drawn (k n)) {r : RowM} (hr : r ∈ rows) {x : Str} (hx : x ∈ kidsOf rows (Sum.inr r.name)) : sumQ ((kidsOf rows (Sum.inr r.name)).map c) ≤ U r.name := by
  rw [R.use r hr, if_neg (fun e => by rw [e] at hx; cases hx)]
  exact sum_le fun y hy => by
    obtain ⟨m, z, hm, rfl, _⟩ := kid_row hy
    exact (R.cz ok len hu hk (List.mem_of_getElem? hm)).2
theorem Reck.po (R : Reck rows top h k u U c p) (ok : RowsOk rows) (len : rows.length ≤ 12) (hu : ∀ n, Drawn (u n)) (hk : ∀ n, Drawn (k n)) {r : RowM} (hr : r ∈ rows) (p0 : 0 ≤ p r.name) (p1 : p r.name ≤ U r.name) (p2 : (p r.name).den < 2 ^ 1500) : PartOk 2520 (10 ^ 13 * 12 ^ 12) (p r.name) (U r.name) (kidsOf rows (Sum.inr r.name)) U c := by
  have kr : ∀ x ∈ kidsOf rows (Sum.inr r.name), ∃ q ∈ rows, q.name = x := fun x hx => by
    obtain ⟨m, z, hm, e, _⟩ := kid_row hx
    exact ⟨z, List.mem_of_getElem? hm, e⟩
  refine ⟨by decide, by decide, lt_up S_lt (by decide), Nat.le_trans (kids_le rows _) (by omega), fun x hx => ?_, fun x hx => ?_, fun x hx => ?_, R.uz ok len hu r hr, p0, p1, p2⟩
  · obtain ⟨q, hq, rfl⟩ := kr x hx
    exact R.uz ok len hu q hq
  · obtain ⟨q, hq, rfl⟩ := kr x hx
    exact (R.cz ok len hu hk hq).1
  · obtain ⟨q, hq, rfl⟩ := kr x hx
    exact (R.cz ok len hu hk hq).2
theorem Reck.pz (R : Reck rows top h k u U c p) (ok : RowsOk rows) (len : rows.length ≤ 12) (hu : ∀ n, Drawn (u n)) (hk : ∀ n, Drawn (k n)) (htop : top ∉ nms rows ∨ True) : ∀ j r, rows[j]? = some r → r.name ∈ belowL rows top → 0 ≤ p r.name ∧ p r.name ≤ U r.name ∧ (p r.name).den ≤ 2 ^ (123 * (j + 1)) := by
  intro j
  induction j using Nat.strongRecOn with
  | ind j ih =>
    intro r hj hb
    have hr := List.mem_of_getElem? hj
    have lj := (List.getElem?_eq_some_iff.mp hj).1
    obtain ⟨hc, cu⟩ := R.cz ok len hu hk hr
    rw [R.up r hr]
    by_cases e : r.above = top
    · rw [if_pos e]
      refine ⟨hc.lo, cu, Nat.le_trans (hc.denle (by decide)) ?_⟩
      exact Nat.le_trans (show 2520 ≤ 2 ^ 123 by decide) (Nat.pow_le_pow_right (by decide) (by omega))
    · rw [if_neg e]
      obtain ⟨l, hl⟩ := List.mem_iff_getElem?.mp hb
      obtain ⟨r', hr', en, hup⟩ := below_up ok hl
      have : r' = r := by
        obtain ⟨j', hj'⟩ := List.mem_iff_getElem?.mp hr'
        have := row_inj (nms_nd ok) hj' hj en
        subst this
        rw [hj] at hj'
        exact (Option.some.inj hj').symm
      subst this
      have hab : r'.above ∈ belowL rows top := List.mem_of_mem_take (hup.resolve_left e)
      rcases row_up ok hj with z | ⟨m, y, hm, hy, z⟩
      · have := below_nms hab
        rw [z] at this
        exact absurd this (nms_ne ok)
      · obtain ⟨q0, q1, q2⟩ := ih m hm y hy (by rw [z]; exact hab)
        have hym := List.mem_of_getElem? hy
        have bl : (p y.name).den < 2 ^ 1500 := by
          have := (List.getElem?_eq_some_iff.mp hy).1
          exact Nat.lt_of_le_of_lt q2 (Nat.pow_lt_pow_right (by decide) (by omega))
        have kx : r'.name ∈ kidsOf rows (Sum.inr y.name) := by rw [z]; exact kid_of hr
        have po := R.po ok len hu hk hym q0 q1 bl
        have := part_bd (h := h) po (by decide) S_lt (Rat.le_trans (R.clu ok len hu hk hym kx) (R.uz ok len hu y hym).hi) kx
        rw [← z]
        refine ⟨this.1, this.2.1, Nat.le_trans this.2.2 ?_⟩
        refine Nat.le_trans (Nat.mul_le_mul_right _ q2) ?_
        rw [← Nat.pow_add]
        exact Nat.pow_le_pow_right (by decide) (by omega)
/-- what a law reckons is what the program needs -/
theorem Reck.held (R : Reck rows top h k u U c p) (ok : RowsOk rows) (len : rows.length ≤ 12) (hu : ∀ n, Drawn (u n)) (hk : ∀ n, Drawn (k n)) : HeldOk rows top h k U c p 2520 (10 ^ 13 * 12 ^ 12) := by
  have row : ∀ {n : Str}, n ∈ nms rows → ∃ r ∈ rows, r.name = n := fun h => by
    obtain ⟨r, hr, e⟩ := List.mem_map.mp h
    exact ⟨r, hr, e⟩
  have pz : ∀ n ∈ belowL rows top, 0 ≤ p n ∧ p n ≤ U n ∧ (p n).den < 2 ^ 1500 := fun n hn => by
    obtain ⟨r, hr, rfl⟩ := row (below_nms hn)
    obtain ⟨j, hj⟩ := List.mem_iff_getElem?.mp hr
    obtain ⟨a, b, d⟩ := R.pz ok len hu hk (.inr trivial) j r hj hn
    have := (List.getElem?_eq_some_iff.mp hj).1
    exact ⟨a, b, Nat.lt_of_le_of_lt d (Nat.pow_lt_pow_right (by decide) (by omega))⟩
  refine ⟨by decide, by decide, lt_up S_lt (by decide), fun n hn => ?_, fun n hn => (hk n).ms.up (Nat.dvd_refl _) (Nat.le_mul_of_pos_right _ (Nat.pow_pos (by decide))), fun n hn hk0 => ?_, fun n hn => ?_, fun n hn => ?_, fun n hn x hx => ?_, pz⟩
  · obtain ⟨r, hr, rfl⟩ := row (below_nms hn)
    exact R.uz ok len hu r hr
  · obtain ⟨r, hr, rfl⟩ := row (below_nms hn)
    rw [R.use r hr, if_neg hk0]
  · obtain ⟨r, hr, rfl⟩ := row (below_nms hn)
    exact R.cl r hr
  · obtain ⟨m, z, hm, rfl, ha⟩ := kid_row hn
    rw [R.up z (List.mem_of_getElem? hm), if_pos ha]
  · obtain ⟨m, z, hm, rfl, ha⟩ := kid_row hx
    have hz := List.mem_of_getElem? hm
    have ne : z.above ≠ top := fun e => by
      -- the top is not below itself
      rw [ha] at e
      subst e
      exact top_nin ok n hn
    rw [R.up z hz, if_neg ne, ha]
end
end Bd
end

section
namespace Bd
open PySem L2 PySem.Spec PyProof.Rows
/-! dicts of data that differ, set(t) of a tuple of ints -/
section
variable {X : Cx} {pins : List (Addr × Obj)} {σ : L2.St} {H : Hp} {s : Shared}
theorem eqF0 (I : Inv X pins σ H s) {A : Around} (hu : A.units + 65 < cLine) {x y : V} {v u : Value} {r : Bool} (h : EqF X.K H 0 x y r) (rx : RelV x v) (ry : RelV y u) : SeqAt.EqAt A s v u r := by
  obtain ⟨d, e, hd, he, sd, se, rfl⟩ := h
  obtain ⟨as, r1⟩ := Dp.reads I d x v hd rx
  obtain ⟨bs, r2⟩ := Dp.reads I e y u he ry
  exact SeqAt.eqAt_reads d e A s v u as bs r1 r2 (SeqAt.canLay_of_shaped sd) (SeqAt.canLay_of_shaped se) (SeqAt.room_of_shaped sd (by omega))
theorem hits_run0 (I : Inv X pins σ H s) {A : Around} (hu : A.units + 65 < cLine) {ls : List (Key × V)} {vb : List (Key × Value)} (rb : KV ls vb) {ks : List (Key × V)} {b : Bool} (h : HitsV (EqF X.K H 0) ls ks b) :
    ∀ {va : List (Key × Value)}, KV ks va → PySem.W.KeqHits A s vb va b := by
  induction h with
  | nil => intro va ra; cases ra; exact .nil
  | @miss k v r hn =>
    intro va ra
    match va, ra with
    | (k2, v2) :: t2, .cons ⟨e1, e2⟩ t =>
      have e1 : k = k2 := e1
      subst e1
      have rr := rb.val k
      rw [hn] at rr
      refine .miss ?_
      cases z : valueAt vb k with
      | none => rfl
      | some y => rw [z] at rr; exact (show False from rr).elim
  | @hit k v y r e b hy hf hr ih =>
    intro va ra
    match va, ra with
    | (k2, v2) :: t2, .cons ⟨e1, e2⟩ t =>
      have e1 : k = k2 := e1
      subst e1
      have rr := rb.val k
      rw [hy] at rr
      obtain ⟨z, hz, rz⟩ := rr.some_of
      exact .hit hz (eqF0 I hu hf e2 rz) (ih t)
def rNeDk (K : PySem.W.Frag) : R2 := fun x y H Q => ∃ (a b : Addr) (ks ls : List (Key × V)) (q : Bool), x = .ref a ∧ y = .ref b ∧ H a = some (.dK ks) ∧ H b = some (.dK ls) ∧ (ks.length = ls.length → HitsV (EqF K H 0) ls ks q) ∧ Q (.bl (!(ks.length == ls.length && q))) H
end
section
variable {X : Cx}
theorem op_neDk (hu : X.A.units + 100 < cLine) : OpR X (compareOp .NotEq) (rNeDk X.K) := by
  intro pins s σ H x y v u Q I rx ry h
  obtain ⟨a, b, ks, ls, q, rfl, rfl, ha, hb, hits, hq⟩ := h
  cases (show v = Value.ref a from rx)
  cases (show u = Value.ref b from ry)
  obtain ⟨_, ya, va, ra, da⟩ := (show ObjOk X.prog X.w H s.heap a (.dK ks) from I.hok a _ ha)
  obtain ⟨_, yb, vb, rb, db⟩ := (show ObjOk X.prog X.w H s.heap b (.dK ls) from I.hok b _ hb)
  refine PySem.W.keq_ne (knd := mixKind X.prog X.w) (r := q) ya yb da db (by omega) (fun hl => hits_run0 I (A := X.A.in1) (by show X.A.units + 1 + 65 < cLine; omega) rb (hits (by rw [ra.length, rb.length]; exact hl)) ra) ?_
  rw [← ra.length, ← rb.length]
  exact ⟨.bl _, H, I, rfl, hq⟩
end
end Bd
end

section
namespace Bd
open PySem L2 Am
/-! ### groups within one another -/
theorem menu_ok : ∀ x ∈ menu, NameOk x := by
  intro x hx
  have h : (menu.all fun x => decide (1 ≤ x.length) && decide (x.length ≤ 10) && x.cps.toList.all fun c => decide (97 ≤ c) && decide (c ≤ 122)) = true := by decide +kernel
  have := List.all_eq_true.mp h x hx
  simp only [Bool.and_eq_true, decide_eq_true_eq, List.all_eq_true] at this
  exact ⟨this.1.1, this.1.2, this.2⟩
def amtD (q : Rat) : PyData := .tuple [.int q.num, .int (q.den : Int)]
def chainM : Str → List Str → List Rat → List RowM
  | ab, n :: ns, s :: ss => ⟨n, ab, [("min", amtD s)]⟩ :: chainM n ns ss
  | _, _, _ => []
def crown (ns : List Str) (b : Nat) : Str := if b = 0 then "" else (ns[b - 1]?).getD ""
theorem chain_get : ∀ {ab : Str} {ns : List Str} {ss : List Rat} {i : Nat} {r : RowM}, (chainM ab ns ss)[i]? = some r → ∃ n s, ns[i]? = some n ∧ ss[i]? = some s ∧ r = ⟨n, if i = 0 then ab else (ns[i - 1]?).getD "", [("min", amtD s)]⟩
  | ab, [], ss, i, r, h => by simp [chainM] at h
  | ab, n :: ns, [], i, r, h => by simp [chainM] at h
  | ab, n :: ns, s :: ss, 0, r, h => by
    simp only [chainM, List.getElem?_cons_zero, Option.some.injEq] at h
    exact ⟨n, s, rfl, rfl, h.symm⟩
  | ab, n :: ns, s :: ss, i + 1, r, h => by
    simp only [chainM, List.getElem?_cons_succ] at h
    obtain ⟨m, t, h1, h2, h3⟩ := chain_get h
    refine ⟨m, t, by simpa using h1, by simpa using h2, ?_⟩
    rw [h3]
    cases i with
    | zero => rfl
    | succ i => simp
theorem chain_len : ∀ {ab : Str} {ns : List Str} {ss : List Rat}, ns.length = ss.length → (chainM ab ns ss).length = ns.length
  | ab, [], [], _ => rfl
  | ab, n :: ns, s :: ss, h => by
    simp only [chainM, List.length_cons]
    rw [chain_len (by simpa using h)]
theorem chain_nms : ∀ {ab : Str} {ns : List Str} {ss : List Rat}, ns.length = ss.length → nms (chainM ab ns ss) = ns
  | ab, [], [], _ => rfl
  | ab, n :: ns, s :: ss, h => by
    show n :: nms (chainM n ns ss) = n :: ns
    rw [chain_nms (by simpa using h)]
theorem amt_dok {s : Rat} (hs : Drawn s) : DuesOk [("min", amtD s)] := by
  obtain ⟨z1, z2⟩ := hs.sz
  refine ⟨by simp, fun du hdu => ?_⟩
  rw [List.mem_singleton.mp hdu]
  refine ⟨show ("min" : Str) ∈ leftW by decide +kernel, ?_⟩
  show ValOk "min" (.tuple [.int s.num, .int (s.den : Int)])
  have := nat_num hs.1
  rw [this]
  exact .amt (by decide +kernel) z1 s.den_pos z2 s.reduced
theorem chain_at {ab : Str} {ns : List Str} {ss : List Rat} (hl : ns.length = ss.length) {i : Nat} (hi : i < ns.length) : ∃ r s, (chainM ab ns ss)[i]? = some r ∧ ss[i]? = some s ∧ r = ⟨ns[i], if i = 0 then ab else (ns[i - 1]?).getD "", [("min", amtD s)]⟩ := by
  have h : (chainM ab ns ss)[i]? = some ((chainM ab ns ss)[i]'(by rw [chain_len hl]; exact hi)) := List.getElem?_eq_getElem _
  obtain ⟨n, s, h1, h2, h3⟩ := chain_get h
  rw [List.getElem?_eq_getElem hi] at h1
  cases h1
  exact ⟨_, s, h, h2, h3⟩
structure ChainOk (ns : List Str) (ss : List Rat) : Prop where
  len : ns.length = ss.length
  nd : ns.Nodup
  mem : ∀ x ∈ ns, x ∈ menu
  dr : ∀ s ∈ ss, Drawn s
  sz : ns.length ≤ 12
section
variable {ns : List Str} {ss : List Rat}
theorem menu_ne {x : Str} (h : x ∈ menu) : x ≠ "" := fun e => by
  rw [e] at h
  exact absurd h (by decide +kernel)
theorem ChainOk.ix (h : ChainOk ns ss) {i j : Nat} {x : Str} (h1 : ns[i]? = some x) (h2 : ns[j]? = some x) : i = j := by
  obtain ⟨l1, e1⟩ := List.getElem?_eq_some_iff.mp h1
  obtain ⟨l2, e2⟩ := List.getElem?_eq_some_iff.mp h2
  exact (List.getElem_inj h.nd (h₀ := l1) (h₁ := l2)).mp (e1.trans e2.symm)
theorem crown_get {b : Nat} (hb : 0 < b) (hl : b ≤ ns.length) : ns[b - 1]? = some (crown ns b) := by
  unfold crown
  rw [if_neg (by omega), List.getElem?_eq_getElem (by omega)]
  rfl
theorem ChainOk.crown_inj (h : ChainOk ns ss) {i j : Nat} (hi : i ≤ ns.length) (hj : j ≤ ns.length) (e : crown ns i = crown ns j) : i = j := by
  have key : ∀ {i : Nat}, 0 < i → i ≤ ns.length → crown ns i ≠ "" := fun {i} h1 h2 => menu_ne (h.mem _ (List.mem_of_getElem? (crown_get h1 h2)))
  by_cases a : i = 0 <;> by_cases b : j = 0
  · omega
  · subst a
    exact absurd e.symm (key (by omega) hj)
  · subst b
    exact absurd e (key (by omega) hi)
  · have h1 := crown_get (ns := ns) (b := i) (by omega) hi
    have h2 := crown_get (ns := ns) (b := j) (by omega) hj
    rw [← e] at h2
    have := h.ix h1 h2
    omega
theorem ChainOk.ok (h : ChainOk ns ss) : RowsOk (chainM "" ns ss) := by
  intro i r hr
  obtain ⟨n, s, h1, h2, rfl⟩ := chain_get hr
  have hi := (List.getElem?_eq_some_iff.mp h1).1
  refine ⟨menu_ok _ (h.mem _ (List.mem_of_getElem? h1)), amt_dok (h.dr _ (List.mem_of_getElem? h2)), fun q hq => ?_, ?_⟩
  · obtain ⟨j, hj⟩ := List.mem_iff_getElem?.mp hq
    have lj : j < i := by
      have := (List.getElem?_eq_some_iff.mp hj).1
      rw [List.length_take] at this
      omega
    rw [List.getElem?_take_of_lt lj] at hj
    obtain ⟨m, t, z1, z2, rfl⟩ := chain_get hj
    intro e
    have e : m = n := e
    subst e
    have := h.ix z1 h1
    omega
  · by_cases a : i = 0
    · exact .inl (if_pos a)
    · right
      obtain ⟨q, s', q1, q2, q3⟩ := chain_at (ab := "") h.len (i := i - 1) (by omega)
      refine ⟨q, ?_, ?_, ?_⟩
      · refine List.mem_iff_getElem?.mpr ⟨i - 1, ?_⟩
        rw [List.getElem?_take_of_lt (by omega)]
        exact q1
      · rw [q3]
        show ns[i - 1] = if i = 0 then ("" : Str) else (ns[i - 1]?).getD ""
        rw [if_neg a, List.getElem?_eq_getElem (by omega)]
        rfl
      · rw [q3]
        rfl
theorem row_crown {i : Nat} {r : RowM} (h : (chainM "" ns ss)[i]? = some r) : r.above = crown ns i := by
  obtain ⟨n, s, h1, h2, rfl⟩ := chain_get h
  rfl
theorem ChainOk.below_take (h : ChainOk ns ss) {b : Nat} (hb : b ≤ ns.length) : ∀ i, i ≤ ns.length → ((chainM "" ns ss).take i).foldl (bStep (crown ns b)) [] = (ns.take i).drop b := by
  intro i
  induction i with
  | zero => intro _; simp
  | succ i ih =>
    intro hi
    obtain ⟨r, s, h1, h2, h3⟩ := chain_at (ab := "") h.len (i := i) (by omega)
    have hc := row_crown h1
    have hn : r.name = ns[i] := by rw [h3]
    rw [List.take_add_one, h1, Option.toList_some, List.foldl_append, ih (by omega)]
    show bStep (crown ns b) ((ns.take i).drop b) r = _
    have lt : (ns.take i).length = i := by rw [List.length_take]; omega
    have et : ns.take (i + 1) = ns.take i ++ [ns[i]] := by
      rw [List.take_add_one, List.getElem?_eq_getElem (by omega)]
      rfl
    rw [et]
    unfold bStep
    by_cases c : b ≤ i
    · rw [List.drop_append_of_le_length (by omega), if_pos ?_, hn]
      rw [hc]
      by_cases e : i = b
      · exact .inl (by rw [e])
      · right
        have hg := crown_get (ns := ns) (b := i) (by omega) (by omega)
        refine List.mem_iff_getElem?.mpr ⟨i - 1 - b, ?_⟩
        rw [List.getElem?_drop, List.getElem?_take_of_lt (by omega)]
        have : b + (i - 1 - b) = i - 1 := by omega
        rw [this]
        exact hg
    · have e1 : (ns.take i).drop b = [] := List.drop_eq_nil_of_le (by omega)
      have e2 : (ns.take i ++ [ns[i]]).drop b = [] := List.drop_eq_nil_of_le (by rw [List.length_append, lt, List.length_singleton]; omega)
      rw [e1, e2, if_neg]
      rintro (z | z)
      · rw [hc] at z
        have := h.crown_inj (by omega) hb z
        omega
      · cases z
theorem ChainOk.below (h : ChainOk ns ss) {b : Nat} (hb : b ≤ ns.length) : belowL (chainM "" ns ss) (crown ns b) = ns.drop b := by
  have := h.below_take hb ns.length (Nat.le_refl _)
  rw [List.take_length, ← chain_len (ab := "") h.len, List.take_length] at this
  exact this
theorem ChainOk.kids_take (h : ChainOk ns ss) {b : Nat} (hb : b ≤ ns.length) : ∀ i, i ≤ ns.length → (((chainM "" ns ss).take i).filter fun r => decide (r.above = crown ns b)).map (·.name) = ((ns.take i).drop b).take 1 := by
  intro i
  induction i with
  | zero => intro _; simp
  | succ i ih =>
    intro hi
    obtain ⟨r, s, h1, h2, h3⟩ := chain_at (ab := "") h.len (i := i) (by omega)
    have hc := row_crown h1
    have hn : r.name = ns[i] := by rw [h3]
    rw [List.take_add_one, h1, Option.toList_some, List.filter_append, List.map_append, ih (by omega)]
    have lt : (ns.take i).length = i := by rw [List.length_take]; omega
    have et : ns.take (i + 1) = ns.take i ++ [ns[i]] := by
      rw [List.take_add_one, List.getElem?_eq_getElem (by omega)]
      rfl
    rw [et]
    by_cases e : i = b
    · have e0 : (ns.take i).drop b = [] := List.drop_eq_nil_of_le (by omega)
      rw [List.drop_append_of_le_length (by omega), e0, List.filter_cons_of_pos (by rw [hc, e]; exact decide_eq_true rfl)]
      show [r.name] = _
      rw [hn]
      rfl
    · rw [List.filter_cons_of_neg (by
        rw [hc, decide_eq_true_eq]
        exact fun z => e (h.crown_inj (by omega) hb z))]
      rw [List.filter_nil, List.map_nil, List.append_nil]
      by_cases c : b ≤ i
      · rw [List.drop_append_of_le_length (by omega)]
        have : 1 ≤ ((ns.take i).drop b).length := by rw [List.length_drop, lt]; omega
        rw [List.take_append_of_le_length this]
      · rw [List.drop_eq_nil_of_le (by omega), List.drop_eq_nil_of_le (by rw [List.length_append, lt, List.length_singleton]; omega)]
theorem ChainOk.kids (h : ChainOk ns ss) {b : Nat} (hb : b ≤ ns.length) : kidsOf (chainM "" ns ss) (Sum.inr (crown ns b)) = (ns.drop b).take 1 := by
  have := h.kids_take hb ns.length (Nat.le_refl _)
  rw [List.take_length, ← chain_len (ab := "") h.len, List.take_length] at this
  rw [kids_flt]
  exact this
theorem ChainOk.kidsAt (h : ChainOk ns ss) {i : Nat} {x : Str} (hx : ns[i]? = some x) : kidsOf (chainM "" ns ss) (Sum.inr x) = (ns.drop (i + 1)).take 1 := by
  have hi := (List.getElem?_eq_some_iff.mp hx).1
  have : crown ns (i + 1) = x := by
    have := crown_get (ns := ns) (b := i + 1) (by omega) (by omega)
    rw [Nat.add_sub_cancel, hx] at this
    exact (Option.some.inj this).symm
  rw [← this]
  exact h.kids (by omega)
end
/-! ### by place -/
def ofL : List Str → List Rat → Str → Rat
  | n :: ns, v :: vs, x => if x = n then v else ofL ns vs x
  | _, _, _ => 0
theorem ofL_get : ∀ {ns : List Str} {vs : List Rat} {i : Nat} {x : Str} {v : Rat}, ns.Nodup → ns[i]? = some x → vs[i]? = some v → ofL ns vs x = v
  | [], _, i, x, v, _, h, _ => by simp at h
  | n :: ns, [], i, x, v, _, _, h => by simp at h
  | n :: ns, w :: vs, 0, x, v, _, h1, h2 => by
    simp only [List.getElem?_cons_zero, Option.some.injEq] at h1 h2
    subst h1 h2
    exact if_pos rfl
  | n :: ns, w :: vs, i + 1, x, v, nd, h1, h2 => by
    simp only [List.getElem?_cons_succ] at h1 h2
    obtain ⟨a, b⟩ := List.nodup_cons.mp nd
    show (if x = n then w else ofL ns vs x) = v
    rw [if_neg fun e : x = n => a (by rw [← e]; exact List.mem_of_getElem? h1)]
    exact ofL_get b h1 h2
/-- the lesser of two, as the law takes it -/
def leastR (a b : Rat) : Rat := if a < b then a else b
/-- what is protected, from the child of the top down -/
def runL (h first : Bool) (v : Rat) : List Rat → List Rat
  | [] => []
  | s :: r => (if (!h || first) = true then leastR v s else v) :: runL h false (if (!h || first) = true then leastR v s else v) r
theorem run_len {h : Bool} : ∀ {f : Bool} {v : Rat} {ss : List Rat}, (runL h f v ss).length = ss.length
  | _, _, [] => rfl
  | f, v, s :: ss => by
    show _ + 1 = _ + 1
    rw [run_len]
theorem run_zero {h : Bool} {v s : Rat} {r : List Rat} : (runL h true v (s :: r))[0]? = some (leastR v s) := by
  show some (if (!h || true) = true then leastR v s else v) = _
  rw [Bool.or_true, if_pos rfl]
theorem run_head {h f : Bool} {v s : Rat} {r : List Rat} : (runL h f v (s :: r))[0]? = some (if (!h || f) = true then leastR v s else v) := rfl
theorem run_succ {h : Bool} : ∀ {ss : List Rat} {f : Bool} {v : Rat} {j : Nat} {a s : Rat}, (runL h f v ss)[j]? = some a → ss[j + 1]? = some s → (runL h f v ss)[j + 1]? = some (if h = true then a else leastR a s)
  | [], f, v, j, a, s, _, h2 => by simp at h2
  | t :: ss, f, v, 0, a, s, h1, h2 => by
    have g1 : (if (!h || f) = true then leastR v t else v) = a := Option.some.inj h1
    clear h1
    cases ss with
    | nil => simp at h2
    | cons z ss =>
      have h2 : z = s := by simpa using h2
      subst h2
      show (runL h false (if (!h || f) = true then leastR v t else v) (z :: ss))[0]? = _
      rw [g1, run_head]
      cases h <;> rfl
  | t :: ss, f, v, j + 1, a, s, h1, h2 => by
    show (runL h false (if (!h || f) = true then leastR v t else v) ss)[j + 1]? = _
    exact run_succ h1 (by simpa using h2)
theorem least_bd {a b : Rat} (ha : Drawn a) (hb : Drawn b) : Drawn (leastR a b) ∧ leastR a b ≤ a ∧ leastR a b ≤ b := by
  unfold leastR
  split
  · rename_i c
    exact ⟨ha, Rat.le_refl, Rat.le_of_lt c⟩
  · rename_i c
    exact ⟨hb, Rat.not_lt.mp c, Rat.le_refl⟩
theorem run_bd {h : Bool} : ∀ {ss : List Rat} {f : Bool} {v a : Rat}, Drawn v → (∀ s ∈ ss, Drawn s) → a ∈ runL h f v ss → Drawn a ∧ a ≤ v
  | [], f, v, a, _, _, m => by cases m
  | t :: ss, f, v, a, hv, hs, m => by
    have hw : Drawn (if (!h || f) = true then leastR v t else v) ∧ (if (!h || f) = true then leastR v t else v) ≤ v := by
      split
      · exact ⟨(least_bd hv (hs t List.mem_cons_self)).1, (least_bd hv (hs t List.mem_cons_self)).2.1⟩
      · exact ⟨hv, Rat.le_refl⟩
    rcases List.mem_cons.mp m with e | m
    · rw [e]
      exact hw
    · obtain ⟨z1, z2⟩ := run_bd hw.1 (fun s h => hs s (List.mem_cons_of_mem _ h)) m
      exact ⟨z1, Rat.le_trans z2 hw.2⟩
theorem sum_one (a : Rat) : sumQ [a] = a := by
  show 0 + a = a
  rw [Rat.zero_add]
/-- one child: what is parted -/
theorem part_one {h : Bool} {a u s : Rat} (a0 : 0 ≤ a) (au : a ≤ u) (s0 : 0 ≤ s) {U c : Str → Rat} {x : Str} (hU : U x = u) (hc : c x = if s < u then s else u) : partQ h a u (c x) U c x = if h = true then a else leastR a s := by
  unfold partQ leastR
  rw [hU]
  have cu : c x ≤ u := by rw [hc]; split <;> grind
  have cs : c x ≤ s := by rw [hc]; split <;> grind
  have c0 : 0 ≤ c x := by rw [hc]; split <;> grind
  by_cases l : a < c x
  · have ne : c x ≠ 0 := by grind
    rw [if_pos l, Rat.div_def, Rat.mul_comm a, ← Rat.mul_assoc, Rat.mul_inv_cancel _ ne, Rat.one_mul]
    split
    · rfl
    · rw [if_pos (by grind)]
  · rw [if_neg l]
    cases h with
    | false =>
      rw [if_neg (fun z => by cases z.1), if_neg (by decide)]
      rw [hc] at l ⊢
      split
      · rename_i z
        rw [if_pos z] at l
        split <;> grind
      · rename_i z
        rw [if_neg z] at l
        split <;> grind
    | true =>
      rw [if_pos rfl]
      by_cases g : c x < u
      · rw [if_pos ⟨rfl, g⟩, Rat.div_def]
        have ne : u - c x ≠ 0 := by grind
        rw [Rat.mul_comm (a - c x), ← Rat.mul_assoc, Rat.mul_inv_cancel _ ne, Rat.one_mul]
        grind
      · rw [if_neg fun z => g z.2]
        grind
theorem chain_held {ns : List Str} {ss : List Rat} (h : ChainOk ns ss) {b : Nat} (hb : b < ns.length) {hd : Bool} {u : Rat} (hu : Drawn u) :
    HeldOk (chainM "" ns ss) (crown ns b) hd (ofL ns ss) (fun _ => u) (fun x => if ofL ns ss x < u then ofL ns ss x else u) (ofL (ns.drop b) (runL hd true u (ss.drop b))) 2520 (10 ^ 13) := by
  have hB := h.below (b := b) (by omega)
  have sub : ∀ n ∈ belowL (chainM "" ns ss) (crown ns b), ∃ j s a, ns[b + j]? = some n ∧ ss[b + j]? = some s ∧ ofL ns ss n = s ∧ (ns.drop b)[j]? = some n ∧ (ss.drop b)[j]? = some s ∧ (runL hd true u (ss.drop b))[j]? = some a ∧ ofL (ns.drop b) (runL hd true u (ss.drop b)) n = a ∧ Drawn a ∧ a ≤ u := fun n hn => by
    rw [hB] at hn
    obtain ⟨j, hj⟩ := List.mem_iff_getElem?.mp hn
    have hj0 := hj
    rw [List.getElem?_drop] at hj
    have lj := (List.getElem?_eq_some_iff.mp hj).1
    obtain ⟨s, hs⟩ : ∃ s, ss[b + j]? = some s := ⟨_, List.getElem?_eq_getElem (by rw [← h.len]; exact lj)⟩
    have hs2 : (ss.drop b)[j]? = some s := by rw [List.getElem?_drop]; exact hs
    have la : j < (runL hd true u (ss.drop b)).length := by
      rw [run_len]
      exact (List.getElem?_eq_some_iff.mp hs2).1
    have ha : (runL hd true u (ss.drop b))[j]? = some (runL hd true u (ss.drop b))[j] := List.getElem?_eq_getElem la
    obtain ⟨z1, z2⟩ := run_bd hu (fun s hs => h.dr s (List.mem_of_mem_drop hs)) (List.mem_of_getElem? ha)
    exact ⟨j, _, _, hj, hs, ofL_get h.nd hj hs, hj0, hs2, ha, ofL_get (h.nd.sublist (List.drop_sublist _ _)) hj0 ha, z1, z2⟩
  have dr : ∀ n ∈ belowL (chainM "" ns ss) (crown ns b), Drawn (ofL ns ss n) := fun n hn => by
    obtain ⟨j, s, a, h1, h2, h3, _⟩ := sub n hn
    rw [h3]
    exact h.dr s (List.mem_of_getElem? h2)
  have one : ∀ {j : Nat} {n : Str}, ns[b + j]? = some n → kidsOf (chainM "" ns ss) (Sum.inr n) = (ns.drop (b + j + 1)).take 1 := fun h1 => h.kidsAt h1
  refine ⟨by decide, by decide, by decide, fun n hn => hu.ms, fun n hn => (dr n hn).ms, fun n hn hk => ?_, fun n hn => rfl, fun n hn => ?_, fun n hn x hx => ?_, fun n hn => ?_⟩
  · obtain ⟨j, s, a, h1, _⟩ := sub n hn
    rw [one h1] at hk ⊢
    cases z : ns.drop (b + j + 1) with
    | nil => rw [z] at hk; exact absurd rfl hk
    | cons y r => exact (sum_one u).symm
  · have hn0 := hn
    rw [h.kids (by omega)] at hn
    have hn1 : n ∈ belowL (chainM "" ns ss) (crown ns b) := below_top h.ok hn0
    obtain ⟨j, s, a, h1, h2, h3, h4, h5, h6, h7, h8, h9⟩ := sub n hn1
    have j0 : j = 0 := by
      have e : (ns.drop b)[0]? = some n := by
        cases z : ns.drop b with
        | nil => rw [z] at hn; cases hn
        | cons y r =>
          rw [z] at hn
          have : n = y := List.mem_singleton.mp hn
          rw [this]
          rfl
      rw [List.getElem?_drop] at e
      have := h.ix e h1
      omega
    subst j0
    rw [h7, h3]
    cases z : ss.drop b with
    | nil => rw [z] at h5; cases h5
    | cons s0 r =>
      rw [z] at h5 h6
      have e5 : s0 = s := Option.some.inj h5
      subst e5
      rw [run_zero] at h6
      cases h6
      unfold leastR
      split <;> split <;> grind
  · obtain ⟨j, s, a, h1, h2, h3, h4, h5, h6, h7, h8, h9⟩ := sub n hn
    have hx0 := hx
    rw [one h1] at hx ⊢
    cases z : ns.drop (b + j + 1) with
    | nil => rw [z] at hx; cases hx
    | cons y r =>
      rw [z] at hx
      have : x = y := List.mem_singleton.mp hx
      subst this
      have e1 : ns[b + (j + 1)]? = some x := by
        have : (ns.drop (b + j + 1))[0]? = some x := by rw [z]; rfl
        rw [List.getElem?_drop] at this
        exact this
      have e2 : (ns.drop b)[j + 1]? = some x := by rw [List.getElem?_drop]; exact e1
      have l1 := (List.getElem?_eq_some_iff.mp e1).1
      obtain ⟨s1, e3⟩ : ∃ s1, ss[b + (j + 1)]? = some s1 := ⟨_, List.getElem?_eq_getElem (by rw [← h.len]; exact l1)⟩
      have e4 : (ss.drop b)[j + 1]? = some s1 := by rw [List.getElem?_drop]; exact e3
      have e5 := run_succ h6 e4
      have e6 : ofL (ns.drop b) (runL hd true u (ss.drop b)) x = _ := ofL_get (h.nd.sublist (List.drop_sublist _ _)) e2 e5
      have e7 : ofL ns ss x = s1 := ofL_get h.nd e1 e3
      rw [e6, h7]
      show _ = partQ hd a u (sumQ [if ofL ns ss x < u then ofL ns ss x else u]) (fun _ => u) _ x
      rw [sum_one]
      exact (part_one (U := fun _ => u) (c := fun x => if ofL ns ss x < u then ofL ns ss x else u) h8.1 h9 (h.dr _ (List.mem_of_getElem? e3)).1 rfl (by rw [e7])).symm
  · obtain ⟨j, s, a, h1, h2, h3, h4, h5, h6, h7, h8, h9⟩ := sub n hn
    rw [h7]
    refine ⟨h8.1, h9, Nat.lt_of_le_of_lt (Nat.le_of_dvd (by decide) h8.2.2) (lt_up (show 2520 < 2 ^ 12 by decide) (by decide))⟩
end Bd
end

section
namespace Bd
open PySem L2 Am
open Evl hiding tCut pss_cut
section
variable {K : PySem.W.Frag} {H : Hp} {σ : L2.St}
theorem giv_eq {α : Type} (xs : List α) (p : α → Bool) (g : α → V) : given xs.length (fun i => (xs[i]?.map p).getD false) (fun i => (xs[i]?.map g).getD .non) = (xs.filter p).map g := by
  have main : ∀ n, n ≤ xs.length → given n (fun i => (xs[i]?.map p).getD false) (fun i => (xs[i]?.map g).getD .non) = ((xs.take n).filter p).map g := by
    intro n
    induction n with
    | zero => intro _; rfl
    | succ n ih =>
      intro hn
      have hl : n < xs.length := hn
      have e : xs[n]? = some xs[n] := List.getElem?_eq_getElem hl
      rw [List.take_add_one, e, Option.toList_some, List.filter_append, List.map_append, ← ih (by omega)]
      cases c : p xs[n] with
      | true =>
        rw [given_yes (by rw [e]; exact c), List.filter_cons_of_pos c, e]
        rfl
      | false =>
        rw [given_no (by rw [e]; exact c), List.filter_cons_of_neg (by rw [c]; decide)]
        simp
  have := main xs.length (Nat.le_refl _)
  rw [List.take_length] at this
  exact this
theorem lcL {α : Type} {a : Addr} {ws : List V} {tl te : TE} {t : TT} {j : Nat} {vs : List Nat} (xs : List α) (p : α → Bool) (g : α → V) (h : Ev tl σ H (.ref a)) (hx : SqL K H a ws) (hlen : ws.length = xs.length) (hz : xs.length ≤ 1000)
    (hw : ∀ x, wipe ((wipe σ vs).set j (some x)) vs = wipe σ vs) (ht : ∀ (i : Nat) (x : V) (y : α) H1, Ex H H1 → ws[i]? = some x → xs[i]? = some y → EvT t ((wipe σ vs).set j (some x)) H1 (p y))
    (he : ∀ (i : Nat) (x : V) (y : α) H1, Ex H H1 → ws[i]? = some x → xs[i]? = some y → p y = true → Ev te ((wipe σ vs).set j (some x)) H1 (g y)) : EvL (tLc (iList K tl) (gName j) t te vs) σ H ((xs.filter p).map g) := by
  rw [← giv_eq xs p g, ← hlen]
  have get : ∀ {i : Nat} {x : V}, ws[i]? = some x → ∃ y, xs[i]? = some y := fun {i x} e => by
    have := (List.getElem?_eq_some_iff.mp e).1
    exact ⟨_, List.getElem?_eq_getElem (by omega)⟩
  refine el_lcL _ _ h hx (by omega) hw (fun i x H1 e hi => ?_) fun i x H1 e hi hf => ?_
  · obtain ⟨y, hy⟩ := get hi
    rw [hy]
    exact ht i x y H1 e hi hy
  · obtain ⟨y, hy⟩ := get hi
    rw [hy] at hf ⊢
    exact he i x y H1 e hi hy hf
end
def tTupF (t : L2.TA) : TE := fun σ H Q => t σ H fun xs H1 => xs.length ≤ sizeLine ∧ ∀ (l : Addr) (o : Obj), H1 l = none → o.dict = none → Q (.ref l) (upd H1 l (.frz o (.tup xs)))
theorem pe_tupF {X : Cx} {es : List Expr} {t : L2.TA} {pos : Pos} {x1 : Nat} (h : PA X es t) : PE X (.Tuple es x1 pos) (tTupF t) := by
  refine ⟨fun pins s σ H Q I hq => ?_⟩
  refine wpAny_Tuple_spliced (thn (h.run pos pins s σ H _ I hq) fun us s1 ⟨xs, H1, I1, r, z, q⟩ => ⟨by rw [← r.length]; exact z, ?_⟩)
  have I2 := I1.laid (a := s1.heap.objs.size) (o := .frz { cls := .type "tuple", data := .seq us.toArray } (.tup xs)) (h' := s1.heap.push { cls := .type "tuple", data := .seq us.toArray }) (t' := s1.toks) (fun b u e => Heap.get?_push_of_some _ e) (Nat.le_refl _)
    (show ObjOk X.prog X.w _ _ _ (.frz _ (.tup xs)) from ⟨Heap.get?_push_size _ rfl, z, us, r, PyProof.Rows.IsTup.new _ _⟩)
  exact ⟨.ref s1.heap.objs.size, _, I2, rfl, q _ _ (I1.hok.fresh (Nat.le_refl _)) rfl⟩
section
variable {K : PySem.W.Frag} {H : Hp} {σ : L2.St} {te tx : TE} {D : Ends} {tz : TS}
theorem eq_ixL {i : Nat} {l : Addr} {vs : List V} {qs : List Rat} {j : Nat} {q : Rat} (hv : σ[i]? = some (some (.ref l))) (hx : Ev tx σ H (.int (j : Int))) (h : SqL K H l vs) (hp : Paired (AmtQ K H) vs qs) (hq : qs[j]? = some q) : EvQ K (tOp (rIxL K) (tVar i) tx) σ H q := fun H1 e Q k => by
  have lj : j < vs.length := by
    rw [Paired.length hp]
    exact (List.getElem?_eq_some_iff.mp hq).1
  have hvj : vs[j]? = some vs[j] := List.getElem?_eq_getElem lj
  obtain ⟨q', h1, h2⟩ := paired_get hp hvj
  rw [hq] at h1
  cases h1
  exact ⟨_, hv, hx H1 e _ fun H2 e2 => ⟨l, vs, (j : Int), vs[j], rfl, rfl, ex_l (e.trans e2) h, atI_nat hvj, k _ H2 e2 (h2.same (e.trans e2))⟩⟩
theorem ev_ixS {i : Nat} {l : Addr} {ns : List Str} {j : Nat} {n : Str} (hv : σ[i]? = some (some (.ref l))) (hx : Ev tx σ H (.int (j : Int))) (h : SqL K H l (ns.map .str)) (hn : ns[j]? = some n) : Ev (tOp (rIxL K) (tVar i) tx) σ H (.str n) :=
  ev_op (ev_var hv) hx (rv_ixL h (atI_nat (by rw [List.getElem?_map, hn]; rfl)))
theorem ev_row {tn ta ts : TE} {n ab : Str} {s : Rat} (hn : Ev tn σ H (.str n)) (ha : Ev ta σ H (.str ab)) (hs : EvQ K ts σ H s) {H1 : Hp} (e : Ex H H1) {Q : VK} (k : ∀ v H2, Ex H1 H2 → RowAt K H2 v ⟨n, ab, [("min", amtD s)]⟩ → Q v H2) :
    (tTup (tCons tn (tCons ta (tCons (tTupF (tCons (tTup (tCons (tC (.str "min")) (tCons ts tNil))) tNil)) tNil)))) σ H1 Q := by
  refine hn H1 e _ fun H2 e2 => ha H2 (e.trans e2) _ fun H3 e3 => ?_
  refine hs H3 ((e.trans e2).trans e3) _ fun v H4 e4 hv => ?_
  refine ⟨by show 2 ≤ sizeLine; decide, fun p hp => ⟨by show 1 ≤ sizeLine; decide, fun t o ht ho => ⟨by show 3 ≤ sizeLine; decide, fun r hr => ?_⟩⟩⟩
  have s1 := Same.new (Same.refl H4) hp (.tup [.str "min", v])
  have f1 : upd H4 p (.tup [.str "min", v]) p = some (.tup [.str "min", v]) := upd_same
  generalize upd H4 p (.tup [.str "min", v]) = H5 at s1 f1 ht hr ⊢
  have s2 := Same.new (Same.refl H5) ht (.frz o (.tup [.ref p]))
  have f2 : upd H5 t (.frz o (.tup [.ref p])) t = some (.frz o (.tup [.ref p])) := upd_same
  generalize upd H5 t (.frz o (.tup [.ref p])) = H6 at s2 f2 hr ⊢
  have s3 := Same.new (Same.refl H6) hr (.tup [.str n, .str ab, .ref t])
  have f3 : upd H6 r (.tup [.str n, .str ab, .ref t]) r = some (.tup [.str n, .str ab, .ref t]) := upd_same
  generalize upd H6 r (.tup [.str n, .str ab, .ref t]) = H7 at s3 f3 ⊢
  have e7 := (((e2.trans e3).trans e4).trans (s1.trans s2)).trans s3
  refine k _ H7 e7 ⟨r, t, rfl, SqT.of f3, [p], ⟨o, ho, s3 _ _ f2⟩, .cons ⟨v, SqT.of ((s2.trans s3) _ _ f1), ?_⟩ .nil⟩
  obtain ⟨a, rfl, h⟩ := hv.same ((s1.trans s2).trans s3)
  exact .tup h (.cons (.int _) (.cons (.int _) .nil))
end
theorem MapR.snoc {R : Hp → V → Str → Prop} {G : Hp} {kvs : List (Key × V)} {ns : List Str} {n : Str} {v : V} (m : MapR R G kvs ns) (h : R G v n) : MapR R G (kvs ++ [(Sum.inr n, v)]) (ns ++ [n]) := paired_snoc ⟨rfl, h⟩ m
theorem MapR.none {R : Hp → V → Str → Prop} {G : Hp} {kvs : List (Key × V)} {ns : List Str} {n : Str} (m : MapR R G kvs ns) (h : n ∉ ns) : valV kvs (Sum.inr n) = none := keys_none fun mm => by
  rw [m.keys] at mm
  obtain ⟨y, hy, e⟩ := List.mem_map.mp mm
  exact h (Sum.inr.inj e ▸ hy)
end Bd
end

section
namespace Bd
open PySem L2 Am
open Evl hiding tCut pss_cut
theorem eqv_ints : ∀ (xs ys : List Int), PyData.eqvAll (xs.map .int) (ys.map .int) = decide (xs = ys)
  | [], [] => by simp [PyData.eqvAll]
  | [], y :: ys => by simp [PyData.eqvAll]
  | x :: xs, [] => by simp [PyData.eqvAll]
  | x :: xs, y :: ys => by
    rw [List.map_cons, List.map_cons, PyData.eqvAll, eqv_ints xs ys, PyData.eqv]
    by_cases a : x = y
    · subst a
      simp
    · simp [a]
theorem eqv_intL (xs ys : List Int) : PyData.eqv (.list (xs.map .int)) (.list (ys.map .int)) = decide (xs = ys) := by
  rw [PyData.eqv]
  exact eqv_ints xs ys
theorem eqv_intT (xs ys : List Int) : PyData.eqv (.tuple (xs.map .int)) (.tuple (ys.map .int)) = decide (xs = ys) := by
  rw [PyData.eqv]
  exact eqv_ints xs ys
/-! words for laws of amounts: rows, trees, uses, what is protected, dicts that are compared -/
section
variable {K : PySem.W.Frag} {H : Hp} {σ : L2.St} {te ta tb tl tx : TE} {D : Ends} {tz : TS} {C CN CW : Addr} {E : XK}
def EvRows (K : PySem.W.Frag) (te : TE) (σ : L2.St) (H : Hp) (rows : List RowM) : Prop := ∀ H1, Ex H H1 → ∀ Q : VK, (∀ r ws H2, H1 r = none → Ex H1 H2 → H2 r = some (.lst ws) → Paired (RowAt K H2) ws rows → Q (.ref r) H2) → te σ H1 Q
def EvTree (K : PySem.W.Frag) (C : Addr) (te : TE) (σ : L2.St) (H : Hp) (rows : List RowM) (b : Bool) : Prop := ∀ H1, Ex H H1 → ∀ Q : VK, (∀ p tk H2, H1 p = none → Ex H1 H2 → TreeAt K H2 C p rows b tk → Q (.ref p) H2) → te σ H1 Q
theorem eTree {rows : List RowM} {b : Bool} (hl : EvRows K tl σ H rows) (hb : Ev tb σ H (.bl b)) (rok : RowsOk rows) (len : rows.length ≤ 200) : EvTree K C (tMake C (spInit K C) [] E (tCons tl (tCons tb tNil))) σ H rows b := fun H1 e Q k =>
  hl H1 e _ fun r ws H2 hr e2 f2 rw2 => hb H2 (e.trans e2) _ fun H3 e3 => fun x dx hx hdx ne =>
    ⟨H3, x, dx, r, ws, rows, b, rfl, Same.new (Same.new (Same.refl H3) hdx _) ((upd_ne ne.symm).trans hx) _, hx, upd_same, e3 _ _ f2, rows_same e3 rw2, rok, len, fun H4 tk s t _ => ⟨rfl, k x tk H4 (fresh_back (e2.trans e3) hx) ((e2.trans e3).trans s) t⟩⟩
theorem q_asgT {i : Nat} {rows : List RowM} {b : Bool} (h : EvTree K C te σ H rows b) (k : ∀ p tk H1, Ex H H1 → TreeAt K H1 C p rows b tk → tz D (σ.set i (some (.ref p))) H1) : tSeq (tAsg te (gName i)) tz D σ H := h H (Ex.refl H) _ fun p tk H1 _ e t => k p tk H1 e t
/-- {name: amount} -/
theorem em_one {f : Str → Rat} {n : Str} (hk : Ev ta σ H (.str n)) (hv : EvQ K tb σ H (f n)) : EvM K (tDisp [(ta, tb)]) σ H f [n] := fun H1 e Q k => by
  intro p hp
  have s1 := Same.new (Same.refl H1) hp (.dK [])
  refine hk _ (e.trans s1) _ fun H2 e2 => hv H2 ((Ex.trans e s1).trans e2) _ fun v H3 e3 a => ?_
  have f3 := e3 _ _ (e2 _ _ (upd_same : upd H1 p (.dK []) p = some (.dK [])))
  refine ⟨f3, [(Sum.inr n, v)], rfl, by show 1 ≤ 15; decide, ?_⟩
  have em : mergeK [] [((Sum.inr n : Key), v)] = [((Sum.inr n : Key), v)] := rfl
  rw [em]
  refine k p _ _ hp (fun b o hb => ?_) upd_same (.cons ⟨rfl, AmtQ.tk (TK.dk f3 _) a⟩ .nil)
  rw [upd_ne (ne_of_none hb hp)]
  exact e3 _ _ (e2 _ _ (s1 _ _ hb))
/-- protected(tree, {leaf: amount, ..}, top, kind) -/
theorem em_prot {i : Nat} {p : Addr} {rows : List RowM} {h : Bool} {tk : List (Key × V)} {top kd : Str} {k U c f : Str → Rat} {M S : Nat} {ns : List Str} (hv : σ[i]? = some (some (.ref p))) (ht : TreeAt K H C p rows h tk) (ok : RowsOk rows) (len : rows.length ≤ 200) (htop : top ∈ ("" : Str) :: nms rows) (htk : top = "" ∨ kidsOf rows (Sum.inr top) ≠ [])
    (hkd : kd = "min" ∨ kd = "low") (hk : KindOk rows kd k) (ho : HeldOk rows top h k U c f M S) (hd : EvM K ta σ H U ns) (hx : Ev tb σ H (.str top)) (hy : Ev tx σ H (.str kd)) (nd : ns.Nodup) (nl : ns.length ≤ 200) (hn : ∀ n ∈ ns, n ∈ leavesOf rows ∧ Sz (U n) ∧ 0 ≤ U n) (hz : ∀ n ∈ leavesOf rows, n ∉ ns → U n = 0) :
    EvM K (tCall (spProt K C) [] E (tCons (tVar i) (tCons ta (tCons tb (tCons tx tNil))))) σ H f (belowL rows top) := fun H1 e Q kk =>
  ⟨_, hv, hd H1 e _ fun d kvs H2 hd2 e2 f2 m2 => hx H2 (e.trans e2) _ fun H3 e3 => hy H3 ((e.trans e2).trans e3) _ fun H4 e4 =>
    ⟨p, d, top, kd, rows, h, tk, k, U, c, f, M, S, rfl, ht.same (((e.trans e2).trans e3).trans e4) ok, ok, len, htop, htk, hkd, hk, ho, ⟨kvs, ns, (e3.trans e4) _ _ f2, m2.mono fun _ _ z => AmtQ.same (e3.trans e4) z, nd, nl, hn, hz⟩, fun d2 k2 H5 h1 h2 h3 h4 => kk d2 k2 H5 (fresh_back ((e2.trans e3).trans e4) h1) (((e2.trans e3).trans e4).trans h2) h3 h4⟩⟩
/-! ### dicts that are compared -/
theorem shaped_amt (q : Rat) : SeqAt.shaped (amtD q) = true := shaped_ints [q.num, (q.den : Int)]
theorem dp_amt {v : V} {q : Rat} (h : AmtQ K H v q) : Dp K H v (amtD q) := by
  obtain ⟨a, rfl, ha⟩ := h
  exact .tup ha (.cons (.int _) (.cons (.int _) .nil))
theorem eqv_amt (q : Rat) : PyData.eqv (amtD q) (amtD q) = true := by
  show PyData.eqv (.tuple ([q.num, (q.den : Int)].map .int)) (.tuple ([q.num, (q.den : Int)].map .int)) = true
  rw [eqv_intT]
  simp
theorem hits_am {f : Str → Rat} {ls : List (Key × V)} : ∀ {ks : List (Key × V)} {ns : List Str}, MapR (AmR K f) H ks ns → (∀ n ∈ ns, ∃ v, valV ls (Sum.inr n) = some v ∧ AmtQ K H v (f n)) → HitsV (EqF K H 0) ls ks true
  | _, _, .nil, _ => .nil
  | _, _, .cons (a := kv) (b := n) a b, h => by
    obtain ⟨v, h1, h2⟩ := h n List.mem_cons_self
    have r1 : (true : Bool) = (true && true) := rfl
    rw [r1]
    obtain ⟨kk, kx⟩ := kv
    have e : kk = Sum.inr n := a.1
    subst e
    exact .hit h1 ⟨amtD (f n), amtD (f n), dp_amt a.2, dp_amt h2, shaped_amt _, shaped_amt _, (eqv_amt _).symm⟩ (hits_am b fun m hm => h m (List.mem_cons_of_mem _ hm))
/-- a new dict against one that is there: the same names with the same amounts -/
theorem ev_cmpM {r : R2} {z : V} {f : Str → Rat} {ns : List Str} {j : Nat} {d : Addr} {ls : List (Key × V)} (hr : ∀ (a b : Addr) (ks ls : List (Key × V)) (H1 : Hp) (Q : VK), H1 a = some (.dK ks) → H1 b = some (.dK ls) → ks.length = ls.length → HitsV (EqF K H1 0) ls ks true → Q z H1 → r (.ref a) (.ref b) H1 Q)
    (h : EvM K te σ H f ns) (hv : σ[j]? = some (some (.ref d))) (hd : H d = some (.dK ls)) (hl : ls.length = ns.length) (hA : Amts K H d ns f) : Ev (tOp r te (tVar j)) σ H z := fun H1 e Q k =>
  h H1 e _ fun a ks H2 _ e2 f2 m2 => ⟨_, hv, by
    have e12 := e.trans e2
    have fd := e12 _ _ hd
    obtain ⟨ls', h1, h2⟩ := hA.ex e12
    rw [fd] at h1
    cases h1
    exact hr a d ks ls H2 Q f2 fd (by rw [Paired.length m2, hl]) (hits_am m2 h2) (k H2 e2)⟩
theorem ne_M (a b : Addr) (ks ls : List (Key × V)) (H1 : Hp) (Q : VK) (h1 : H1 a = some (.dK ks)) (h2 : H1 b = some (.dK ls)) (hl : ks.length = ls.length) (hh : HitsV (EqF K H1 0) ls ks true) (q : Q (.bl false) H1) : rNeDk K (.ref a) (.ref b) H1 Q :=
  ⟨a, b, ks, ls, true, rfl, rfl, h1, h2, fun _ => hh, by
    rw [hl, beq_self_eq_true]
    exact q⟩
abbrev rEqF0 (K : PySem.W.Frag) : R2 := fun x y H Q => ∃ (a b : Addr) (ks ls : List (Key × V)) (q : Bool) (n : Nat), n ≤ 10 ∧ x = .ref a ∧ y = .ref b ∧ H a = some (.dK ks) ∧ H b = some (.dK ls) ∧ (ks.length = ls.length → HitsV (EqF K H n) ls ks q) ∧ Q (.bl (ks.length == ls.length && q)) H
theorem eq_M (a b : Addr) (ks ls : List (Key × V)) (H1 : Hp) (Q : VK) (h1 : H1 a = some (.dK ks)) (h2 : H1 b = some (.dK ls)) (hl : ks.length = ls.length) (hh : HitsV (EqF K H1 0) ls ks true) (q : Q (.bl true) H1) : rEqF0 K (.ref a) (.ref b) H1 Q :=
  ⟨a, b, ks, ls, true, 0, by decide, rfl, rfl, h1, h2, fun _ => hh, by
    rw [hl, beq_self_eq_true]
    exact q⟩
/-! ### lists -/
theorem el_cat {xs ys : List V} (h1 : EvL ta σ H xs) (h2 : EvL tb σ H ys) (hz : xs.length + ys.length ≤ 100000) : EvL (tOp rCat ta tb) σ H (xs ++ ys) := fun H1 e Q k =>
  h1 H1 e _ fun p H2 hp e2 f2 => h2 H2 (e.trans e2) _ fun q H3 hq e3 f3 => ⟨p, q, xs, ys, rfl, rfl, e3 _ _ f2, f3, sz_of hz, fun r hr => k r _ (fresh_back (e2.trans e3) hr) ((e2.trans e3).trans (Ex.new hr)) upd_same⟩
theorem cut_lo {xs : List V} {j : Nat} (h : j ≤ xs.length) : cutV xs none (some (j : Int)) = xs.take j := by
  unfold cutV
  have e : HT.sIx xs.length xs.length (some (j : Int)) = j := by
    show (if (j : Int) < 0 then ((j : Int) + (xs.length : Int)).toNat else min (j : Int).toNat xs.length) = j
    rw [if_neg (by omega)]
    omega
  rw [e]
  show (xs.drop 0).take (j - 0) = _
  rw [List.drop_zero, Nat.sub_zero]
theorem cut_hi {xs : List V} {j : Nat} (h : j ≤ xs.length) : cutV xs (some (j : Int)) none = xs.drop j := by
  unfold cutV
  have e : HT.sIx xs.length 0 (some (j : Int)) = j := by
    show (if (j : Int) < 0 then ((j : Int) + (xs.length : Int)).toNat else min (j : Int).toNat xs.length) = j
    rw [if_neg (by omega)]
    omega
  rw [e]
  show (xs.drop j).take (xs.length - j) = _
  rw [List.take_of_length_le (by rw [List.length_drop]; omega)]
theorem at_last {ns : List Str} {n : Str} (h : ns[ns.length - 1]? = some n) : atI (ns.map V.str) (-1) = some (.str n) := by
  have l := (List.getElem?_eq_some_iff.mp h).1
  have e : (ns.map V.str)[ns.length - 1]? = some (.str n) := by rw [List.getElem?_map, h]; rfl
  have e2 : ixN (ns.map V.str).length (-1) = some (ns.length - 1) := by
    unfold ixN
    rw [List.length_map, if_neg (by omega), if_pos (by omega)]
    congr 1
    omega
  unfold atI
  rw [e2]
  exact e
theorem ev_last {i : Nat} {l : Addr} {ns : List Str} {n : Str} (hv : σ[i]? = some (some (.ref l))) (h : SqL K H l (ns.map .str)) (hn : ns[ns.length - 1]? = some n) : Ev (tOp (rIxL K) (tVar i) (tUn (rU fun i => .int (-i)) (tC (.int 1)))) σ H (.str n) :=
  ev_op (ev_var hv) (ev_un ev_c ru_neg) (rv_ixL h (at_last hn))
end
/-! ### the leaf of a chain -/
theorem leaf_kids {rows : List RowM} {n : Str} (h : n ∈ leavesOf rows) : n ∈ nms rows ∧ kidsOf rows (Sum.inr n) = [] := by
  obtain ⟨r, hr, rfl⟩ := List.mem_map.mp h
  obtain ⟨h1, h2⟩ := List.mem_filter.mp hr
  refine ⟨List.mem_map_of_mem h1, ?_⟩
  have := kids_empty rows r.name
  have e : ((kidsOf rows (Sum.inr r.name)).map V.str).isEmpty = (kidsOf rows (Sum.inr r.name)).isEmpty := by cases kidsOf rows (Sum.inr r.name) <;> rfl
  rw [e] at this
  have h3 : (kidsOf rows (Sum.inr r.name)).isEmpty = true := this.trans h2
  simpa using h3
theorem ChainOk.leaf {ns : List Str} {ss : List Rat} (h : ChainOk ns ss) {n : Str} (hn : ns[ns.length - 1]? = some n) (x : Str) : x ∈ leavesOf (chainM "" ns ss) ↔ x = n := by
  have l := (List.getElem?_eq_some_iff.mp hn).1
  constructor
  · intro hx
    obtain ⟨h1, h2⟩ := leaf_kids hx
    rw [chain_nms h.len] at h1
    obtain ⟨i, hi⟩ := List.mem_iff_getElem?.mp h1
    rw [h.kidsAt hi] at h2
    have li := (List.getElem?_eq_some_iff.mp hi).1
    have : ns.drop (i + 1) = [] := by
      cases z : ns.drop (i + 1) with
      | nil => rfl
      | cons a b => rw [z] at h2; cases h2
    have := List.drop_eq_nil_iff.mp this
    have e : i = ns.length - 1 := by omega
    rw [e, hn] at hi
    exact (Option.some.inj hi).symm
  · rintro rfl
    refine leaf_mem (by rw [chain_nms h.len]; exact List.mem_of_getElem? hn) ?_
    rw [h.kidsAt hn, List.drop_eq_nil_of_le (by omega)]
    rfl
end Bd
end

section
namespace Bd
open PySem L2 Am
open Evl hiding tCut pss_cut
abbrev sLRows : Stmt := (top 71)
theorem scLRows : FnScope ["_law_source_here", "_law_many", "_law_words", "_law_names_here", "_law_found", "_law_at", "_law_name", "_law_way", "_law_above", "_law_dues", "_law_spot", "_law_word"] ["_law_source_here", "_law_many", "_law_words"] (defScope sLRows) := ⟨rfl, rfl, rfl, by decide +kernel, rfl, by decide +kernel, by decide +kernel⟩
abbrev sLLeaves : Stmt := (top 72)
theorem scLLeaves : FnScope ["_law_rows_here", "_law_above", "_law_row"] ["_law_rows_here"] (defScope sLLeaves) := ⟨rfl, rfl, rfl, by decide +kernel, rfl, by decide +kernel, by decide +kernel⟩
abbrev sLUses : Stmt := (top 73)
theorem scLUses : FnScope ["_law_source_here", "_law_rows_here", "_law_leaf"] ["_law_source_here", "_law_rows_here"] (defScope sLUses) := ⟨rfl, rfl, rfl, by decide +kernel, rfl, by decide +kernel, by decide +kernel⟩

/-! drawn rows, and drawn uses -/
structure TDd (mg : Str → Option Value) : Prop where
  z_dict : mg "dict" = none
def WordsOk (words : List Str) : Prop := words.Nodup ∧ ∀ w ∈ words, w ∈ (["min", "low", "burst", "max", "quota"] : List Str)
def DuesDr (words : List Str) (dues : List (Str × PyData)) : Prop := ∃ ps : List (Str × Rat), dues = ps.map (fun z => (z.1, amtD z.2)) ∧ (ps.map (·.1)).Sublist words ∧ ∀ z ∈ ps, Drawn z.2
def RowsI (ns words : List Str) (rs : List RowM) : Prop := ∀ (j : Nat) (r : RowM), rs[j]? = some r → ns[j]? = some r.name ∧ (r.above = "" ∨ r.above ∈ ns.take j) ∧ DuesDr words r.dues
theorem words_in {w : Str} (h : w ∈ (["min", "low", "burst", "max", "quota"] : List Str)) : w ∈ leftW ∧ w ∈ (["min", "low", "burst", "max", "quota", "tops"] : List Str) ∧ w ≠ "tops" := by
  simp only [List.mem_cons, List.not_mem_nil, or_false] at h
  rcases h with rfl | rfl | rfl | rfl | rfl <;> decide +kernel
theorem dues_dok {words : List Str} {dues : List (Str × PyData)} (hw : WordsOk words) (h : DuesDr words dues) : DuesOk dues := by
  obtain ⟨ps, rfl, hs, hd⟩ := h
  refine ⟨?_, fun du hdu => ?_⟩
  · rw [List.map_map]
    exact hw.1.sublist hs
  · obtain ⟨z, hz, rfl⟩ := List.mem_map.mp hdu
    have hzw := words_in (hw.2 z.1 (hs.subset (List.mem_map_of_mem hz)))
    refine ⟨hzw.1, ?_⟩
    obtain ⟨z1, z2⟩ := (hd z hz).sz
    show ValOk z.1 (.tuple [.int z.2.num, .int (z.2.den : Int)])
    rw [nat_num (hd z hz).1]
    exact .amt hzw.2.1 z1 z.2.den_pos z2 z.2.reduced
theorem dues_tops {words : List Str} {dues : List (Str × PyData)} (hw : WordsOk words) (h : DuesDr words dues) : dueOf (fullD dues) "tops" = some (.str "endless") := by
  obtain ⟨ps, rfl, hs, hd⟩ := h
  have : dueOf (ps.map fun z => (z.1, amtD z.2)) "tops" = none := by
    unfold dueOf
    rw [Option.map_eq_none_iff, List.find?_eq_none]
    intro du hdu
    obtain ⟨z, hz, rfl⟩ := List.mem_map.mp hdu
    have := (words_in (hw.2 z.1 (hs.subset (List.mem_map_of_mem hz)))).2.2
    simpa using this
  show some ((dueOf (ps.map fun z => (z.1, amtD z.2)) "tops").getD (.str "endless")) = _
  rw [this]
  rfl
theorem rowsI_ok {ns words : List Str} {rs : List RowM} (hw : WordsOk words) (h : RowsI ns words rs) (nd : ns.Nodup) (mem : ∀ x ∈ ns, x ∈ menu) : RowsOk rs := by
  intro i r hr
  obtain ⟨h1, h2, h3⟩ := h i r hr
  have hix : ∀ {j : Nat} {q : RowM}, rs[j]? = some q → q.name = r.name → j = i := fun {j q} hq e => by
    obtain ⟨g1, _⟩ := h j q hq
    rw [e] at g1
    obtain ⟨l1, z1⟩ := List.getElem?_eq_some_iff.mp g1
    obtain ⟨l2, z2⟩ := List.getElem?_eq_some_iff.mp h1
    exact (List.getElem_inj nd (h₀ := l1) (h₁ := l2)).mp (z1.trans z2.symm)
  have li := (List.getElem?_eq_some_iff.mp hr).1
  refine ⟨menu_ok _ (mem _ (List.mem_of_getElem? h1)), dues_dok hw h3, fun q hq e => ?_, ?_⟩
  · obtain ⟨j, hj⟩ := List.mem_iff_getElem?.mp hq
    have lj := (List.getElem?_eq_some_iff.mp hj).1
    rw [List.length_take] at lj
    rw [List.getElem?_take_of_lt (by omega)] at hj
    have := hix hj e
    omega
  · rcases h2 with e | m
    · exact .inl e
    · right
      obtain ⟨j, hj⟩ := List.mem_iff_getElem?.mp m
      have lj := (List.getElem?_eq_some_iff.mp hj).1
      rw [List.length_take] at lj
      rw [List.getElem?_take_of_lt (by omega)] at hj
      have hq : rs[j]? = some rs[j] := List.getElem?_eq_getElem (by omega)
      obtain ⟨g1, _, g3⟩ := h j _ hq
      rw [hj] at g1
      refine ⟨rs[j], List.mem_iff_getElem?.mpr ⟨j, by rw [List.getElem?_take_of_lt (by omega)]; exact hq⟩, (Option.some.inj g1).symm, dues_tops hw g3⟩
def DueQ (K : PySem.W.Frag) (G : Hp) (a : Addr) (z : Str × Rat) : Prop := ∃ u, SqT K G a [.str z.1, u] ∧ AmtQ K G u z.2
theorem DueQ.tk {K : PySem.W.Frag} {G G' : Hp} {a : Addr} {z : Str × Rat} (t : TK G G') (h : DueQ K G a z) : DueQ K G' a z := by
  obtain ⟨u, h1, h2⟩ := h
  exact ⟨u, t.seqT h1, h2.tk t⟩
/-- while rows are drawn -/
structure TMX (mg : Str → Option Value) : Prop where
  z_max : mg "max" = none
  z_min : mg "min" = none
structure RSt (K : PySem.W.Frag) (H G : Hp) (p wl nl fl : Addr) (wo : HO) (words ns : List Str) (ws : List V) (rs : List RowM) : Prop where
  src : Src G p
  kept : Kept p H G
  ewl : G wl = some wo
  enl : G nl = some (.lst (ns.map .str))
  efl : G fl = some (.lst ws)
  nfl : H fl = none
  rows : Paired (RowAt K G) ws rs
  inv : RowsI ns words rs
  w0 : wl ≠ p
  n0 : nl ≠ p
  f0 : fl ≠ p
  wf : wl ≠ fl
  nf : nl ≠ fl
theorem src_tkE {H H' : Hp} {p : Addr} (h : Src H p) (k : Kept p H H') : TK H H' := by
  obtain ⟨x, y, z, h⟩ := h
  exact TK.kept h k
section
variable {K : PySem.W.Frag} {H G G' : Hp} {p wl nl fl dl : Addr} {wo : HO} {words ns : List Str} {ws : List V} {rs : List RowM}
theorem RSt.dok (h : RSt K H G p wl nl fl wo words ns ws rs) (hw : WordsOk words) : ∀ r ∈ rs, DuesOk r.dues := fun r hr => by
  obtain ⟨j, hj⟩ := List.mem_iff_getElem?.mp hr
  exact dues_dok hw (h.inv j r hj).2.2
theorem RSt.same (h : RSt K H G p wl nl fl wo words ns ws rs) (s : Same G G') : RSt K H G' p wl nl fl wo words ns ws rs := by
  obtain ⟨a, b, c, d, e, f, g, i, j, k, l, m, n⟩ := h
  obtain ⟨x, y, z, a⟩ := a
  exact ⟨⟨x, y, z, s _ _ a⟩, b.trans (Kept.of s), s _ _ c, s _ _ d, s _ _ e, f, rows_same s g, i, j, k, l, m, n⟩
theorem RSt.next (h : RSt K H G p wl nl fl wo words ns ws rs) (hw : WordsOk words) (s : Src G' p) (k : Kept p G G') : RSt K H G' p wl nl fl wo words ns ws rs := by
  have t : TK G G' := by
    obtain ⟨x, y, z, a⟩ := h.src
    exact TK.kept a k
  exact ⟨s, h.kept.trans k, k _ _ h.w0 h.ewl, k _ _ h.n0 h.enl, k _ _ h.f0 h.efl, h.nfl, paired_monoM (fun x r hr z => t.row (h.dok hw r hr) z) h.rows, h.inv, h.w0, h.n0, h.f0, h.wf, h.nf⟩
/-- a list of its own changes -/
theorem RSt.own (h : RSt K H G p wl nl fl wo words ns ws rs) (hw : WordsOk words) {xs ys : List V} (hd : G dl = some (.lst xs)) (h0 : H dl = none) (d1 : wl ≠ dl) (d2 : nl ≠ dl) (d3 : fl ≠ dl) (d4 : p ≠ dl) : RSt K H (upd G dl (.lst ys)) p wl nl fl wo words ns ws rs := by
  have t : TK G (upd G dl (.lst ys)) := TK.lst hd _
  refine ⟨src_upd h.src d4, fun b o hb e => ?_, (upd_ne d1).trans h.ewl, (upd_ne d2).trans h.enl, (upd_ne d3).trans h.efl, h.nfl, paired_monoM (fun x r hr z => t.row (h.dok hw r hr) z) h.rows, h.inv, h.w0, h.n0, h.f0, h.wf, h.nf⟩
  rw [upd_ne (ne_of_none e h0)]
  exact h.kept b o hb e
theorem RSt.put (h : RSt K H G p wl nl fl wo words ns ws rs) (hw : WordsOk words) {v : V} {r : RowM} (hv : RowAt K G v r) (hi : ns[rs.length]? = some r.name) (ha : r.above = "" ∨ r.above ∈ ns.take rs.length) (hd : DuesDr words r.dues) : RSt K H (upd G fl (.lst (ws ++ [v]))) p wl nl fl wo words ns (ws ++ [v]) (rs ++ [r]) := by
  have t : TK G (upd G fl (.lst (ws ++ [v]))) := TK.lst h.efl _
  refine ⟨src_upd h.src h.f0.symm, fun b o hb e => ?_, (upd_ne h.wf).trans h.ewl, (upd_ne h.nf).trans h.enl, upd_same, h.nfl, paired_snoc (t.row (dues_dok hw hd) hv) (paired_monoM (fun x r hr z => t.row (h.dok hw r hr) z) h.rows), fun j q hq => ?_, h.w0, h.n0, h.f0, h.wf, h.nf⟩
  · rw [upd_ne (ne_of_none e h.nfl)]
    exact h.kept b o hb e
  · by_cases c : j < rs.length
    · rw [List.getElem?_append_left c] at hq
      exact h.inv j q hq
    · have lj := (List.getElem?_eq_some_iff.mp hq).1
      rw [List.length_append, List.length_singleton] at lj
      have e : j = rs.length := by omega
      subst e
      rw [List.getElem?_append_right (Nat.le_refl _), Nat.sub_self] at hq
      cases hq
      exact ⟨hi, ha, hd⟩
end
def spLRows (K : PySem.W.Frag) : Sp := fun vs H Q _ => ∃ (s wl : Addr) (m : Nat) (words : List Str), vs = [.ref s, .int (m : Int), .ref wl] ∧ Src H s ∧ m ≤ 12 ∧ H wl = some (.lst (words.map .str)) ∧ wl ≠ s ∧ WordsOk words ∧ words.length ≤ 5 ∧
  ∀ r H' ws rs ns, H r = none → H' r = some (.lst ws) → Paired (RowAt K H') ws rs → RowsI ns words rs → ns.Nodup → (∀ x ∈ ns, x ∈ menu) → ns.length = m → rs.length = m → Src H' s → Kept s H H' → Q (.ref r) H'
def spLRowsT (K : PySem.W.Frag) : Sp := fun vs H Q _ => ∃ (s wl : Addr) (m : Nat) (words : List Str), vs = [.ref s, .int (m : Int), .ref wl] ∧ Src H s ∧ m ≤ 12 ∧ H wl = some (.tup (words.map .str)) ∧ wl ≠ s ∧ WordsOk words ∧ words.length ≤ 5 ∧
  ∀ r H' ws rs ns, H r = none → H' r = some (.lst ws) → Paired (RowAt K H') ws rs → RowsI ns words rs → ns.Nodup → (∀ x ∈ ns, x ∈ menu) → ns.length = m → rs.length = m → Src H' s → Kept s H H' → Q (.ref r) H'
def spLLeaves (K : PySem.W.Frag) : Sp := fun vs H Q _ => ∃ (l : Addr) (ws : List V) (rs : List RowM), vs = [.ref l] ∧ SqL K H l ws ∧ Paired (RowAt K H) ws rs ∧ rs.length ≤ 200 ∧ ∀ r H', H r = none → Same H H' → H' r = some (.lst ((leavesOf rs).map .str)) → Q (.ref r) H'
def spLUses (K : PySem.W.Frag) : Sp := fun vs H Q _ => ∃ (s l : Addr) (ws : List V) (rs : List RowM), vs = [.ref s, .ref l] ∧ Src H s ∧ l ≠ s ∧ SqL K H l ws ∧ Paired (RowAt K H) ws rs ∧ RowsOk rs ∧ rs.length ≤ 200 ∧
  ∀ d H' kvs ns (u : Str → Rat), H d = none → H' d = some (.dK kvs) → MapR (AmR K u) H' kvs ns → ns.Sublist (leavesOf rs) → (∀ n, n ∉ ns → u n = 0) → (∀ n, Drawn (u n)) → Src H' s → Kept s H H' → Q (.ref d) H'
theorem leaf_in (rs : List RowM) (r : RowM) : leafB rs r = !inV (V.str r.name) ((rs.map (·.above)).map V.str) := by
  rw [in_strs]
  unfold leafB
  congr 1
  induction rs with
  | nil => rfl
  | cons q rs ih =>
    rw [List.any_cons, ih, List.map_cons]
    by_cases c : q.above = r.name
    · rw [c]; simp
    · have c' : ¬ r.name = q.above := fun e => c e.symm
      simp [c, c']
theorem src_sameE {H H' : Hp} {s : Addr} (e : Same H H') (h : Src H s) : Src H' s := by
  obtain ⟨x, y, z, h⟩ := h
  exact ⟨x, y, z, e _ _ h⟩
theorem drawn0 : Drawn 0 := ⟨Rat.le_refl, by decide, by decide⟩
theorem ofL_no : ∀ {ns : List Str} {vs : List Rat} {x : Str}, x ∉ ns → ofL ns vs x = 0
  | [], _, _, _ => rfl
  | n :: ns, [], _, _ => rfl
  | n :: ns, v :: vs, x, h => by
    show (if x = n then v else ofL ns vs x) = 0
    rw [if_neg fun e : x = n => h (by rw [e]; exact List.mem_cons_self)]
    exact ofL_no fun m => h (List.mem_cons_of_mem _ m)
theorem ofL_or : ∀ (ns : List Str) (vs : List Rat) (x : Str), ofL ns vs x = 0 ∨ ofL ns vs x ∈ vs
  | [], _, _ => .inl rfl
  | n :: ns, [], _ => .inl rfl
  | n :: ns, v :: vs, x => by
    show (if x = n then v else ofL ns vs x) = 0 ∨ (if x = n then v else ofL ns vs x) ∈ v :: vs
    split
    · exact .inr List.mem_cons_self
    · exact (ofL_or ns vs x).imp id fun m => List.mem_cons_of_mem _ m
theorem dueq_kv {K : PySem.W.Frag} {G : Hp} : ∀ {as : List Addr} {ps : List (Str × Rat)}, Paired (DueQ K G) as ps → (ps.map (·.1)).Nodup → ∃ kvs : List (Key × V), Paired (fun p kv => SqT K G p [kV kv.1, kv.2]) as kvs ∧ MapR (AmR K (ofL (ps.map (·.1)) (ps.map (·.2)))) G kvs (ps.map (·.1))
  | _, _, .nil, _ => ⟨[], .nil, .nil⟩
  | _, _, .cons (a := a) (b := z) (l₂ := ps) hh bb, nd => by
    obtain ⟨u, h1, h2⟩ := hh
    obtain ⟨n1, n2⟩ := List.nodup_cons.mp (show (z.1 :: ps.map (·.1)).Nodup from nd)
    obtain ⟨kvs, k1, k2⟩ := dueq_kv bb n2
    refine ⟨(Sum.inr z.1, u) :: kvs, .cons h1 k1, .cons ⟨rfl, ?_⟩ (paired_monoM (fun kv n hn h => ⟨h.1, ?_⟩) k2)⟩
    · show AmtQ K G u (if z.1 = z.1 then z.2 else _)
      rw [if_pos rfl]
      exact h2
    · have := h.2
      show AmtQ K G kv.2 (if n = z.1 then z.2 else ofL (ps.map (·.1)) (ps.map (·.2)) n)
      rw [if_neg fun e : n = z.1 => n1 (by rw [← e]; exact hn)]
      exact this
section
variable {P : Program} {w : World} {K : PySem.W.Frag} {mg : Str → Option Value} {base : Heap}
--<LROWS
theorem ok_lrows {f gN gX gA : Addr} {fd dN dX dA : FuncData} (F : Fun K "_law_rows" "_law_rows" sLRows f fd) (T : TA mg) (cN : Cal P w K mg base "_law_names" ["_law_source_here", "_law_many"] 3 spNames2 gN dN) (cX : Cal P w K mg base "_law_next" ["_law_source_here", "_law_many"] 2 spNext gX dX) (cA : Cal P w K mg base "_law_amount" ["_law_source_here"] 3 (spAmount K) gA dA) :
    FnOk P w K mg base CX0 4 f fd ["_law_source_here", "_law_many", "_law_words"] (spLRows K) := by
  refine F.ok scLRows (fun vs H Q E h => ?_) (fun cdv A outer s H vs Q E hr h => ?_)
  · obtain ⟨s, wl, m, words, rfl, _⟩ := h
    rfl
  obtain ⟨p, wl, m, words, rfl, hp, hm, ewl, w0, hw, lw, q⟩ := h
  refine ⟨_, (pss_cons (ps_par (i := 3) (j := 4) (by rfl) scLRows.nd rfl rfl (by decide) rfl rfl (pa_cons (pe_call cN.ok (hr.mono (by decide)) rfl cN.mg cN.kp cN.bd .nil pass0 (pa_cons (pv 0) (pa_cons (pv 1) pa_nil))) (pa_cons (pe_lst pa_nil) pa_nil)) (by rfl)) (pss_cons (ps_for PassesOwn.never rfl (pi_enum (by rfl) T.z_enumerate (pa_cons (pv 3) pa_nil)) (pg_tup (by rfl) (pgs_cons (pg_name (i := 5) scLRows.nd rfl (Or.inl rfl)) (pgs_cons (pg_name (i := 6) scLRows.nd rfl (Or.inl rfl)) pgs_nil))) (pss_cons (ps_set (i := 7) scLRows.nd rfl (Or.inl rfl) (pe_call cX.ok (hr.mono (by decide)) rfl cX.mg cX.kp cX.bd .nil pass0 (pa_cons (pv 0) (pa_cons pe_int pa_nil)))) (pss_cons (ps_par (i := 8) (j := 9) (by rfl) scLRows.nd rfl rfl (by decide) rfl rfl (pa_cons pe_str (pa_cons (pe_lst pa_nil) pa_nil)) (by rfl)) (Evl.pss_cut (ps_if (PW.pt (pw_and (pt_cmpR op_gt (pv 5) pe_int (nomark _)) (pw_and1 (pt_cmpR op_gt (pv 7) pe_int (nomark _))))) (pss_cons (ps_set (i := 10) scLRows.nd rfl (Or.inl rfl) (pe_ifExp (pt_cmpR op_eq (pv 7) pe_int (nomark _)) (pe_op op_sub (pv 5) pe_int) (pe_call cX.ok (hr.mono (by decide)) rfl cX.mg cX.kp cX.bd .nil pass0 (pa_cons (pv 0) (pa_cons (pv 5) pa_nil))))) (pss_one (ps_set (i := 8) scLRows.nd rfl (Or.inl rfl) (pe_ix ix_list (pv 3) (pv 10) (fun _ _ => rfl))))) pss_nil) (Evl.pss_cut (ps_for PassesOwn.never rfl (pi_list (pv 2)) (pg_name (i := 11) scLRows.nd rfl (Or.inl rfl)) (pss_one (ps_if (pt_cmpR op_gt (pe_call cX.ok (hr.mono (by decide)) rfl cX.mg cX.kp cX.bd .nil pass0 (pa_cons (pv 0) (pa_cons pe_int pa_nil))) pe_int (nomark _)) (pss_one (ps_expr (pe_bm PySem.F.plainAttrs_list PySem.F.slot_list_append PySem.F.type_list_append mt_append (pv 9) (pa_cons (pe_tup (pa_cons (pv 11) (pa_cons (pe_call cA.ok (hr.mono (by decide)) rfl cA.mg cA.kp cA.bd .nil pass0 (pa_cons (pv 0) pa_nil)) pa_nil))) pa_nil)))) pss_nil))) (pss_one (ps_expr (pe_bm PySem.F.plainAttrs_list PySem.F.slot_list_append PySem.F.type_list_append mt_append (pv 4) (pa_cons (pe_tup (pa_cons (pv 6) (pa_cons (pv 8) (pa_cons (pe_callTy call_tupleF (by rfl) T.z_tuple (by decide +kernel) (pa_cons (pv 9) pa_nil)) pa_nil)))) pa_nil))))))))) (pss_one (ps_ret (pv 4))))), ?_⟩
  refine ⟨_, rfl, _, rfl, p, m, rfl, hp, hm, fun nl H1 ns hnl enl nd hmem hlen s1 k1 => ?_⟩
  refine ⟨Nat.zero_le _, fun fl hfl => ⟨_, _, rfl, ?_⟩⟩
  have npf := src_ne s1 hfl
  have npn := src_ne hp hnl
  have st0 : RSt K H (upd H1 fl (.lst [])) p wl nl fl (.lst (words.map .str)) words ns [] [] :=
    ⟨src_new s1 hfl, k1.new hfl _, (upd_ne (ne_of_none (k1 _ _ w0 ewl) hfl)).trans (k1 _ _ w0 ewl), (upd_ne (ne_of_none enl hfl)).trans enl, upd_same, k1.free npf.symm hfl, .nil, fun j r h => by simp at h, w0, npn.symm, npf.symm, ne_of_none (k1 _ _ w0 ewl) hfl, ne_of_none enl hfl⟩
  generalize upd H1 fl (.lst []) = H2 at st0 ⊢
  clear k1 s1 enl hfl hnl
  refine ⟨_, rfl, nl, ns.map V.str, rfl, SqL.of st0.enl, for_it (walk_enum (xs := ns.map V.str)) (fun i σ G => ∃ (o5 o6 o7 o8 o9 o10 o11 : Option V) (ws : List V) (rs : List RowM), σ = [some (.ref p), some (.int (m : Int)), some (.ref wl), some (.ref nl), some (.ref fl), o5, o6, o7, o8, o9, o10, o11] ∧ RSt K H G p wl nl fl (.lst (words.map .str)) words ns ws rs ∧ rs.length = i)
    ⟨_, _, _, _, _, _, _, [], [], rfl, st0, rfl⟩ ?_ ?_ ?_⟩
  · rintro i σ G _ ⟨_, _, _, _, _, _, _, _, _, rfl, st, _⟩
    exact SqL.of st.enl
  · rintro i v σ G G2 hi ⟨o5, o6, o7, o8, o9, o10, o11, ws, rs, rfl, st, hrl⟩ ⟨TT, x, y, rfl, hTT, rfl, hx, hy⟩
    have hx' : x = .int (i : Nat) := (Option.some.inj hx).symm
    subst hx'
    rw [List.length_map] at hi
    have hn : ns[i]? = some ns[i] := List.getElem?_eq_getElem hi
    generalize hnm : ns[i] = nm at hn
    have hy' : y = .str nm := by
      have hy : (ns.map V.str)[i]? = some y := hy
      rw [List.getElem?_map, hn] at hy
      exact (Option.some.inj hy).symm
    subst hy'
    refine ⟨TT, _, rfl, SqT.of upd_same, rfl, _, _, rfl, _, _, rfl, rfl, ?_⟩
    have st2 := st.same (Same.new (Same.refl G) hTT (.tup [.int (i : Nat), .str nm]))
    generalize upd G TT (.tup [.int (i : Nat), .str nm]) = G2 at st2 ⊢
    clear hTT st
    have wl12 : ws.length ≤ 12 := by
      rw [Paired.length st2.rows]
      omega
    -- way
    refine ⟨_, rfl, p, 3, rfl, st2.src, by decide, by decide, fun way G3 hway s3 k3 => ?_⟩
    have st3 := st2.next hw s3 k3
    clear st2 s3 k3
    -- above, dues
    refine ⟨Nat.zero_le _, fun dl hdl => ⟨_, _, rfl, ?_⟩⟩
    have st4 := st3.same (Same.new (Same.refl G3) hdl (.lst []))
    have d4 : p ≠ dl := src_ne st3.src hdl
    have d1 : wl ≠ dl := ne_of_none st3.ewl hdl
    have d2 : nl ≠ dl := ne_of_none st3.enl hdl
    have d3 : fl ≠ dl := ne_of_none st3.efl hdl
    have hd0 : H dl = none := st3.kept.free d4.symm hdl
    have fd4 : upd G3 dl (.lst []) dl = some (.lst []) := upd_same
    generalize upd G3 dl (.lst []) = G4 at st4 fd4 ⊢
    clear st3 hdl
    refine ⟨fun σ G => ∃ (ab : Str) (o10 o11 : Option V), σ = [some (.ref p), some (.int (m : Int)), some (.ref wl), some (.ref nl), some (.ref fl), some (.int (i : Int)), some (.str nm), some (.int (way : Int)), some (.str ab), some (.ref dl), o10, o11] ∧ RSt K H G p wl nl fl (.lst (words.map .str)) words ns ws rs ∧ G dl = some (.lst []) ∧ (ab = "" ∨ ab ∈ ns.take i), ?_, ?_⟩
    · refine s_when (b := decide (0 < i) && decide (0 < way)) (et_and (et_is (et_test (ev_op (ev_var rfl) ev_c rv_I0)) (decide_eq_decide.mpr (by omega))) fun _ => et_is (et_test (ev_op (ev_var rfl) ev_c rv_I0)) (decide_eq_decide.mpr (by omega))) (fun hb G5 e5 => ?_) fun hb G5 e5 => ⟨"", _, _, rfl, st4.same e5, e5 _ _ fd4, .inl rfl⟩
      have hb2 : 0 < i ∧ 0 < way := by simpa using hb
      have st5 := st4.same e5
      have fd5 := e5 _ _ fd4
      -- spot
      have fin : ∀ (sp : Nat) (G6 : Hp), sp < i → RSt K H G6 p wl nl fl (.lst (words.map .str)) words ns ws rs → G6 dl = some (.lst []) → ∃ (ab : Str) (o10 o11' : Option V), ([some (V.ref p), some (.int (m : Int)), some (.ref wl), some (.ref nl), some (.ref fl), some (.int (i : Int)), some (.str nm), some (.int (way : Int)), some (.str ((ns[sp]?).getD "")), some (.ref dl), some (.int (sp : Int)), o11] : L2.St) = [some (.ref p), some (.int (m : Int)), some (.ref wl), some (.ref nl), some (.ref fl), some (.int (i : Int)), some (.str nm), some (.int (way : Int)), some (.str ab), some (.ref dl), o10, o11'] ∧ RSt K H G6 p wl nl fl (.lst (words.map .str)) words ns ws rs ∧ G6 dl = some (.lst []) ∧ (ab = "" ∨ ab ∈ ns.take i) := fun sp G6 hsp st6 fd6 => by
        refine ⟨_, _, _, rfl, st6, fd6, .inr ?_⟩
        have hg : ns[sp]? = some ns[sp] := List.getElem?_eq_getElem (by omega)
        rw [hg]
        exact List.mem_iff_getElem?.mpr ⟨sp, by rw [List.getElem?_take_of_lt hsp]; exact hg⟩
      have fin2 : ∀ (sp : Nat) (z : Int) (G6 : Hp) (D : Ends), z = (sp : Int) → sp < i → RSt K H G6 p wl nl fl (.lst (words.map .str)) words ns ws rs → G6 dl = some (.lst []) → (∀ (σ : L2.St) (G : Hp), (∃ (ab : Str) (o10 o11 : Option V), σ = [some (V.ref p), some (.int (m : Int)), some (.ref wl), some (.ref nl), some (.ref fl), some (.int (i : Int)), some (.str nm), some (.int (way : Int)), some (.str ab), some (.ref dl), o10, o11] ∧ RSt K H G p wl nl fl (.lst (words.map .str)) words ns ws rs ∧ G dl = some (.lst []) ∧ (ab = "" ∨ ab ∈ ns.take i)) → D.nx σ G) →
          tAsg (tOp (rIxL K) (tVar 3) (tVar 10)) (gName 8) D [some (V.ref p), some (.int (m : Int)), some (.ref wl), some (.ref nl), some (.ref fl), some (.int (i : Int)), some (.str nm), some (.int (way : Int)), some (.str ""), some (.ref dl), some (.int z), o11] G6 := fun sp z G6 D hz hsp st6 fd6 kk => by
        subst hz
        have hg : ns[sp]? = some ns[sp] := List.getElem?_eq_getElem (by omega)
        refine s_asg (v := .str ((ns[sp]?).getD "")) ?_ fun G7 e7 => kk _ _ (fin sp G7 hsp (st6.same e7) (e7 _ _ fd6))
        rw [hg]
        exact ev_ixS rfl (ev_var rfl) (SqL.of st6.enl) hg
      refine ⟨_, rfl, rfl, _, rfl, ite2 (fun c => ?_) (fun c => ?_)⟩
      · refine ⟨_, rfl, _, _, rfl, rfl, ?_⟩
        exact fin2 (i - 1) _ G5 _ (by omega) (by omega) st5 fd5 fun σ G h => h
      · refine ⟨_, rfl, _, rfl, p, i, rfl, st5.src, by omega, by omega, fun sp G6 hsp s6 k6 => ?_⟩
        exact fin2 sp _ G6 _ rfl hsp (st5.next hw s6 k6) (k6 _ _ d4.symm fd5) fun σ G h => h
    rintro _ G5 ⟨ab, o10, o11, rfl, st5, fd5, hab⟩
    clear st4 fd4
    -- dues
    refine ⟨fun σ G => ∃ (o11 : Option V) (as : List Addr) (ps : List (Str × Rat)), σ = [some (.ref p), some (.int (m : Int)), some (.ref wl), some (.ref nl), some (.ref fl), some (.int (i : Int)), some (.str nm), some (.int (way : Int)), some (.str ab), some (.ref dl), o10, o11] ∧ RSt K H G p wl nl fl (.lst (words.map .str)) words ns ws rs ∧ G dl = some (.lst (as.map .ref)) ∧ Paired (DueQ K G) as ps ∧ (ps.map (·.1)).Sublist words ∧ ∀ z ∈ ps, Drawn z.2, ?_, ?_⟩
    · refine ⟨_, rfl, wl, rfl, ⟨_, SqL.of st5.ewl⟩, for_list (xs := words.map V.str) (fun k σ G => ∃ (o11 : Option V) (as : List Addr) (ps : List (Str × Rat)), σ = [some (.ref p), some (.int (m : Int)), some (.ref wl), some (.ref nl), some (.ref fl), some (.int (i : Int)), some (.str nm), some (.int (way : Int)), some (.str ab), some (.ref dl), o10, o11] ∧ RSt K H G p wl nl fl (.lst (words.map .str)) words ns ws rs ∧ G dl = some (.lst (as.map .ref)) ∧ Paired (DueQ K G) as ps ∧ (ps.map (·.1)).Sublist (words.take k) ∧ ∀ z ∈ ps, Drawn z.2)
        ⟨_, [], [], rfl, st5, fd5, .nil, List.nil_sublist _, fun z h => by cases h⟩ ?_ ?_ ?_⟩
      · rintro k σ G _ ⟨_, _, _, rfl, st, _⟩
        exact SqL.of st.ewl
      · rintro k x σ G hx ⟨o11, as, ps, rfl, st, fG, pG, sub, dr⟩
        rw [List.getElem?_map] at hx
        obtain ⟨wd, hwd, rfl⟩ := Option.map_eq_some_iff.mp hx
        have lk := (List.getElem?_eq_some_iff.mp hwd).1
        have al : as.length ≤ 5 := by
          have h1 := sub.length_le
          rw [List.length_map, List.length_take] at h1
          rw [Paired.length pG]
          omega
        refine ⟨_, rfl, p, 4, rfl, st.src, by decide, by decide, fun d G6 hd s6 k6 => ?_⟩
        have st6 := st.next hw s6 k6
        have fd6 := k6 _ _ d4.symm fG
        have t6 := src_tkE st.src k6
        have p6 := paired_mono (fun _ _ z => DueQ.tk t6 z) pG
        have tk1 : words.take (k + 1) = words.take k ++ [wd] := by
          rw [List.take_add_one, hwd]
          rfl
        refine ⟨_, _, rfl, rfl, _, rfl, ite2 (fun c => ?_) (fun c => ?_)⟩
        · refine ⟨_, rfl, .inl ⟨rfl, _, SqL.of fd6⟩, _, rfl, _, rfl, p, rfl, st6.src, fun uv q7 G7 hq7 hv7 s7 k7 => ?_⟩
          have st7 := st6.next hw s7 k7
          have fd7 := k7 _ _ d4.symm fd6
          have t7 := src_tkE st6.src k7
          refine ⟨by show 2 ≤ sizeLine; decide, fun tp htp => ?_⟩
          have s8 := Same.new (Same.refl G7) htp (.tup [.str wd, uv])
          have st8 := st7.same s8
          have fd8 := s8 _ _ fd7
          have f8 : upd G7 tp (.tup [.str wd, uv]) tp = some (.tup [.str wd, uv]) := upd_same
          have p8 := paired_mono (fun _ _ z => DueQ.tk (t7.trans (.of s8)) z) p6
          have dq : DueQ K (upd G7 tp (.tup [.str wd, uv])) tp (wd, q7) := ⟨uv, SqT.of f8, hv7.same s8⟩
          generalize upd G7 tp (.tup [.str wd, uv]) = G8 at st8 fd8 p8 dq ⊢
          refine ⟨dl, _, _, rfl, rfl, fd8, by rw [List.length_map]; exact small1000 (by omega), ?_⟩
          have t9 : TK G8 (upd G8 dl (.lst (as.map V.ref ++ [V.ref tp]))) := TK.lst fd8 _
          refine ⟨_, as ++ [tp], ps ++ [(wd, q7)], rfl, st8.own hw fd8 hd0 d1 d2 d3 d4, by rw [upd_same, List.map_append]; rfl, paired_snoc (dq.tk t9) (paired_mono (fun _ _ z => DueQ.tk t9 z) p8), ?_, fun z hz => ?_⟩
          · rw [tk1, List.map_append]
            exact sub.append (List.Sublist.refl _)
          · rcases List.mem_append.mp hz with m1 | m1
            · exact dr z m1
            · rw [List.mem_singleton.mp m1]
              exact hq7
        · refine ⟨_, as, ps, rfl, st6, fd6, p6, ?_, dr⟩
          rw [tk1]
          exact sub.trans (List.sublist_append_left _ _)
      · rintro σ G ⟨o11, as, ps, rfl, st, fG, pG, sub, dr⟩
        rw [List.length_map, List.take_length] at sub
        exact ⟨_, as, ps, rfl, st, fG, pG, sub, dr⟩
    rintro _ G6 ⟨o11, as, ps, rfl, st6, fd6, p6, sub, dr⟩
    clear st5 fd5
    -- the row
    refine ⟨_, rfl, .inl ⟨rfl, _, SqL.of st6.efl⟩, _, rfl, _, rfl, _, rfl, dl, _, rfl, SqL.of fd6, fun t o ht ho => ?_⟩
    have s7 := Same.new (Same.refl G6) ht (.frz o (.tup (as.map V.ref)))
    have st7 := st6.same s7
    have p7 := paired_mono (fun _ _ z => DueQ.tk (.of s7) z) p6
    have f7 : FrT (upd G6 t (.frz o (.tup (as.map V.ref)))) t (as.map V.ref) := ⟨o, ho, upd_same⟩
    generalize upd G6 t (.frz o (.tup (as.map V.ref))) = G7 at st7 p7 f7 ⊢
    refine ⟨by show 3 ≤ sizeLine; decide, fun ra hra => ?_⟩
    have s8 := Same.new (Same.refl G7) hra (.tup [.str nm, .str ab, .ref t])
    have st8 := st7.same s8
    have p8 := paired_mono (fun _ _ z => DueQ.tk (.of s8) z) p7
    have f8 := FrT.same s8 f7
    have r8 : upd G7 ra (.tup [.str nm, .str ab, .ref t]) ra = some (.tup [.str nm, .str ab, .ref t]) := upd_same
    generalize upd G7 ra (.tup [.str nm, .str ab, .ref t]) = G8 at st8 p8 f8 r8 ⊢
    refine ⟨fl, _, _, rfl, rfl, st8.efl, small1000 (by omega), ?_⟩
    have hrow : RowAt K G8 (.ref ra) ⟨nm, ab, ps.map fun z => (z.1, amtD z.2)⟩ := ⟨ra, t, rfl, SqT.of r8, as, f8, by
      have := paired_map (f := id) (g := fun z : Str × Rat => ((z.1, amtD z.2) : Str × PyData)) (F := DueQ K G8) (G := DueAt K G8) (fun a z h => by
        obtain ⟨u, h1, h2⟩ := h
        exact ⟨u, h1, dp_amt h2⟩) p8
      rwa [List.map_id] at this⟩
    refine ⟨_, _, _, _, _, _, _, _, _, rfl, st8.put hw hrow (by rw [hrl]; exact hn) (by rw [hrl]; exact hab) ⟨ps, rfl, sub, dr⟩, by rw [List.length_append, hrl]; rfl⟩
  · rintro σ G ⟨o5, o6, o7, o8, o9, o10, o11, ws, rs, rfl, st, hrl⟩
    rw [List.length_map] at hrl
    exact ⟨_, rfl, q fl G ws rs ns st.nfl st.efl st.rows st.inv nd hmem hlen (by omega) st.src st.kept⟩
-->LROWS
theorem row_ix {H G : Hp} {σ : L2.St} {l i : Nat} {ws : List V} {rs : List RowM} {j : Nat} {x : V} (hp : Paired (RowAt K H) ws rs) (hx : ws[j]? = some x) (e : Ex H G) (hv : σ[i]? = some (some x)) : ∃ r, rs[j]? = some r ∧ Ev (tOp (rIxT K) (tVar i) (tC (.int 0))) σ G (.str r.name) ∧ Ev (tOp (rIxT K) (tVar i) (tC (.int 1))) σ G (.str r.above) := by
  obtain ⟨r, h1, a, t, rfl, h2, _⟩ := paired_get hp hx
  exact ⟨r, h1, ev_op (ev_var hv) ev_c (rv_ixT (ex_t e h2) rfl), ev_op (ev_var hv) ev_c (rv_ixT (ex_t e h2) rfl)⟩
theorem ok_lleaves {f : Addr} {fd : FuncData} (F : Fun K "_law_leaves" "_law_leaves" sLLeaves f fd) : FnOk P w K mg base CX0 1 f fd ["_law_rows_here"] (spLLeaves K) := by
  refine F.ok scLLeaves (fun vs H Q E h => ?_) (fun cdv A outer s H vs Q E hr h => ?_)
  · obtain ⟨l, ws, rs, rfl, _⟩ := h
    rfl
  obtain ⟨l, ws, rs, rfl, hl, hp, len, q⟩ := h
  refine ⟨_, (pss_cons (ps_set (i := 1) scLLeaves.nd rfl (Or.inr rfl) (pe_lc (own := [("_law_row", 2)]) (g := gName 2) (tt := tYes) (te := (tOp (rIxT K) (tVar 2) (tC (.int 1)))) rfl scLLeaves.nd (pi_list (pv 0)) (blkOk_by (own := [("_law_row", 2)]) (N := ["_law_rows_here", "_law_above", "_law_row"]) (sc := defScope sLLeaves) (by decide +kernel)) (fun _ _ _ _ _ => (pg_name (i := 2) scLLeaves.nd rfl (Or.inl rfl))) (fun _ _ _ _ _ => pts_nil) (fun _ _ _ _ _ => (pe_ix ix_tup (pv 2) pe_int (fun _ _ => rfl))))) (pss_one (ps_ret (pe_lc (own := [("_law_row", 2)]) (g := gName 2) (tt := tTest (tOp (rIn K true) (tOp (rIxT K) (tVar 2) (tC (.int 0))) (tVar 1))) (te := (tOp (rIxT K) (tVar 2) (tC (.int 0)))) rfl scLLeaves.nd (pi_list (pv 0)) (blkOk_by (own := [("_law_row", 2)]) (N := ["_law_rows_here", "_law_above", "_law_row"]) (sc := defScope sLLeaves) (by decide +kernel)) (fun _ _ _ _ _ => (pg_name (i := 2) scLLeaves.nd rfl (Or.inl rfl))) (fun _ _ _ _ _ => (pts_one (pt_cmpR op_notIn_seq (pe_ix ix_tup (pv 2) pe_int (fun _ _ => rfl)) (pv 1) (by first | exact nomark _ | rfl)))) (fun _ _ _ _ _ => (pe_ix ix_tup (pv 2) pe_int (fun _ _ => rfl))))))), ?_⟩
  have wl : ws.length = rs.length := Paired.length hp
  refine q_asgL (lcL (K := K) rs (fun _ => true) (fun r : RowM => V.str r.above) (ev_var rfl) hl wl (by omega) (fun _ => rfl) (fun _ _ _ _ _ _ _ => et_yes) fun i x r H1 e hx hr _ => ?_) fun al H1 hal e1 f1 => ?_
  · obtain ⟨r', h1, h2, h3⟩ := row_ix (l := l) (i := 2) (σ := (wipe [some (.ref l), none, none] [2]).set 2 (some x)) hp hx e rfl
    rw [hr] at h1
    cases h1
    exact h3
  have hp1 := rows_same e1 hp
  have ef : (rs.filter fun _ => true).map (fun r : RowM => V.str r.above) = (rs.map (·.above)).map V.str := by
    rw [List.filter_eq_self.mpr fun _ _ => rfl, List.map_map]
    rfl
  rw [ef] at f1
  refine s_retL (lcL (K := K) rs (leafB rs) (fun r : RowM => V.str r.name) (ev_var rfl) (ex_l e1 hl) wl (by omega) (fun _ => rfl) (fun i x r H2 e hx hr => ?_) fun i x r H2 e hx hr _ => ?_) fun p H2 hp0 e2 f2 => ?_
  · obtain ⟨r', h1, h2, h3⟩ := row_ix (l := l) (i := 2) (σ := (wipe [some (.ref l), some (.ref al), none] [2]).set 2 (some x)) hp1 hx e rfl
    rw [hr] at h1
    cases h1
    refine et_test (ev_is (ev_op h2 (ev_var rfl) (rv_niL (SqL.of (e _ _ f1)) rfl (flat_strs _))) ?_)
    rw [leaf_in]
  · obtain ⟨r', h1, h2, h3⟩ := row_ix (l := l) (i := 2) (σ := (wipe [some (.ref l), some (.ref al), none] [2]).set 2 (some x)) hp1 hx e rfl
    rw [hr] at h1
    cases h1
    exact h2
  · refine q p H2 (fresh_back e1 hp0) (Same.trans e1 e2) ?_
    rw [f2]
    unfold leavesOf
    rw [List.map_map]
    rfl
theorem ok_luses {f gX gA gV : Addr} {fd dX dA dV : FuncData} (F : Fun K "_law_uses" "_law_uses" sLUses f fd) (T : TA mg) (Td : TDd mg) (cX : Cal P w K mg base "_law_next" ["_law_source_here", "_law_many"] 2 spNext gX dX) (cA : Cal P w K mg base "_law_amount" ["_law_source_here"] 3 (spAmount K) gA dA)
    (cV : Cal P w K mg base "_law_leaves" ["_law_rows_here"] 1 (spLLeaves K) gV dV) : FnOk P w K mg base CX0 4 f fd ["_law_source_here", "_law_rows_here"] (spLUses K) := by
  refine F.ok scLUses (fun vs H Q E h => ?_) (fun cdv A outer s H vs Q E hr h => ?_)
  · obtain ⟨s, l, ws, rs, rfl, _⟩ := h
    rfl
  obtain ⟨p, l, ws, rs, rfl, hp, lp, hl, hrows, rok, len, q⟩ := h
  refine ⟨_, (pss_one (ps_ret (pe_callTy (call_dictP rfl) (by rfl) Td.z_dict (by decide +kernel) (pa_cons (pe_lc (own := [("_law_leaf", 2)]) (g := gName 2) (tt := tTest (tOp (rI0 fun i j => .bl (decide (j < i))) (tCall spNext [] E0 (tCons (tVar 0) (tCons (tC (.int 6)) tNil))) (tC (.int 0)))) (te := tTup (tCons (tVar 2) (tCons (tCall (spAmount K) [] E0 (tCons (tVar 0) tNil)) tNil))) rfl scLUses.nd (pi_list (pe_call cV.ok (hr.mono (by decide)) rfl cV.mg cV.kp cV.bd .nil pass0 (pa_cons (pv 1) pa_nil))) (blkOk_by (own := [("_law_leaf", 2)]) (N := ["_law_source_here", "_law_rows_here", "_law_leaf"]) (sc := defScope sLUses) (by decide +kernel)) (fun _ _ _ _ _ => (pg_name (i := 2) scLUses.nd rfl (Or.inl rfl))) (fun _ _ _ _ _ => (pts_one (pt_cmpR op_gt (pe_call cX.ok (hr.mono (by decide)) rfl cX.mg cX.kp cX.bd .nil pass0 (pa_cons (pv 0) (pa_cons pe_int pa_nil))) pe_int (nomark _)))) (fun _ _ _ _ _ => (pe_tup (pa_cons (pv 2) (pa_cons (pe_call cA.ok (hr.mono (by decide)) rfl cA.mg cA.kp cA.bd .nil pass0 (pa_cons (pv 0) pa_nil)) pa_nil))))) pa_nil)))), ?_⟩
  have lvl := leaves_len (rows := rs)
  refine ⟨_, rfl, l, ws, rs, rfl, hl, hrows, len, fun lv H1 hlv e1 f1 => ⟨lv, rfl, ⟨_, SqL.of f1⟩, fun D hD => ?_⟩⟩
  have hlv0 : lv ≠ p := (src_ne hp hlv).symm
  have s1 := src_sameE e1 hp
  have nDp := src_ne s1 hD
  have nDl : lv ≠ D := ne_of_none f1 hD
  have hD0 : H D = none := Same.free e1 hD
  refine lc_list (K := K) (a := lv) (xs := (leavesOf rs).map V.str) (fun i G => ∃ (as : List Addr) (ps : List (Str × Rat)), Src G p ∧ Kept p H G ∧ G lv = some (.lst ((leavesOf rs).map .str)) ∧ G D = some (.lst (as.map .ref)) ∧ Paired (DueQ K G) as ps ∧ (ps.map (·.1)).Sublist ((leavesOf rs).take i) ∧ ∀ z ∈ ps, Drawn z.2)
    ⟨[], [], src_new s1 hD, (Kept.of e1).new hD _, (upd_ne nDl).trans f1, upd_same, .nil, List.nil_sublist _, fun z h => by cases h⟩ ?_ ?_ ?_
  · rintro i G _ ⟨_, _, _, _, f, _⟩
    exact SqL.of f
  · rintro i x G hx ⟨as, ps, sG, kG, fl, fD, pG, sub, dr⟩
    rw [List.getElem?_map] at hx
    obtain ⟨n, hn, rfl⟩ := Option.map_eq_some_iff.mp hx
    have il := (List.getElem?_eq_some_iff.mp hn).1
    have al : as.length ≤ 200 := by
      have h1 := sub.length_le
      rw [List.length_map, List.length_take] at h1
      rw [Paired.length pG]
      omega
    have tk1 : (leavesOf rs).take (i + 1) = (leavesOf rs).take i ++ [n] := by
      rw [List.take_add_one, hn]
      rfl
    refine ⟨rfl, ?_⟩
    refine ⟨_, rfl, p, 6, rfl, sG, by decide, by decide, fun d G6 hd s6 k6 => ?_⟩
    have t6 := src_tkE sG k6
    have p6 := paired_mono (fun _ _ z => DueQ.tk t6 z) pG
    have fl6 := k6 _ _ hlv0 fl
    have fD6 := k6 _ _ nDp.symm fD
    have kG6 := kG.trans k6
    refine ⟨_, _, rfl, rfl, _, rfl, ite2 (fun c => ?_) (fun c => ?_)⟩
    · refine ⟨_, rfl, _, rfl, p, rfl, s6, fun uv q7 G7 hq7 hv7 s7 k7 => ?_⟩
      have t7 := src_tkE s6 k7
      have fl7 := k7 _ _ hlv0 fl6
      have fD7 := k7 _ _ nDp.symm fD6
      refine ⟨by show 2 ≤ sizeLine; decide, fun tp htp => ?_⟩
      have s8 := Same.new (Same.refl G7) htp (.tup [.str n, uv])
      have fl8 := s8 _ _ fl7
      have fD8 := s8 _ _ fD7
      have p8 := paired_mono (fun _ _ z => DueQ.tk (t7.trans (.of s8)) z) p6
      have dq : DueQ K (upd G7 tp (.tup [.str n, uv])) tp (n, q7) := ⟨uv, SqT.of upd_same, hv7.same s8⟩
      have src8 := src_sameE s8 s7
      have k8 : Kept p H (upd G7 tp (.tup [.str n, uv])) := (kG6.trans k7).trans (Kept.of s8)
      generalize upd G7 tp (.tup [.str n, uv]) = G8 at fl8 fD8 p8 dq src8 k8 ⊢
      have t9 : TK G8 (upd G8 D (.lst (as.map V.ref ++ [V.ref tp]))) := TK.lst fD8 _
      refine ⟨_, fD8, by rw [List.length_map]; exact small1000 (by omega), as ++ [tp], ps ++ [(n, q7)], src_upd src8 nDp, fun b o hb e => ?_, (upd_ne nDl).trans fl8, by rw [upd_same, List.map_append]; rfl, paired_snoc (dq.tk t9) (paired_mono (fun _ _ z => DueQ.tk t9 z) p8), ?_, fun z hz => ?_⟩
      · rw [upd_ne (ne_of_none e hD0)]
        exact k8 b o hb e
      · rw [tk1, List.map_append]
        exact sub.append (List.Sublist.refl _)
      · rcases List.mem_append.mp hz with m1 | m1
        · exact dr z m1
        · rw [List.mem_singleton.mp m1]
          exact hq7
    · refine ⟨as, ps, s6, kG6, fl6, fD6, p6, ?_, dr⟩
      rw [tk1]
      exact sub.trans (List.sublist_append_left _ _)
  · rintro G ⟨as, ps, sG, kG, fl, fD, pG, sub, dr⟩
    rw [List.length_map, List.take_length] at sub
    have ndp : (ps.map (·.1)).Nodup := (leaves_nd rok).sublist sub
    obtain ⟨kvs, k1, k2⟩ := dueq_kv pG ndp
    refine ⟨D, as, kvs, rfl, SqL.of fD, k1, fun d hd => ?_⟩
    have ndk : (kvs.map (·.1)).Nodup := by
      rw [k2.keys]
      exact nodup_inr ndp
    have em : mergeK [] kvs = kvs := by
      rw [mergeK_app _ [] (by simpa using ndk)]
      rfl
    rw [em]
    have s2 := Same.new (Same.refl G) hd (.dK kvs)
    refine q d _ kvs (ps.map (·.1)) (ofL (ps.map (·.1)) (ps.map (·.2))) (kG.free (src_ne sG hd).symm hd) upd_same (k2.mono fun _ _ z => AmtQ.same s2 z) sub (fun n hn => ofL_no hn) (fun n => ?_) (src_new sG hd) (kG.new hd _)
    rcases ofL_or (ps.map (·.1)) (ps.map (·.2)) n with e | m
    · rw [e]
      exact drawn0
    · obtain ⟨z, hz, e⟩ := List.mem_map.mp m
      rw [← e]
      exact dr z hz
end
end Bd
end

section
namespace Bd
open PySem L2 Am
open Evl hiding tCut pss_cut
/-! words for laws over drawn rows: settings, a tree of rows that stand in a local, what is protected with uses that stand in a local -/
theorem due_dr {words : List Str} {dues : List (Str × PyData)} (h : DuesDr words dues) {kd : Str} (hk : kd = "min" ∨ kd = "low") : ∃ q, dueOf (fullD dues) kd = some (amtD q) ∧ Drawn q := by
  obtain ⟨ps, rfl, hs, hd⟩ := h
  have e : dueOf (fullD (ps.map fun z => (z.1, amtD z.2))) kd = some ((dueOf (ps.map fun z => (z.1, amtD z.2)) kd).getD (.tuple [.int 0, .int 1])) := by
    rcases hk with rfl | rfl <;> rfl
  rw [e]
  cases z : dueOf (ps.map fun z => (z.1, amtD z.2)) kd with
  | none => exact ⟨0, rfl, drawn0⟩
  | some d =>
    unfold dueOf at z
    obtain ⟨x, hx, rfl⟩ := Option.map_eq_some_iff.mp z
    obtain ⟨y, hy, rfl⟩ := List.mem_map.mp (List.mem_of_find?_eq_some hx)
    exact ⟨y.2, rfl, hd y hy⟩
theorem kind_ex {ns words : List Str} {rs : List RowM} (h : RowsI ns words rs) (nd : (nms rs).Nodup) {kd : Str} (hk : kd = "min" ∨ kd = "low") : ∃ k : Str → Rat, KindOk rs kd k ∧ ∀ n, Drawn (k n) := by
  have key : ∀ n : Str, ∃ q : Rat, Drawn q ∧ ∀ r ∈ rs, r.name = n → dueOf (fullD r.dues) kd = some (amtD q) := fun n => by
    by_cases c : ∃ r ∈ rs, r.name = n
    · obtain ⟨r, hr, rfl⟩ := c
      obtain ⟨j, hj⟩ := List.mem_iff_getElem?.mp hr
      obtain ⟨q, h1, h2⟩ := due_dr (h j r hj).2.2 hk
      refine ⟨q, h2, fun r' hr' e => ?_⟩
      obtain ⟨j', hj'⟩ := List.mem_iff_getElem?.mp hr'
      have := row_inj nd hj' hj e
      subst this
      rw [hj] at hj'
      cases hj'
      exact h1
    · exact ⟨0, drawn0, fun r hr e => absurd ⟨r, hr, e⟩ c⟩
  refine ⟨fun n => (key n).choose, fun r hr => (key r.name).choose_spec.2 r hr rfl, fun n => (key n).choose_spec.1⟩
theorem mapR_congr {K : PySem.W.Frag} {G : Hp} {f g : Str → Rat} : ∀ {kvs : List (Key × V)} {ns : List Str}, MapR (AmR K f) G kvs ns → (∀ n ∈ ns, f n = g n) → MapR (AmR K g) G kvs ns
  | _, _, .nil, _ => .nil
  | _, _, .cons (b := n) a b, h => .cons ⟨a.1, by have : AmtQ K G _ (f n) := a.2; rw [h n List.mem_cons_self] at this; exact this⟩ (mapR_congr b fun m hm => h m (List.mem_cons_of_mem _ hm))
/-- uses that were drawn, as what all groups use -/
theorem uses_of {K : PySem.W.Frag} {G : Hp} {d : Addr} {kvs : List (Key × V)} {rs : List RowM} {us : List Str} {u U : Str → Rat} (fd : G d = some (.dK kvs)) (m : MapR (AmR K u) G kvs us) (sub : us.Sublist (leavesOf rs)) (rok : RowsOk rs) (len : rs.length ≤ 200) (hz : ∀ n, n ∉ us → u n = 0) (hd : ∀ n, Drawn (u n))
    (hU : ∀ r ∈ rs, U r.name = if kidsOf rs (Sum.inr r.name) = [] then u r.name else sumQ ((kidsOf rs (Sum.inr r.name)).map U)) : UsesAt K G d rs U := by
  have lv : ∀ n ∈ leavesOf rs, U n = u n := fun n hn => by
    obtain ⟨h1, h2⟩ := leaf_kids hn
    obtain ⟨r, hr, rfl⟩ := List.mem_map.mp h1
    rw [hU r hr, if_pos h2]
  have ll := leaves_len (rows := rs)
  have sl := sub.length_le
  refine ⟨kvs, us, fd, mapR_congr m fun n hn => (lv n (sub.subset hn)).symm, (leaves_nd rok).sublist sub, by omega, fun n hn => ?_, fun n hn hx => ?_⟩
  · have e := lv n (sub.subset hn)
    exact ⟨sub.subset hn, e ▸ (hd n).sz, e ▸ (hd n).1⟩
  · rw [lv n hn, hz n hx]
section
variable {K : PySem.W.Frag} {H : Hp} {σ : L2.St} {ta tb te tf tl tx ty tk : TE} {D : Ends} {tz : TS} {C : Addr} {E : XK}
theorem eTreeV {i : Nat} {l : Addr} {ws : List V} {rows : List RowM} {b : Bool} (hv : σ[i]? = some (some (.ref l))) (hl : H l = some (.lst ws)) (hp : Paired (RowAt K H) ws rows) (hb : Ev tb σ H (.bl b)) (rok : RowsOk rows) (len : rows.length ≤ 200) : EvTree K C (tMake C (spInit K C) [] E (tCons (tVar i) (tCons tb tNil))) σ H rows b := fun H1 e Q k =>
  ⟨_, hv, hb H1 e _ fun H3 e3 => fun x dx hx hdx ne =>
    ⟨H3, x, dx, l, ws, rows, b, rfl, Same.new (Same.new (Same.refl H3) hdx _) ((upd_ne ne.symm).trans hx) _, hx, upd_same, (e.trans e3) _ _ hl, rows_same (e.trans e3) hp, rok, len, fun H4 tk s t _ => ⟨rfl, k x tk H4 (fresh_back e3 hx) (e3.trans s) t⟩⟩⟩
theorem el_leavesL {i : Nat} {l : Addr} {ws : List V} {rs : List RowM} (hv : σ[i]? = some (some (.ref l))) (hl : SqL K H l ws) (hp : Paired (RowAt K H) ws rs) (len : rs.length ≤ 200) : EvL (tCall (spLLeaves K) [] E (tCons (tVar i) tNil)) σ H ((leavesOf rs).map .str) :=
  el_call (ea_cons (ev_var hv) ea_nil) fun H1 e Q k E => ⟨l, ws, rs, rfl, ex_l e hl, rows_same e hp, len, fun r H' a b c => k r H' a b c⟩
/-- protected(tree, uses, top, kind), uses that stand in a local -/
theorem em_protV {i j : Nat} {p du : Addr} {rows : List RowM} {h : Bool} {tk : List (Key × V)} {top kd : Str} {k U c f : Str → Rat} {M S : Nat} (hv : σ[i]? = some (some (.ref p))) (ht : TreeAt K H C p rows h tk) (ok : RowsOk rows) (len : rows.length ≤ 200) (htop : top ∈ ("" : Str) :: nms rows) (htk : top = "" ∨ kidsOf rows (Sum.inr top) ≠ [])
    (hkd : kd = "min" ∨ kd = "low") (hk : KindOk rows kd k) (ho : HeldOk rows top h k U c f M S) (hd : σ[j]? = some (some (.ref du))) (hu : UsesAt K H du rows U) (hx : Ev tb σ H (.str top)) (hy : Ev tx σ H (.str kd)) :
    EvM K (tCall (spProt K C) [] E (tCons (tVar i) (tCons (tVar j) (tCons tb (tCons tx tNil))))) σ H f (belowL rows top) := fun H1 e Q kk =>
  ⟨_, hv, _, hd, hx H1 e _ fun H3 e3 => hy H3 (e.trans e3) _ fun H4 e4 =>
    ⟨p, du, top, kd, rows, h, tk, k, U, c, f, M, S, rfl, ht.same ((e.trans e3).trans e4) ok, ok, len, htop, htk, hkd, hk, ho, hu.same ((e.trans e3).trans e4), fun d2 k2 H5 h1 h2 h3 h4 => kk d2 k2 H5 (fresh_back (e3.trans e4) h1) ((e3.trans e4).trans h2) h3 h4⟩⟩
/-- two new dicts that tell the same -/
theorem ev_cmpMM {r : R2} {z : V} {f : Str → Rat} {ns : List Str} (hr : ∀ (a b : Addr) (ks ls : List (Key × V)) (H1 : Hp) (Q : VK), H1 a = some (.dK ks) → H1 b = some (.dK ls) → ks.length = ls.length → HitsV (EqF K H1 0) ls ks true → Q z H1 → r (.ref a) (.ref b) H1 Q)
    (h : EvM K te σ H f ns) (h2 : EvM K tf σ H f ns) (nd : ns.Nodup) : Ev (tOp r te tf) σ H z := fun H1 e Q k =>
  h H1 e _ fun a ks H2 _ e2 f2 m2 => h2 H2 (e.trans e2) _ fun d ls H3 hd e3 f3 m3 =>
    hr a d ks ls H3 Q (e3 _ _ f2) f3 (by rw [Paired.length m2, Paired.length m3]) (hits_am (m2.mono fun _ _ z => AmtQ.same e3 z) fun n hn => m3.get nd hn) (k H3 (e2.trans e3))
theorem src_ex {H H' : Hp} {p : Addr} (e : Ex H H') (h : Src H p) : Src H' p := src_sameE e h
/-- a draw -/
theorem q_draw {ta : L2.TA} {p : Addr} {m : Nat} {H : Hp} (h : EvA ta σ H [.ref p, .int (m : Int)]) (hs : Src H p) (m0 : 0 < m) (m1 : m ≤ 1000000) {Q : VK} (k : ∀ (a : Nat) H2, a < m → Src H2 p → Kept p H H2 → Q (.int (a : Int)) H2) : tCall spNext [] E ta σ H Q :=
  h H (Ex.refl H) _ fun H1 e => ⟨p, m, rfl, src_ex e hs, m0, m1, fun a H2 ha s2 k2 => k a H2 ha s2 ((Kept.of e).trans k2)⟩
end
theorem TreeAt.kept {K : PySem.W.Frag} {H H' : Hp} {s C p : Addr} {rows : List RowM} {h : Bool} {tk : List (Key × V)} (hs : Src H s) (k : Kept s H H') (ok : RowsOk rows) (t : TreeAt K H C p rows h tk) : TreeAt K H' C p rows h tk := by
  obtain ⟨dx, po, pp, pk, pt, o1, o2, o3, o4, o5, ks, k1, k2, k3⟩ := t
  have tkk := src_tkE hs k
  obtain ⟨x, y, z, es⟩ := hs
  have nl : ∀ {b : Addr} {xs : List Str}, H b = some (.lst (xs.map V.str)) → b ≠ s := fun {b xs} e => ne_of e es (by
    intro z
    cases xs with
    | nil => cases z
    | cons a b => cases z)
  have o2' : H po = some (.lst ((nms rows).map V.str)) := by
    rw [o2]
    unfold nms
    rw [List.map_map]
    rfl
  refine ⟨dx, po, pp, pk, pt, k _ _ (ne_of o1 es (by intro z; cases z)) o1, k _ _ (nl o2') o2, k _ _ (ne_of o3 es (by intro z; cases z)) o3, k _ _ (ne_of o4 es (by intro z; cases z)) o4, paired_monoM (fun kv r hr z => ?_) o5, ks, k _ _ (ne_of k1 es (by intro z; cases z)) k1, k2, fun kv hkv => ?_⟩
  · obtain ⟨z1, d, z2, kvs, z3, z4⟩ := z
    exact ⟨z1, d, z2, kvs, k _ _ (ne_of z3 es (by intro z; cases z)) z3, paired_monoM (fun kv wd hw z => ⟨z.1, tkk.val (full_val (fun x hx => ((rows_due ok r hr).2 x hx).2) wd hw) z.2⟩) z4⟩
  · obtain ⟨l, e1, e2⟩ := k3 kv hkv
    exact ⟨l, e1, k _ _ (nl e2) e2⟩
/-- drawn rows, and the tree that was made of them -/
structure DW (K : PySem.W.Frag) (C : Addr) (G : Hp) (sp r tr : Addr) (ws : List V) (rs : List RowM) (h : Bool) (tk : List (Key × V)) : Prop where
  src : Src G sp
  er : G r = some (.lst ws)
  nr : sp ≠ r
  rows : Paired (RowAt K G) ws rs
  tree : TreeAt K G C tr rs h tk
section
variable {K : PySem.W.Frag} {C : Addr} {G G' : Hp} {sp r tr : Addr} {ws : List V} {rs : List RowM} {h : Bool} {tk : List (Key × V)}
theorem DW.kept (w : DW K C G sp r tr ws rs h tk) (ok : RowsOk rs) (s : Src G' sp) (k : Kept sp G G') : DW K C G' sp r tr ws rs h tk := by
  have t := src_tkE w.src k
  exact ⟨s, k _ _ w.nr.symm w.er, w.nr, paired_monoM (fun x q hq z => t.row (rows_due ok q hq) z) w.rows, TreeAt.kept w.src k ok w.tree⟩
theorem DW.same (w : DW K C G sp r tr ws rs h tk) (ok : RowsOk rs) (s : Ex G G') : DW K C G' sp r tr ws rs h tk := ⟨src_ex s w.src, s _ _ w.er, w.nr, rows_same s w.rows, w.tree.same s ok⟩
end
section
variable {K : PySem.W.Frag} {C : Addr} {H : Hp} {σ : L2.St} {ta te tl : TE} {D : Ends} {tz : TS}
theorem el_eq {xs ys : List V} (h : EvL te σ H xs) (e : xs = ys) : EvL te σ H ys := e ▸ h
theorem q_parT {i j : Nat} {rows : List RowM} {b : Bool} {xs : List V} (ok : RowsOk rows) (h : EvTree K C te σ H rows b) (h2 : EvL tl σ H xs) (k : ∀ p tk l H1, H p = none → H l = none → Ex H H1 → TreeAt K H1 C p rows b tk → H1 l = some (.lst xs) → tz D ((σ.set i (some (.ref p))).set j (some (.ref l))) H1) : tSeq (tPar i j (tCons te (tCons tl tNil))) tz D σ H :=
  h H (Ex.refl H) _ fun p tk H1 hp e t => h2 H1 e _ fun l H2 hl e2 f2 => ⟨_, _, rfl, k p tk l H2 hp (fresh_back e hl) (e.trans e2) (t.same e2 ok) f2⟩
end
theorem leaf_is {rs : List RowM} {r : RowM} (hr : r ∈ rs) : inV (V.str r.name) ((leavesOf rs).map V.str) = leafB rs r := by
  rw [in_strs]
  have e : (r.name ∈ leavesOf rs) ↔ leafB rs r = true := by
    constructor
    · intro h
      obtain ⟨q, hq, e⟩ := List.mem_map.mp h
      have := (List.mem_filter.mp hq).2
      unfold leafB at this ⊢
      rw [e] at this
      exact this
    · exact fun h => List.mem_map_of_mem (List.mem_filter.mpr ⟨hr, h⟩)
  rw [Bool.eq_iff_iff, ← e]
  simp
/-- the groups with children, and the root -/
def crowns (rs : List RowM) : List Str := "" :: (rs.filter fun r => !leafB rs r).map (·.name)
theorem crown_ok {rs : List RowM} {t : Str} (h : t ∈ crowns rs) : t ∈ ("" : Str) :: nms rs ∧ (t = "" ∨ kidsOf rs (Sum.inr t) ≠ []) := by
  rcases List.mem_cons.mp h with rfl | m
  · exact ⟨List.mem_cons_self, .inl rfl⟩
  · obtain ⟨r, hr, rfl⟩ := List.mem_map.mp m
    obtain ⟨h1, h2⟩ := List.mem_filter.mp hr
    refine ⟨List.mem_cons_of_mem _ (List.mem_map_of_mem h1), .inr fun e => ?_⟩
    have h3 := kids_empty rs r.name
    rw [e] at h3
    have h3 : (true : Bool) = leafB rs r := h3
    rw [← h3] at h2
    cases h2
theorem crowns_len (rs : List RowM) : (crowns rs).length ≤ rs.length + 1 := by
  unfold crowns
  rw [List.length_cons, List.length_map]
  exact Nat.succ_le_succ (List.length_filter_le _ _)
end Bd
end

section
namespace Bd
open PySem L2 Am
open Evl hiding tCut pss_cut

/-! what the law reckons of a tree -/
theorem dp_amts {K : PySem.W.Frag} {H : Hp} : ∀ {ws : List V} {qs : List Rat}, Paired (AmtQ K H) ws qs → DpAll K H ws (qs.map amtD)
  | _, _, .nil => .nil
  | _, _, .cons a b => .cons (dp_amt a) (dp_amts b)
theorem lay_amts : ∀ qs : List Rat, PyData.canLayAll0 (qs.map amtD) = true
  | [] => by simp [PyData.canLayAll0]
  | q :: qs => by
    rw [List.map_cons, PyData.canLayAll0, lay_amts qs]
    simp [amtD, PyData.canLay0, PyData.canLayAll0]
theorem dep_amts : ∀ qs : List Rat, PyData.depthAll (qs.map amtD) ≤ 2
  | [] => by simp [PyData.depthAll]
  | q :: qs => by
    rw [List.map_cons, PyData.depthAll]
    have := dep_amts qs
    have e : (amtD q).depth ≤ 2 := by simp [amtD, PyData.depth, PyData.depthAll]
    omega
theorem shaped_amts (qs : List Rat) : SeqAt.shaped (.list (qs.map amtD)) = true := by
  unfold SeqAt.shaped
  have := dep_amts qs
  rw [PyData.canLay0, lay_amts, Bool.true_and, decide_eq_true_eq, PyData.depth]
  omega
theorem eqv_nil (qs : List Rat) : PyData.eqv (.list (qs.map amtD)) (.list []) = qs.isEmpty := by
  cases qs <;> simp [PyData.eqv, PyData.eqvAll]
section
variable {K : PySem.W.Frag} {H : Hp} {σ : L2.St} {ta tb te tl tx : TE} {E : XK}
theorem et_empty {i : Nat} {l : Addr} {ws : List V} {qs : List Rat} (hv : σ[i]? = some (some (.ref l))) (hl : SqL K H l ws) (hp : Paired (AmtQ K H) ws qs) : EvT (tTest (tOp (rEqD K) (tVar i) (tLst tNil))) σ H qs.isEmpty :=
  et_test (ev_opL (xs := []) (ev_var hv) (el_lst ea_nil (Nat.zero_le _)) fun p H1 h1 e1 => rv_val fun H2 e2 Q k => ⟨.list (qs.map amtD), .list [], .lst (ex_l (e1.trans e2) hl) (dp_amts (paired_mono (fun _ _ z => AmtQ.same (e1.trans e2) z) hp)), .lst (SqL.of (e2 _ _ h1)) .nil, shaped_amts qs, by simp [SeqAt.shaped, PyData.canLay0, PyData.canLayAll0, PyData.depth, PyData.depthAll], by
    rw [eqv_nil]
    exact k⟩)
theorem eq_lsumV {l : Addr} {ws : List V} {qs : List Rat} {M S : Nat} (h : Ev tl σ H (.ref l)) (hl : SqL K H l ws) (hp : Paired (AmtQ K H) ws qs) (M0 : 0 < M) (hM : M < 2 ^ 200) (hS : S < 2 ^ 200) (hn : qs.length ≤ 200) (hd : ∀ q ∈ qs, InMS M S q) :
    EvQ K (tCall (spLSum K) [] E (tCons tl tNil)) σ H (sumQ qs) := fun H1 e Q k => h H1 e _ fun H2 e2 => ⟨l, ws, qs, M, S, rfl, ex_l (e.trans e2) hl, paired_mono (fun _ _ z => AmtQ.same (e.trans e2) z) hp, M0, lt_up hM (by decide), hS, hn, hd, fun v H' s hv => k v H' (e2.trans s) hv⟩
/-- d.get(name, (0, 1)) -/
theorem eq_get0 {i : Nat} {d : Addr} {kvs : List (Key × V)} {ns : List Str} {f : Str → Rat} {n : Str} (hv : σ[i]? = some (some (.ref d))) (hy : Ev tx σ H (.str n)) (fd : H d = some (.dK kvs)) (m : MapR (AmR K f) H kvs ns) (nd : ns.Nodup) (hz : n ∉ ns → f n = 0) :
    EvQ K (tDGet2 (tVar i) tx (tTup (tCons (tC (.int 0)) (tCons (tC (.int 1)) tNil)))) σ H (f n) := fun H1 e Q k =>
  ⟨_, hv, d, rfl, .inl ⟨kvs, .inl (e _ _ fd)⟩, hy H1 e _ fun H2 e2 => ⟨by show 2 ≤ sizeLine; decide, fun p hp => by
    have s3 := Same.new (Same.refl H2) hp (.tup [.int 0, .int 1])
    have f3 : upd H2 p (.tup [.int 0, .int 1]) p = some (.tup [.int 0, .int 1]) := upd_same
    generalize upd H2 p (.tup [.int 0, .int 1]) = H3 at s3 f3 ⊢
    refine ⟨_, DGet.k (k := Sum.inr n) (s3 _ _ (e2 _ _ (e _ _ fd))), ?_⟩
    by_cases c : n ∈ ns
    · obtain ⟨v, h1, h2⟩ := m.get nd c
      rw [h1]
      exact k v H3 (e2.trans s3) (AmtQ.same ((e.trans e2).trans s3) h2)
    · rw [m.none c]
      refine k _ H3 (e2.trans s3) ⟨p, rfl, ?_⟩
      rw [hz c]
      exact SqT.of f3⟩⟩
/-- dict(dues).get(kind, (0, 1)) -/
theorem eq_settingE {t : Addr} {dues : List (Str × PyData)} {kd : Str} {q : Rat} (hv : Ev te σ H (.ref t)) (ht : DuesAt K H t dues) (dok : DuesOk dues) (hx : Ev tx σ H (.str kd)) (hk : kd = "min" ∨ kd = "low") (hq : dueOf (fullD dues) kd = some (amtD q)) :
    EvQ K (tDGet2 (tCB (fun xs H Q => ∃ (a : Addr) (ps : List Addr) (kvs : List (Key × V)), xs = [.ref a] ∧ FrT H a (ps.map V.ref) ∧ Paired (fun p kv => SqT K H p [kV kv.1, kv.2]) ps kvs ∧ ∀ p, H p = none → Q (.ref p) (upd H p (.dK (mergeK [] kvs)))) (tCons te tNil)) tx (tTup (tCons (tC (.int 0)) (tCons (tC (.int 1)) tNil)))) σ H q := fun H0 e0 Q k => by
  refine hv H0 e0 _ fun H1 e1 => ?_
  have e := e0.trans e1
  obtain ⟨ps, p1, p2⟩ := ht
  have p1' := FrT.same e p1
  obtain ⟨dk, k1, k2⟩ := dk_of_dues (paired_mono (fun _ _ z => DueAt.same e z) p2)
  have ndk : (dk.map (·.1)).Nodup := by
    rw [pv_keys k2]
    have := nodup_inr dok.1
    rwa [List.map_map] at this
  refine ⟨t, ps, dk, rfl, p1', k1, fun d hd => ?_⟩
  have em : mergeK [] dk = dk := by
    rw [mergeK_app _ [] (by simpa using ndk)]
    rfl
  rw [em]
  have s2 := Same.new (Same.refl H1) hd (.dK dk)
  have f2 : upd H1 d (.dK dk) d = some (.dK dk) := upd_same
  have val := val_due kd k2
  generalize upd H1 d (.dK dk) = H2 at s2 f2 ⊢
  refine ⟨d, rfl, .inl ⟨dk, .inl f2⟩, hx H2 (e.trans s2) _ fun H3 e3 => ⟨by show 2 ≤ sizeLine; decide, fun p hp => ?_⟩⟩
  have s4 := Same.new (Same.refl H3) hp (.tup [.int 0, .int 1])
  have f4 : upd H3 p (.tup [.int 0, .int 1]) p = some (.tup [.int 0, .int 1]) := upd_same
  generalize upd H3 p (.tup [.int 0, .int 1]) = H4 at s4 f4 ⊢
  have hq2 : dueOf (fullD dues) kd = some ((dueOf dues kd).getD (.tuple [.int 0, .int 1])) := by
    rcases hk with rfl | rfl <;> rfl
  rw [hq] at hq2
  refine ⟨_, DGet.k (k := Sum.inr kd) (s4 _ _ (e3 _ _ f2)), ?_⟩
  have e14 := ((e1.trans s2).trans e3).trans s4
  rcases val with ⟨v1, v2⟩ | ⟨v, d2, v1, v2, v3⟩
  · rw [v2] at hq2
    rw [v1]
    refine k _ H4 e14 ⟨p, rfl, ?_⟩
    have hq3 : amtD q = .tuple [.int 0, .int 1] := Option.some.inj hq2
    simp only [amtD, PyData.tuple.injEq, List.cons.injEq, PyData.int.injEq, and_true] at hq3
    rw [hq3.1, hq3.2]
    exact SqT.of f4
  · rw [v2] at hq2
    rw [v1]
    have hq3 : amtD q = d2 := Option.some.inj hq2
    rw [← hq3] at v3
    exact k v H4 e14 (AmtQ.same ((s2.trans e3).trans s4) (amt_dp v3))
theorem eq_setting {i : Nat} {t : Addr} {dues : List (Str × PyData)} {kd : Str} {q : Rat} (hv : σ[i]? = some (some (.ref t))) (ht : DuesAt K H t dues) (dok : DuesOk dues) (hx : Ev tx σ H (.str kd)) (hk : kd = "min" ∨ kd = "low") (hq : dueOf (fullD dues) kd = some (amtD q)) :
    EvQ K (tDGet2 (tCB (fun xs H Q => ∃ (a : Addr) (ps : List Addr) (kvs : List (Key × V)), xs = [.ref a] ∧ FrT H a (ps.map V.ref) ∧ Paired (fun p kv => SqT K H p [kV kv.1, kv.2]) ps kvs ∧ ∀ p, H p = none → Q (.ref p) (upd H p (.dK (mergeK [] kvs)))) (tCons (tVar i) tNil)) tx (tTup (tCons (tC (.int 0)) (tCons (tC (.int 1)) tNil)))) σ H q :=
  eq_settingE (ev_var hv) ht dok hx hk hq
end
/-! pairs of a use and a claim -/
def PairQ (K : PySem.W.Frag) (H : Hp) (v : V) (z : Rat × Rat) : Prop := ∃ (p : Addr) (u w : V), v = .ref p ∧ SqT K H p [u, w] ∧ AmtQ K H u z.1 ∧ AmtQ K H w z.2
theorem PairQ.tk {K : PySem.W.Frag} {G G' : Hp} {v : V} {z : Rat × Rat} (t : TK G G') (h : PairQ K G v z) : PairQ K G' v z := by
  obtain ⟨p, u, w, e, h1, h2, h3⟩ := h
  exact ⟨p, u, w, e, t.seqT h1, h2.tk t, h3.tk t⟩
theorem PairQ.same {K : PySem.W.Frag} {G G' : Hp} {v : V} {z : Rat × Rat} (s : Ex G G') (h : PairQ K G v z) : PairQ K G' v z := h.tk (.of s)
def PrR (K : PySem.W.Frag) (U c : Str → Rat) (G : Hp) (v : V) (n : Str) : Prop := PairQ K G v (U n, c n)
theorem pairs_split {K : PySem.W.Frag} {H : Hp} : ∀ {ws : List V} {zs : List (Rat × Rat)}, Paired (PairQ K H) ws zs → ∃ us : List (V × V), us.length = ws.length ∧ (∀ (i : Nat) (x : V) (y : V × V), ws[i]? = some x → us[i]? = some y → ∃ p, x = .ref p ∧ SqT K H p [y.1, y.2]) ∧ Paired (AmtQ K H) (us.map (·.1)) (zs.map (·.1)) ∧ Paired (AmtQ K H) (us.map (·.2)) (zs.map (·.2))
  | _, _, .nil => ⟨[], rfl, fun i x y h => by simp at h, .nil, .nil⟩
  | _, _, .cons a b => by
    obtain ⟨p, u, w, e, h1, h2, h3⟩ := a
    obtain ⟨us, l, g, q1, q2⟩ := pairs_split b
    refine ⟨(u, w) :: us, congrArg (· + 1) l, fun i x y hx hy => ?_, .cons h2 q1, .cons h3 q2⟩
    cases i with
    | zero =>
      cases hx
      cases hy
      exact ⟨p, e, h1⟩
    | succ i => exact g i x y hx hy
/-- a dict that tells these names' values, and may tell others -/
def DictR (R : Hp → V → Str → Prop) (G : Hp) (d : Addr) (names : List Str) : Prop := ∃ kvs, G d = some (.dK kvs) ∧ ∀ n ∈ names, ∃ v, valV kvs (Sum.inr n) = some v ∧ R G v n
theorem DictR.ex {R : Hp → V → Str → Prop} (hR : ∀ {G G' : Hp} {v : V} {n : Str}, TK G G' → R G v n → R G' v n) {G G' : Hp} {d : Addr} {names : List Str} (s : Ex G G') (h : DictR R G d names) : DictR R G' d names := by
  obtain ⟨kvs, h1, h2⟩ := h
  exact ⟨kvs, s _ _ h1, fun n hn => let ⟨v, a, b⟩ := h2 n hn; ⟨v, a, hR (.of s) b⟩⟩
theorem DictR.sub {R : Hp → V → Str → Prop} {G : Hp} {d : Addr} {names ns : List Str} (h : DictR R G d names) (s : ∀ n ∈ ns, n ∈ names) : DictR R G d ns := by
  obtain ⟨kvs, h1, h2⟩ := h
  exact ⟨kvs, h1, fun n hn => h2 n (s n hn)⟩
theorem DictR.put {R : Hp → V → Str → Prop} (hR : ∀ {G G' : Hp} {v : V} {n : Str}, TK G G' → R G v n → R G' v n) {H : Hp} {d : Addr} {kvs : List (Key × V)} {names : List Str} {n : Str} {v : V} (h : DictR R H d names) (fd : H d = some (.dK kvs)) (hv : R H v n) : DictR R (upd H d (.dK (putK kvs (Sum.inr n) v))) d (n :: names) := by
  have t : TK H (upd H d (.dK (putK kvs (Sum.inr n) v))) := TK.dk fd _
  obtain ⟨ks, h1, h2⟩ := h
  rw [fd] at h1
  cases h1
  refine ⟨_, upd_same, fun m hm => ?_⟩
  rw [valV_put]
  by_cases c : (Sum.inr m : Key) = Sum.inr n
  · rw [if_pos c]
    have := Sum.inr.inj c
    subst this
    exact ⟨v, rfl, hR t hv⟩
  · rw [if_neg c]
    rcases List.mem_cons.mp hm with e | hm
    · exact absurd (congrArg Sum.inr e) c
    · obtain ⟨u, a, b⟩ := h2 m hm
      exact ⟨u, a, hR t b⟩
theorem below_grow (top : Str) : ∀ {rows : List RowM} {acc : List Str} {x : Str}, x ∈ acc → x ∈ rows.foldl (bStep top) acc
  | [], _, _, h => h
  | r :: rs, acc, x, h => by
    rw [List.foldl_cons]
    refine below_grow top ?_
    unfold bStep
    split
    · exact List.mem_append_left _ h
    · exact h
theorem below_pre {rows : List RowM} {top : Str} (i : Nat) : ∀ x ∈ (rows.take i).foldl (bStep top) [], x ∈ belowL rows top := fun x hx => by
  unfold belowL
  rw [← List.take_append_drop i rows, List.foldl_append]
  exact below_grow top hx
theorem bStep_pos {top : Str} {acc : List Str} {r : RowM} (h : r.above = top ∨ r.above ∈ acc) : bStep top acc r = acc ++ [r.name] := if_pos h
theorem bStep_neg {top : Str} {acc : List Str} {r : RowM} (h : ¬ (r.above = top ∨ r.above ∈ acc)) : bStep top acc r = acc := if_neg h
theorem Amts.kept {K : PySem.W.Frag} {G G' : Hp} {d : Addr} {names : List Str} {f : Str → Rat} (t : TK G G') (e : ∀ o, G d = some o → G' d = some o) (h : Amts K G d names f) : Amts K G' d names f := by
  obtain ⟨kvs, h1, h2⟩ := h
  exact ⟨kvs, e _ h1, fun n hn => let ⟨v, a, b⟩ := h2 n hn; ⟨v, a, b.tk t⟩⟩
theorem prR {K : PySem.W.Frag} {U c : Str → Rat} {G G' : Hp} {v : V} {n : Str} (t : TK G G') (h : PrR K U c G v n) : PrR K U c G' v n := PairQ.tk t h
theorem pairs_list {K : PySem.W.Frag} {H : Hp} {d : Addr} {names : List Str} {U c : Str → Rat} (h : DictR (PrR K U c) H d names) : ∃ g : Str → V, (∀ n ∈ names, ∀ H1, Ex H H1 → DGet H1 d (.str n) (some (g n))) ∧ ∀ ns : List Str, (∀ n ∈ ns, n ∈ names) → ∀ H1, Ex H H1 → Paired (PairQ K H1) (ns.map g) (ns.map fun n => (U n, c n)) := by
  obtain ⟨kvs, h1, h2⟩ := h
  refine ⟨fun n => (valV kvs (Sum.inr n)).getD .non, fun n hn H1 e => ?_, fun ns => ?_⟩
  · obtain ⟨v, h3, _⟩ := h2 n hn
    show DGet H1 d (.str n) (some ((valV kvs (Sum.inr n)).getD .non))
    rw [h3]
    exact dget_of (k := Sum.inr n) (e _ _ h1) h3
  · induction ns with
    | nil => exact fun _ _ _ => .nil
    | cons n ns ih =>
      intro hs H1 e
      obtain ⟨v, h3, h4⟩ := h2 n (hs n List.mem_cons_self)
      refine .cons ?_ (ih (fun m hm => hs m (List.mem_cons_of_mem _ hm)) H1 e)
      show PairQ K H1 ((valV kvs (Sum.inr n)).getD .non) (U n, c n)
      rw [h3]
      exact PairQ.same e h4
section
variable {K : PySem.W.Frag} {H : Hp} {σ : L2.St} {ta tb tk te ty : TE} {D : Ends} {tz : TS}
theorem eq_ixT {i : Nat} {p : Addr} {xs : List V} {j : Int} {v : V} {q : Rat} (hv : σ[i]? = some (some (.ref p))) (hs : SqT K H p xs) (hj : atI xs j = some v) (ha : AmtQ K H v q) : EvQ K (tOp (rIxT K) (tVar i) (tC (.int j))) σ H q := fun H1 e Q k => ⟨_, hv, p, xs, j, v, rfl, rfl, ex_t e hs, hj, k v H1 (Ex.refl H1) (ha.same e)⟩
theorem eq_ix0 {i : Nat} {p : Addr} {u w : V} {q : Rat} (hv : σ[i]? = some (some (.ref p))) (hs : SqT K H p [u, w]) (ha : AmtQ K H u q) : EvQ K (tOp (rIxT K) (tVar i) (tC (.int 0))) σ H q := eq_ixT hv hs rfl ha
theorem eq_ix1 {i : Nat} {p : Addr} {u w : V} {q : Rat} (hv : σ[i]? = some (some (.ref p))) (hs : SqT K H p [u, w]) (ha : AmtQ K H w q) : EvQ K (tOp (rIxT K) (tVar i) (tC (.int 1))) σ H q := eq_ixT hv hs rfl ha
theorem q_parQ {i j : Nat} {a b : Rat} (ha : EvQ K ta σ H a) (hb : EvQ K tb σ H b) (k : ∀ va vb H1, Ex H H1 → AmtQ K H1 va a → AmtQ K H1 vb b → tz D ((σ.set i (some va)).set j (some vb)) H1) : tSeq (tPar i j (tCons ta (tCons tb tNil))) tz D σ H :=
  ea_two (Q := fun vs H1 => ∃ v w, vs = [v, w] ∧ tz D ((σ.set i (some v)).set j (some w)) H1) ha hb (Ex.refl H) fun va vb H2 e2 qa qb => ⟨va, vb, rfl, k va vb H2 e2 qa qb⟩
theorem s_dputP {i : Nat} {d : Addr} {kvs : List (Key × V)} {n : Str} {a b : Rat} (hv : σ[i]? = some (some (.ref d))) (hk : Ev tk σ H (.str n)) (ha : EvQ K ta σ H a) (hb : EvQ K tb σ H b) (fd : H d = some (.dK kvs)) (len : kvs.length ≤ 900)
    (k : ∀ v H1, Ex H H1 → PairQ K H1 v (a, b) → D.nx σ (upd H1 d (.dK (putK kvs (Sum.inr n) v)))) : sDPut (tVar i) tk (tTup (tCons ta (tCons tb tNil))) D σ H :=
  ea_two (Q := fun xs H1 => xs.length ≤ sizeLine ∧ ∀ l, H1 l = none → tVar i σ (upd H1 l (.tup xs)) fun x H2 => tk σ H2 fun y H3 => ∃ a H4, x = .ref a ∧ DPut H3 a y (.ref l) H4 ∧ D.nx σ H4) ha hb (Ex.refl H) fun va vb H1 e1 qa qb => ⟨by show 2 ≤ sizeLine; decide, fun p hp => by
    have s1 := Same.new (Same.refl H1) hp (.tup [va, vb])
    have f1 : upd H1 p (.tup [va, vb]) p = some (.tup [va, vb]) := upd_same
    generalize upd H1 p (.tup [va, vb]) = H2 at s1 f1 ⊢
    exact ⟨_, hv, hk H2 (e1.trans s1) _ fun H3 e3 => ⟨d, _, rfl, .inl ⟨kvs, Sum.inr n, e3 _ _ (s1 _ _ (e1 _ _ fd)), rfl, small1000 (by omega), rfl⟩, k _ H3 ((e1.trans s1).trans e3) ⟨p, va, vb, rfl, SqT.of (e3 _ _ f1), qa.same (s1.trans e3), qb.same (s1.trans e3)⟩⟩⟩⟩
theorem eq_claim {i : Nat} {d : Addr} {names : List Str} {U c : Str → Rat} {n : Str} (hv : σ[i]? = some (some (.ref d))) (hy : Ev ty σ H (.str n)) (h : DictR (PrR K U c) H d names) (hn : n ∈ names) : EvQ K (tOp (rIxT K) (tDGet (tVar i) ty) (tC (.int 1))) σ H (c n) := fun H1 e Q k =>
  ⟨_, hv, hy H1 e _ fun H2 e2 => by
    obtain ⟨kvs, h1, h2⟩ := DictR.ex (R := PrR K U c) (fun t z => prR t z) (e.trans e2) h
    obtain ⟨v, h3, p, u, w, rfl, h5, h6, h7⟩ := h2 n hn
    exact ⟨d, _, rfl, dget_of (k := Sum.inr n) h1 h3, p, _, 1, w, rfl, rfl, h5, rfl, k w H2 e2 h7⟩⟩
end
theorem mul_ms {M N S T : Nat} {a b : Rat} (M0 : 0 < M) (N0 : 0 < N) (ha : InMS M S a) (hb : InMS N T b) : InMS (M * N) (S * T) (a * b) := by
  refine ⟨of_den (Nat.mul_pos M0 N0) ((ha.of M0).mul (hb.of N0)), Rat.mul_nonneg ha.lo hb.lo, ?_⟩
  have h1 := Rat.mul_le_mul_of_nonneg_left hb.hi ha.lo
  have h2 := Rat.mul_le_mul_of_nonneg_right ha.hi (show (0 : Rat) ≤ (T : Rat) by exact_mod_cast Nat.zero_le T)
  have h3 := Rat.le_trans h1 h2
  push_cast
  exact h3
def spLPart (K : PySem.W.Frag) : Sp := fun vs H Q _ => ∃ (va vm : V) (l : Addr) (ws : List V) (h : Bool) (a : Rat) (x : Str) (kids : List Str) (U c : Str → Rat) (M S : Nat), vs = [va, vm, .ref l, .bl h] ∧ AmtQ K H va a ∧ PairQ K H vm (U x, c x) ∧ SqL K H l ws ∧ Paired (PairQ K H) ws (kids.map fun n => (U n, c n)) ∧ x ∈ kids ∧
  PartOk M S a (sumQ (kids.map U)) kids U c ∧ ∀ v H', Same H H' → AmtQ K H' v (partQ h a (sumQ (kids.map U)) (sumQ (kids.map c)) U c x) → Q v H'
def spLShares (K : PySem.W.Frag) : Sp := fun vs H Q _ => ∃ (l du : Addr) (top kd : Str) (h : Bool) (ws : List V) (rs : List RowM) (ku : List (Key × V)) (us : List Str) (k u U c p : Str → Rat), vs = [.ref l, .ref du, .str top, .str kd, .bl h] ∧ SqL K H l ws ∧ Paired (RowAt K H) ws rs ∧ RowsOk rs ∧ rs.length ≤ 12 ∧
  H du = some (.dK ku) ∧ MapR (AmR K u) H ku us ∧ us.Nodup ∧ (∀ n, n ∉ us → u n = 0) ∧ (∀ n, Drawn (u n)) ∧ (∀ n, Drawn (k n)) ∧ (kd = "min" ∨ kd = "low") ∧ KindOk rs kd k ∧ Reck rs top h k u U c p ∧
  ∀ d kvs H', H d = none → Same H H' → H' d = some (.dK kvs) → MapR (AmR K p) H' kvs (belowL rs top) → Q (.ref d) H'
def spLUsed (K : PySem.W.Frag) : Sp := fun vs H Q _ => ∃ (l du : Addr) (ws : List V) (rs : List RowM) (ku : List (Key × V)) (us : List Str) (u U : Str → Rat) (M S : Nat), vs = [.ref l, .ref du] ∧ SqL K H l ws ∧ Paired (RowAt K H) ws rs ∧ RowsOk rs ∧ rs.length ≤ 200 ∧ H du = some (.dK ku) ∧ MapR (AmR K u) H ku us ∧ us.Nodup ∧ (∀ n, n ∉ us → u n = 0) ∧
  (∀ r ∈ rs, U r.name = if kidsOf rs (Sum.inr r.name) = [] then u r.name else sumQ ((kidsOf rs (Sum.inr r.name)).map U)) ∧ 0 < M ∧ M < 2 ^ 200 ∧ S < 2 ^ 200 ∧ (∀ r ∈ rs, InMS M S (U r.name)) ∧ ∀ d H', H d = none → Same H H' → Amts K H' d (nms rs) U → Q (.ref d) H'
section
variable {P : Program} {w : World} {K : PySem.W.Frag} {mg : Str → Option Value} {base : Heap}
end
end Bd
end

section
namespace Bd
open PySem L2 Am
open Evl hiding tCut pss_cut
abbrev sLTop : Stmt := (top 74)
theorem scLTop : FnScope ["_law_source_here", "_law_rows_here", "_law_inner", "_law_row", "_law_one_here"] ["_law_source_here", "_law_rows_here"] (defScope sLTop) := ⟨rfl, rfl, rfl, by decide +kernel, rfl, by decide +kernel, by decide +kernel⟩

/-! a drawn top -/
def spLTop (K : PySem.W.Frag) : Sp := fun vs H Q _ => ∃ (s l : Addr) (ws : List V) (rs : List RowM), vs = [.ref s, .ref l] ∧ Src H s ∧ l ≠ s ∧ SqL K H l ws ∧ Paired (RowAt K H) ws rs ∧ rs.length ≤ 200 ∧
  ∀ top H', top ∈ crowns rs → Src H' s → Kept s H H' → Q (.str top) H'
section
variable {P : Program} {w : World} {K : PySem.W.Frag} {mg : Str → Option Value} {base : Heap}
--<LTOP
theorem ok_ltop {f gO : Addr} {fd dO : FuncData} (F : Fun K "_law_top" "_law_top" sLTop f fd) (cO : Cal P w K mg base "_law_one" ["_law_source_here", "_law_things"] 3 (spOne K) gO dO) : FnOk P w K mg base CX0 4 f fd ["_law_source_here", "_law_rows_here"] (spLTop K) := by
  refine F.ok scLTop (fun vs H Q E h => ?_) (fun cdv A outer s H vs Q E hr h => ?_)
  · obtain ⟨s, l, ws, rs, rfl, _⟩ := h
    rfl
  obtain ⟨p, l, ws, rs, rfl, hp, lp, hl, hrows, len, q⟩ := h
  refine ⟨_, (pss_cons (ps_set (i := 2) scLTop.nd rfl (Or.inl rfl) (pe_op op_cat (pe_lst (pa_cons pe_str pa_nil)) (pe_lc (own := [("_law_row", 3)]) (g := gName 3) (tt := tTest (tOp (rIn K false) (tOp (rIxT K) (tVar 3) (tC (.int 0))) (tLc (iList K (tVar 1)) (gName 4) tYes (tOp (rIxT K) (tVar 4) (tC (.int 1))) [4]))) (te := (tOp (rIxT K) (tVar 3) (tC (.int 0)))) rfl scLTop.nd (pi_list (pv 1)) (blkOk_by (own := [("_law_row", 3)]) (N := ["_law_source_here", "_law_rows_here", "_law_inner", "_law_row", "_law_one_here"]) (sc := defScope sLTop) (by decide +kernel)) (fun _ _ _ _ _ => (pg_name (i := 3) scLTop.nd rfl (Or.inl rfl))) (fun _ _ _ _ _ => (pts_one (pt_cmpR op_in_seq (pe_ix ix_tup (pv 3) pe_int (fun _ _ => rfl)) (pe_lc (own := [("_law_one_here", 4)]) (g := gName 4) (tt := tYes) (te := (tOp (rIxT K) (tVar 4) (tC (.int 1)))) rfl scLTop.nd (pi_list (pv 1)) (blkOk_by (own := [("_law_one_here", 4)]) (N := ["_law_source_here", "_law_rows_here", "_law_inner", "_law_row", "_law_one_here"]) (by kernel_rfl)) (fun _ _ _ _ _ => (pg_name (i := 4) scLTop.nd rfl (Or.inl rfl))) (fun _ _ _ _ _ => pts_nil) (fun _ _ _ _ _ => (pe_ix ix_tup (pv 4) pe_int (fun _ _ => rfl)))) (by first | exact nomark _ | rfl)))) (fun _ _ _ _ _ => (pe_ix ix_tup (pv 3) pe_int (fun _ _ => rfl)))))) (pss_one (ps_ret (pe_call cO.ok (hr.mono (by decide)) rfl cO.mg cO.kp cO.bd .nil pass0 (pa_cons (pv 0) (pa_cons (pv 2) pa_nil)))))), ?_⟩
  have wl : ws.length = rs.length := Paired.length hrows
  refine q_asgL (xs := (crowns rs).map V.str) (el_eq (el_cat (el_lst (ea_cons ev_c ea_nil) (by show 1 ≤ 100000; decide)) (lcL (K := K) rs (fun r => !leafB rs r) (fun r : RowM => V.str r.name) (ev_var rfl) hl wl (by omega) (fun _ => rfl) (fun m x z H7 e hx hz => ?_) fun m x z H7 e hx hz _ => ?_) ?_) ?_) fun il H1 hil e1 f1 => ?_
  · obtain ⟨z', h1, h2, h3⟩ := row_ix (l := l) (i := 3) (σ := (wipe [some (.ref p), some (.ref l), none, none, none] [3]).set 3 (some x)) hrows hx e rfl
    rw [hz] at h1
    cases h1
    refine et_test (ev_is (ev_opL h2 (xs := (rs.map (·.above)).map V.str) (el_eq (lcL (K := K) rs (fun _ => true) (fun r : RowM => V.str r.above) (ev_var rfl) (ex_l e hl) wl (by omega) (fun _ => rfl) (fun _ _ _ _ _ _ _ => et_yes) fun m2 x2 z2 H8 e8 hx2 hz2 _ => ?_) ?_) fun p H1 h1 e1 => rv_isL (sq_of h1) rfl (flat_strs _)) ?_)
    · obtain ⟨z2', g1, g2, g3⟩ := row_ix (l := l) (i := 4) (σ := (wipe ((wipe [some (.ref p), some (.ref l), none, none, none] [3]).set 3 (some x)) [4]).set 4 (some x2)) hrows hx2 (e.trans e8) rfl
      rw [hz2] at g1
      cases g1
      exact g3
    · rw [List.filter_eq_self.mpr fun _ _ => rfl, List.map_map]
      rfl
    · rw [leaf_in, Bool.not_not]
  · obtain ⟨z', h1, h2, h3⟩ := row_ix (l := l) (i := 3) (σ := (wipe [some (.ref p), some (.ref l), none, none, none] [3]).set 3 (some x)) hrows hx e rfl
    rw [hz] at h1
    cases h1
    exact h2
  · have := List.length_filter_le (fun r => !leafB rs r) rs
    rw [List.length_map]
    show 1 + _ ≤ 100000
    omega
  · unfold crowns
    rw [List.map_cons, List.map_map]
    rfl
  · have cl := crowns_len rs
    have s1 := src_ex e1 hp
    refine ⟨_, rfl, _, rfl, p, il, (crowns rs).map V.str, rfl, s1, SqL.of f1, (src_ne hp hil).symm, by unfold crowns; simp, by rw [List.length_map]; omega, fun v H' hv s2 k2 => ?_⟩
    obtain ⟨t, ht, rfl⟩ := List.mem_map.mp hv
    exact q t H' ht s2 ((Kept.of e1).trans k2)
-->LTOP
end
end Bd
end

section
namespace Bd
open PySem L2 Am
open Evl hiding tCut pss_cut
/-! walks over dicts, dicts that are read while they are walked, amounts that are compared -/
theorem lock_ex {H G : Hp} {d : Addr} {kvs : List (Key × V)} {od : Obj} (fd : H d = some (.dK kvs)) (e : Ex (upd H d (.frz od (.dK kvs))) G) : Ex H (upd G d (.dK kvs)) := fun b o hb => by
  by_cases c : b = d
  · subst c
    rw [fd] at hb
    cases hb
    exact upd_same
  · rw [upd_ne c]
    exact e b o (by rw [upd_ne c]; exact hb)
theorem lock_tk {H : Hp} {d : Addr} {kvs : List (Key × V)} (fd : H d = some (.dK kvs)) (od : Obj) : TK H (upd H d (.frz od (.dK kvs))) := TK.dk fd _
section
variable {K : PySem.W.Frag} {H : Hp} {σ : L2.St} {ta tb tc te tl tx ty : TE} {t : TT} {tu : TS} {D : Ends} {tz : TS}
/-- for name in d, d a dict that stands in a local -/
theorem q_forKeys {i j : Nat} {d : Addr} {kvs : List (Key × V)} (hv : σ[i]? = some (some (.ref d))) (fd : H d = some (.dK kvs)) (Pv : Nat → L2.St → Prop) (h0 : Pv 0 σ)
    (hs : ∀ (m : Nat) (kv : Key × V) (σ' : L2.St) (od : Obj) (G : Hp) (D2 : Ends), kvs[m]? = some kv → Pv m σ' → Ex (upd H d (.frz od (.dK kvs))) G → (∀ σ2 G2, Pv (m + 1) σ2 → Ex (upd H d (.frz od (.dK kvs))) G2 → D2.nx σ2 G2) → tu D2 (σ'.set j (some (kV kv.1))) G)
    (hd : ∀ σ' G, Pv kvs.length σ' → Ex H G → G d = some (.dK kvs) → tz D σ' G) : tSeq (tLock (tFor (iKeys (tVar i)) (gName j) tu)) tz D σ H := by
  refine ⟨d, _, fd, trivial, fun od => ?_⟩
  have fL : upd H d (.frz od (.dK kvs)) d = some (.frz od (.dK kvs)) := upd_same
  refine ⟨_, hv, d, od, rfl, .inl ⟨kvs, fL, ?_⟩⟩
  refine for_it walk_keys (fun m σ' G => Pv m σ' ∧ Ex (upd H d (.frz od (.dK kvs))) G) ⟨h0, Ex.refl _⟩ ?_ ?_ ?_
  · rintro m σ' G _ ⟨_, e⟩
    exact e _ _ fL
  · rintro m x σ' G G' hm ⟨p, e⟩ ⟨rfl, kk, v, hkv, rfl⟩
    exact hs m (kk, v) σ' od _ _ hkv p e fun σ2 G2 a b => ⟨a, b⟩
  · rintro σ' G ⟨p, e⟩
    exact ⟨e _ _ fL, hd _ _ p (lock_ex fd e) upd_same⟩
/-- [.. for name in d if ..] -/
theorem el_lockLc {i j : Nat} {d : Addr} {kvs : List (Key × V)} {vs : List Nat} (p : Key × V → Bool) (g : Key × V → V) (hi : σ[i]? = some (some (.ref d))) (fd : H d = some (.dK kvs)) (len : kvs.length ≤ 900) (hw : ∀ x, wipe ((wipe σ vs).set j (some x)) vs = wipe σ vs)
    (ht : ∀ H1, Ex H H1 → ∀ od, ∀ kv ∈ kvs, ∀ G, Ex (upd H1 d (.frz od (.dK kvs))) G → EvT t ((wipe σ vs).set j (some (kV kv.1))) G (p kv))
    (he : ∀ H1, Ex H H1 → ∀ od, ∀ kv ∈ kvs, p kv = true → ∀ G, Ex (upd H1 d (.frz od (.dK kvs))) G → Ev te ((wipe σ vs).set j (some (kV kv.1))) G (g kv)) : EvL (tLockE (tLc (iKeys (tVar i)) (gName j) t te vs)) σ H ((kvs.filter p).map g) := by
  intro H1 e Q k
  have fd1 := e _ _ fd
  refine ⟨d, _, fd1, trivial, fun od => ?_⟩
  have fL : upd H1 d (.frz od (.dK kvs)) d = some (.frz od (.dK kvs)) := upd_same
  refine ⟨_, hi, d, od, rfl, .inl ⟨kvs, fL, fun Dl hD => ?_⟩⟩
  have ne : Dl ≠ d := fun z => by rw [z, fL] at hD; cases hD
  have hD1 : H1 Dl = none := by rw [upd_ne ne] at hD; exact hD
  refine lc_it walk_keys (fun m G => Ex (upd H1 d (.frz od (.dK kvs))) G ∧ G Dl = some (.lst (((kvs.take m).filter p).map g))) ⟨Ex.new hD, upd_same⟩ ?_ ?_ ?_
  · rintro m G _ ⟨a, _⟩
    exact a _ _ fL
  · rintro m x G G' hm ⟨a, b⟩ ⟨rfl, kk, v, hkv, rfl⟩
    refine ⟨hw _, ?_⟩
    have hmem := List.mem_of_getElem? hkv
    refine ht H1 e od (kk, v) hmem G' a G' (Ex.refl _) _ fun G3 e3 => ?_
    have et : kvs.take (m + 1) = kvs.take m ++ [(kk, v)] := by
      rw [List.take_add_one, hkv]
      rfl
    cases c : p (kk, v) with
    | true =>
      refine iteT (he H1 e od (kk, v) hmem c G3 (a.trans e3) G3 (Ex.refl _) _ fun G4 e4 => ⟨_, (e3.trans e4) _ _ b, ?_, Ex.mut ((a.trans e3).trans e4) hD, ?_⟩)
      · rw [List.length_map]
        have h1 := List.length_filter_le p (kvs.take m)
        rw [List.length_take] at h1
        exact small1000 (by omega)
      · rw [upd_same, et, List.filter_append, List.filter_cons_of_pos c, List.map_append]
        rfl
    | false =>
      refine iteF ⟨a.trans e3, ?_⟩
      rw [et, List.filter_append, List.filter_cons_of_neg (by rw [c]; decide)]
      rw [e3 _ _ b]
      simp
  · rintro G ⟨a, b⟩
    rw [List.take_length] at b
    refine ⟨a _ _ fL, ?_⟩
    have ed : Ex H1 (upd G d (.dK kvs)) := lock_ex fd1 a
    exact k Dl _ hD1 ed (by rw [upd_ne ne]; exact b)
/-- a dict that may be locked -/
def AmtsR (K : PySem.W.Frag) (G : Hp) (d : Addr) (names : List Str) (f : Str → Rat) : Prop := ∃ kvs, Rd G d (.dK kvs) ∧ ∀ n ∈ names, ∃ v, valV kvs (Sum.inr n) = some v ∧ AmtQ K G v (f n)
theorem Amts.rd {d : Addr} {names : List Str} {f : Str → Rat} (h : Amts K H d names f) : AmtsR K H d names f := by
  obtain ⟨kvs, h1, h2⟩ := h
  exact ⟨kvs, .inl h1, h2⟩
theorem AmtsR.ex {G G' : Hp} {d : Addr} {names : List Str} {f : Str → Rat} (s : Ex G G') (h : AmtsR K G d names f) : AmtsR K G' d names f := by
  obtain ⟨kvs, h1, h2⟩ := h
  exact ⟨kvs, ex_rd s h1, fun n hn => let ⟨v, a, b⟩ := h2 n hn; ⟨v, a, b.same s⟩⟩
theorem AmtsR.lock {d : Addr} {kvs : List (Key × V)} {names : List Str} {f : Str → Rat} (fd : H d = some (.dK kvs)) (m : MapR (AmR K f) H kvs names) (nd : names.Nodup) (od : Obj) : AmtsR K (upd H d (.frz od (.dK kvs))) d names f :=
  ⟨kvs, .inr ⟨od, upd_same⟩, fun n hn => let ⟨v, a, b⟩ := m.get nd hn; ⟨v, a, AmtQ.tk (lock_tk fd od) b⟩⟩
theorem eq_getR {i : Nat} {d : Addr} {names : List Str} {f : Str → Rat} {n : Str} (hv : σ[i]? = some (some (.ref d))) (hy : Ev ty σ H (.str n)) (h : AmtsR K H d names f) (hn : n ∈ names) : EvQ K (tDGet (tVar i) ty) σ H (f n) := fun H1 e Q k =>
  ⟨_, hv, hy H1 e _ fun H2 e2 => by
    obtain ⟨kvs, h1, h2⟩ := h.ex (e.trans e2)
    obtain ⟨v, h3, h4⟩ := h2 n hn
    exact ⟨d, v, rfl, .inl ⟨kvs, Sum.inr n, h1, rfl, h3.symm⟩, k v H2 e2 h4⟩⟩
theorem eqv_amt2 (a b : Rat) : PyData.eqv (amtD a) (amtD b) = decide (a = b) := by
  show PyData.eqv (.tuple ([a.num, (a.den : Int)].map .int)) (.tuple ([b.num, (b.den : Int)].map .int)) = _
  rw [eqv_intT]
  refine decide_eq_decide.mpr ⟨fun h => ?_, fun h => by rw [h]⟩
  simp only [List.cons.injEq, and_true] at h
  exact Rat.ext h.1 (by omega)
theorem ev_eqQ {a b : Rat} (ha : EvQ K ta σ H a) (hb : EvQ K tb σ H b) : Ev (tOp (rEqD K) ta tb) σ H (.bl (decide (a = b))) := fun H1 e Q k =>
  ha H1 e _ fun va H2 e2 qa => hb H2 (e.trans e2) _ fun vb H3 e3 qb => ⟨amtD a, amtD b, dp_amt (qa.same e3), dp_amt qb, shaped_amt _, shaped_amt _, by rw [eqv_amt2]; exact k H3 (e2.trans e3)⟩
theorem ev_neQ {a b : Rat} (ha : EvQ K ta σ H a) (hb : EvQ K tb σ H b) : Ev (tOp (rNeD K) ta tb) σ H (.bl (!decide (a = b))) := fun H1 e Q k =>
  ha H1 e _ fun va H2 e2 qa => hb H2 (e.trans e2) _ fun vb H3 e3 qb => ⟨amtD a, amtD b, dp_amt (qa.same e3), dp_amt qb, shaped_amt _, shaped_amt _, by rw [eqv_amt2]; exact k H3 (e2.trans e3)⟩
/-- [..] == [], where nothing is in it -/
theorem ev_nilL (h : EvL tl σ H []) : Ev (tOp (rEqD K) tl (tLst tNil)) σ H (.bl true) :=
  ev_opLL h (el_lst ea_nil (Nat.zero_le _)) fun p q H1 h1 h2 e1 => rv_val fun H2 e2 Q k => ⟨.list [], .list [], .lst (SqL.of (e2 _ _ h1)) .nil, .lst (SqL.of (e2 _ _ h2)) .nil, by simp [SeqAt.shaped, PyData.canLay0, PyData.canLayAll0, PyData.depth, PyData.depthAll], by simp [SeqAt.shaped, PyData.canLay0, PyData.canLayAll0, PyData.depth, PyData.depthAll], by
    have : PyData.eqv (.list []) (.list []) = true := by simp [PyData.eqv, PyData.eqvAll]
    rw [this]
    exact k⟩
/-- triples of amounts -/
def TriQ (K : PySem.W.Frag) (H : Hp) (v : V) (z : Rat × Rat × Rat) : Prop := ∃ (p : Addr) (a b c : V), v = .ref p ∧ SqT K H p [a, b, c] ∧ AmtQ K H a z.1 ∧ AmtQ K H b z.2.1 ∧ AmtQ K H c z.2.2
theorem TriQ.tk {G G' : Hp} {v : V} {z : Rat × Rat × Rat} (t : TK G G') (h : TriQ K G v z) : TriQ K G' v z := by
  obtain ⟨p, a, b, c, e, h1, h2, h3, h4⟩ := h
  exact ⟨p, a, b, c, e, t.seqT h1, h2.tk t, h3.tk t, h4.tk t⟩
theorem TriQ.same {G G' : Hp} {v : V} {z : Rat × Rat × Rat} (s : Ex G G') (h : TriQ K G v z) : TriQ K G' v z := h.tk (.of s)
theorem ea_three {a b c : Rat} (ha : EvQ K ta σ H a) (hb : EvQ K tb σ H b) (hc : EvQ K tc σ H c) {H1 : Hp} (e : Ex H H1) {Q : List V → Hp → Prop} (k : ∀ va vb vc H2, Ex H1 H2 → AmtQ K H2 va a → AmtQ K H2 vb b → AmtQ K H2 vc c → Q [va, vb, vc] H2) : tCons ta (tCons tb (tCons tc tNil)) σ H1 Q :=
  ha H1 e _ fun va H2 e2 qa => hb H2 (e.trans e2) _ fun vb H3 e3 qb => hc H3 ((e.trans e2).trans e3) _ fun vc H4 e4 qc => k va vb vc H4 ((e2.trans e3).trans e4) (qa.same (e3.trans e4)) (qb.same e4) qc
theorem s_appT3 {l : Addr} {xs : List V} {a b c : Rat} (hl : H l = some (.lst xs)) (ho : Ev te σ H (.ref l)) (ha : EvQ K ta σ H a) (hb : EvQ K tb σ H b) (hc : EvQ K tc σ H c) (hz : xs.length ≤ 900) (k : ∀ v H1, Ex H H1 → TriQ K H1 v (a, b, c) → D.nx σ (upd H1 l (.lst (xs ++ [v])))) :
    tDrop (tBM K "list" rAppend te (tCons (tTup (tCons ta (tCons tb (tCons tc tNil)))) tNil)) D σ H := ho H (Ex.refl H) _ fun H1 e1 =>
  ⟨Or.inl ⟨rfl, xs, sq_of (e1 l _ hl)⟩, ea_three (Q := fun ys H1 => ys.length ≤ sizeLine ∧ ∀ p, H1 p = none → tNil σ (upd H1 p (.tup ys)) fun zs H2 => rAppend (.ref l) (.ref p :: zs) H2 fun _ H3 => D.nx σ H3) ha hb hc e1 fun va vb vc H2 e2 qa qb qc => ⟨by show 3 ≤ sizeLine; decide, fun p hp => by
    have s3 := Same.new (Same.refl H2) hp (.tup [va, vb, vc])
    have f3 : upd H2 p (.tup [va, vb, vc]) p = some (.tup [va, vb, vc]) := upd_same
    generalize upd H2 p (.tup [va, vb, vc]) = H3 at s3 f3 ⊢
    exact ⟨l, xs, .ref p, rfl, rfl, s3 _ _ (e2 _ _ (e1 _ _ hl)), small1000 (by omega), k _ H3 ((e1.trans e2).trans s3) ⟨p, va, vb, vc, rfl, SqT.of f3, qa.same s3, qb.same s3, qc.same s3⟩⟩⟩⟩
end
theorem sub_sz {a b : Rat} {m n s : Nat} (ha : 0 ≤ a) (hb : 0 ≤ b) (h : b ≤ a) (da : a.den < 2 ^ m) (db : b.den < 2 ^ n) {S : Nat} (hS : S < 2 ^ s) (as : a ≤ (S : Rat)) (z : s + (m + n) ≤ 3000) : Sz (a - b) := by
  have d0 : 0 < a.den * b.den := Nat.mul_pos a.den_pos b.den_pos
  have d1 : Of (a.den * b.den) (a - b) := (den_of (Nat.dvd_mul_right _ _) d0).sub d0 (den_of (Nat.dvd_mul_left _ _) d0)
  have i : InMS (a.den * b.den) S (a - b) := ⟨of_den d0 d1, by grind, by grind⟩
  exact i.sz d0 (lt_mul2 da db) hS z
end Bd
end

section
namespace Bd
open PySem L2 Am
open Evl hiding tCut pss_cut
/-! words for what the laws draw, one behind the other -/
/-- drawn rows -/
structure RD (K : PySem.W.Frag) (G : Hp) (sp r : Addr) (ws : List V) (rs : List RowM) : Prop where
  src : Src G sp
  er : G r = some (.lst ws)
  nr : sp ≠ r
  rows : Paired (RowAt K G) ws rs
/-- drawn uses -/
structure UD (K : PySem.W.Frag) (G : Hp) (sp d : Addr) (kvs : List (Key × V)) (us : List Str) (u : Str → Rat) : Prop where
  fd : G d = some (.dK kvs)
  m : MapR (AmR K u) G kvs us
  ne : sp ≠ d
section
variable {K : PySem.W.Frag} {C : Addr} {G G' : Hp} {sp r tr d : Addr} {ws : List V} {rs : List RowM} {h : Bool} {tk : List (Key × V)} {kvs : List (Key × V)} {us : List Str} {u : Str → Rat}
theorem RD.kept (w : RD K G sp r ws rs) (ok : RowsOk rs) (s : Src G' sp) (k : Kept sp G G') : RD K G' sp r ws rs := by
  have t := src_tkE w.src k
  exact ⟨s, k _ _ w.nr.symm w.er, w.nr, paired_monoM (fun x q hq z => t.row (rows_due ok q hq) z) w.rows⟩
theorem RD.same (w : RD K G sp r ws rs) (s : Ex G G') : RD K G' sp r ws rs := ⟨src_ex s w.src, s _ _ w.er, w.nr, rows_same s w.rows⟩
theorem RD.wl (w : RD K G sp r ws rs) : ws.length = rs.length := Paired.length w.rows
theorem UD.kept (w : UD K G sp d kvs us u) (hs : Src G sp) (k : Kept sp G G') : UD K G' sp d kvs us u := by
  have t := src_tkE hs k
  exact ⟨k _ _ w.ne.symm w.fd, w.m.mono fun _ _ z => AmtQ.tk t z, w.ne⟩
theorem UD.same (w : UD K G sp d kvs us u) (s : Ex G G') : UD K G' sp d kvs us u := ⟨s _ _ w.fd, w.m.mono fun _ _ z => AmtQ.same s z, w.ne⟩
end
section
variable {K : PySem.W.Frag} {H : Hp} {σ : L2.St} {E E2 : XK}
theorem e_rows {i : Nat} {sp : Addr} {c n : Nat} (hv : σ[i]? = some (some (.ref sp))) (hs : Src H sp) (n0 : 0 < n) (hc : c + n ≤ 13) {Q : VK}
    (k : ∀ r H' ws rs nn, RD K H' sp r ws rs → H r = none → RowsOk rs → RowsI nn ["min", "low"] rs → rs.length ≤ 12 → c ≤ rs.length → Kept sp H H' → Q (.ref r) H') :
    tCall (spLRows K) [] E (tCons (tVar i) (tCons (tOp (rI0 fun i j => V.int (i + j)) (tC (.int (c : Int))) (tCall spNext [] E2 (tCons (tVar i) (tCons (tC (.int (n : Int))) tNil)))) (tCons (tLst (tCons (tC (.str "min")) (tCons (tC (.str "low")) tNil))) tNil))) σ H Q := by
  refine ⟨_, hv, _, hv, sp, n, rfl, hs, n0, by omega, fun d H3 hd s3 k3 => ?_⟩
  refine ⟨_, _, rfl, rfl, by show 2 ≤ sizeLine; decide, fun wl hwl => ?_⟩
  have nwl := src_ne s3 hwl
  have k3' : Kept sp H (upd H3 wl (.lst [.str "min", .str "low"])) := k3.new hwl _
  have src3 := src_new s3 hwl (o := .lst [.str "min", .str "low"])
  refine ⟨sp, wl, c + d, ["min", "low"], congrArg (fun z => [V.ref sp, V.int z, V.ref wl]) (by push_cast; rfl), src3, by omega, upd_same, nwl.symm, ⟨by decide +kernel, by decide +kernel⟩, by decide, fun r H4 ws rs nn hr4 er4 rows4 hI ndn hmem hnl hrl s4 k4 => ?_⟩
  have nr := src_ne src3 hr4
  have hrH : H r = none := by
    have h1 : upd H3 wl (.lst [.str "min", .str "low"]) r = none := hr4
    exact k3'.free nr.symm h1
  exact k r H4 ws rs nn ⟨s4, er4, nr, rows4⟩ hrH (rowsI_ok ⟨by decide +kernel, by decide +kernel⟩ hI ndn hmem) hI (by omega) (by omega) (k3'.trans k4)
theorem e_rowsT {i : Nat} {sp : Addr} {c n : Nat} (hv : σ[i]? = some (some (.ref sp))) (hs : Src H sp) (n0 : 0 < n) (hc : c + n ≤ 13) {Q : VK}
    (k : ∀ r H' ws rs nn, RD K H' sp r ws rs → H r = none → RowsOk rs → RowsI nn ["min", "low"] rs → rs.length < c + n → c ≤ rs.length → Kept sp H H' → Q (.ref r) H') :
    tCall (spLRowsT K) [] E (tCons (tVar i) (tCons (tOp (rI0 fun i j => V.int (i + j)) (tC (.int (c : Int))) (tCall spNext [] E2 (tCons (tVar i) (tCons (tC (.int (n : Int))) tNil)))) (tCons (tTup (tCons (tC (.str "min")) (tCons (tC (.str "low")) tNil))) tNil))) σ H Q := by
  refine ⟨_, hv, _, hv, sp, n, rfl, hs, n0, by omega, fun d H3 hd s3 k3 => ?_⟩
  refine ⟨_, _, rfl, rfl, by show 2 ≤ sizeLine; decide, fun wl hwl => ?_⟩
  have nwl := src_ne s3 hwl
  have k3' : Kept sp H (upd H3 wl (.tup [.str "min", .str "low"])) := k3.new hwl _
  have src3 := src_new s3 hwl (o := .tup [.str "min", .str "low"])
  refine ⟨sp, wl, c + d, ["min", "low"], congrArg (fun z => [V.ref sp, V.int z, V.ref wl]) (by push_cast; rfl), src3, by omega, upd_same, nwl.symm, ⟨by decide +kernel, by decide +kernel⟩, by decide, fun r H4 ws rs nn hr4 er4 rows4 hI ndn hmem hnl hrl s4 k4 => ?_⟩
  have nr := src_ne src3 hr4
  have hrH : H r = none := by
    have h1 : upd H3 wl (.tup [.str "min", .str "low"]) r = none := hr4
    exact k3'.free nr.symm h1
  exact k r H4 ws rs nn ⟨s4, er4, nr, rows4⟩ hrH (rowsI_ok ⟨by decide +kernel, by decide +kernel⟩ hI ndn hmem) hI (by omega) (by omega) (k3'.trans k4)
theorem e_uses {i j : Nat} {sp r : Addr} {ws : List V} {rs : List RowM} (hv : σ[i]? = some (some (.ref sp))) (hw : σ[j]? = some (some (.ref r))) (w : RD K H sp r ws rs) (ok : RowsOk rs) (len : rs.length ≤ 200) {Q : VK}
    (k : ∀ d H' kvs us u, UD K H' sp d kvs us u → us.Sublist (leavesOf rs) → (∀ n, n ∉ us → u n = 0) → (∀ n, Drawn (u n)) → RD K H' sp r ws rs → H d = none → Kept sp H H' → Q (.ref d) H') :
    tCall (spLUses K) [] E (tCons (tVar i) (tCons (tVar j) tNil)) σ H Q :=
  ⟨_, hv, _, hw, sp, r, ws, rs, rfl, w.src, w.nr.symm, SqL.of w.er, w.rows, ok, len, fun d H' kvs us u hd fd m sub hz hu s' k' => k d H' kvs us u ⟨fd, m, src_ne w.src hd⟩ sub hz hu (w.kept ok s' k') hd k'⟩
theorem e_top {i j : Nat} {sp r : Addr} {ws : List V} {rs : List RowM} (hv : σ[i]? = some (some (.ref sp))) (hw : σ[j]? = some (some (.ref r))) (w : RD K H sp r ws rs) (ok : RowsOk rs) (len : rs.length ≤ 200) {Q : VK}
    (k : ∀ (top : Str) H', top ∈ crowns rs → RD K H' sp r ws rs → Kept sp H H' → Q (.str top) H') : tCall (spLTop K) [] E (tCons (tVar i) (tCons (tVar j) tNil)) σ H Q :=
  ⟨_, hv, _, hw, sp, r, ws, rs, rfl, w.src, w.nr.symm, SqL.of w.er, w.rows, len, fun top H' ht s' k' => k top H' ht (w.kept ok s' k') k'⟩
theorem e_kind {i : Nat} {sp : Addr} (hv : σ[i]? = some (some (.ref sp))) (hs : Src H sp) {Q : VK} (k : ∀ (kd : Str) H', kd = "min" ∨ kd = "low" → Src H' sp → Kept sp H H' → Q (.str kd) H') :
    tCall (spOne K) [] E (tCons (tVar i) (tCons (tLst (tCons (tC (.str "min")) (tCons (tC (.str "low")) tNil))) tNil)) σ H Q :=
  ⟨_, hv, by show 2 ≤ sizeLine; decide, fun kl hkl => ⟨sp, kl, [.str "min", .str "low"], rfl, src_new hs hkl, SqL.of upd_same, (src_ne hs hkl).symm, by simp, by decide, fun v H' hm s' k' => by
    have kk : Kept sp H H' := ((Kept.refl sp H).new hkl _).trans k'
    rcases List.mem_cons.mp hm with rfl | hm
    · exact k "min" H' (.inl rfl) s' kk
    · rw [List.mem_singleton.mp hm]
      exact k "low" H' (.inr rfl) s' kk⟩⟩
theorem e_flag {i : Nat} {sp : Addr} (hv : σ[i]? = some (some (.ref sp))) (hs : Src H sp) {Q : VK} (k : ∀ (b : Bool) H', Src H' sp → Kept sp H H' → Q (.bl b) H') :
    tOp rEq (tCall spNext [] E (tCons (tVar i) (tCons (tC (.int 2)) tNil))) (tC (.int 0)) σ H Q :=
  ⟨_, hv, sp, 2, rfl, hs, by decide, by decide, fun a H' ha s' k' => ⟨rfl, k _ H' s' k'⟩⟩
end
end Bd
end

section
namespace Bd
open PySem L2 Am
open Evl hiding tCut pss_cut
/-! uses of all groups, what is protected in a new tree, lists that are asked whether they are empty -/
section
variable {K : PySem.W.Frag} {H : Hp} {σ : L2.St} {ta tb tx te tl : TE} {E E2 : XK} {C : Addr}
theorem uz_of {rs : List RowM} {u U : Str → Rat} (rok : RowsOk rs) (len : rs.length ≤ 12) (hu0 : ∀ n, Drawn (u n)) (hU : ∀ r ∈ rs, U r.name = if kidsOf rs (Sum.inr r.name) = [] then u r.name else sumQ ((kidsOf rs (Sum.inr r.name)).map U)) : ∀ r ∈ rs, InMS 2520 (10 ^ 13 * 12 ^ 12) (U r.name) := by
  obtain ⟨p, R⟩ := reck_of rok "" false (fun _ => 0) u U hU
  exact R.uz rok len hu0
theorem e_used {i j : Nat} {sp r d : Addr} {ws : List V} {rs : List RowM} {kvs : List (Key × V)} {us : List Str} {u U : Str → Rat} (hv : σ[i]? = some (some (.ref r))) (hw : σ[j]? = some (some (.ref d))) (w : RD K H sp r ws rs) (wu : UD K H sp d kvs us u) (rok : RowsOk rs) (len : rs.length ≤ 12) (sub : us.Sublist (leavesOf rs)) (hz : ∀ n, n ∉ us → u n = 0) (hu0 : ∀ n, Drawn (u n))
    (hU : ∀ r ∈ rs, U r.name = if kidsOf rs (Sum.inr r.name) = [] then u r.name else sumQ ((kidsOf rs (Sum.inr r.name)).map U)) {Q : VK} (k : ∀ ud H', H ud = none → Same H H' → Amts K H' ud (nms rs) U → Q (.ref ud) H') : tCall (spLUsed K) [] E (tCons (tVar i) (tCons (tVar j) tNil)) σ H Q :=
  ⟨_, hv, _, hw, r, d, ws, rs, kvs, us, u, U, 2520, 10 ^ 13 * 12 ^ 12, rfl, SqL.of w.er, w.rows, rok, by omega, wu.fd, wu.m, (leaves_nd rok).sublist sub, hz, hU, by decide, by decide, lt_up S_lt (by decide), uz_of rok len hu0 hU, k⟩
/-- Tree(rows, flag), rows in a local: any flag -/
theorem eTreeR {i : Nat} {sp r : Addr} {ws : List V} {rs : List RowM} {b : Bool} (hv : σ[i]? = some (some (.ref r))) (w : RD K H sp r ws rs) (hb : Ev tb σ H (.bl b)) (rok : RowsOk rs) (len : rs.length ≤ 200) : EvTree K C (tMake C (spInit K C) [] E (tCons (tVar i) (tCons tb tNil))) σ H rs b := eTreeV hv w.er w.rows hb rok len
theorem e_treeR {i : Nat} {sp r : Addr} {ws : List V} {rs : List RowM} {b : Bool} (hv : σ[i]? = some (some (.ref r))) (w : RD K H sp r ws rs) (hb : Ev tb σ H (.bl b)) (rok : RowsOk rs) (len : rs.length ≤ 200) {Q : VK} (k : ∀ p tk H2, H p = none → Ex H H2 → TreeAt K H2 C p rs b tk → Q (.ref p) H2) : tMake C (spInit K C) [] E (tCons (tVar i) (tCons tb tNil)) σ H Q := eTreeR hv w hb rok len H (Ex.refl H) Q k
theorem q_parT1 {i j : Nat} {rows : List RowM} {b : Bool} {D : Ends} {tz : TS} (h : EvTree K C te σ H rows b) (k : ∀ p tk H1, H p = none → Ex H H1 → TreeAt K H1 C p rows b tk → tl σ H1 fun v H2 => ∃ a c, [V.ref p, v] = [a, c] ∧ tz D ((σ.set i (some a)).set j (some c)) H2) : tSeq (tPar i j (tCons te (tCons tl tNil))) tz D σ H :=
  h H (Ex.refl H) _ fun p tk H1 hp e t => k p tk H1 hp e t
/-- Tree(rows) -/
theorem eTree1 {i : Nat} {sp r : Addr} {ws : List V} {rs : List RowM} (hv : σ[i]? = some (some (.ref r))) (w : RD K H sp r ws rs) (rok : RowsOk rs) (len : rs.length ≤ 200) : EvTree K C (tMake C (spInit K C) [.bl false] E (tCons (tVar i) tNil)) σ H rs false := fun H1 e Q k =>
  ⟨_, hv, fun x dx hx hdx ne =>
    ⟨H1, x, dx, r, ws, rs, false, rfl, Same.new (Same.new (Same.refl H1) hdx _) ((upd_ne ne.symm).trans hx) _, hx, upd_same, e _ _ w.er, rows_same e w.rows, rok, len, fun H4 tk s t _ => ⟨rfl, k x tk H4 hx s t⟩⟩⟩
theorem em_protT {j : Nat} {du : Addr} {rows : List RowM} {h : Bool} {top kd : Str} {k U c f : Str → Rat} {M S : Nat} (ht : EvTree K C ta σ H rows h) (ok : RowsOk rows) (len : rows.length ≤ 200) (htop : top ∈ ("" : Str) :: nms rows) (htk : top = "" ∨ kidsOf rows (Sum.inr top) ≠ [])
    (hkd : kd = "min" ∨ kd = "low") (hk : KindOk rows kd k) (ho : HeldOk rows top h k U c f M S) (hd : σ[j]? = some (some (.ref du))) (hu : UsesAt K H du rows U) (hx : Ev tb σ H (.str top)) (hy : Ev tx σ H (.str kd)) :
    EvM K (tCall (spProt K C) [] E (tCons ta (tCons (tVar j) (tCons tb (tCons tx tNil))))) σ H f (belowL rows top) := fun H1 e Q kk =>
  ht H1 e _ fun p tk H2 hp e2 t2 => ⟨_, hd, hx H2 (e.trans e2) _ fun H3 e3 => hy H3 ((e.trans e2).trans e3) _ fun H4 e4 =>
    ⟨p, du, top, kd, rows, h, tk, k, U, c, f, M, S, rfl, t2.same (e3.trans e4) ok, ok, len, htop, htk, hkd, hk, ho, hu.same (((e.trans e2).trans e3).trans e4), fun d2 k2 H5 h1 h2 h3 h4 => kk d2 k2 H5 (fresh_back ((e2.trans e3).trans e4) h1) (((e2.trans e3).trans e4).trans h2) h3 h4⟩⟩
theorem UD.uses {sp d : Addr} {kvs : List (Key × V)} {us : List Str} {u U : Str → Rat} {rs : List RowM} (w : UD K H sp d kvs us u) (sub : us.Sublist (leavesOf rs)) (rok : RowsOk rs) (len : rs.length ≤ 200) (hz : ∀ n, n ∉ us → u n = 0) (hd : ∀ n, Drawn (u n))
    (hU : ∀ r ∈ rs, U r.name = if kidsOf rs (Sum.inr r.name) = [] then u r.name else sumQ ((kidsOf rs (Sum.inr r.name)).map U)) : UsesAt K H d rs U := uses_of w.fd w.m sub rok len hz hd hU
def triD (z : Rat × Rat × Rat) : PyData := .tuple [amtD z.1, amtD z.2.1, amtD z.2.2]
theorem dp_tri {v : V} {z : Rat × Rat × Rat} (h : TriQ K H v z) : Dp K H v (triD z) := by
  obtain ⟨p, a, b, c, rfl, h1, h2, h3, h4⟩ := h
  exact .tup h1 (.cons (dp_amt h2) (.cons (dp_amt h3) (.cons (dp_amt h4) .nil)))
theorem dp_tris : ∀ {ws : List V} {zs : List (Rat × Rat × Rat)}, Paired (TriQ K H) ws zs → DpAll K H ws (zs.map triD)
  | _, _, .nil => .nil
  | _, _, .cons a b => .cons (dp_tri a) (dp_tris b)
theorem lay_tris : ∀ zs : List (Rat × Rat × Rat), PyData.canLayAll0 (zs.map triD) = true
  | [] => by simp [PyData.canLayAll0]
  | z :: zs => by
    rw [List.map_cons, PyData.canLayAll0, lay_tris zs]
    simp [triD, amtD, PyData.canLay0, PyData.canLayAll0]
theorem dep_tris : ∀ zs : List (Rat × Rat × Rat), PyData.depthAll (zs.map triD) ≤ 3
  | [] => by simp [PyData.depthAll]
  | z :: zs => by
    rw [List.map_cons, PyData.depthAll]
    have := dep_tris zs
    have e : (triD z).depth ≤ 3 := by simp [triD, amtD, PyData.depth, PyData.depthAll]
    omega
theorem shaped_tris (zs : List (Rat × Rat × Rat)) : SeqAt.shaped (.list (zs.map triD)) = true := by
  unfold SeqAt.shaped
  have := dep_tris zs
  rw [PyData.canLay0, lay_tris, Bool.true_and, decide_eq_true_eq, PyData.depth]
  omega
theorem eqv_tnil (zs : List (Rat × Rat × Rat)) : PyData.eqv (.list (zs.map triD)) (.list []) = zs.isEmpty := by
  cases zs <;> simp [PyData.eqv, PyData.eqvAll]
theorem et_full3 {i : Nat} {l : Addr} {ws : List V} {zs : List (Rat × Rat × Rat)} (hv : σ[i]? = some (some (.ref l))) (hl : SqL K H l ws) (hp : Paired (TriQ K H) ws zs) : EvT (tTest (tOp (rNeD K) (tVar i) (tLst tNil))) σ H (!zs.isEmpty) :=
  et_test (ev_opL (xs := []) (ev_var hv) (el_lst ea_nil (Nat.zero_le _)) fun p H1 h1 e1 => rv_val fun H2 e2 Q k => ⟨.list (zs.map triD), .list [], .lst (ex_l (e1.trans e2) hl) (dp_tris (paired_mono (fun _ _ z => TriQ.same (e1.trans e2) z) hp)), .lst (SqL.of (e2 _ _ h1)) .nil, shaped_tris zs, by simp [SeqAt.shaped, PyData.canLay0, PyData.canLayAll0, PyData.depth, PyData.depthAll], by
    rw [eqv_tnil]
    exact k⟩)
end
end Bd
end

section
namespace Bd
open PySem L2 Am
open Evl hiding tCut pss_cut
/-! dict([(name, amount) for ..]), name in d, lists of amounts that are asked whether they are empty -/
def PairN (K : PySem.W.Frag) (f : Str → Rat) (G : Hp) (a : Addr) (n : Str) : Prop := ∃ u, SqT K G a [.str n, u] ∧ AmtQ K G u (f n)
theorem PairN.tk {K : PySem.W.Frag} {f : Str → Rat} {G G' : Hp} {a : Addr} {n : Str} (t : TK G G') (h : PairN K f G a n) : PairN K f G' a n := by
  obtain ⟨u, h1, h2⟩ := h
  exact ⟨u, t.seqT h1, h2.tk t⟩
theorem sqT_unlock {K : PySem.W.Frag} {G : Hp} {d x : Addr} {od : Obj} {kvs : List (Key × V)} {xs : List V} (a : G d = some (.frz od (.dK kvs))) (h : SqT K G x xs) : SqT K (upd G d (.dK kvs)) x xs := by
  rcases h with (h | ⟨o, h⟩) | h
  · exact .inl (.inl (by
      have : x ≠ d := fun z => by rw [z, a] at h; cases h
      rw [upd_ne this]
      exact h))
  · exact .inl (.inr ⟨o, by
      have : x ≠ d := fun z => by rw [z, a] at h; cases h
      rw [upd_ne this]
      exact h⟩)
  · exact .inr h
theorem AmtQ.unlock {K : PySem.W.Frag} {G : Hp} {d : Addr} {od : Obj} {kvs : List (Key × V)} {v : V} {q : Rat} (a : G d = some (.frz od (.dK kvs))) (h : AmtQ K G v q) : AmtQ K (upd G d (.dK kvs)) v q := by
  obtain ⟨p, e, h⟩ := h
  exact ⟨p, e, sqT_unlock a h⟩
theorem PairN.unlock {K : PySem.W.Frag} {f : Str → Rat} {G : Hp} {d : Addr} {od : Obj} {kvs : List (Key × V)} {x : Addr} {n : Str} (a : G d = some (.frz od (.dK kvs))) (h : PairN K f G x n) : PairN K f (upd G d (.dK kvs)) x n := by
  obtain ⟨u, h1, h2⟩ := h
  exact ⟨u, sqT_unlock a h1, h2.unlock a⟩
def EvPL (K : PySem.W.Frag) (te : TE) (σ : L2.St) (H : Hp) (f : Str → Rat) (ns : List Str) : Prop := ∀ H1, Ex H H1 → ∀ Q : VK, (∀ l as H2, H1 l = none → Ex H1 H2 → H2 l = some (.lst (as.map V.ref)) → Paired (PairN K f H2) as ns → Q (.ref l) H2) → te σ H1 Q
theorem pairN_kv {K : PySem.W.Frag} {f : Str → Rat} {G : Hp} : ∀ {as : List Addr} {ns : List Str}, Paired (PairN K f G) as ns → ∃ kvs : List (Key × V), Paired (fun p kv => SqT K G p [kV kv.1, kv.2]) as kvs ∧ MapR (AmR K f) G kvs ns
  | _, _, .nil => ⟨[], .nil, .nil⟩
  | _, _, .cons (b := n) a b => by
    obtain ⟨u, h1, h2⟩ := a
    obtain ⟨kvs, k1, k2⟩ := pairN_kv b
    exact ⟨(Sum.inr n, u) :: kvs, .cons h1 k1, .cons ⟨rfl, h2⟩ k2⟩
section
variable {K : PySem.W.Frag} {H : Hp} {σ : L2.St} {ta tb tc te tl tv tx ty tk : TE} {t : TT} {tu : TS} {D : Ends} {tz : TS}
theorem em_dict {f : Str → Rat} {ns : List Str} (h : EvPL K te σ H f ns) (nd : ns.Nodup) : EvM K (tCB (fun xs H Q => ∃ (a : Addr) (ps : List Addr) (kvs : List (Key × V)), xs = [.ref a] ∧ SqL K H a (ps.map V.ref) ∧ Paired (fun p kv => SqT K H p [kV kv.1, kv.2]) ps kvs ∧ ∀ p, H p = none → Q (.ref p) (upd H p (.dK (mergeK [] kvs)))) (tCons te tNil)) σ H f ns := fun H1 e Q k =>
  h H1 e _ fun l as H2 hl e2 f2 p2 => by
    obtain ⟨kvs, k1, k2⟩ := pairN_kv p2
    refine ⟨l, as, kvs, rfl, SqL.of f2, k1, fun d hd => ?_⟩
    have ndk : (kvs.map (·.1)).Nodup := by
      rw [k2.keys]
      exact nodup_inr nd
    have em : mergeK [] kvs = kvs := by
      rw [mergeK_app _ [] (by simpa using ndk)]
      rfl
    rw [em]
    have s3 := Same.new (Same.refl H2) hd (.dK kvs)
    exact k d kvs _ (fresh_back e2 hd) (e2.trans s3) upd_same (k2.mono fun _ _ z => AmtQ.same s3 z)
/-- one pair more -/
theorem pl_step {f : Str → Rat} {n : Str} {G H1 : Hp} {Dl : Addr} {as : List Addr} {ns : List Str} (hk : Ev tk σ G (.str n)) (hv : EvQ K tv σ G (f n)) (hD : H1 Dl = none) (a : Ex H1 G) (b : G Dl = some (.lst (as.map V.ref))) (p : Paired (PairN K f G) as ns) (len : as.length ≤ 900) {Q : Hp → Prop}
    (k : ∀ G4 as', Ex H1 G4 → G4 Dl = some (.lst (as'.map V.ref)) → Paired (PairN K f G4) as' (ns ++ [n]) → Q G4) : tTup (tCons tk (tCons tv tNil)) σ G fun y G4 => ∃ acc, G4 Dl = some (.lst acc) ∧ acc.length < sizeLine ∧ Q (upd G4 Dl (.lst (acc ++ [y]))) :=
  hk G (Ex.refl G) _ fun G2 e2 => hv G2 e2 _ fun u G3 e3 hu => ⟨by show 2 ≤ sizeLine; decide, fun tp htp => by
    have s4 := Same.new (Same.refl G3) htp (.tup [.str n, u])
    have f4 : upd G3 tp (.tup [.str n, u]) tp = some (.tup [.str n, u]) := upd_same
    generalize upd G3 tp (.tup [.str n, u]) = G4 at s4 f4 ⊢
    have e4 := (e2.trans e3).trans s4
    have b4 := e4 _ _ b
    have tX : TK G4 (upd G4 Dl (.lst (as.map V.ref ++ [V.ref tp]))) := TK.lst b4 _
    refine ⟨_, b4, by rw [List.length_map]; exact small1000 (by omega), k _ (as ++ [tp]) (Ex.mut (a.trans e4) hD) (by rw [upd_same, List.map_append]; rfl) (paired_snoc ⟨u, tX.seqT (SqT.of f4), (hu.same s4).tk tX⟩ (paired_mono (fun _ _ z => PairN.tk (TK.trans (.of e4) tX) z) p))⟩⟩
/-- [(g n, amount) for n in d if p n], d a dict that stands in a local -/
theorem epl_keys {i j : Nat} {d : Addr} {kvs : List (Key × V)} {vs : List Nat} {ns : List Str} {f : Str → Rat} (p : Str → Bool) (g : Str → Str) (hi : σ[i]? = some (some (.ref d))) (fd : H d = some (.dK kvs)) (hk : kvs.map (·.1) = ns.map fun n => (Sum.inr n : Key)) (len : ns.length ≤ 900) (hw : ∀ x, wipe ((wipe σ vs).set j (some x)) vs = wipe σ vs)
    (ht : ∀ H1, Ex H H1 → ∀ od, ∀ n ∈ ns, ∀ G, Ex (upd H1 d (.frz od (.dK kvs))) G → EvT t ((wipe σ vs).set j (some (.str n))) G (p n))
    (hn : ∀ H1, Ex H H1 → ∀ od, ∀ n ∈ ns, p n = true → ∀ G, Ex (upd H1 d (.frz od (.dK kvs))) G → Ev tk ((wipe σ vs).set j (some (.str n))) G (.str (g n)))
    (hv : ∀ H1, Ex H H1 → ∀ od, ∀ n ∈ ns, p n = true → ∀ G, Ex (upd H1 d (.frz od (.dK kvs))) G → EvQ K tv ((wipe σ vs).set j (some (.str n))) G (f (g n))) : EvPL K (tLockE (tLc (iKeys (tVar i)) (gName j) t (tTup (tCons tk (tCons tv tNil))) vs)) σ H f ((ns.filter p).map g) := by
  intro H1 e Q k
  have fd1 := e _ _ fd
  have hlen : kvs.length = ns.length := by
    have := congrArg List.length hk
    rwa [List.length_map, List.length_map] at this
  refine ⟨d, _, fd1, trivial, fun od => ?_⟩
  have fL : upd H1 d (.frz od (.dK kvs)) d = some (.frz od (.dK kvs)) := upd_same
  refine ⟨_, hi, d, od, rfl, .inl ⟨kvs, fL, fun Dl hD => ?_⟩⟩
  have ne : Dl ≠ d := fun z => by rw [z, fL] at hD; cases hD
  have hD1 : H1 Dl = none := by rw [upd_ne ne] at hD; exact hD
  refine lc_it walk_keys (fun m G => Ex (upd H1 d (.frz od (.dK kvs))) G ∧ ∃ as, G Dl = some (.lst (as.map V.ref)) ∧ Paired (PairN K f G) as (((ns.take m).filter p).map g)) ⟨Ex.new hD, [], upd_same, .nil⟩ ?_ ?_ ?_
  · rintro m G _ ⟨a, _⟩
    exact a _ _ fL
  · rintro m x G G' hm ⟨a, as, b, pp⟩ ⟨rfl, kk, v, hkv, rfl⟩
    have hkn : (kvs.map (·.1))[m]? = some kk := by rw [List.getElem?_map, hkv]; rfl
    rw [hk, List.getElem?_map] at hkn
    obtain ⟨n, hn1, e1⟩ := Option.map_eq_some_iff.mp hkn
    subst e1
    have hmem := List.mem_of_getElem? hn1
    refine ⟨hw _, ?_⟩
    have et : ns.take (m + 1) = ns.take m ++ [n] := by
      rw [List.take_add_one, hn1]
      rfl
    have al : as.length ≤ 900 := by
      have h1 := Paired.length pp
      rw [List.length_map] at h1
      have h2 := List.length_filter_le p (ns.take m)
      rw [List.length_take] at h2
      omega
    refine ht H1 e od n hmem G' a G' (Ex.refl _) _ fun G3 e3 => ?_
    have a3 := a.trans e3
    have pp3 := paired_mono (fun _ _ z => PairN.tk (.of e3) z) pp
    cases c : p n with
    | true =>
      refine iteT (pl_step (Q := fun G5 => Ex (upd H1 d (.frz od (.dK kvs))) G5 ∧ ∃ as, G5 Dl = some (.lst (as.map V.ref)) ∧ Paired (PairN K f G5) as (((ns.take (m + 1)).filter p).map g)) (f := f) (n := g n) (hn H1 e od n hmem c G3 a3) (hv H1 e od n hmem c G3 a3) hD a3 (e3 _ _ b) pp3 al fun G4 as' a4 b4 p4 => ⟨a4, as', b4, ?_⟩)
      rw [et, List.filter_append, List.filter_cons_of_pos c, List.map_append]
      exact p4
    | false =>
      refine iteF ⟨a3, as, e3 _ _ b, ?_⟩
      rw [et, List.filter_append, List.filter_cons_of_neg (by rw [c]; decide)]
      simpa using pp3
  · rintro G ⟨a, as, b, pp⟩
    rw [hlen, List.take_length] at pp
    refine ⟨a _ _ fL, ?_⟩
    have ed : Ex H1 (upd G d (.dK kvs)) := lock_ex fd1 a
    exact k Dl as _ hD1 ed (by rw [upd_ne ne]; exact b) (paired_mono (fun _ _ z => PairN.unlock (a _ _ fL) z) pp)
/-- the same over a list that stands in a local, or is new -/
theorem epl_list {a : Addr} {j : Nat} {vs : List Nat} {ns : List Str} {f : Str → Rat} (p : Str → Bool) (g : Str → Str) (hl : Ev tl σ H (.ref a)) (hs : SqL K H a (ns.map V.str)) (len : ns.length ≤ 900) (hw : ∀ x, wipe ((wipe σ vs).set j (some x)) vs = wipe σ vs)
    (ht : ∀ n ∈ ns, ∀ G, Ex H G → EvT t ((wipe σ vs).set j (some (.str n))) G (p n)) (hn : ∀ n ∈ ns, p n = true → ∀ G, Ex H G → Ev tk ((wipe σ vs).set j (some (.str n))) G (.str (g n)))
    (hv : ∀ n ∈ ns, p n = true → ∀ G, Ex H G → EvQ K tv ((wipe σ vs).set j (some (.str n))) G (f (g n))) : EvPL K (tLc (iList K tl) (gName j) t (tTup (tCons tk (tCons tv tNil))) vs) σ H f ((ns.filter p).map g) := by
  intro H0 e0 Q k
  refine hl H0 e0 _ fun H1 e1 => ?_
  have e := e0.trans e1
  refine ⟨a, rfl, ⟨_, ex_l e hs⟩, fun Dl hD => ?_⟩
  refine lc_it (walk_list (K := K) (a := a) (xs := ns.map V.str)) (fun m G => Ex H1 G ∧ ∃ as, G Dl = some (.lst (as.map V.ref)) ∧ Paired (PairN K f G) as (((ns.take m).filter p).map g)) ⟨Ex.new hD, [], upd_same, .nil⟩ ?_ ?_ ?_
  · rintro m G _ ⟨a, _⟩
    exact ex_l (e.trans a) hs
  · rintro m x G G' hm ⟨a, as, b, pp⟩ ⟨rfl, hx⟩
    rw [List.getElem?_map] at hx
    obtain ⟨n, hn1, rfl⟩ := Option.map_eq_some_iff.mp hx
    have hmem := List.mem_of_getElem? hn1
    refine ⟨hw _, ?_⟩
    have et : ns.take (m + 1) = ns.take m ++ [n] := by
      rw [List.take_add_one, hn1]
      rfl
    have al : as.length ≤ 900 := by
      have h1 := Paired.length pp
      rw [List.length_map] at h1
      have h2 := List.length_filter_le p (ns.take m)
      rw [List.length_take] at h2
      omega
    refine ht n hmem G' (e.trans a) G' (Ex.refl _) _ fun G3 e3 => ?_
    have a3 := a.trans e3
    have pp3 := paired_mono (fun _ _ z => PairN.tk (.of e3) z) pp
    cases c : p n with
    | true =>
      refine iteT (pl_step (Q := fun G5 => Ex H1 G5 ∧ ∃ as, G5 Dl = some (.lst (as.map V.ref)) ∧ Paired (PairN K f G5) as (((ns.take (m + 1)).filter p).map g)) (f := f) (n := g n) (hn n hmem c G3 (e.trans a3)) (hv n hmem c G3 (e.trans a3)) hD a3 (e3 _ _ b) pp3 al fun G4 as' a4 b4 p4 => ⟨a4, as', b4, ?_⟩)
      rw [et, List.filter_append, List.filter_cons_of_pos c, List.map_append]
      exact p4
    | false =>
      refine iteF ⟨a3, as, e3 _ _ b, ?_⟩
      rw [et, List.filter_append, List.filter_cons_of_neg (by rw [c]; decide)]
      simpa using pp3
  · rintro G ⟨a, as, b, pp⟩
    rw [List.length_map, List.take_length] at pp
    exact k Dl as _ (fresh_back e1 hD) (e1.trans a) b pp
theorem epl_listN {j : Nat} {vs : List Nat} {ns : List Str} {f : Str → Rat} (p : Str → Bool) (g : Str → Str) (hl : EvL tl σ H (ns.map V.str)) (len : ns.length ≤ 900) (hw : ∀ x, wipe ((wipe σ vs).set j (some x)) vs = wipe σ vs)
    (ht : ∀ n ∈ ns, ∀ G, Ex H G → EvT t ((wipe σ vs).set j (some (.str n))) G (p n)) (hn : ∀ n ∈ ns, p n = true → ∀ G, Ex H G → Ev tk ((wipe σ vs).set j (some (.str n))) G (.str (g n)))
    (hv : ∀ n ∈ ns, p n = true → ∀ G, Ex H G → EvQ K tv ((wipe σ vs).set j (some (.str n))) G (f (g n))) : EvPL K (tLc (iList K tl) (gName j) t (tTup (tCons tk (tCons tv tNil))) vs) σ H f ((ns.filter p).map g) := fun H1 e Q k =>
  hl H1 e _ fun l H2 hl2 e2 f2 => epl_list (K := K) (H := H2) (tl := tC (.ref l)) (a := l) p g ev_c (sq_of f2) len hw (fun n hn G e3 => ht n hn G ((e.trans e2).trans e3)) (fun n hm c G e3 => hn n hm c G ((e.trans e2).trans e3)) (fun n hm c G e3 => hv n hm c G ((e.trans e2).trans e3)) H2 (Ex.refl _) Q fun l2 as H3 a b c d => k l2 as H3 (fresh_back e2 a) (e2.trans b) c d
theorem el_rev {xs : List V} (h : EvL te σ H xs) : EvL (tRevL K te) σ H xs.reverse := fun H1 e Q k => h H1 e _ fun p H2 hp e2 f2 => ⟨p, xs, rfl, sq_of f2, fun r hr => k r _ (fresh_back e2 hr) (e2.trans (Ex.new hr)) upd_same⟩
/-- name in d -/
theorem et_din {i : Nat} {n : Str} {d : Addr} {kvs : List (Key × V)} {ns : List Str} {R : Hp → V → Str → Prop} (hk : Ev ty σ H (.str n)) (hv : σ[i]? = some (some (.ref d))) (fd : Rd H d (.dK kvs)) (m : MapR R H kvs ns) (nd : ns.Nodup) : EvT (tTest (tDIn ty (tVar i))) σ H (decide (n ∈ ns)) :=
  et_test fun H1 e1 Q k => hk H1 e1 _ fun H2 e2 => ⟨_, hv, d, valV kvs (Sum.inr n), rfl, .inl ⟨kvs, Sum.inr n, ex_rd (e1.trans e2) fd, rfl, rfl⟩, by
    have : (valV kvs (Sum.inr n)).isSome = decide (n ∈ ns) := by
      by_cases c : n ∈ ns
      · obtain ⟨v, h1, _⟩ := m.get nd c
        rw [h1, decide_eq_true c]
        rfl
      · rw [m.none c, decide_eq_false c]
        rfl
    rw [this]
    exact k H2 e2⟩
theorem et_fullA {i : Nat} {l : Addr} {ws : List V} {qs : List Rat} (hv : σ[i]? = some (some (.ref l))) (hl : SqL K H l ws) (hp : Paired (AmtQ K H) ws qs) : EvT (tTest (tOp (rNeD K) (tVar i) (tLst tNil))) σ H (!qs.isEmpty) :=
  et_test (ev_opL (xs := []) (ev_var hv) (el_lst ea_nil (Nat.zero_le _)) fun p H1 h1 e1 => rv_val fun H2 e2 Q k => ⟨.list (qs.map amtD), .list [], .lst (ex_l (e1.trans e2) hl) (dp_amts (paired_mono (fun _ _ z => AmtQ.same (e1.trans e2) z) hp)), .lst (SqL.of (e2 _ _ h1)) .nil, shaped_amts qs, by simp [SeqAt.shaped, PyData.canLay0, PyData.canLayAll0, PyData.depth, PyData.depthAll], by
    rw [eqv_nil]
    exact k⟩)
theorem eq_zero : EvQ K (tTup (tCons (tC (.int 0)) (tCons (tC (.int 1)) tNil))) σ H 0 := fun H1 e Q k => ⟨by show 2 ≤ sizeLine; decide, fun p hp => k _ _ (Ex.new hp) ⟨p, rfl, SqT.of upd_same⟩⟩
theorem em_new {f : Str → Rat} : EvM K tDNewK σ H f [] := fun H1 e Q k p hp => k p [] _ hp (Ex.new hp) upd_same .nil
/-- d.get(name, (0, 1)) -/
theorem eq_getD {i : Nat} {d : Addr} {kvs : List (Key × V)} {ns : List Str} {f : Str → Rat} {n : Str} (hv : σ[i]? = some (some (.ref d))) (hy : Ev tx σ H (.str n)) (fd : Rd H d (.dK kvs)) (m : MapR (AmR K f) H kvs ns) (nd : ns.Nodup) (hz : n ∉ ns → f n = 0) :
    EvQ K (tDGet2 (tVar i) tx (tTup (tCons (tC (.int 0)) (tCons (tC (.int 1)) tNil)))) σ H (f n) := fun H1 e Q k =>
  ⟨_, hv, d, rfl, .inl ⟨kvs, ex_rd e fd⟩, hy H1 e _ fun H2 e2 => ⟨by show 2 ≤ sizeLine; decide, fun p hp => by
    have s3 := Same.new (Same.refl H2) hp (.tup [.int 0, .int 1])
    have f3 : upd H2 p (.tup [.int 0, .int 1]) p = some (.tup [.int 0, .int 1]) := upd_same
    generalize upd H2 p (.tup [.int 0, .int 1]) = H3 at s3 f3 ⊢
    refine ⟨_, .inl ⟨kvs, Sum.inr n, ex_rd ((e.trans e2).trans s3) fd, rfl, rfl⟩, ?_⟩
    by_cases c : n ∈ ns
    · obtain ⟨v, h1, h2⟩ := m.get nd c
      rw [h1]
      exact k v H3 (e2.trans s3) (AmtQ.same ((e.trans e2).trans s3) h2)
    · rw [m.none c]
      refine k _ H3 (e2.trans s3) ⟨p, rfl, ?_⟩
      rw [hz c]
      exact SqT.of f3⟩⟩
end
end Bd
end

section
namespace Bd
open PySem L2 Am
open Evl hiding tCut pss_cut
/-! dicts made of dicts that are walked -/
theorem dc_it {J : It} {n : Nat} {G0 : Hp → Prop} {Y : Nat → Hp → V → Hp → Prop} (w : Walk J n G0 Y) {g : TG} {tt : TT} {tk tv : TE} {vs : List Nat} {σ : L2.St} {H1 : Hp} {D : Addr} {Qd : Hp → Prop} (Pv : Nat → Hp → Prop) (h0 : Pv 0 (upd H1 D (.dK []))) (hG : ∀ i H, i ≤ n → Pv i H → G0 H)
    (hs : ∀ i x H H', i < n → Pv i H → Y i H x H' → g x (wipe σ vs) H' fun σ2 H2 => wipe σ2 vs = wipe σ vs ∧ tt σ2 H2 fun b H3 =>
      if b = true then tk σ2 H3 fun y H4 => tv σ2 H4 fun z H5 => ∃ kvs k, y = kV k ∧ H5 D = some (.dK kvs) ∧ kvs.length < sizeLine ∧ Pv (i + 1) (upd H5 D (.dK (putK kvs k z))) else Pv (i + 1) H3) (hd : ∀ H, Pv n H → Qd H) :
    ∃ W : Nat → Nat → Hp → Prop, (∃ m, W 0 m (upd H1 D (.dK []))) ∧ ∀ i m H, W i m H →
      (J.stop i H ∧ Qd H) ∨ (J.go i H ∧ ∃ Nx : Hp → Prop, (∀ H', Nx H' → ∃ m', m' < m ∧ W (i + 1) m' H') ∧ ∀ x H', J.yld i H x H' → g x (wipe σ vs) H' fun σ2 H2 => wipe σ2 vs = wipe σ vs ∧ tt σ2 H2 fun b H3 =>
        if b = true then tk σ2 H3 fun y H4 => tv σ2 H4 fun z H5 => ∃ kvs k, y = kV k ∧ H5 D = some (.dK kvs) ∧ kvs.length < sizeLine ∧ Nx (upd H5 D (.dK (putK kvs k z))) else Nx H3) := by
  refine ⟨fun i m H => m = n - i ∧ i ≤ n ∧ Pv i H, ⟨n, by simp, Nat.zero_le _, h0⟩, ?_⟩
  rintro i m H ⟨rfl, hi, p⟩
  have q := hG i H hi p
  by_cases hlt : i < n
  · exact .inr ⟨w.goes i H hlt q, Pv (i + 1), fun H' p' => ⟨n - (i + 1), by omega, rfl, hlt, p'⟩, fun x H' y => hs i x H H' hlt p (w.yields i H x H' hlt q y)⟩
  · have e : i = n := by omega
    subst e
    exact .inl ⟨w.stops H q, hd H p⟩
section
variable {K : PySem.W.Frag} {H : Hp} {σ : L2.St} {tv : TE} {t : TT}
/-- {name: amount for name in d if ..}, d a dict that stands in a local -/
theorem em_dcKeys {i j : Nat} {d : Addr} {kvs : List (Key × V)} {vs : List Nat} {ns : List Str} {f : Str → Rat} (p : Str → Bool) (hi : σ[i]? = some (some (.ref d))) (fd : H d = some (.dK kvs)) (hk : kvs.map (·.1) = ns.map fun n => (Sum.inr n : Key)) (nd : ns.Nodup) (len : ns.length ≤ 900) (hw : ∀ x, wipe ((wipe σ vs).set j (some x)) vs = wipe σ vs) (hj : ∀ x : V, ((wipe σ vs).set j (some x))[j]? = some (some x))
    (ht : ∀ H1, Ex H H1 → ∀ od, ∀ n ∈ ns, ∀ G, Ex (upd H1 d (.frz od (.dK kvs))) G → EvT t ((wipe σ vs).set j (some (.str n))) G (p n))
    (hv : ∀ H1, Ex H H1 → ∀ od, ∀ n ∈ ns, p n = true → ∀ G, Ex (upd H1 d (.frz od (.dK kvs))) G → EvQ K tv ((wipe σ vs).set j (some (.str n))) G (f n)) : EvM K (tLockE (tDc (iKeys (tVar i)) (gName j) t (tVar j) tv vs)) σ H f (ns.filter p) := by
  intro H1 e Q k
  have fd1 := e _ _ fd
  have hlen : kvs.length = ns.length := by
    have := congrArg List.length hk
    rwa [List.length_map, List.length_map] at this
  refine ⟨d, _, fd1, trivial, fun od => ?_⟩
  have fL : upd H1 d (.frz od (.dK kvs)) d = some (.frz od (.dK kvs)) := upd_same
  refine ⟨_, hi, d, od, rfl, .inl ⟨kvs, fL, fun Dl hD => ?_⟩⟩
  have ne : Dl ≠ d := fun z => by rw [z, fL] at hD; cases hD
  have hD1 : H1 Dl = none := by rw [upd_ne ne] at hD; exact hD
  refine dc_it walk_keys (fun m G => Ex (upd H1 d (.frz od (.dK kvs))) G ∧ ∃ ks, G Dl = some (.dK ks) ∧ MapR (AmR K f) G ks ((ns.take m).filter p)) ⟨Ex.new hD, [], upd_same, .nil⟩ ?_ ?_ ?_
  · rintro m G _ ⟨a, _⟩
    exact a _ _ fL
  · rintro m x G G' hm ⟨a, ks, b, pp⟩ ⟨rfl, kk, v, hkv, rfl⟩
    have hkn : (kvs.map (·.1))[m]? = some kk := by rw [List.getElem?_map, hkv]; rfl
    rw [hk, List.getElem?_map] at hkn
    obtain ⟨n, hn1, e1⟩ := Option.map_eq_some_iff.mp hkn
    subst e1
    have hmem := List.mem_of_getElem? hn1
    refine ⟨hw _, ?_⟩
    have et : ns.take (m + 1) = ns.take m ++ [n] := by
      rw [List.take_add_one, hn1]
      rfl
    have al : ks.length ≤ 900 := by
      have h1 := Paired.length pp
      have h2 := List.length_filter_le p (ns.take m)
      rw [List.length_take] at h2
      omega
    refine ht H1 e od n hmem G' a G' (Ex.refl _) _ fun G3 e3 => ?_
    have a3 := a.trans e3
    have pp3 := pp.mono fun _ _ z => AmtQ.same e3 z
    cases c : p n with
    | true =>
      refine iteT ⟨_, hj _, hv H1 e od n hmem c G3 a3 G3 (Ex.refl _) _ fun va G4 e4 hva => ?_⟩
      have b4 := (e3.trans e4) _ _ b
      have hnew : valV ks (Sum.inr n) = none := keys_none fun mm => by
        rw [pp.keys] at mm
        obtain ⟨y, hy, e⟩ := List.mem_map.mp mm
        have e : y = n := Sum.inr.inj e
        subst e
        exact take_nin (rows := ns.map fun n => (⟨n, "", []⟩ : RowM)) (by
          unfold nms
          rw [List.map_map]
          have : ns.map ((fun r : RowM => r.name) ∘ fun n => (⟨n, "", []⟩ : RowM)) = ns := List.map_id' ns
          rw [this]
          exact nd) (r := ⟨y, "", []⟩) (i := m) (by rw [List.getElem?_map, hn1]; rfl) (by
          unfold nms
          rw [← List.map_take, List.map_map]
          have : (ns.take m).map ((fun r : RowM => r.name) ∘ fun n => (⟨n, "", []⟩ : RowM)) = ns.take m := List.map_id' _
          rw [this]
          exact (List.mem_filter.mp hy).1)
      have t5 := TK.dk b4 (.dK (ks ++ [(Sum.inr n, va)]))
      refine ⟨ks, Sum.inr n, rfl, b4, small1000 (by omega), Ex.mut (a3.trans e4) hD, _, upd_same, ?_⟩
      rw [putK_new _ hnew, et, List.filter_append, List.filter_cons_of_pos c]
      exact paired_snoc ⟨rfl, AmtQ.tk t5 hva⟩ (pp3.mono fun _ _ z => AmtQ.tk t5 (AmtQ.same e4 z))
    | false =>
      refine iteF ⟨a3, ks, e3 _ _ b, ?_⟩
      rw [et, List.filter_append, List.filter_cons_of_neg (by rw [c]; decide)]
      simpa using pp3
  · rintro G ⟨a, ks, b, pp⟩
    rw [hlen, List.take_length] at pp
    refine ⟨a _ _ fL, ?_⟩
    have ed : Ex H1 (upd G d (.dK kvs)) := lock_ex fd1 a
    refine k Dl ks _ hD1 ed (by rw [upd_ne ne]; exact b) (pp.mono fun v n z => ?_)
    obtain ⟨a2, rfl, h2⟩ := z
    exact ⟨a2, rfl, sqT_unlock (a _ _ fL) h2⟩
end
end Bd
end

section
namespace Bd
open PySem L2 Am
/-! sums, and what the children of a group get together -/
theorem foldl_add0 : ∀ (xs : List Rat) (a : Rat), xs.foldl (· + ·) a = a + sumQ xs
  | [], a => by show a = a + 0; rw [Rat.add_zero]
  | x :: xs, a => by
    unfold sumQ
    rw [List.foldl_cons, List.foldl_cons, foldl_add0 xs, foldl_add0 xs (0 + x)]
    grind
theorem sum_cons (q : Rat) (qs : List Rat) : sumQ (q :: qs) = q + sumQ qs := by
  show (q :: qs).foldl (· + ·) 0 = _
  rw [List.foldl_cons, foldl_add0]
  grind
theorem sum_mulR {α : Type} (xs : List α) (f : α → Rat) (r : Rat) : sumQ (xs.map fun x => f x * r) = sumQ (xs.map f) * r := by
  induction xs with
  | nil => show (0 : Rat) = 0 * r; rw [Rat.zero_mul]
  | cons x xs ih => rw [List.map_cons, List.map_cons, sum_cons, sum_cons, ih]; grind
theorem sum_add {α : Type} (xs : List α) (f g : α → Rat) : sumQ (xs.map fun x => f x + g x) = sumQ (xs.map f) + sumQ (xs.map g) := by
  induction xs with
  | nil => show (0 : Rat) = 0 + 0; rw [Rat.add_zero]
  | cons x xs ih => rw [List.map_cons, List.map_cons, List.map_cons, sum_cons, sum_cons, sum_cons, ih]; grind
theorem sum_sub {α : Type} (xs : List α) (f g : α → Rat) : sumQ (xs.map fun x => f x - g x) = sumQ (xs.map f) - sumQ (xs.map g) := by
  induction xs with
  | nil => show (0 : Rat) = 0 - 0; grind
  | cons x xs ih => rw [List.map_cons, List.map_cons, List.map_cons, sum_cons, sum_cons, sum_cons, ih]; grind
theorem sum_zero {α : Type} (xs : List α) : sumQ (xs.map fun _ => (0 : Rat)) = 0 := by
  induction xs with
  | nil => rfl
  | cons x xs ih => rw [List.map_cons, sum_cons, ih]; grind
section
variable {M S : Nat} {a : Rat} {kids : List Str} {U c : Str → Rat} {h : Bool}
theorem parts_sum (po : PartOk M S a (sumQ (kids.map U)) kids U c) : sumQ (kids.map (partQ h a (sumQ (kids.map U)) (sumQ (kids.map c)) U c)) ≤ a ∧ (h = true → sumQ (kids.map (partQ h a (sumQ (kids.map U)) (sumQ (kids.map c)) U c)) = a) := by
  have cle : sumQ (kids.map c) ≤ sumQ (kids.map U) := sum_le fun x hx => po.cu x hx
  by_cases l : a < sumQ (kids.map c)
  · have e : kids.map (partQ h a (sumQ (kids.map U)) (sumQ (kids.map c)) U c) = kids.map fun x => c x * (a / sumQ (kids.map c)) := List.map_congr_left fun x _ => if_pos l
    have := po.clp l
    have e2 : sumQ (kids.map c) * (a / sumQ (kids.map c)) = a := by
      rw [Rat.mul_comm, Rat.div_mul_cancel (by grind)]
    rw [e, sum_mulR, e2]
    exact ⟨Rat.le_refl, fun _ => rfl⟩
  · by_cases g : h = true ∧ sumQ (kids.map c) < sumQ (kids.map U)
    · have e : kids.map (partQ h a (sumQ (kids.map U)) (sumQ (kids.map c)) U c) = kids.map fun x => c x + (U x - c x) * ((a - sumQ (kids.map c)) / (sumQ (kids.map U) - sumQ (kids.map c))) := List.map_congr_left fun x _ => by
        unfold partQ
        rw [if_neg l, if_pos g]
      have e2 : (sumQ (kids.map U) - sumQ (kids.map c)) * ((a - sumQ (kids.map c)) / (sumQ (kids.map U) - sumQ (kids.map c))) = a - sumQ (kids.map c) := by
        rw [Rat.mul_comm, Rat.div_mul_cancel (by have := g.2; grind)]
      rw [e, sum_add, sum_mulR kids (fun x => U x - c x), sum_sub, e2]
      exact ⟨by grind, fun _ => by grind⟩
    · have e : kids.map (partQ h a (sumQ (kids.map U)) (sumQ (kids.map c)) U c) = kids.map c := List.map_congr_left fun x _ => by
        unfold partQ
        rw [if_neg l, if_neg g]
      rw [e]
      refine ⟨by grind, fun hh => ?_⟩
      have g2 : ¬ sumQ (kids.map c) < sumQ (kids.map U) := fun z => g ⟨hh, z⟩
      have := po.au
      grind
theorem parts_sumF {un : Rat} (po : PartOk M S a un kids U c) : sumQ (kids.map (partQ false a un (sumQ (kids.map c)) U c)) = if a < sumQ (kids.map c) then a else sumQ (kids.map c) := by
  by_cases l : a < sumQ (kids.map c)
  · have e : kids.map (partQ false a un (sumQ (kids.map c)) U c) = kids.map fun x => c x * (a / sumQ (kids.map c)) := List.map_congr_left fun x _ => if_pos l
    have := po.clp l
    rw [e, sum_mulR, if_pos l, Rat.mul_comm, Rat.div_mul_cancel (by grind)]
  · have e : kids.map (partQ false a un (sumQ (kids.map c)) U c) = kids.map c := List.map_congr_left fun x _ => by
      unfold partQ
      rw [if_neg l, if_neg (fun z => by cases z.1)]
    rw [e, if_neg l]
/-- the parts have a bottom in common that is not too long -/
theorem parts_ms {un : Rat} (po : PartOk M S a un kids U c) (hM : M < 2 ^ 12) (hS : S < 2 ^ 87) (clu : sumQ (kids.map c) ≤ (S : Rat)) : ∃ N : Nat, 0 < N ∧ N < 2 ^ 2700 ∧ ∀ x ∈ kids, InMS N S (partQ h a un (sumQ (kids.map c)) U c x) := by
  have pb : ∀ x ∈ kids, 0 ≤ partQ h a un (sumQ (kids.map c)) U c x ∧ partQ h a un (sumQ (kids.map c)) U c x ≤ (S : Rat) := fun x hx => by
    obtain ⟨h1, h2, _⟩ := part_bd (h := h) po hM hS clu hx
    exact ⟨h1, Rat.le_trans h2 (po.ku x hx).hi⟩
  by_cases l : a < sumQ (kids.map c)
  · obtain ⟨q1, q2⟩ := quot_sz po.a0 (po.clp l)
    generalize hr : a / sumQ (kids.map c) = r at q1 q2
    have rd : r.den < 2 ^ 2100 := Nat.lt_of_le_of_lt q2 (lt_up (lt_mul2 po.ad (po.cl.nlt po.M0 po.hM po.s1)) (by decide))
    refine ⟨M * r.den, Nat.mul_pos po.M0 r.den_pos, lt_up (lt_mul2 hM rd) (by decide), fun x hx => ⟨?_, (pb x hx).1, (pb x hx).2⟩⟩
    have e : partQ h a un (sumQ (kids.map c)) U c x = c x * r := by
      unfold partQ
      rw [if_pos l, hr]
    rw [e]
    exact of_den (Nat.mul_pos po.M0 r.den_pos) (((po.kc x hx).of po.M0).mul (den_of (Nat.dvd_refl _) r.den_pos))
  · by_cases g : h = true ∧ sumQ (kids.map c) < un
    · obtain ⟨_, _, _, rd⟩ := po.rr l g.2
      generalize hr : (a - sumQ (kids.map c)) / (un - sumQ (kids.map c)) = r at rd
      have pm : 0 < M * r.den := Nat.mul_pos po.M0 r.den_pos
      refine ⟨M * r.den, pm, lt_up (lt_mul2 hM rd) (by decide), fun x hx => ⟨?_, (pb x hx).1, (pb x hx).2⟩⟩
      have e : partQ h a un (sumQ (kids.map c)) U c x = c x + (U x - c x) * r := by
        unfold partQ
        rw [if_neg l, if_pos g, hr]
      rw [e]
      exact of_den pm ((((po.kc x hx).of po.M0).up _ r.den_pos).add pm (((po.beyond hx).of po.M0).mul (den_of (Nat.dvd_refl _) r.den_pos)))
    · refine ⟨M, po.M0, lt_up hM (by decide), fun x hx => ?_⟩
      have e : partQ h a un (sumQ (kids.map c)) U c x = c x := by
        unfold partQ
        rw [if_neg l, if_neg g]
      rw [e]
      exact po.kc x hx
/-- without handing on nobody gets more than its claim -/
theorem part_le {un : Rat} {x : Str} (po : PartOk M S a un kids U c) (hx : x ∈ kids) : partQ false a un (sumQ (kids.map c)) U c x ≤ c x := by
  unfold partQ
  by_cases l : a < sumQ (kids.map c)
  · rw [if_pos l]
    have cp := po.clp l
    have h1 : a / sumQ (kids.map c) ≤ 1 := by
      rw [Rat.div_def]
      have := Rat.mul_le_mul_of_nonneg_right (Rat.le_of_lt l) (Rat.le_of_lt (Rat.inv_pos.mpr cp))
      rwa [Rat.mul_inv_cancel _ (by grind)] at this
    have h2 := Rat.mul_le_mul_of_nonneg_left h1 (po.kc x hx).lo
    rwa [Rat.mul_one] at h2
  · rw [if_neg l, if_neg (fun z => by cases z.1)]
    exact Rat.le_refl
end
end Bd
end

section
namespace Bd
open PySem L2 Am
/-! sizes, with any bounds (LM has them for what the laws mostly draw) -/
section
variable {rows : List RowM}
/-- how great uses grow -/
theorem uzG {M B L : Nat} {u U : Str → Rat} (M0 : 0 < M) (L0 : 0 < L) (hU : ∀ r ∈ rows, U r.name = if kidsOf rows (Sum.inr r.name) = [] then u r.name else sumQ ((kidsOf rows (Sum.inr r.name)).map U)) (ok : RowsOk rows) (len : rows.length ≤ L) (hu : ∀ n, InMS M B (u n)) : ∀ r ∈ rows, InMS M (B * L ^ L) (U r.name) := by
  have key : ∀ i, ∀ j r, rows[j]? = some r → rows.length ≤ j + i → InMS M (B * L ^ i) (U r.name) := by
    intro i
    induction i with
    | zero =>
      intro j r hj hl
      have := (List.getElem?_eq_some_iff.mp hj).1
      omega
    | succ i ih =>
      intro j r hj hl
      rw [hU r (List.mem_of_getElem? hj)]
      split
      · exact (hu _).up (Nat.dvd_refl _) (Nat.le_mul_of_pos_right _ (Nat.pow_pos L0))
      · have kin : ∀ x ∈ kidsOf rows (Sum.inr r.name), InMS M (B * L ^ i) (U x) := fun x hx => by
          obtain ⟨m, z, hm, rfl, _, hlt⟩ := kid_ix ok hj hx
          exact ih m z hm (by omega)
        have h1 : Of M (sumQ ((kidsOf rows (Sum.inr r.name)).map U)) := sum_of M0 of_zero fun q hq => by
          obtain ⟨x, hx, rfl⟩ := List.mem_map.mp hq
          exact (kin x hx).of M0
        have h2 := sum_bd (S := B * L ^ i) (qs := (kidsOf rows (Sum.inr r.name)).map U) (s := 0) (k := 0) Rat.le_refl (by simp) fun q hq => by
          obtain ⟨x, hx, rfl⟩ := List.mem_map.mp hq
          exact ⟨(kin x hx).lo, (kin x hx).hi⟩
        refine ⟨of_den M0 h1, h2.1, Rat.le_trans h2.2 ?_⟩
        have hk := kids_le rows (Sum.inr r.name)
        have : B * L ^ i * (0 + ((kidsOf rows (Sum.inr r.name)).map U).length) ≤ B * L ^ (i + 1) := by
          show B * L ^ i * _ ≤ B * (L ^ i * L)
          rw [← Nat.mul_assoc, List.length_map]
          exact Nat.mul_le_mul_left _ (by omega)
        exact_mod_cast this
  intro r hr
  obtain ⟨j, hj⟩ := List.mem_iff_getElem?.mp hr
  exact key L j r hj (by omega)
end
/-- what a child gets: within its use, and not too long -/
theorem part_bdG {M S m s : Nat} {a un : Rat} {kids : List Str} {U c : Str → Rat} {h : Bool} (o : PartOk M S a un kids U c) (hM : M < 2 ^ m) (hS : S < 2 ^ s) (clu : sumQ (kids.map c) ≤ (S : Rat)) {x : Str} (hx : x ∈ kids) :
    0 ≤ partQ h a un (sumQ (kids.map c)) U c x ∧ partQ h a un (sumQ (kids.map c)) U c x ≤ U x ∧ (partQ h a un (sumQ (kids.map c)) U c x).den ≤ a.den * 2 ^ (3 * m + s) := by
  have hc := o.kc x hx
  have hU := o.ku x hx
  have cu := o.cu x hx
  have clin : InMS M S (sumQ (kids.map c)) := ⟨o.cl.den, o.cl.lo, clu⟩
  have cd : ∀ {q : Rat}, InMS M S q → q.den < 2 ^ m := fun h => Nat.lt_of_le_of_lt (h.denle o.M0) hM
  have cn : ∀ {q : Rat}, InMS M S q → q.num.natAbs < 2 ^ (s + m) := fun h => h.nlt o.M0 hM hS
  have one : ∀ {q : Rat}, q.den < 2 ^ m → q.den ≤ a.den * 2 ^ (3 * m + s) := fun {q} h => by
    have := Nat.le_mul_of_pos_left (2 ^ (3 * m + s)) a.den_pos
    have : (2 : Nat) ^ m ≤ 2 ^ (3 * m + s) := Nat.pow_le_pow_right (by decide) (by omega)
    omega
  unfold partQ
  by_cases l : a < sumQ (kids.map c)
  · rw [if_pos l]
    have lp := o.clp l
    have r0 : 0 ≤ a / sumQ (kids.map c) := by
      rw [Rat.div_def]
      exact Rat.mul_nonneg o.a0 (Rat.le_of_lt (Rat.inv_pos.mpr lp))
    have r1 : a / sumQ (kids.map c) ≤ 1 := by
      rw [Rat.div_def]
      have := Rat.mul_le_mul_of_nonneg_right (Rat.le_of_lt l) (Rat.le_of_lt (Rat.inv_pos.mpr lp))
      rwa [Rat.mul_inv_cancel _ (fun e => by rw [e] at lp; exact absurd lp (by decide))] at this
    have m1 := Rat.mul_le_mul_of_nonneg_left r1 hc.lo
    rw [Rat.mul_one] at m1
    refine ⟨Rat.mul_nonneg hc.lo r0, Rat.le_trans m1 cu, ?_⟩
    obtain ⟨q1, q2⟩ := quot_sz o.a0 lp
    have e1 : (c x * (a / sumQ (kids.map c))).den ∣ M * (a / sumQ (kids.map c)).den := of_den (Nat.mul_pos o.M0 (Rat.den_pos _)) ((hc.of o.M0).mul (den_of (Nat.dvd_refl _) (Rat.den_pos _)))
    have e2 := Nat.le_of_dvd (Nat.mul_pos o.M0 (Rat.den_pos _)) e1
    refine Nat.le_trans e2 (Nat.le_trans (Nat.mul_le_mul (Nat.le_of_lt hM) (Nat.le_trans q2 (Nat.mul_le_mul_left _ (Nat.le_of_lt (cn clin))))) ?_)
    have : 2 ^ m * (a.den * 2 ^ (s + m)) = a.den * 2 ^ (2 * m + s) := by
      rw [Nat.mul_left_comm, ← Nat.pow_add]
      congr 2
      omega
    rw [this]
    exact Nat.mul_le_mul_left _ (Nat.pow_le_pow_right (by decide) (by omega))
  · rw [if_neg l]
    by_cases g : h = true ∧ sumQ (kids.map c) < un
    · rw [if_pos g]
      obtain ⟨r0, r1, _, _⟩ := o.rr l g.2
      have d1 := o.d1 l
      have d2 := o.d2 g.2
      have p1 : 0 ≤ a - sumQ (kids.map c) := d1.lo
      have p2 : 0 < un - sumQ (kids.map c) := by have := g.2; grind
      obtain ⟨q1, q2⟩ := quot_sz p1 p2
      generalize hr : (a - sumQ (kids.map c)) / (un - sumQ (kids.map c)) = r at r0 r1 q1 q2 ⊢
      have b := o.beyond hx
      have m1 := Rat.mul_le_mul_of_nonneg_left r1 b.lo
      rw [Rat.mul_one] at m1
      have m0 := Rat.mul_nonneg b.lo r0
      have c0 := hc.lo
      refine ⟨by grind, by grind, ?_⟩
      have pm : 0 < M * r.den := Nat.mul_pos o.M0 r.den_pos
      have e1 : Of (M * r.den) ((U x - c x) * r) := (b.of o.M0).mul (den_of (Nat.dvd_refl _) r.den_pos)
      have e2 : Of (M * r.den) (c x) := (hc.of o.M0).up _ r.den_pos
      have e3 := Nat.le_of_dvd pm (of_den pm (e2.add pm e1))
      have e4 : r.den ≤ (a.den * 2 ^ m) * 2 ^ (s + m) := Nat.le_trans q2 (Nat.mul_le_mul (Nat.le_trans (d1.denle o.m1.1) (Nat.mul_le_mul_left _ (Nat.le_of_lt hM))) (Nat.le_of_lt (cn d2)))
      refine Nat.le_trans e3 (Nat.le_trans (Nat.mul_le_mul (Nat.le_of_lt hM) e4) ?_)
      have : 2 ^ m * (a.den * 2 ^ m * 2 ^ (s + m)) = a.den * 2 ^ (3 * m + s) := by
        rw [Nat.mul_assoc, ← Nat.pow_add, Nat.mul_left_comm, ← Nat.pow_add]
        congr 2
        omega
      rw [this]
      exact Nat.le_refl _
    · rw [if_neg g]
      exact ⟨hc.lo, cu, one (cd hc)⟩

structure Bds (rows : List RowM) (M S m s : Nat) (k U : Str → Rat) : Prop where
  M0 : 0 < M
  hM : M < 2 ^ m
  hS : S < 2 ^ s
  hm : m ≤ 199
  hs : s ≤ 199
  ll : (3 * m + s) * rows.length ≤ 1499
  len : rows.length ≤ 200
  uz : ∀ r ∈ rows, InMS M S (U r.name)
  kz : ∀ r ∈ rows, InMS M S (k r.name)
section
variable {rows : List RowM} {top : Str} {h : Bool} {k u U c p : Str → Rat} {M S m s : Nat}
theorem Bds.cz (B : Bds rows M S m s k U) (R : Reck rows top h k u U c p) {r : RowM} (hr : r ∈ rows) : InMS M S (c r.name) ∧ c r.name ≤ U r.name := by
  rw [R.cl r hr]
  split
  · rename_i z
    exact ⟨B.kz r hr, Rat.le_of_lt z⟩
  · exact ⟨B.uz r hr, Rat.le_refl⟩
theorem Bds.clu (B : Bds rows M S m s k U) (R : Reck rows top h k u U c p) {r : RowM} (hr : r ∈ rows) {x : Str} (hx : x ∈ kidsOf rows (Sum.inr r.name)) : sumQ ((kidsOf rows (Sum.inr r.name)).map c) ≤ U r.name := by
  rw [R.use r hr, if_neg (fun e => by rw [e] at hx; cases hx)]
  exact sum_le fun y hy => by
    obtain ⟨m, z, hm, rfl, _⟩ := kid_row hy
    exact (B.cz R (List.mem_of_getElem? hm)).2
theorem Bds.po (B : Bds rows M S m s k U) (R : Reck rows top h k u U c p) {r : RowM} (hr : r ∈ rows) (p0 : 0 ≤ p r.name) (p1 : p r.name ≤ U r.name) (p2 : (p r.name).den < 2 ^ 1500) : PartOk M S (p r.name) (U r.name) (kidsOf rows (Sum.inr r.name)) U c := by
  have kr : ∀ x ∈ kidsOf rows (Sum.inr r.name), ∃ q ∈ rows, q.name = x := fun x hx => by
    obtain ⟨m, z, hm, e, _⟩ := kid_row hx
    exact ⟨z, List.mem_of_getElem? hm, e⟩
  refine ⟨B.M0, lt_up B.hM (by have := B.hm; omega), lt_up B.hS (by have := B.hs; omega), Nat.le_trans (kids_le rows _) B.len, fun x hx => ?_, fun x hx => ?_, fun x hx => ?_, B.uz r hr, p0, p1, p2⟩
  · obtain ⟨q, hq, rfl⟩ := kr x hx
    exact B.uz q hq
  · obtain ⟨q, hq, rfl⟩ := kr x hx
    exact (B.cz R hq).1
  · obtain ⟨q, hq, rfl⟩ := kr x hx
    exact (B.cz R hq).2
theorem ll_lt {n L j : Nat} (h : n * L ≤ 1499) (hj : j < L) : n * (j + 1) < 1500 := by
  have : n * (j + 1) ≤ n * L := Nat.mul_le_mul_left _ hj
  omega
theorem Bds.pz (B : Bds rows M S m s k U) (R : Reck rows top h k u U c p) (ok : RowsOk rows) : ∀ (j : Nat) (r : RowM), rows[j]? = some r → r.name ∈ belowL rows top → 0 ≤ p r.name ∧ p r.name ≤ U r.name ∧ (p r.name).den ≤ 2 ^ ((3 * m + s) * (j + 1)) := by
  intro j
  induction j using Nat.strongRecOn with
  | ind j ih =>
    intro r hj hb
    have hr := List.mem_of_getElem? hj
    have lj := (List.getElem?_eq_some_iff.mp hj).1
    obtain ⟨hc, cu⟩ := B.cz R hr
    rw [R.up r hr]
    by_cases e : r.above = top
    · rw [if_pos e]
      refine ⟨hc.lo, cu, Nat.le_trans (hc.denle B.M0) ?_⟩
      refine Nat.le_trans (Nat.le_of_lt B.hM) (Nat.pow_le_pow_right (by decide) ?_)
      rw [Nat.mul_add, Nat.mul_one]
      omega
    · rw [if_neg e]
      obtain ⟨l, hl⟩ := List.mem_iff_getElem?.mp hb
      obtain ⟨r', hr', en, hup⟩ := below_up ok hl
      have : r' = r := by
        obtain ⟨j', hj'⟩ := List.mem_iff_getElem?.mp hr'
        have := row_inj (nms_nd ok) hj' hj en
        subst this
        rw [hj] at hj'
        exact (Option.some.inj hj').symm
      subst this
      have hab : r'.above ∈ belowL rows top := List.mem_of_mem_take (hup.resolve_left e)
      rcases row_up ok hj with z | ⟨i, y, hi, hy, z⟩
      · have := below_nms hab
        rw [z] at this
        exact absurd this (nms_ne ok)
      · obtain ⟨q0, q1, q2⟩ := ih i hi y hy (by rw [z]; exact hab)
        have hym := List.mem_of_getElem? hy
        have ly := (List.getElem?_eq_some_iff.mp hy).1
        have bl : (p y.name).den < 2 ^ 1500 := Nat.lt_of_le_of_lt q2 (Nat.pow_lt_pow_right (by decide) (ll_lt B.ll ly))
        have kx : r'.name ∈ kidsOf rows (Sum.inr y.name) := by rw [z]; exact kid_of hr
        have po := B.po R hym q0 q1 bl
        have := part_bdG (h := h) po B.hM B.hS (Rat.le_trans (B.clu R hym kx) (B.uz y hym).hi) kx
        rw [← z]
        refine ⟨this.1, this.2.1, Nat.le_trans this.2.2 ?_⟩
        refine Nat.le_trans (Nat.mul_le_mul_right _ q2) ?_
        rw [← Nat.pow_add]
        refine Nat.pow_le_pow_right (by decide) ?_
        have : (3 * m + s) * (i + 1) + (3 * m + s) = (3 * m + s) * (i + 2) := by rw [Nat.mul_add, Nat.mul_add]; omega
        rw [this]
        exact Nat.mul_le_mul_left _ (by omega)
theorem Bds.p0 (B : Bds rows M S m s k U) (R : Reck rows top h k u U c p) (ok : RowsOk rows) : ∀ n ∈ belowL rows top, 0 ≤ p n ∧ p n ≤ U n ∧ (p n).den < 2 ^ 1500 ∧ Sz (p n) := fun n hn => by
  obtain ⟨r, hr, rfl⟩ := List.mem_map.mp (below_nms hn)
  obtain ⟨j, hj⟩ := List.mem_iff_getElem?.mp hr
  obtain ⟨a, b, d⟩ := B.pz R ok j r hj hn
  have lj := (List.getElem?_eq_some_iff.mp hj).1
  have d2 : (p r.name).den < 2 ^ 1500 := Nat.lt_of_le_of_lt d (Nat.pow_lt_pow_right (by decide) (ll_lt B.ll lj))
  refine ⟨a, b, d2, Nat.lt_of_le_of_lt (num_le a (Rat.le_trans b (B.uz r hr).hi)) ?_, lt_up d2 (by decide)⟩
  have := B.hs
  exact lt_up (lt_mul2 B.hS d2) (by omega)
theorem Bds.held (B : Bds rows M S m s k U) (R : Reck rows top h k u U c p) (ok : RowsOk rows) : HeldOk rows top h k U c p M S := by
  have row : ∀ {n : Str}, n ∈ nms rows → ∃ r ∈ rows, r.name = n := fun h => by
    obtain ⟨r, hr, e⟩ := List.mem_map.mp h
    exact ⟨r, hr, e⟩
  refine ⟨B.M0, lt_up B.hM (by have := B.hm; omega), lt_up B.hS (by have := B.hs; omega), fun n hn => ?_, fun n hn => ?_, fun n hn hk0 => ?_, fun n hn => ?_, fun n hn => ?_, fun n hn x hx => ?_, fun n hn => ?_⟩
  · obtain ⟨r, hr, rfl⟩ := row (below_nms hn)
    exact B.uz r hr
  · obtain ⟨r, hr, rfl⟩ := row (below_nms hn)
    exact B.kz r hr
  · obtain ⟨r, hr, rfl⟩ := row (below_nms hn)
    rw [R.use r hr, if_neg hk0]
  · obtain ⟨r, hr, rfl⟩ := row (below_nms hn)
    exact R.cl r hr
  · obtain ⟨m, z, hm, rfl, ha⟩ := kid_row hn
    rw [R.up z (List.mem_of_getElem? hm), if_pos ha]
  · obtain ⟨m, z, hm, rfl, ha⟩ := kid_row hx
    have hz := List.mem_of_getElem? hm
    have ne : z.above ≠ top := fun e => by
      rw [ha] at e
      subst e
      exact top_nin ok n hn
    rw [R.up z hz, if_neg ne, ha]
  · obtain ⟨a, b, d, _⟩ := B.p0 R ok n hn
    exact ⟨a, b, d⟩
end
end Bd
end

section
namespace Bd
open PySem L2 Am
/-! a greater use of a leaf never protects the leaf by less -/
theorem frac_le {c cl e a a' : Rat} (c0 : 0 ≤ c) (cc : c ≤ cl) (p : 0 < cl) (e0 : 0 ≤ e) (a0 : 0 ≤ a) (aa : a ≤ a') : c * (a / cl) ≤ (c + e) * (a' / (cl + e)) := by
  have p2 : 0 < cl + e := by grind
  have t1 : a / cl * cl = a := Rat.div_mul_cancel (by grind)
  have t2 : a' / (cl + e) * (cl + e) = a' := Rat.div_mul_cancel (by grind)
  have t0 : 0 ≤ a' / (cl + e) := by
    rw [Rat.div_def]
    exact Rat.mul_nonneg (by grind) (Rat.le_of_lt (Rat.inv_pos.mpr p2))
  generalize a / cl = t at t1
  generalize a' / (cl + e) = t' at t2 t0
  have h1 : c * a ≤ c * a' := Rat.mul_le_mul_of_nonneg_left aa c0
  have h2 : 0 ≤ e * (cl - c) := Rat.mul_nonneg e0 (by grind)
  have h3 := Rat.mul_nonneg h2 t0
  -- c a' = c (cl + e) t' and (c + e) cl t' - c (cl + e) t' = e (cl - c) t'
  have q1 : c * t * cl = c * a := by rw [Rat.mul_assoc, t1]
  have q2 : (c + e) * t' * cl = c * a' + e * (cl - c) * t' := by rw [← t2]; grind
  have h4 : c * t * cl ≤ (c + e) * t' * cl := by rw [q1, q2]; grind
  by_cases z : c * t ≤ (c + e) * t'
  · exact z
  · exfalso
    have h5 : (c + e) * t' < c * t := by grind
    have h6 := Rat.mul_lt_mul_of_pos_right h5 p
    grind
theorem sum_off1 {ks : List Str} (nd : ks.Nodup) {x : Str} (hx : x ∈ ks) {f g : Str → Rat} (h : ∀ y ∈ ks, y ≠ x → f y = g y) : sumQ (ks.map f) = sumQ (ks.map g) + (f x - g x) := by
  induction ks with
  | nil => cases hx
  | cons z zs ih =>
    obtain ⟨n1, n2⟩ := List.nodup_cons.mp nd
    rw [List.map_cons, List.map_cons, sum_cons, sum_cons]
    rcases List.mem_cons.mp hx with e | m
    · have : zs.map f = zs.map g := List.map_congr_left fun y hy => h y (List.mem_cons_of_mem _ hy) fun e2 => n1 (by rw [← e, ← e2]; exact hy)
      rw [this, ← e]
      grind
    · have e1 := h z List.mem_cons_self fun e2 => n1 (by rw [e2]; exact m)
      rw [ih n2 m fun y hy ne => h y (List.mem_cons_of_mem _ hy) ne, e1]
      grind
theorem sum_nn {ks : List Str} {f : Str → Rat} (h : ∀ y ∈ ks, 0 ≤ f y) : 0 ≤ sumQ (ks.map f) := by
  induction ks with
  | nil => exact Rat.le_refl
  | cons z zs ih =>
    rw [List.map_cons, sum_cons]
    have h1 := h z List.mem_cons_self
    have h2 := ih fun y hy => h y (List.mem_cons_of_mem _ hy)
    grind
theorem sum_ge1 {ks : List Str} {f : Str → Rat} (h : ∀ y ∈ ks, 0 ≤ f y) {x : Str} (hx : x ∈ ks) : f x ≤ sumQ (ks.map f) := by
  induction ks with
  | nil => cases hx
  | cons z zs ih =>
    rw [List.map_cons, sum_cons]
    have h1 := h z List.mem_cons_self
    have h2 := sum_nn (ks := zs) fun y hy => h y (List.mem_cons_of_mem _ hy)
    rcases List.mem_cons.mp hx with e | m
    · rw [← e] at h1 ⊢
      grind
    · have := ih (fun y hy => h y (List.mem_cons_of_mem _ hy)) m
      grind
theorem part_ge' {M S : Nat} {a un : Rat} {kids : List Str} {U c : Str → Rat} {h : Bool} {x : Str} (po : PartOk M S a un kids U c) (hx : x ∈ kids) (l : ¬ a < sumQ (kids.map c)) : c x ≤ partQ h a un (sumQ (kids.map c)) U c x := by
  unfold partQ
  rw [if_neg l]
  by_cases g : h = true ∧ sumQ (kids.map c) < un
  · rw [if_pos g]
    obtain ⟨r0, _⟩ := po.rr l g.2
    have := Rat.mul_nonneg (po.beyond hx).lo r0
    grind
  · rw [if_neg g]
    exact Rat.le_refl
theorem part_mono {M S M' S' : Nat} {a a' un un' d : Rat} {kids : List Str} {U U' c c' : Str → Rat} {h : Bool} {x : Str} (po : PartOk M S a un kids U c) (po' : PartOk M' S' a' un' kids U' c') (hx : x ∈ kids) (nd : kids.Nodup) (hsum : un = sumQ (kids.map U)) (ha : a ≤ a') (d0 : 0 ≤ d)
    (hU : U' x = U x + d) (hco : ∀ y ∈ kids, y ≠ x → c' y = c y) (hc : c' x = c x ∨ (c x < c' x ∧ c x = U x)) (hun : un' = un + d) : partQ h a un (sumQ (kids.map c)) U c x ≤ partQ h a' un' (sumQ (kids.map c')) U' c' x := by
  have ecl := sum_off1 nd hx hco
  have c0 := (po.kc x hx).lo
  have cu := po.cu x hx
  have ccl : c x ≤ sumQ (kids.map c) := sum_ge1 (fun y hy => (po.kc y hy).lo) hx
  have a0 := po.a0
  by_cases l' : a' < sumQ (kids.map c')
  · have e' : partQ h a' un' (sumQ (kids.map c')) U' c' x = c' x * (a' / sumQ (kids.map c')) := by
      unfold partQ
      rw [if_pos l']
    rw [e', ecl]
    by_cases l : a < sumQ (kids.map c)
    · have e1 : partQ h a un (sumQ (kids.map c)) U c x = c x * (a / sumQ (kids.map c)) := by
        unfold partQ
        rw [if_pos l]
      rw [e1]
      have := frac_le (e := c' x - c x) c0 ccl (po.clp l) (by rcases hc with z | z <;> grind) a0 ha
      have e2 : c x + (c' x - c x) = c' x := by grind
      rwa [e2] at this
    · -- the claim grew
      have hg : c x < c' x ∧ c x = U x := by
        rcases hc with z | z
        · exfalso
          rw [ecl, z] at l'
          grind
        · exact z
      have e1 : partQ h a un (sumQ (kids.map c)) U c x = c x := by
        unfold partQ
        rw [if_neg l, ← hg.2]
        split
        · have : c x - c x = 0 := by grind
          rw [this, Rat.zero_mul, Rat.add_zero]
        · rfl
      rw [e1]
      by_cases z : sumQ (kids.map c) = 0
      · have : c x = 0 := by grind
        rw [this]
        have h1 : 0 ≤ a' / (sumQ (kids.map c) + (c' x - 0)) := by
          rw [Rat.div_def]
          refine Rat.mul_nonneg (by grind) ?_
          exact Rat.le_of_lt (Rat.inv_pos.mpr (by grind))
        exact Rat.mul_nonneg (by grind) h1
      · have p : 0 < sumQ (kids.map c) := by grind
        have := frac_le (e := c' x - c x) (a := sumQ (kids.map c)) (a' := a') c0 ccl p (by grind) (Rat.le_of_lt p) (by grind)
        have e2 : c x + (c' x - c x) = c' x := by grind
        rw [e2] at this
        have e3 : c x * (sumQ (kids.map c) / sumQ (kids.map c)) = c x := by
          have : sumQ (kids.map c) / sumQ (kids.map c) = 1 := by
            rw [Rat.div_def, Rat.mul_inv_cancel _ z]
          rw [this, Rat.mul_one]
        rwa [e3] at this
  · have ge := part_ge' (h := h) po' hx l'
    have cc : c x ≤ c' x := by rcases hc with z | z <;> grind
    by_cases l : a < sumQ (kids.map c)
    · have e1 : partQ h a un (sumQ (kids.map c)) U c x ≤ c x := by
        have := part_le (un := un) po hx
        unfold partQ at this ⊢
        rw [if_pos l] at this ⊢
        exact this
      grind
    · by_cases g : h = true ∧ sumQ (kids.map c) < un
      · rcases hc with z | z
        · have ecl2 : sumQ (kids.map c') = sumQ (kids.map c) := by rw [ecl, z]; grind
          have g' : h = true ∧ sumQ (kids.map c') < un' := ⟨g.1, by rw [ecl2, hun]; have := g.2; grind⟩
          have e1 : partQ h a un (sumQ (kids.map c)) U c x = c x + (U x - c x) * ((a - sumQ (kids.map c)) / (un - sumQ (kids.map c))) := by
            unfold partQ
            rw [if_neg l, if_pos g]
          have e2 : partQ h a' un' (sumQ (kids.map c')) U' c' x = c x + (U x - c x + d) * ((a' - sumQ (kids.map c)) / (un - sumQ (kids.map c) + d)) := by
            unfold partQ
            rw [if_neg l', if_pos g', ecl2, z, hU, hun]
            have q1 : U x + d - c x = U x - c x + d := by grind
            have q2 : un + d - sumQ (kids.map c) = un - sumQ (kids.map c) + d := by grind
            rw [q1, q2]
          rw [e1, e2]
          have bn : U x - c x ≤ un - sumQ (kids.map c) := by
            rw [hsum, ← sum_sub]
            exact sum_ge1 (f := fun y => U y - c y) (fun y hy => by have := po.cu y hy; grind) hx
          have := frac_le (c := U x - c x) (cl := un - sumQ (kids.map c)) (e := d) (a := a - sumQ (kids.map c)) (a' := a' - sumQ (kids.map c)) (by grind) bn (by have := g.2; grind) d0 (by grind) (by grind)
          grind
        · have e1 : partQ h a un (sumQ (kids.map c)) U c x = c x := by
            unfold partQ
            rw [if_neg l, if_pos g, ← z.2]
            have : c x - c x = 0 := by grind
            rw [this, Rat.zero_mul, Rat.add_zero]
          grind
      · have e1 : partQ h a un (sumQ (kids.map c)) U c x = c x := by
          unfold partQ
          rw [if_neg l, if_neg g]
        grind
/-! the groups above a leaf -/
def abv (rs : List RowM) (n : Str) : Str := ((rs.find? fun r => decide (r.name = n)).map (·.above)).getD ""
def upA (rs : List RowM) (x : Str) : Nat → Str
  | 0 => x
  | i + 1 => abv rs (upA rs x i)
def Anc (rs : List RowM) (x n : Str) : Prop := ∃ i, upA rs x i = n
section
variable {rs : List RowM} {x : Str}
theorem abv_of (rok : RowsOk rs) {r : RowM} (hr : r ∈ rs) : abv rs r.name = r.above := by
  unfold abv
  cases z : rs.find? fun q => decide (q.name = r.name) with
  | none => exact absurd (decide_eq_true rfl) (List.find?_eq_none.mp z r hr)
  | some q =>
    have h1 := List.mem_of_find?_eq_some z
    have h2 : q.name = r.name := of_decide_eq_true (List.find?_some (p := fun q : RowM => decide (q.name = r.name)) z)
    obtain ⟨i, hi⟩ := List.mem_iff_getElem?.mp h1
    obtain ⟨j, hj⟩ := List.mem_iff_getElem?.mp hr
    have := row_inj (nms_nd rok) hi hj h2
    subst this
    rw [hi] at hj
    cases hj
    rfl
theorem abv_in {n : Str} (h : abv rs n ≠ "") : ∃ r ∈ rs, r.name = n := by
  unfold abv at h
  cases z : rs.find? fun q => decide (q.name = n) with
  | none => rw [z] at h; exact absurd rfl h
  | some q => exact ⟨q, List.mem_of_find?_eq_some z, of_decide_eq_true (List.find?_some (p := fun q : RowM => decide (q.name = n)) z)⟩
theorem anc_up (rok : RowsOk rs) {r : RowM} (hr : r ∈ rs) (h : Anc rs x r.name) : Anc rs x r.above := by
  obtain ⟨i, e⟩ := h
  exact ⟨i + 1, by show abv rs (upA rs x i) = _; rw [e, abv_of rok hr]⟩
theorem anc_dn (rok : RowsOk rs) {y : RowM} (hy : y ∈ rs) (h : Anc rs x y.name) (ne : y.name ≠ x) : ∃ z ∈ rs, z.above = y.name ∧ Anc rs x z.name := by
  obtain ⟨i, e⟩ := h
  cases i with
  | zero => exact absurd e.symm ne
  | succ i =>
    have e : abv rs (upA rs x i) = y.name := e
    obtain ⟨j, hj⟩ := List.mem_iff_getElem?.mp hy
    obtain ⟨z, hz, hn⟩ := abv_in (rs := rs) (n := upA rs x i) (by rw [e]; exact row_ne rok hj)
    exact ⟨z, hz, by rw [← abv_of rok hz, hn, e], i, hn.symm⟩
theorem up_lt (rok : RowsOk rs) (a : Nat) : ∀ t : Nat, ∀ q ∈ rs, q.name = upA rs x (a + t + 1) → ∃ (j k : Nat) (r : RowM), rs[j]? = some r ∧ r.name = upA rs x a ∧ rs[k]? = some q ∧ k < j := by
  have one : ∀ (b : Nat), ∀ q ∈ rs, q.name = upA rs x (b + 1) → ∃ (j k : Nat) (r : RowM), rs[j]? = some r ∧ r.name = upA rs x b ∧ rs[k]? = some q ∧ k < j := fun b q hq e => by
    have e : q.name = abv rs (upA rs x b) := e
    obtain ⟨i, hi⟩ := List.mem_iff_getElem?.mp hq
    obtain ⟨r, hr, hn⟩ := abv_in (rs := rs) (n := upA rs x b) (by rw [← e]; exact row_ne rok hi)
    obtain ⟨j, hj⟩ := List.mem_iff_getElem?.mp hr
    have ea : r.above = q.name := by rw [← abv_of rok hr, hn, e]
    rcases row_up rok hj with z | ⟨k, y, hk, hy, z⟩
    · rw [ea] at z
      exact absurd z (row_ne rok hi)
    · have := row_inj (nms_nd rok) hy hi (z.trans ea)
      subst this
      exact ⟨j, k, r, hj, hn, hi, hk⟩
  intro t
  induction t with
  | zero => exact one a
  | succ t ih =>
    intro q hq e
    obtain ⟨j, k, r, hj, hn, hk, lt⟩ := one (a + t + 1) q hq e
    obtain ⟨j2, k2, r2, hj2, hn2, hk2, lt2⟩ := ih r (List.mem_of_getElem? hj) hn
    have := row_inj (nms_nd rok) hk2 hj rfl
    subst this
    exact ⟨j2, k, r2, hj2, hn2, hk, by omega⟩
theorem anc_one (rok : RowsOk rs) {y z1 z2 : RowM} (hy : y ∈ rs) (h1 : z1 ∈ rs) (h2 : z2 ∈ rs) (a1 : z1.above = y.name) (a2 : z2.above = y.name) (n1 : Anc rs x z1.name) (n2 : Anc rs x z2.name) : z1.name = z2.name := by
  have key : ∀ {z1 z2 : RowM} {i j : Nat}, z1 ∈ rs → z2 ∈ rs → z1.above = y.name → z2.above = y.name → upA rs x i = z1.name → upA rs x j = z2.name → i < j → False := fun {z1 z2 i j} h1 h2 a1 a2 e1 e2 lt => by
    have u1 : upA rs x (i + 1) = y.name := by
      show abv rs (upA rs x i) = _
      rw [e1, abv_of rok h1, a1]
    have u2 : upA rs x (j + 1) = y.name := by
      show abv rs (upA rs x j) = _
      rw [e2, abv_of rok h2, a2]
    obtain ⟨a, b, r, ha, hn, hb, l⟩ := up_lt (x := x) rok (i + 1) (j - i - 1) y hy (by
      have : i + 1 + (j - i - 1) + 1 = j + 1 := by omega
      rw [this, u2])
    have := row_inj (nms_nd rok) ha hb (hn.trans u1)
    omega
  obtain ⟨i, e1⟩ := n1
  obtain ⟨j, e2⟩ := n2
  rcases Nat.lt_trichotomy i j with l | e | l
  · exact (key h1 h2 a1 a2 e1 e2 l).elim
  · rw [← e1, ← e2, e]
  · exact (key h2 h1 a2 a1 e2 e1 l).elim
open Classical in
/-- what is used where a leaf uses more -/
noncomputable def useP (rs : List RowM) (x : Str) (d : Rat) (U : Str → Rat) (n : Str) : Rat := if Anc rs x n then U n + d else U n
theorem useP_eq (rok : RowsOk rs) {d : Rat} {u U : Str → Rat} (hx : x ∈ leavesOf rs) (hU : ∀ r ∈ rs, U r.name = if kidsOf rs (Sum.inr r.name) = [] then u r.name else sumQ ((kidsOf rs (Sum.inr r.name)).map U)) :
    ∀ r ∈ rs, useP rs x d U r.name = if kidsOf rs (Sum.inr r.name) = [] then (if r.name = x then u r.name + d else u r.name) else sumQ ((kidsOf rs (Sum.inr r.name)).map (useP rs x d U)) := by
  intro r hr
  obtain ⟨hxn, hxk⟩ := leaf_kids hx
  have h0 := hU r hr
  by_cases k : kidsOf rs (Sum.inr r.name) = []
  · rw [if_pos k] at h0 ⊢
    unfold useP
    by_cases e : r.name = x
    · rw [if_pos e, if_pos ⟨0, e.symm⟩, h0]
    · rw [if_neg e, if_neg, h0]
      intro a
      obtain ⟨z, hz, ha, _⟩ := anc_dn rok hr a e
      have := kid_of hz
      rw [ha, k] at this
      cases this
  · rw [if_neg k] at h0 ⊢
    have ne : r.name ≠ x := fun e => k (by rw [e]; exact hxk)
    by_cases a : Anc rs x r.name
    · obtain ⟨z, hz, ha, az⟩ := anc_dn rok hr a ne
      have hzk : z.name ∈ kidsOf rs (Sum.inr r.name) := by rw [← ha]; exact kid_of hz
      have off : ∀ y ∈ kidsOf rs (Sum.inr r.name), y ≠ z.name → useP rs x d U y = U y := fun y hy hne => by
        unfold useP
        rw [if_neg]
        intro ay
        obtain ⟨m, q, hm, rfl, hq⟩ := kid_row hy
        exact hne (anc_one rok hr (List.mem_of_getElem? hm) hz hq ha ay az)
      rw [sum_off1 (kids_nd rok _) hzk off, ← h0]
      unfold useP
      rw [if_pos a, if_pos az]
      grind
    · have off : (kidsOf rs (Sum.inr r.name)).map (useP rs x d U) = (kidsOf rs (Sum.inr r.name)).map U := List.map_congr_left fun y hy => by
        unfold useP
        rw [if_neg]
        intro ay
        obtain ⟨m, q, hm, rfl, hq⟩ := kid_row hy
        exact a (hq ▸ anc_up rok (List.mem_of_getElem? hm) ay)
      rw [off, ← h0]
      unfold useP
      rw [if_neg a]
theorem use_mono {M S m s M' S' m' s' : Nat} {top : Str} {h : Bool} {k u u' U c p c' p' : Str → Rat} {d : Rat} (rok : RowsOk rs) (d0 : 0 ≤ d) (B : Bds rs M S m s k U) (R : Reck rs top h k u U c p) (B' : Bds rs M' S' m' s' k (useP rs x d U)) (R' : Reck rs top h k u' (useP rs x d U) c' p') :
    ∀ (j : Nat) (r : RowM), rs[j]? = some r → r.name ∈ belowL rs top → Anc rs x r.name → p r.name ≤ p' r.name := by
  have cAt : ∀ r ∈ rs, c' r.name = if k r.name < useP rs x d U r.name then k r.name else useP rs x d U r.name := R'.cl
  have off : ∀ r ∈ rs, ¬ Anc rs x r.name → c' r.name = c r.name := fun r hr a => by
    have e : useP rs x d U r.name = U r.name := by
      unfold useP
      rw [if_neg a]
    rw [R'.cl r hr, R.cl r hr, e]
  have on : ∀ r ∈ rs, Anc rs x r.name → useP rs x d U r.name = U r.name + d ∧ (c' r.name = c r.name ∨ (c r.name < c' r.name ∧ c r.name = U r.name)) := fun r hr a => by
    have e : useP rs x d U r.name = U r.name + d := by
      unfold useP
      rw [if_pos a]
    refine ⟨e, ?_⟩
    rw [R'.cl r hr, R.cl r hr, e]
    by_cases h1 : k r.name < U r.name
    · left
      rw [if_pos h1, if_pos (by grind)]
    · rw [if_neg h1]
      by_cases h2 : k r.name < U r.name + d
      · rw [if_pos h2]
        by_cases h3 : k r.name = U r.name
        · exact .inl h3
        · exact .inr ⟨by grind, rfl⟩
      · rw [if_neg h2]
        by_cases h3 : d = 0
        · left
          rw [h3]
          grind
        · exact .inr ⟨by grind, rfl⟩
  intro j
  induction j using Nat.strongRecOn with
  | ind j ih =>
    intro r hj hb ha
    have hr := List.mem_of_getElem? hj
    rw [R.up r hr, R'.up r hr]
    obtain ⟨e1, e2⟩ := on r hr ha
    by_cases e : r.above = top
    · rw [if_pos e, if_pos e]
      rcases e2 with z | z <;> grind
    · rw [if_neg e, if_neg e]
      obtain ⟨l, hl⟩ := List.mem_iff_getElem?.mp hb
      obtain ⟨r', hr', en, hup⟩ := below_up rok hl
      have : r' = r := by
        obtain ⟨j', hj'⟩ := List.mem_iff_getElem?.mp hr'
        have := row_inj (nms_nd rok) hj' hj en
        subst this
        rw [hj] at hj'
        exact (Option.some.inj hj').symm
      subst this
      have hab : r'.above ∈ belowL rs top := List.mem_of_mem_take (hup.resolve_left e)
      rcases row_up rok hj with z | ⟨i, y, hi, hy, z⟩
      · have := below_nms hab
        rw [z] at this
        exact absurd this (nms_ne rok)
      · have hym := List.mem_of_getElem? hy
        have ay : Anc rs x y.name := by rw [z]; exact anc_up rok hr ha
        have hyb : y.name ∈ belowL rs top := by rw [z]; exact hab
        have le := ih i hi y hy hyb ay
        have ho := B.held R rok
        have ho' := B'.held R' rok
        have po := ho.po rok B.len hyb
        have po' := ho'.po rok B'.len hyb
        have kx : r'.name ∈ kidsOf rs (Sum.inr y.name) := by rw [z]; exact kid_of hr
        have hks : kidsOf rs (Sum.inr y.name) ≠ [] := fun e => by rw [e] at kx; cases kx
        rw [← z]
        refine part_mono po po' kx (kids_nd rok _) (ho.sum _ hyb hks) le d0 e1 (fun q hq ne => ?_) e2 (on y hym ay).1
        obtain ⟨m, q', hm, rfl, hq'⟩ := kid_row hq
        have hqm := List.mem_of_getElem? hm
        refine off q' hqm fun aq => ne ?_
        exact anc_one rok hym hqm hr hq' z.symm aq ha
end
end Bd
end

section
namespace Bd
open PySem L2 Am
/-! what a greater setting, or a greater use, does to what is protected -/
theorem div_le {a b c d : Rat} (hb : 0 < b) (hd : 0 < d) (h : a * d ≤ c * b) : a / b ≤ c / d := by
  have t1 : a / b * b = a := Rat.div_mul_cancel (by grind)
  have t2 : c / d * d = c := Rat.div_mul_cancel (by grind)
  generalize a / b = x at t1
  generalize c / d = y at t2
  by_cases z : x ≤ y
  · exact z
  · exfalso
    have h1 : y < x := by grind
    have h2 := Rat.mul_lt_mul_of_pos_right (Rat.mul_lt_mul_of_pos_right h1 hb) hd
    have e1 : x * b * d = a * d := by rw [t1]
    have e2 : y * b * d = c * b := by
      rw [← t2]
      grind
    rw [e1, e2] at h2
    grind
theorem div_nn {a b : Rat} (ha : 0 ≤ a) (hb : 0 < b) : 0 ≤ a / b := by
  rw [Rat.div_def]
  exact Rat.mul_nonneg ha (Rat.le_of_lt (Rat.inv_pos.mpr hb))
theorem le_div {a b c : Rat} (hb : 0 < b) (h : c * b ≤ a) : c ≤ a / b := by
  have := div_le (a := c) (b := 1) (c := a) (d := b) (by decide) hb (by grind)
  have e : c / 1 = c := by
    rw [Rat.div_def]
    have : (1 : Rat)⁻¹ = 1 := by decide +kernel
    rw [this, Rat.mul_one]
  rwa [e] at this
theorem div_le1 {a b : Rat} (hb : 0 < b) (h : a ≤ b) : a / b ≤ 1 := by
  have := div_le (a := a) (b := b) (c := 1) (d := 1) hb (by decide) (by grind)
  have e : (1 : Rat) / 1 = 1 := by decide +kernel
  rwa [e] at this
/-- handed on beyond the claims: a greater own claim -/
theorem hand_own {R N A e : Rat} (e0 : 0 ≤ e) (eA : e ≤ A) (AN : A ≤ N) (eR : e ≤ R) (RN : R ≤ N) (p : e < N) : R * (A / N) ≤ e + (R - e) * ((A - e) / (N - e)) := by
  have p1 : 0 < N := by grind
  have p2 : 0 < N - e := by grind
  have t1 : A / N * N = A := Rat.div_mul_cancel (by grind)
  have t2 : (A - e) / (N - e) * (N - e) = A - e := Rat.div_mul_cancel (by grind)
  generalize A / N = x at t1
  generalize (A - e) / (N - e) = y at t2
  by_cases z : R * x ≤ e + (R - e) * y
  · exact z
  · exfalso
    have h1 : e + (R - e) * y < R * x := by grind
    have h2 := Rat.mul_lt_mul_of_pos_right (Rat.mul_lt_mul_of_pos_right h1 p1) p2
    have e1 : R * x * N * (N - e) = R * A * (N - e) := by rw [← t1]; grind
    have e2 : (e + (R - e) * y) * N * (N - e) = e * N * (N - e) + (R - e) * (A - e) * N := by rw [← t2]; grind
    rw [e1, e2] at h2
    have h3 := Rat.mul_nonneg (Rat.mul_nonneg e0 (by grind : 0 ≤ N - R)) (by grind : 0 ≤ N - A)
    have e3 : e * N * (N - e) + (R - e) * (A - e) * N - R * A * (N - e) = e * (N - R) * (N - A) := by grind
    grind
section
variable {M S M' S' : Nat} {a a' un un' : Rat} {kids : List Str} {U U' c c' : Str → Rat} {h : Bool} {x : Str}
theorem part_low (l : a < sumQ (kids.map c)) : partQ h a un (sumQ (kids.map c)) U c x = c x * (a / sumQ (kids.map c)) := by
  unfold partQ
  rw [if_pos l]
theorem part_hand (l : ¬ a < sumQ (kids.map c)) (g : h = true ∧ sumQ (kids.map c) < un) : partQ h a un (sumQ (kids.map c)) U c x = c x + (U x - c x) * ((a - sumQ (kids.map c)) / (un - sumQ (kids.map c))) := by
  unfold partQ
  rw [if_neg l, if_pos g]
theorem part_flat (l : ¬ a < sumQ (kids.map c)) (g : ¬ (h = true ∧ sumQ (kids.map c) < un)) : partQ h a un (sumQ (kids.map c)) U c x = c x := by
  unfold partQ
  rw [if_neg l, if_neg g]
theorem part_lowle (po : PartOk M S a un kids U c) (hx : x ∈ kids) (l : a < sumQ (kids.map c)) : partQ h a un (sumQ (kids.map c)) U c x ≤ c x := by
  have := part_le (un := un) po hx
  rw [part_low l] at this ⊢
  exact this
theorem clm_le (po : PartOk M S a un kids U c) (hx : x ∈ kids) : c x ≤ sumQ (kids.map c) := sum_ge1 (fun y hy => (po.kc y hy).lo) hx
theorem bey_le (po : PartOk M S a un kids U c) (hx : x ∈ kids) (hsum : un = sumQ (kids.map U)) : U x - c x ≤ un - sumQ (kids.map c) := by
  rw [hsum, ← sum_sub]
  exact sum_ge1 (f := fun y => U y - c y) (fun y hy => by have := po.cu y hy; grind) hx
/-- the own claim is greater -/
theorem part_own (po : PartOk M S a un kids U c) (po' : PartOk M' S' a' un kids U c') (hx : x ∈ kids) (nd : kids.Nodup) (hsum : un = sumQ (kids.map U)) (ha : a ≤ a') (hco : ∀ y ∈ kids, y ≠ x → c' y = c y) (hc : c x ≤ c' x) :
    partQ h a un (sumQ (kids.map c)) U c x ≤ partQ h a' un (sumQ (kids.map c')) U c' x := by
  have ecl := sum_off1 nd hx hco
  have c0 := (po.kc x hx).lo
  have cu := po.cu x hx
  have cu' := po'.cu x hx
  have ccl := clm_le po hx
  have ccl' := clm_le po' hx
  have bn := bey_le po hx hsum
  have bn' := bey_le po' hx hsum
  have a0 := po.a0
  have au := po.au
  have au' := po'.au
  by_cases l' : a' < sumQ (kids.map c')
  · rw [part_low l']
    by_cases l : a < sumQ (kids.map c)
    · rw [part_low l, ecl]
      have := frac_le (e := c' x - c x) c0 ccl (po.clp l) (by grind) a0 ha
      have e2 : c x + (c' x - c x) = c' x := by grind
      rwa [e2] at this
    · have pcl' : 0 < sumQ (kids.map c') := by grind
      have up : partQ h a un (sumQ (kids.map c)) U c x ≤ c x + (a - sumQ (kids.map c)) := by
        by_cases g : h = true ∧ sumQ (kids.map c) < un
        · rw [part_hand l g]
          have p : 0 < un - sumQ (kids.map c) := by have := g.2; grind
          have r1 : (a - sumQ (kids.map c)) / (un - sumQ (kids.map c)) * (un - sumQ (kids.map c)) = a - sumQ (kids.map c) := Rat.div_mul_cancel (by grind)
          have r0 := div_nn (a := a - sumQ (kids.map c)) (b := un - sumQ (kids.map c)) (by grind) p
          have := Rat.mul_le_mul_of_nonneg_right bn r0
          grind
        · rw [part_flat l g]
          grind
      refine Rat.le_trans up ?_
      have k := le_div (a := c' x * a') (b := sumQ (kids.map c')) (c := c x + (a - sumQ (kids.map c))) pcl' ?_
      · have e : c' x * a' / sumQ (kids.map c') = c' x * (a' / sumQ (kids.map c')) := by
          rw [Rat.div_def, Rat.div_def, Rat.mul_assoc]
        rwa [e] at k
      · have h1 : c' x * a ≤ c' x * a' := Rat.mul_le_mul_of_nonneg_left ha (by grind)
        have h2 := Rat.mul_nonneg (by grind : 0 ≤ sumQ (kids.map c) - c x) (by grind : 0 ≤ (c' x - c x) - (a - sumQ (kids.map c)))
        rw [ecl]
        generalize sumQ (kids.map c) = cl at *
        grind
  · have ge := part_ge' (h := h) po' hx l'
    by_cases l : a < sumQ (kids.map c)
    · have := part_lowle (h := h) po hx l
      grind
    · by_cases g : h = true ∧ sumQ (kids.map c) < un
      · rw [part_hand l g]
        have p : 0 < un - sumQ (kids.map c) := by have := g.2; grind
        have r1 : (a - sumQ (kids.map c)) / (un - sumQ (kids.map c)) * (un - sumQ (kids.map c)) = a - sumQ (kids.map c) := Rat.div_mul_cancel (by grind)
        have r0 := div_nn (a := a - sumQ (kids.map c)) (b := un - sumQ (kids.map c)) (by grind) p
        by_cases lo : a - sumQ (kids.map c) < c' x - c x
        · have := Rat.mul_le_mul_of_nonneg_right bn r0
          grind
        · by_cases g' : h = true ∧ sumQ (kids.map c') < un
          · rw [part_hand l' g', ecl]
            have p' : 0 < un - sumQ (kids.map c) - (c' x - c x) := by have := g'.2; grind
            have k := hand_own (R := U x - c x) (N := un - sumQ (kids.map c)) (A := a - sumQ (kids.map c)) (e := c' x - c x) (by grind) (by grind) (by grind) (by grind) bn (by grind)
            have k2 := div_le (a := a - sumQ (kids.map c) - (c' x - c x)) (b := un - sumQ (kids.map c) - (c' x - c x)) (c := a' - (sumQ (kids.map c) + (c' x - c x))) (d := un - (sumQ (kids.map c) + (c' x - c x))) p' (by grind) (by
              have e1 : un - (sumQ (kids.map c) + (c' x - c x)) = un - sumQ (kids.map c) - (c' x - c x) := by grind
              rw [e1]
              exact Rat.mul_le_mul_of_nonneg_right (by grind) (Rat.le_of_lt p'))
            have k3 := Rat.mul_le_mul_of_nonneg_left k2 (by grind : 0 ≤ U x - c x - (c' x - c x))
            have e2 : U x - c' x = U x - c x - (c' x - c x) := by grind
            rw [e2]
            grind
          · have q1 : ¬ sumQ (kids.map c') < un := fun z => g' ⟨g.1, z⟩
            have q2 := div_le1 (a := a - sumQ (kids.map c)) (b := un - sumQ (kids.map c)) p (by grind)
            have q3 := Rat.mul_le_mul_of_nonneg_left q2 (by grind : 0 ≤ U x - c x)
            have q4 : U x - c' x ≤ 0 := by grind
            grind
      · rw [part_flat l g]
        grind
/-- claims of others are greater -/
theorem part_sib (po : PartOk M S a un kids U c) (po' : PartOk M' S' a' un kids U c') (hx : x ∈ kids) (hsum : un = sumQ (kids.map U)) (ha : a' ≤ a) (hcl : sumQ (kids.map c) ≤ sumQ (kids.map c')) (hc : c' x = c x) :
    partQ h a' un (sumQ (kids.map c')) U c' x ≤ partQ h a un (sumQ (kids.map c)) U c x := by
  have c0 := (po.kc x hx).lo
  have cu := po.cu x hx
  have a0 := po.a0
  have a0' := po'.a0
  have au := po.au
  by_cases l : a < sumQ (kids.map c)
  · have p := po.clp l
    rw [part_low l, part_low (by grind : a' < sumQ (kids.map c')), hc]
    refine Rat.mul_le_mul_of_nonneg_left (div_le (by grind) p ?_) c0
    have h1 := Rat.mul_le_mul_of_nonneg_right ha (Rat.le_of_lt p)
    have h2 := Rat.mul_le_mul_of_nonneg_left hcl a0
    grind
  · have ge := part_ge' (h := h) po hx l
    by_cases l' : a' < sumQ (kids.map c')
    · have := part_lowle (h := h) po' hx l'
      grind
    · by_cases g' : h = true ∧ sumQ (kids.map c') < un
      · have g : h = true ∧ sumQ (kids.map c) < un := ⟨g'.1, by have := g'.2; grind⟩
        rw [part_hand l' g', part_hand l g, hc]
        have q : (a' - sumQ (kids.map c')) / (un - sumQ (kids.map c')) ≤ (a - sumQ (kids.map c)) / (un - sumQ (kids.map c)) := by
          refine div_le (by have := g'.2; grind) (by have := g.2; grind) ?_
          have h1 := Rat.mul_le_mul_of_nonneg_right ha (by have := g.2; grind : 0 ≤ un - sumQ (kids.map c))
          have h2 := Rat.mul_nonneg (by grind : 0 ≤ sumQ (kids.map c') - sumQ (kids.map c)) (by grind : 0 ≤ un - a)
          generalize sumQ (kids.map c) = cl at *
          generalize sumQ (kids.map c') = cl' at *
          grind
        have := Rat.mul_le_mul_of_nonneg_left q (by grind : 0 ≤ U x - c x)
        grind
      · rw [part_flat l' g', hc]
        exact ge
theorem part_cong (he : ∀ y ∈ kids, c' y = c y) (hx : x ∈ kids) : partQ h a un (sumQ (kids.map c')) U c' x = partQ h a un (sumQ (kids.map c)) U c x := by
  have : kids.map c' = kids.map c := List.map_congr_left he
  unfold partQ
  rw [this, he x hx]
end
end Bd
end

section
namespace Bd
open PySem L2 Am
/-! the same along a path -/
theorem upA_add {rs : List RowM} {x : Str} {i : Nat} : ∀ j, upA rs x (i + j) = upA rs (upA rs x i) j
  | 0 => rfl
  | j + 1 => by
    show abv rs (upA rs x (i + j)) = abv rs (upA rs (upA rs x i) j)
    rw [upA_add j]
theorem anc_trans {rs : List RowM} {x y z : Str} (h1 : Anc rs x y) (h2 : Anc rs y z) : Anc rs x z := by
  obtain ⟨i, rfl⟩ := h1
  obtain ⟨j, rfl⟩ := h2
  exact ⟨i + j, upA_add j⟩
theorem sum_leS {ks : List Str} {f g : Str → Rat} (h : ∀ y ∈ ks, f y ≤ g y) : sumQ (ks.map f) ≤ sumQ (ks.map g) := by
  induction ks with
  | nil => exact Rat.le_refl
  | cons z zs ih =>
    rw [List.map_cons, List.map_cons, sum_cons, sum_cons]
    have h1 := h z List.mem_cons_self
    have h2 := ih fun y hy => h y (List.mem_cons_of_mem _ hy)
    grind
def lowP (a cl cx : Rat) : Rat := if a < cl then cx * (a / cl) else cx
theorem part_false (a un cl : Rat) (U c : Str → Rat) (x : Str) : partQ false a un cl U c x = lowP a cl (c x) := by
  unfold partQ lowP
  by_cases l : a < cl
  · rw [if_pos l, if_pos l]
  · rw [if_neg l, if_neg l, if_neg]
    rintro ⟨z, _⟩
    cases z
theorem low_mono {a a' cl cx : Rat} (a0 : 0 ≤ a) (ha : a ≤ a') (c0 : 0 ≤ cx) : lowP a cl cx ≤ lowP a' cl cx := by
  unfold lowP
  by_cases l : a < cl
  · have p : 0 < cl := by grind
    rw [if_pos l]
    by_cases l' : a' < cl
    · rw [if_pos l']
      refine Rat.mul_le_mul_of_nonneg_left (div_le p p ?_) c0
      exact Rat.mul_le_mul_of_nonneg_right ha (Rat.le_of_lt p)
    · rw [if_neg l']
      have := Rat.mul_le_mul_of_nonneg_left (div_le1 p (Rat.le_of_lt l)) c0
      grind
  · rw [if_neg l, if_neg (by grind)]
    exact Rat.le_refl
theorem ratio_step {a a' cl cl' Uw d Ux cx cx' : Rat} (a0 : 0 ≤ a) (hr : a' * Uw ≤ a * (Uw + d)) (clU : cl ≤ Uw) (ecl : cl' = cl + (cx' - cx)) (d0 : 0 ≤ d) (hx : Ux ≤ Uw) (Ux0 : 0 ≤ Ux) (c0 : 0 ≤ cx) (ccl : cx ≤ cl) (cc : cx ≤ cx') (hc : cx' = cx ∨ (cx = Ux ∧ cx' ≤ cx + d)) : lowP a' cl' cx' * Ux ≤ lowP a cl cx * (Ux + d) := by
  by_cases l : a < cl
  · have p : 0 < cl := by grind
    have p' : 0 < cl' := by grind
    have pw : 0 < Uw := by grind
    have e1 : lowP a cl cx = cx * (a / cl) := by
      unfold lowP
      rw [if_pos l]
    have t1 : a / cl * cl = a := Rat.div_mul_cancel (by grind)
    have r0 := div_nn a0 p
    generalize a / cl = ρ at t1 r0 e1
    have hp : lowP a' cl' cx' * cl' ≤ cx' * a' := by
      unfold lowP
      by_cases l' : a' < cl'
      · rw [if_pos l', Rat.mul_assoc, Rat.div_mul_cancel (by grind)]
        exact Rat.le_refl
      · rw [if_neg l']
        exact Rat.mul_le_mul_of_nonneg_left (by grind) (by grind)
    generalize lowP a' cl' cx' = P' at hp
    rw [e1]
    have star : cx' * cl * (Uw + d) * Ux ≤ cx * (Ux + d) * cl' * Uw := by
      rcases hc with z | ⟨z, z2⟩
      · have h1 := Rat.mul_nonneg (Rat.mul_nonneg (Rat.mul_nonneg c0 (Rat.le_of_lt p)) d0) (by grind : 0 ≤ Uw - Ux)
        have e : cl' = cl := by rw [ecl, z]; grind
        rw [e, z]
        grind
      · have h1 := Rat.mul_nonneg (Rat.mul_nonneg (by grind : 0 ≤ Uw - cl) d0) (by grind : 0 ≤ cx' - cx)
        have h2 := Rat.mul_nonneg (Rat.mul_nonneg (by grind : 0 ≤ cx' - cx) Ux0) (by grind : 0 ≤ Uw - cl)
        have h3 := Rat.mul_nonneg (Rat.mul_nonneg (by grind : 0 ≤ d - (cx' - cx)) (Rat.le_of_lt p)) (by grind : 0 ≤ Uw - Ux)
        have h4 := Rat.mul_nonneg Ux0 (Rat.add_nonneg (Rat.add_nonneg h1 h2) h3)
        rw [ecl, z] at *
        grind
    by_cases g : P' * Ux ≤ cx * ρ * (Ux + d)
    · exact g
    · exfalso
      have g1 : cx * ρ * (Ux + d) < P' * Ux := by grind
      have g2 := Rat.mul_lt_mul_of_pos_right (Rat.mul_lt_mul_of_pos_right g1 p') pw
      have s1 := Rat.mul_le_mul_of_nonneg_right (Rat.mul_le_mul_of_nonneg_right hp Ux0) (Rat.le_of_lt pw)
      have s2 := Rat.mul_le_mul_of_nonneg_left hr (Rat.mul_nonneg (by grind : 0 ≤ cx') Ux0)
      have s3 := Rat.mul_le_mul_of_nonneg_left star r0
      have q1 : P' * cl' * Ux * Uw = P' * Ux * cl' * Uw := by grind
      have q2 : cx' * a' * Ux * Uw = cx' * Ux * (a' * Uw) := by grind
      have q3 : cx' * Ux * (a * (Uw + d)) = ρ * (cx' * cl * (Uw + d) * Ux) := by rw [← t1]; grind
      have q4 : ρ * (cx * (Ux + d) * cl' * Uw) = cx * ρ * (Ux + d) * cl' * Uw := by grind
      rw [q1, q2] at s1
      rw [q3] at s2
      rw [q4] at s3
      grind
  · have e1 : lowP a cl cx = cx := by
      unfold lowP
      rw [if_neg l]
    have hp : lowP a' cl' cx' ≤ cx' := by
      unfold lowP
      by_cases l' : a' < cl'
      · rw [if_pos l']
        have p' : 0 < cl' ∨ cl' ≤ 0 := by grind
        rcases p' with p' | p'
        · have := Rat.mul_le_mul_of_nonneg_left (div_le1 p' (Rat.le_of_lt l')) (by grind : 0 ≤ cx')
          grind
        · have : cx' = 0 := by grind
          rw [this, Rat.zero_mul]
          exact Rat.le_refl
      · rw [if_neg l']
        exact Rat.le_refl
    rw [e1]
    have h1 := Rat.mul_le_mul_of_nonneg_right hp Ux0
    rcases hc with z | ⟨z, z2⟩
    · have := Rat.mul_nonneg c0 d0
      rw [z] at h1
      grind
    · have := Rat.mul_nonneg Ux0 (by grind : 0 ≤ cx + d - cx')
      rw [z] at *
      grind
/-- a claim of another one grows as its use does -/
theorem sib_step {a a' cl Uw d cx : Rat} (a0 : 0 ≤ a) (hr : a' * Uw ≤ a * (Uw + d)) (clU : cl ≤ Uw) (d0 : 0 ≤ d) (c0 : 0 ≤ cx) (a0' : 0 ≤ a') : lowP a' (cl + d) cx ≤ lowP a cl cx := by
  unfold lowP
  by_cases l : a < cl
  · have p : 0 < cl := by grind
    have pw : 0 < Uw := by grind
    rw [if_pos l]
    have key : a' * cl ≤ a * (cl + d) := by
      by_cases g : a' * cl ≤ a * (cl + d)
      · exact g
      · exfalso
        have g1 : a * (cl + d) < a' * cl := by grind
        have g2 := Rat.mul_lt_mul_of_pos_right g1 pw
        have s1 := Rat.mul_le_mul_of_nonneg_right hr (Rat.le_of_lt p)
        have s2 := Rat.mul_nonneg (Rat.mul_nonneg a0 d0) (by grind : 0 ≤ Uw - cl)
        grind
    by_cases l' : a' < cl + d
    · rw [if_pos l']
      exact Rat.mul_le_mul_of_nonneg_left (div_le (by grind) p key) c0
    · exfalso
      have s1 := Rat.mul_le_mul_of_nonneg_right (by grind : cl + d ≤ a') (Rat.le_of_lt p)
      have s2 := Rat.mul_lt_mul_of_pos_right l (by grind : 0 < cl + d)
      grind
  · rw [if_neg l]
    by_cases l' : a' < cl + d
    · rw [if_pos l']
      have := Rat.mul_le_mul_of_nonneg_left (div_le1 (a := a') (b := cl + d) (by grind) (Rat.le_of_lt l')) c0
      grind
    · rw [if_neg l']
      exact Rat.le_refl
section
variable {rs : List RowM} {x top : Str}
theorem up_row (rok : RowsOk rs) {j : Nat} {r : RowM} (hj : rs[j]? = some r) (hb : r.name ∈ belowL rs top) (e : r.above ≠ top) : ∃ i y, i < j ∧ rs[i]? = some y ∧ y.name = r.above ∧ y.name ∈ belowL rs top := by
  obtain ⟨l, hl⟩ := List.mem_iff_getElem?.mp hb
  obtain ⟨r', hr', en, hup⟩ := below_up rok hl
  have : r' = r := by
    obtain ⟨j', hj'⟩ := List.mem_iff_getElem?.mp hr'
    have := row_inj (nms_nd rok) hj' hj en
    subst this
    rw [hj] at hj'
    exact (Option.some.inj hj').symm
  subst this
  have hab : r'.above ∈ belowL rs top := List.mem_of_mem_take (hup.resolve_left e)
  rcases row_up rok hj with z | ⟨i, y, hi, hy, z⟩
  · have := below_nms hab
    rw [z] at this
    exact absurd this (nms_ne rok)
  · exact ⟨i, y, hi, hy, z, by rw [z]; exact hab⟩
/-- one setting is greater -/
structure SetUp (rs : List RowM) (top : Str) (h : Bool) (k u U c p k' c' p' : Str → Rat) (z : Str) (M S m s M' S' m' s' : Nat) : Prop where
  rok : RowsOk rs
  ne : ∀ n, n ≠ z → k' n = k n
  le : k z ≤ k' z
  B : Bds rs M S m s k U
  R : Reck rs top h k u U c p
  B' : Bds rs M' S' m' s' k' U
  R' : Reck rs top h k' u U c' p'
section
variable {h : Bool} {k u U c p k' c' p' : Str → Rat} {z : Str} {M S m s M' S' m' s' : Nat}
theorem SetUp.cne (t : SetUp rs top h k u U c p k' c' p' z M S m s M' S' m' s') {r : RowM} (hr : r ∈ rs) (hn : r.name ≠ z) : c' r.name = c r.name := by
  rw [t.R'.cl r hr, t.R.cl r hr, t.ne _ hn]
theorem SetUp.cle (t : SetUp rs top h k u U c p k' c' p' z M S m s M' S' m' s') {r : RowM} (hr : r ∈ rs) : c r.name ≤ c' r.name := by
  rw [t.R'.cl r hr, t.R.cl r hr]
  have : k r.name ≤ k' r.name := by
    by_cases e : r.name = z
    · rw [e]
      exact t.le
    · rw [t.ne _ e]
      exact Rat.le_refl
  grind
theorem set_up (t : SetUp rs top h k u U c p k' c' p' z M S m s M' S' m' s') (hz : Anc rs x z) : ∀ (j : Nat) (r : RowM), rs[j]? = some r → r.name ∈ belowL rs top → Anc rs x r.name → p r.name ≤ p' r.name := by
  intro j
  induction j using Nat.strongRecOn with
  | ind j ih =>
    intro r hj hb ha
    have hr := List.mem_of_getElem? hj
    have rok := t.rok
    rw [t.R.up r hr, t.R'.up r hr]
    by_cases e : r.above = top
    · rw [if_pos e, if_pos e]
      exact t.cle hr
    · rw [if_neg e, if_neg e]
      obtain ⟨i, y, hi, hy, en, hyb⟩ := up_row rok hj hb e
      have hym := List.mem_of_getElem? hy
      have ay : Anc rs x y.name := by rw [en]; exact anc_up rok hr ha
      have le := ih i hi y hy hyb ay
      have ho := t.B.held t.R rok
      have ho' := t.B'.held t.R' rok
      have po := ho.po rok t.B.len hyb
      have po' := ho'.po rok t.B'.len hyb
      have kx : r.name ∈ kidsOf rs (Sum.inr y.name) := by rw [en]; exact kid_of hr
      have hks : kidsOf rs (Sum.inr y.name) ≠ [] := fun e => by rw [e] at kx; cases kx
      rw [← en]
      refine part_own po po' kx (kids_nd rok _) (ho.sum _ hyb hks) le (fun q hq ne => ?_) (t.cle hr)
      obtain ⟨m, q', hm, rfl, hq'⟩ := kid_row hq
      have hqm := List.mem_of_getElem? hm
      exact t.cne hqm fun e2 => ne (anc_one rok hym hqm hr hq' en.symm (by rw [e2]; exact hz) ha)
theorem set_dn (t : SetUp rs top h k u U c p k' c' p' z M S m s M' S' m' s') (hz : ¬ Anc rs x z) : ∀ (j : Nat) (r : RowM), rs[j]? = some r → r.name ∈ belowL rs top → Anc rs x r.name → p' r.name ≤ p r.name := by
  intro j
  induction j using Nat.strongRecOn with
  | ind j ih =>
    intro r hj hb ha
    have hr := List.mem_of_getElem? hj
    have rok := t.rok
    have ec : c' r.name = c r.name := t.cne hr fun e => hz (e ▸ ha)
    rw [t.R.up r hr, t.R'.up r hr]
    by_cases e : r.above = top
    · rw [if_pos e, if_pos e, ec]
      exact Rat.le_refl
    · rw [if_neg e, if_neg e]
      obtain ⟨i, y, hi, hy, en, hyb⟩ := up_row rok hj hb e
      have hym := List.mem_of_getElem? hy
      have ay : Anc rs x y.name := by rw [en]; exact anc_up rok hr ha
      have le := ih i hi y hy hyb ay
      have ho := t.B.held t.R rok
      have ho' := t.B'.held t.R' rok
      have po := ho.po rok t.B.len hyb
      have po' := ho'.po rok t.B'.len hyb
      have kx : r.name ∈ kidsOf rs (Sum.inr y.name) := by rw [en]; exact kid_of hr
      have hks : kidsOf rs (Sum.inr y.name) ≠ [] := fun e => by rw [e] at kx; cases kx
      rw [← en]
      refine part_sib po po' kx (ho.sum _ hyb hks) le (sum_leS fun q hq => ?_) ec
      obtain ⟨m, q', hm, rfl, hq'⟩ := kid_row hq
      exact t.cle (List.mem_of_getElem? hm)
theorem set_eq (t : SetUp rs top h k u U c p k' c' p' z M S m s M' S' m' s') (hz : ∀ r ∈ rs, r.name ∈ belowL rs top → Anc rs x r.name → r.name ≠ z) (hs : ∀ r ∈ rs, r.name ∈ belowL rs top → Anc rs x r.name → r.above ≠ top → z ∉ kidsOf rs (Sum.inr r.above)) : ∀ (j : Nat) (r : RowM), rs[j]? = some r → r.name ∈ belowL rs top → Anc rs x r.name → p' r.name = p r.name := by
  intro j
  induction j using Nat.strongRecOn with
  | ind j ih =>
    intro r hj hb ha
    have hr := List.mem_of_getElem? hj
    have rok := t.rok
    have ec : c' r.name = c r.name := t.cne hr (hz r hr hb ha)
    rw [t.R.up r hr, t.R'.up r hr]
    by_cases e : r.above = top
    · rw [if_pos e, if_pos e, ec]
    · rw [if_neg e, if_neg e]
      obtain ⟨i, y, hi, hy, en, hyb⟩ := up_row rok hj hb e
      have ay : Anc rs x y.name := by rw [en]; exact anc_up rok hr ha
      have le := ih i hi y hy hyb ay
      have nz := hs r hr hb ha e
      rw [← en, le]
      rw [← en] at nz
      refine part_cong (fun q hq => ?_) (by rw [en]; exact kid_of hr)
      obtain ⟨m, q', hm, rfl, hq'⟩ := kid_row hq
      exact t.cne (List.mem_of_getElem? hm) fun e2 => nz (e2 ▸ hq)
end
/-! a greater use of a leaf, where nothing is handed on -/
structure UseUp (rs : List RowM) (top : Str) (k u U c p u' c' p' : Str → Rat) (lf : Str) (d : Rat) (M S m s M' S' m' s' : Nat) : Prop where
  rok : RowsOk rs
  d0 : 0 ≤ d
  lfk : kidsOf rs (Sum.inr lf) = []
  B : Bds rs M S m s k U
  R : Reck rs top false k u U c p
  B' : Bds rs M' S' m' s' k (useP rs lf d U)
  R' : Reck rs top false k u' (useP rs lf d U) c' p'
section
variable {k u U c p u' c' p' : Str → Rat} {lf : Str} {d : Rat} {M S m s M' S' m' s' : Nat}
theorem UseUp.off (t : UseUp rs top k u U c p u' c' p' lf d M S m s M' S' m' s') {r : RowM} (hr : r ∈ rs) (a : ¬ Anc rs lf r.name) : c' r.name = c r.name := by
  have e : useP rs lf d U r.name = U r.name := by
    unfold useP
    rw [if_neg a]
  rw [t.R'.cl r hr, t.R.cl r hr, e]
theorem UseUp.on (t : UseUp rs top k u U c p u' c' p' lf d M S m s M' S' m' s') {r : RowM} (hr : r ∈ rs) (a : Anc rs lf r.name) : useP rs lf d U r.name = U r.name + d ∧ c r.name ≤ c' r.name ∧ (c' r.name = c r.name ∨ (c r.name = U r.name ∧ c' r.name ≤ c r.name + d)) ∧ (U r.name + d ≤ k r.name → c' r.name = c r.name + d) ∧ (k r.name ≤ U r.name → c' r.name = c r.name) := by
  have e : useP rs lf d U r.name = U r.name + d := by
    unfold useP
    rw [if_pos a]
  have d0 := t.d0
  rw [t.R'.cl r hr, t.R.cl r hr, e]
  refine ⟨rfl, by grind, by grind, fun h => by grind, fun h => by grind⟩
theorem ratio (t : UseUp rs top k u U c p u' c' p' lf d M S m s M' S' m' s') : ∀ (j : Nat) (r : RowM), rs[j]? = some r → r.name ∈ belowL rs top → Anc rs lf r.name → p' r.name * U r.name ≤ p r.name * (U r.name + d) := by
  intro j
  induction j using Nat.strongRecOn with
  | ind j ih =>
    intro r hj hb ha
    have hr := List.mem_of_getElem? hj
    have rok := t.rok
    have d0 := t.d0
    obtain ⟨_, cc, hc, _, _⟩ := t.on hr ha
    obtain ⟨cin, cu⟩ := t.B.cz t.R hr
    have U0 : 0 ≤ U r.name := Rat.le_trans cin.lo cu
    rw [t.R.up r hr, t.R'.up r hr]
    by_cases e : r.above = top
    · rw [if_pos e, if_pos e]
      rcases hc with z | ⟨z, z2⟩
      · have := Rat.mul_nonneg cin.lo d0
        rw [z]
        grind
      · have := Rat.mul_nonneg U0 (by grind : 0 ≤ c r.name + d - c' r.name)
        rw [z] at *
        grind
    · rw [if_neg e, if_neg e, part_false, part_false]
      obtain ⟨i, y, hi, hy, en, hyb⟩ := up_row rok hj hb e
      have hym := List.mem_of_getElem? hy
      have ay : Anc rs lf y.name := by rw [en]; exact anc_up rok hr ha
      have le := ih i hi y hy hyb ay
      have ho := t.B.held t.R rok
      have po := ho.po rok t.B.len hyb
      have kx : r.name ∈ kidsOf rs (Sum.inr y.name) := by rw [en]; exact kid_of hr
      have hks : kidsOf rs (Sum.inr y.name) ≠ [] := fun e => by rw [e] at kx; cases kx
      have hsum := ho.sum _ hyb hks
      rw [← en]
      refine ratio_step po.a0 le ?_ (sum_off1 (kids_nd rok _) kx fun q hq ne => ?_) d0 ?_ U0 cin.lo (clm_le po kx) cc hc
      · rw [hsum]
        exact sum_leS fun q hq => po.cu q hq
      · obtain ⟨m, q', hm, rfl, hq'⟩ := kid_row hq
        have hqm := List.mem_of_getElem? hm
        exact t.off hqm fun aq => ne (anc_one rok hym hqm hr hq' en.symm aq ha)
      · rw [hsum]
        exact sum_ge1 (fun q hq => (po.ku q hq).lo) kx
/-- the sibling in which the leaf is -/
structure SibOf (rs : List RowM) (x lf : Str) (s0 : RowM) : Prop where
  mem : s0 ∈ rs
  out : ¬ Anc rs x s0.name
  leaf : Anc rs lf s0.name
  up : Anc rs x s0.above
theorem sib_one (rok : RowsOk rs) {s0 : RowM} (h : SibOf rs x lf s0) {y r q : RowM} (hy : y ∈ rs) (hr : r ∈ rs) (hq : q ∈ rs) (er : r.above = y.name) (eq : q.above = y.name) (ar : Anc rs x r.name) (nr : ¬ Anc rs lf r.name) (aq : Anc rs lf q.name) : q.name = s0.name := by
  obtain ⟨i, ei⟩ := h.leaf
  obtain ⟨j, ej⟩ := aq
  have ei1 : upA rs lf (i + 1) = s0.above := by
    show abv rs (upA rs lf i) = _
    rw [ei, abv_of rok h.mem]
  have ej1 : upA rs lf (j + 1) = y.name := by
    show abv rs (upA rs lf j) = _
    rw [ej, abv_of rok hq, eq]
  have ay : Anc rs x y.name := by rw [← er]; exact anc_up rok hr ar
  rcases Nat.lt_trichotomy i j with l | e | l
  · exfalso
    have a1 : Anc rs s0.above q.name := by
      refine ⟨j - (i + 1), ?_⟩
      rw [← ei1, ← upA_add, ← ej]
      congr 1
      omega
    have a2 : Anc rs x q.name := anc_trans h.up a1
    have e2 := anc_one rok hy hq hr eq er a2 ar
    exact nr (e2 ▸ ⟨j, ej⟩)
  · rw [← ei, ← ej, e]
  · exfalso
    refine h.out (anc_trans ay ⟨i - (j + 1), ?_⟩)
    rw [← ej1, ← upA_add, ← ei]
    congr 1
    omega
theorem use_le (t : UseUp rs top k u U c p u' c' p' lf d M S m s M' S' m' s') {s0 : RowM} (hs : SibOf rs x lf s0) (hk : U s0.name + d ≤ k s0.name) : ∀ (j : Nat) (r : RowM), rs[j]? = some r → r.name ∈ belowL rs top → Anc rs x r.name → ¬ Anc rs lf r.name → p' r.name ≤ p r.name := by
  intro j
  induction j using Nat.strongRecOn with
  | ind j ih =>
    intro r hj hb ha na
    have hr := List.mem_of_getElem? hj
    have rok := t.rok
    have ec := t.off hr na
    obtain ⟨cin, cu⟩ := t.B.cz t.R hr
    rw [t.R.up r hr, t.R'.up r hr]
    by_cases e : r.above = top
    · rw [if_pos e, if_pos e, ec]
      exact Rat.le_refl
    · rw [if_neg e, if_neg e, part_false, part_false, ec]
      obtain ⟨i, y, hi, hy, en, hyb⟩ := up_row rok hj hb e
      have hym := List.mem_of_getElem? hy
      have ay : Anc rs x y.name := by rw [en]; exact anc_up rok hr ha
      have ho := t.B.held t.R rok
      have ho' := t.B'.held t.R' rok
      have po := ho.po rok t.B.len hyb
      have po' := ho'.po rok t.B'.len hyb
      have kx : r.name ∈ kidsOf rs (Sum.inr y.name) := by rw [en]; exact kid_of hr
      have hks : kidsOf rs (Sum.inr y.name) ≠ [] := fun e => by rw [e] at kx; cases kx
      have hsum := ho.sum _ hyb hks
      rw [← en]
      by_cases al : Anc rs lf y.name
      · have nl : y.name ≠ lf := fun z => by
          rw [z, t.lfk] at kx
          cases kx
        obtain ⟨q, hq, eq, aq⟩ := anc_dn rok hym al nl
        have e2 := sib_one rok hs hym hr hq en.symm eq ha na aq
        obtain ⟨_, _, _, hu, _⟩ := t.on hq aq
        have kq : q.name ∈ kidsOf rs (Sum.inr y.name) := by rw [← eq]; exact kid_of hq
        have ecl := sum_off1 (f := c') (g := c) (kids_nd rok _) kq fun z hz ne => by
          obtain ⟨m, z', hm, rfl, hz'⟩ := kid_row hz
          have hzm := List.mem_of_getElem? hm
          exact t.off hzm fun az => ne (anc_one rok hym hzm hq hz' eq az aq)
        have hu2 : c' q.name = c q.name + d := hu (by rw [e2]; exact hk)
        have ecl2 : sumQ ((kidsOf rs (Sum.inr y.name)).map c') = sumQ ((kidsOf rs (Sum.inr y.name)).map c) + d := by
          rw [ecl, hu2]
          grind
        rw [ecl2]
        exact sib_step po.a0 (ratio t i y hy hyb al) (by rw [hsum]; exact sum_leS fun q hq => po.cu q hq) t.d0 cin.lo po'.a0
      · have le := ih i hi y hy hyb ay al
        have ecl : (kidsOf rs (Sum.inr y.name)).map c' = (kidsOf rs (Sum.inr y.name)).map c := List.map_congr_left fun z hz => by
          obtain ⟨m, z', hm, rfl, hz'⟩ := kid_row hz
          have hzm := List.mem_of_getElem? hm
          exact t.off hzm fun az => al (hz' ▸ anc_up rok hzm az)
        rw [ecl]
        exact low_mono po'.a0 le cin.lo
theorem use_ge (t : UseUp rs top k u U c p u' c' p' lf d M S m s M' S' m' s') {s0 : RowM} (hs : SibOf rs x lf s0) (hk : k s0.name ≤ U s0.name) : ∀ (j : Nat) (r : RowM), rs[j]? = some r → r.name ∈ belowL rs top → Anc rs x r.name → p r.name ≤ p' r.name := by
  intro j
  induction j using Nat.strongRecOn with
  | ind j ih =>
    intro r hj hb ha
    have hr := List.mem_of_getElem? hj
    have rok := t.rok
    by_cases na : Anc rs lf r.name
    · exact use_mono rok t.d0 t.B t.R t.B' t.R' j r hj hb na
    · have ec := t.off hr na
      obtain ⟨cin, cu⟩ := t.B.cz t.R hr
      rw [t.R.up r hr, t.R'.up r hr]
      by_cases e : r.above = top
      · rw [if_pos e, if_pos e, ec]
        exact Rat.le_refl
      · rw [if_neg e, if_neg e, part_false, part_false, ec]
        obtain ⟨i, y, hi, hy, en, hyb⟩ := up_row rok hj hb e
        have hym := List.mem_of_getElem? hy
        have ay : Anc rs x y.name := by rw [en]; exact anc_up rok hr ha
        have ho := t.B.held t.R rok
        have po := ho.po rok t.B.len hyb
        have le := ih i hi y hy hyb ay
        rw [← en]
        have ecl : (kidsOf rs (Sum.inr y.name)).map c' = (kidsOf rs (Sum.inr y.name)).map c := List.map_congr_left fun z hz => by
          obtain ⟨m, z', hm, rfl, hz'⟩ := kid_row hz
          have hzm := List.mem_of_getElem? hm
          by_cases az : Anc rs lf z'.name
          · have e2 := sib_one rok hs hym hr hzm en.symm hz' ha na az
            exact (t.on hzm az).2.2.2.2 (by rw [e2]; exact hk)
          · exact t.off hzm az
        rw [ecl]
        exact low_mono po.a0 le cin.lo
end
end
end Bd
end

section
namespace Bd
open PySem L2 Am
/-! the path of a group, the groups beside it, the leaves below a group -/
section
variable {rs : List RowM} {x n top : Str}
theorem above_mem (rok : RowsOk rs) {r : RowM} (hr : r ∈ rs) : r.above = "" ∨ r.above ∈ nms rs := by
  obtain ⟨i, hi⟩ := List.mem_iff_getElem?.mp hr
  rcases row_up rok hi with e | ⟨k, q, _, hq, e⟩
  · exact .inl e
  · exact .inr (e ▸ List.mem_map_of_mem (List.mem_of_getElem? hq))
theorem below_in2' (rok : RowsOk rs) {r : RowM} (hr : r ∈ rs) (h : r.above = top ∨ r.above ∈ belowL rs top) : r.name ∈ belowL rs top := by
  rcases h with e | m
  · exact below_top rok (e ▸ kid_of hr)
  · obtain ⟨j, hj⟩ := List.mem_iff_getElem?.mp m
    exact List.mem_of_mem_drop (below_kids rok hj (kid_of hr))
theorem up_one (rok : RowsOk rs) {r : RowM} (hr : r ∈ rs) : upA rs r.name 1 = r.above := abv_of rok hr
theorem up_ix (rok : RowsOk rs) {j : Nat} {r : RowM} (hj : rs[j]? = some r) : ∀ i, upA rs r.name i ≠ "" → ∃ k q, rs[k]? = some q ∧ q.name = upA rs r.name i ∧ k + i ≤ j
  | 0, _ => ⟨j, r, hj, rfl, by omega⟩
  | i + 1, h => by
    have h : abv rs (upA rs r.name i) ≠ "" := h
    obtain ⟨y, hy, ey⟩ := abv_in h
    have hne : upA rs r.name i ≠ "" := by
      obtain ⟨m, hm⟩ := List.mem_iff_getElem?.mp hy
      rw [← ey]
      exact row_ne rok hm
    obtain ⟨k, q, hk, en, lk⟩ := up_ix rok hj i hne
    have ea : upA rs r.name (i + 1) = q.above := by
      show abv rs (upA rs r.name i) = _
      rw [← en, abv_of rok (List.mem_of_getElem? hk)]
    rcases row_up rok hk with e | ⟨m, z, hm, hz, e⟩
    · exfalso
      have ea : abv rs (upA rs r.name i) = q.above := ea
      exact h (ea.trans e)
    · exact ⟨m, z, hz, e.trans ea.symm, by omega⟩
theorem below_anc (rok : RowsOk rs) : ∀ (j : Nat) (y : Str), (belowL rs n)[j]? = some y → ∃ i, upA rs y (i + 1) = n := by
  intro j
  induction j using Nat.strongRecOn with
  | ind j ih =>
    intro y hy
    obtain ⟨r, hr, en, hup⟩ := below_up rok hy
    subst en
    rcases hup with e | m
    · exact ⟨0, (up_one rok hr).trans e⟩
    · obtain ⟨l, hl⟩ := List.mem_iff_getElem?.mp m
      have ll := (List.getElem?_eq_some_iff.mp hl).1
      rw [List.length_take] at ll
      rw [List.getElem?_take_of_lt (by omega)] at hl
      obtain ⟨i, e⟩ := ih l (by omega) _ hl
      refine ⟨1 + i, ?_⟩
      have := upA_add (rs := rs) (x := r.name) (i := 1) (i + 1)
      rw [up_one rok hr, e] at this
      rw [← this]
      congr 1
theorem up_empty (rok : RowsOk rs) : ∀ i, upA rs "" i = ""
  | 0 => rfl
  | i + 1 => by
    show abv rs (upA rs "" i) = ""
    rw [up_empty rok i]
    by_cases h : abv rs "" = ""
    · exact h
    · obtain ⟨y, hy, e⟩ := abv_in h
      obtain ⟨m, hm⟩ := List.mem_iff_getElem?.mp hy
      exact absurd e (row_ne rok hm)
/-- no way round -/
theorem no_round (rok : RowsOk rs) {y : Str} (hy : y ∈ nms rs) {a b : Nat} (h1 : upA rs y (a + 1) = n) (h2 : upA rs n b = y) : False := by
  obtain ⟨r, hr, rfl⟩ := List.mem_map.mp hy
  obtain ⟨j, hj⟩ := List.mem_iff_getElem?.mp hr
  have e : upA rs r.name (a + 1 + b) = r.name := by rw [upA_add, h1, h2]
  obtain ⟨k, q, hk, en, lk⟩ := up_ix rok hj (a + 1 + b) (by rw [e]; exact row_ne rok hj)
  have := row_inj (nms_nd rok) hk hj (en.trans e)
  omega
theorem anc_below (rok : RowsOk rs) (hn : n ∈ nms rs) : ∀ (i : Nat) (y : Str), y ∈ nms rs → upA rs y i = n → y = n ∨ y ∈ belowL rs n
  | 0, y, _, e => .inl e
  | i + 1, y, hy, e => by
    obtain ⟨r, hr, rfl⟩ := List.mem_map.mp hy
    have e2 : upA rs r.above i = n := by
      have := upA_add (rs := rs) (x := r.name) (i := 1) i
      rw [up_one rok hr] at this
      rw [← this, ← e]
      congr 1
      omega
    refine .inr ?_
    rcases above_mem rok hr with z | m
    · exfalso
      rw [z, up_empty rok] at e2
      exact nms_ne rok (e2 ▸ hn)
    · exact below_in2' rok hr (anc_below rok hn i _ m e2)
theorem belB_anc (rok : RowsOk rs) {y : Str} (hn : n ∈ nms rs) (hy : y ∈ nms rs) : (y = n ∨ y ∈ belowL rs n) ↔ Anc rs y n := by
  constructor
  · rintro (e | m)
    · exact ⟨0, e⟩
    · obtain ⟨j, hj⟩ := List.mem_iff_getElem?.mp m
      obtain ⟨i, e⟩ := below_anc rok j y hj
      exact ⟨i + 1, e⟩
  · rintro ⟨i, e⟩
    exact anc_below rok hn i y hy e
end
/-! sums over leaves -/
theorem sum_flt {xs : List Str} {p : Str → Bool} {u : Str → Rat} : sumQ ((xs.filter p).map u) = sumQ (xs.map fun x => if p x then u x else 0) := by
  induction xs with
  | nil => rfl
  | cons x xs ih =>
    rw [List.map_cons, sum_cons, ← ih]
    cases c : p x with
    | true => rw [List.filter_cons_of_pos c, List.map_cons, sum_cons, if_pos rfl]
    | false =>
      rw [List.filter_cons_of_neg (by rw [c]; decide), if_neg (by decide)]
      grind
theorem sum_swap {xs ys : List Str} {f : Str → Str → Rat} : sumQ (xs.map fun x => sumQ (ys.map fun y => f x y)) = sumQ (ys.map fun y => sumQ (xs.map fun x => f x y)) := by
  induction xs with
  | nil =>
    rw [List.map_nil]
    exact (sum_zero ys).symm
  | cons x xs ih =>
    rw [List.map_cons, sum_cons, ih, ← sum_add]
    exact congrArg sumQ (List.map_congr_left fun y _ => by rw [List.map_cons, sum_cons])
section
variable {rs : List RowM}
theorem below_sum (rok : RowsOk rs) {p : Str → Str → Bool} (hp : ∀ n x, p n x = true ↔ (x = n ∨ x ∈ belowL rs n)) {u U : Str → Rat} (hU : ∀ r ∈ rs, U r.name = if kidsOf rs (Sum.inr r.name) = [] then u r.name else sumQ ((kidsOf rs (Sum.inr r.name)).map U)) :
    ∀ (m j : Nat) (r : RowM), rs.length - j = m → rs[j]? = some r → sumQ (((leavesOf rs).filter (p r.name)).map u) = U r.name := by
  have pa : ∀ q ∈ rs, ∀ x ∈ leavesOf rs, p q.name x = true ↔ Anc rs x q.name := fun q hq x hx => (hp _ _).trans (belB_anc rok (List.mem_map_of_mem hq) (leaf_kids hx).1)
  intro m
  induction m using Nat.strongRecOn with
  | ind m ih =>
    intro j r hm hj
    have hr := List.mem_of_getElem? hj
    have lj := (List.getElem?_eq_some_iff.mp hj).1
    have nd := leaves_nd rok
    rw [hU r hr, sum_flt]
    by_cases k : kidsOf rs (Sum.inr r.name) = []
    · rw [if_pos k]
      have hl : r.name ∈ leavesOf rs := leaf_mem (List.mem_map_of_mem hr) (by rw [k]; rfl)
      rw [sum_off1 (g := fun _ => 0) nd hl fun x hx ne => ?_, sum_zero, if_pos ((pa r hr _ hl).mpr ⟨0, rfl⟩)]
      · grind
      · rw [if_neg]
        intro z
        obtain ⟨q, hq, ea, _⟩ := anc_dn rok hr ((pa r hr x hx).mp z) (Ne.symm ne)
        have := kid_of hq
        rw [ea, k] at this
        cases this
    · rw [if_neg k]
      have e1 : ((leavesOf rs).map fun x => if p r.name x then u x else 0) = (leavesOf rs).map fun x => sumQ ((kidsOf rs (Sum.inr r.name)).map fun q => if p q x then u x else 0) := by
        refine List.map_congr_left fun x hx => ?_
        by_cases a : Anc rs x r.name
        · rw [if_pos ((pa r hr x hx).mpr a)]
          have ne : r.name ≠ x := fun e => k (by rw [e]; exact (leaf_kids hx).2)
          obtain ⟨q, hq, ea, aq⟩ := anc_dn rok hr a ne
          have hqk : q.name ∈ kidsOf rs (Sum.inr r.name) := by rw [← ea]; exact kid_of hq
          rw [sum_off1 (g := fun _ => 0) (kids_nd rok _) hqk fun y hy hne => ?_, sum_zero, if_pos ((pa q hq x hx).mpr aq)]
          · grind
          · obtain ⟨i, y', hi, rfl, hy'⟩ := kid_row hy
            have hym := List.mem_of_getElem? hi
            rw [if_neg]
            intro z
            exact hne (anc_one rok hr hym hq hy' ea ((pa y' hym x hx).mp z) aq)
        · rw [if_neg fun z => a ((pa r hr x hx).mp z)]
          have : ((kidsOf rs (Sum.inr r.name)).map fun q => if p q x then u x else 0) = (kidsOf rs (Sum.inr r.name)).map fun _ => (0 : Rat) := List.map_congr_left fun y hy => by
            obtain ⟨i, y', hi, rfl, hy'⟩ := kid_row hy
            have hym := List.mem_of_getElem? hi
            rw [if_neg]
            intro z
            exact a (hy' ▸ anc_up rok hym ((pa y' hym x hx).mp z))
          rw [this, sum_zero]
      rw [e1, sum_swap]
      congr 1
      refine List.map_congr_left fun q hq => ?_
      obtain ⟨i, q', hi, en, ea, li⟩ := kid_ix rok hj hq
      subst en
      have := ih (rs.length - i) (by have := (List.getElem?_eq_some_iff.mp hi).1; omega) i q' rfl hi
      rw [sum_flt] at this
      exact this
end
/-! the path -/
def wayS (rs : List RowM) (n top : Str) : Nat → List Str × Str
  | 0 => ([], n)
  | t + 1 => if (wayS rs n top t).2 ≠ top ∧ (wayS rs n top t).2 ≠ "" then ((wayS rs n top t).1 ++ [(wayS rs n top t).2], abv rs (wayS rs n top t).2) else wayS rs n top t
def wayL (rs : List RowM) (n top : Str) : List Str := if (wayS rs n top (rs.length + 1)).2 = top then (wayS rs n top (rs.length + 1)).1 else []
def besL (rs : List RowM) (way : List Str) : List Str := (rs.filter fun r => decide (r.above ∈ way.dropLast.map (abv rs)) && !decide (r.name ∈ way)).map (·.name)
section
variable {rs : List RowM} {n top : Str}
theorem wayS_is : ∀ t, ∃ m, m ≤ t ∧ wayS rs n top t = ((List.range m).map (upA rs n), upA rs n m) ∧ (∀ i, i < m → upA rs n i ≠ top ∧ upA rs n i ≠ "") ∧ (m < t → upA rs n m = top ∨ upA rs n m = "")
  | 0 => ⟨0, Nat.le_refl _, rfl, fun i h => by omega, fun h => by omega⟩
  | t + 1 => by
    obtain ⟨m, h1, h2, h3, h4⟩ := wayS_is t
    unfold wayS
    by_cases c : (wayS rs n top t).2 ≠ top ∧ (wayS rs n top t).2 ≠ ""
    · rw [if_pos c]
      rw [h2] at c ⊢
      have hm : ¬ m < t := fun l => by
        rcases h4 l with e | e
        · exact c.1 e
        · exact c.2 e
      refine ⟨m + 1, by omega, ?_, fun i hi => ?_, fun h => by omega⟩
      · rw [List.range_succ, List.map_append]
        rfl
      · by_cases e : i = m
        · rw [e]
          exact c
        · exact h3 i (by omega)
    · rw [if_neg c]
      refine ⟨m, by omega, h2, h3, fun _ => ?_⟩
      rw [h2] at c
      by_cases e : upA rs n m = top
      · exact .inl e
      · exact .inr (by
          by_cases e2 : upA rs n m = ""
          · exact e2
          · exact absurd ⟨e, e2⟩ c)
theorem wayL_is (rok : RowsOk rs) (hn : n ∈ nms rs) : ∃ m, (∀ i, i < m → upA rs n i ≠ top ∧ upA rs n i ≠ "") ∧ (upA rs n m = top ∨ upA rs n m = "") ∧ wayL rs n top = if upA rs n m = top then (List.range m).map (upA rs n) else [] := by
  obtain ⟨m, h1, h2, h3, h4⟩ := wayS_is (rs := rs) (n := n) (top := top) (rs.length + 1)
  obtain ⟨r, hr, rfl⟩ := List.mem_map.mp hn
  obtain ⟨j, hj⟩ := List.mem_iff_getElem?.mp hr
  have lj := (List.getElem?_eq_some_iff.mp hj).1
  have lm : m < rs.length + 1 := by
    by_cases z : m = 0
    · omega
    · obtain ⟨k, q, hk, _, lk⟩ := up_ix rok hj (m - 1) (h3 (m - 1) (by omega)).2
      omega
  refine ⟨m, h3, h4 lm, ?_⟩
  unfold wayL
  rw [h2]
/-- a path that is there -/
structure WayOk (rs : List RowM) (n top : Str) (m : Nat) : Prop where
  lt : ∀ i, i < m → upA rs n i ≠ top ∧ upA rs n i ≠ ""
  end_ : upA rs n m = top
  pos : 0 < m
  is : wayL rs n top = (List.range m).map (upA rs n)
theorem way_ok (rok : RowsOk rs) (hn : n ∈ nms rs) (h : wayL rs n top ≠ []) : ∃ m, WayOk rs n top m := by
  obtain ⟨m, h1, h2, h3⟩ := wayL_is (top := top) rok hn
  by_cases e : upA rs n m = top
  · rw [if_pos e] at h3
    refine ⟨m, h1, e, ?_, h3⟩
    cases m with
    | zero => rw [h3] at h; exact absurd rfl h
    | succ m => omega
  · rw [if_neg e] at h3
    exact absurd h3 h
theorem way_ex (rok : RowsOk rs) {r : RowM} (hr : r ∈ rs) (e : r.above = top) : wayL rs r.name top ≠ [] := by
  have hn : r.name ∈ nms rs := List.mem_map_of_mem hr
  obtain ⟨m, h1, h2, h3⟩ := wayL_is (top := top) rok hn
  have u1 : upA rs r.name 1 = top := (up_one rok hr).trans e
  have n0 : upA rs r.name 0 ≠ top := fun z => no_round rok hn (a := 0) (b := 0) u1 z.symm
  have m1 : m ≤ 1 := by
    by_cases z : m ≤ 1
    · exact z
    · exact absurd u1 (h1 1 (by omega)).1
  have m0 : m ≠ 0 := fun z => by
    rw [z] at h2
    rcases h2 with z | z
    · exact n0 z
    · obtain ⟨j, hj⟩ := List.mem_iff_getElem?.mp hr
      exact row_ne rok hj z
  have em : m = 1 := by omega
  rw [h3, em, if_pos u1]
  exact fun z => by cases z
variable {m : Nat}
theorem WayOk.mem (w : WayOk rs n top m) {z : Str} : z ∈ wayL rs n top ↔ ∃ i, i < m ∧ upA rs n i = z := by
  rw [w.is, List.mem_map]
  exact ⟨fun ⟨i, h, e⟩ => ⟨i, List.mem_range.mp h, e⟩, fun ⟨i, h, e⟩ => ⟨i, List.mem_range.mpr h, e⟩⟩
theorem WayOk.row (w : WayOk rs n top m) (rok : RowsOk rs) (hn : n ∈ nms rs) {i : Nat} (hi : i < m) : ∃ r ∈ rs, r.name = upA rs n i ∧ r.above = upA rs n (i + 1) := by
  obtain ⟨r, hr, rfl⟩ := List.mem_map.mp hn
  obtain ⟨j, hj⟩ := List.mem_iff_getElem?.mp hr
  obtain ⟨k, q, hk, en, _⟩ := up_ix rok hj i (w.lt i hi).2
  have hq := List.mem_of_getElem? hk
  refine ⟨q, hq, en, ?_⟩
  show _ = abv rs (upA rs r.name i)
  rw [← en, abv_of rok hq]
theorem WayOk.below (w : WayOk rs n top m) (rok : RowsOk rs) (hn : n ∈ nms rs) : ∀ (d i : Nat), i + d + 1 = m → upA rs n i ∈ belowL rs top
  | 0, i, e => by
    obtain ⟨r, hr, e1, e2⟩ := w.row rok hn (i := i) (by omega)
    rw [← e1]
    refine below_in2' rok hr (.inl ?_)
    rw [e2, ← w.end_]
    congr 1
  | d + 1, i, e => by
    obtain ⟨r, hr, e1, e2⟩ := w.row rok hn (i := i) (by omega)
    rw [← e1]
    refine below_in2' rok hr (.inr ?_)
    rw [e2]
    exact w.below rok hn d (i + 1) (by omega)
theorem WayOk.in_below (w : WayOk rs n top m) (rok : RowsOk rs) (hn : n ∈ nms rs) {z : Str} (h : z ∈ wayL rs n top) : Anc rs n z ∧ z ∈ belowL rs top := by
  obtain ⟨i, hi, rfl⟩ := w.mem.mp h
  exact ⟨⟨i, rfl⟩, w.below rok hn (m - i - 1) i (by omega)⟩
theorem WayOk.of (w : WayOk rs n top m) (rok : RowsOk rs) {z : Str} (ha : Anc rs n z) (hb : z ∈ belowL rs top) : z ∈ wayL rs n top := by
  obtain ⟨i, e⟩ := ha
  by_cases l : i < m
  · exact w.mem.mpr ⟨i, l, e⟩
  · exfalso
    obtain ⟨j, hj⟩ := List.mem_iff_getElem?.mp hb
    obtain ⟨a, ea⟩ := below_anc rok j z hj
    refine no_round (n := top) rok (below_nms hb) (a := a) (b := i - m) ea ?_
    rw [← w.end_, ← upA_add, ← e]
    congr 1
    omega
theorem WayOk.some (w : WayOk rs n top m) {y : Str} : y ∈ (wayL rs n top).dropLast.map (abv rs) ↔ ∃ i, i + 1 < m ∧ upA rs n (i + 1) = y := by
  have e : (wayL rs n top).dropLast = (List.range (m - 1)).map (upA rs n) := by
    have hm : m = m - 1 + 1 := by have := w.pos; omega
    rw [w.is]
    conv => lhs; rw [hm, List.range_succ, List.map_append]
    exact List.dropLast_concat
  rw [e, List.map_map, List.mem_map]
  constructor
  · rintro ⟨i, hi, e⟩
    have := List.mem_range.mp hi
    exact ⟨i, by omega, e⟩
  · rintro ⟨i, hi, e⟩
    exact ⟨i, List.mem_range.mpr (by omega), e⟩
/-- beside the path -/
theorem WayOk.bes (w : WayOk rs n top m) (rok : RowsOk rs) (hn : n ∈ nms rs) {z : Str} (h : z ∈ besL rs (wayL rs n top)) : ∃ s ∈ rs, s.name = z ∧ ¬ Anc rs n z ∧ ∃ i, i + 1 < m ∧ upA rs n (i + 1) = s.above := by
  unfold besL at h
  obtain ⟨s, hs, rfl⟩ := List.mem_map.mp h
  obtain ⟨hsm, hc⟩ := List.mem_filter.mp hs
  rw [Bool.and_eq_true, Bool.not_eq_true'] at hc
  obtain ⟨i, hi, e⟩ := w.some.mp (of_decide_eq_true hc.1)
  refine ⟨s, hsm, rfl, fun a => of_decide_eq_false hc.2 (w.of rok a (below_in2' rok hsm (.inr ?_))), i, hi, e⟩
  rw [← e]
  exact w.below rok hn (m - (i + 1) - 1) (i + 1) (by omega)
theorem WayOk.none (w : WayOk rs n top m) (rok : RowsOk rs) (hn : n ∈ nms rs) {z : Str} (h1 : z ∉ wayL rs n top) (h2 : z ∉ besL rs (wayL rs n top)) : (∀ r ∈ rs, r.name ∈ belowL rs top → Anc rs n r.name → r.name ≠ z) ∧ ∀ r ∈ rs, r.name ∈ belowL rs top → Anc rs n r.name → r.above ≠ top → z ∉ kidsOf rs (Sum.inr r.above) := by
  refine ⟨fun r hr hb ha e => h1 (e ▸ w.of rok ha hb), fun r hr hb ha ne hk => h2 ?_⟩
  obtain ⟨i, s, hi, rfl, es⟩ := kid_row hk
  unfold besL
  refine List.mem_map.mpr ⟨s, List.mem_filter.mpr ⟨List.mem_of_getElem? hi, ?_⟩, rfl⟩
  rw [Bool.and_eq_true, Bool.not_eq_true']
  refine ⟨decide_eq_true (w.some.mpr ?_), decide_eq_false h1⟩
  obtain ⟨a, la, ea⟩ := w.mem.mp (w.of rok ha hb)
  have e1 : upA rs n (a + 1) = r.above := by
    show abv rs (upA rs n a) = _
    rw [ea, abv_of rok hr]
  refine ⟨a, ?_, by rw [e1, es]⟩
  by_cases l : a + 1 < m
  · exact l
  · exfalso
    have : a + 1 = m := by omega
    rw [this, w.end_] at e1
    exact ne e1.symm
theorem WayOk.sib (w : WayOk rs n top m) (rok : RowsOk rs) (hn : n ∈ nms rs) {lf : Str} (hl : lf ∈ nms rs) {z : Str} (h : z ∈ besL rs (wayL rs n top)) (hz : Anc rs lf z) : ∃ s, s.name = z ∧ SibOf rs n lf s ∧ ¬ Anc rs lf n := by
  obtain ⟨s, hs, rfl, na, i, hi, e⟩ := w.bes rok hn h
  refine ⟨s, rfl, ⟨hs, na, hz, ⟨i + 1, e⟩⟩, fun an => ?_⟩
  obtain ⟨a, ea⟩ := hz
  obtain ⟨b, eb⟩ := an
  by_cases l : b ≤ a
  · refine na ⟨a - b, ?_⟩
    rw [← eb, ← upA_add, ← ea]
    congr 1
    omega
  · refine no_round (n := s.above) rok hn (a := i) (b := b - (a + 1)) e ?_
    have : upA rs lf (a + 1) = s.above := by
      show abv rs (upA rs lf a) = _
      rw [ea, abv_of rok hs]
    rw [← this, ← upA_add, ← eb]
    congr 1
    omega
end
end Bd
end

section
namespace Bd
open PySem L2 Am
open Evl hiding tCut pss_cut
/-! rows whose amounts are all so many times -/
def DuesAm (words : List Str) (dues : List (Str × PyData)) : Prop := ∃ ps : List (Str × Rat), dues = ps.map (fun z => (z.1, amtD z.2)) ∧ (ps.map (·.1)).Sublist words ∧ ∀ z ∈ ps, 0 ≤ z.2 ∧ Sz z.2
theorem dues_dokA {words : List Str} {dues : List (Str × PyData)} (hw : WordsOk words) (h : DuesAm words dues) : DuesOk dues := by
  obtain ⟨ps, rfl, hs, hd⟩ := h
  refine ⟨?_, fun du hdu => ?_⟩
  · rw [List.map_map]
    exact hw.1.sublist hs
  · obtain ⟨z, hz, rfl⟩ := List.mem_map.mp hdu
    have hzw := words_in (hw.2 z.1 (hs.subset (List.mem_map_of_mem hz)))
    refine ⟨hzw.1, ?_⟩
    obtain ⟨z0, z1, z2⟩ := hd z hz
    show ValOk z.1 (.tuple [.int z.2.num, .int (z.2.den : Int)])
    rw [nat_num z0]
    exact .amt hzw.2.1 z1 z.2.den_pos z2 z.2.reduced
theorem dues_topsA {words : List Str} {dues : List (Str × PyData)} (hw : WordsOk words) (h : DuesAm words dues) : dueOf (fullD dues) "tops" = some (.str "endless") := by
  obtain ⟨ps, rfl, hs, hd⟩ := h
  have : dueOf (ps.map fun z => (z.1, amtD z.2)) "tops" = none := by
    unfold dueOf
    rw [Option.map_eq_none_iff, List.find?_eq_none]
    intro du hdu
    obtain ⟨z, hz, rfl⟩ := List.mem_map.mp hdu
    have := (words_in (hw.2 z.1 (hs.subset (List.mem_map_of_mem hz)))).2.2
    simpa using this
  show some ((dueOf (ps.map fun z => (z.1, amtD z.2)) "tops").getD (.str "endless")) = _
  rw [this]
  rfl
theorem w2ok : WordsOk ["min", "low"] := ⟨by decide +kernel, by decide +kernel⟩
/-- other rows of the same shape, with dues that are amounts -/
theorem rows_like {rs : List RowM} {g : RowM → RowM} (rok : RowsOk rs) (hn : ∀ r, (g r).name = r.name) (ha : ∀ r, (g r).above = r.above) (hd : ∀ r ∈ rs, DuesAm ["min", "low"] (g r).dues) : RowsOk (rs.map g) := by
  intro i r hr
  rw [List.getElem?_map] at hr
  obtain ⟨q, hq, rfl⟩ := Option.map_eq_some_iff.mp hr
  obtain ⟨h1, h2, h3, h4⟩ := rok i q hq
  have hqm := List.mem_of_getElem? hq
  refine ⟨by rw [hn]; exact h1, dues_dokA w2ok (hd q hqm), fun z hz => ?_, ?_⟩
  · rw [← List.map_take] at hz
    obtain ⟨y, hy, rfl⟩ := List.mem_map.mp hz
    rw [hn, hn]
    exact h3 y hy
  · rw [ha]
    rcases h4 with e | ⟨y, hy, e, _⟩
    · exact .inl e
    · refine .inr ⟨g y, ?_, by rw [hn]; exact e, dues_topsA w2ok (hd y (List.mem_of_mem_take hy))⟩
      rw [← List.map_take]
      exact List.mem_map_of_mem hy
section
variable {rs : List RowM} {g : RowM → RowM}
theorem like_nms (hn : ∀ r, (g r).name = r.name) : nms (rs.map g) = nms rs := by
  unfold nms
  rw [List.map_map]
  exact List.map_congr_left fun r _ => hn r
theorem like_kids (hn : ∀ r, (g r).name = r.name) (ha : ∀ r, (g r).above = r.above) (n : Str) : kidsOf (rs.map g) (Sum.inr n) = kidsOf rs (Sum.inr n) := by
  rw [kids_flt, kids_flt, List.filter_map, List.map_map]
  have : rs.filter ((fun r => decide (r.above = n)) ∘ g) = rs.filter fun r => decide (r.above = n) := List.filter_congr fun r _ => by
    show decide ((g r).above = n) = _
    rw [ha]
  rw [this]
  exact List.map_congr_left fun r _ => hn r
theorem like_below (hn : ∀ r, (g r).name = r.name) (ha : ∀ r, (g r).above = r.above) (top : Str) : belowL (rs.map g) top = belowL rs top := by
  unfold belowL
  rw [List.foldl_map]
  congr 1
  funext acc r
  unfold bStep
  rw [hn, ha]
theorem like_leaves (hn : ∀ r, (g r).name = r.name) (ha : ∀ r, (g r).above = r.above) : leavesOf (rs.map g) = leavesOf rs := by
  unfold leavesOf
  rw [List.filter_map, List.map_map]
  have : rs.filter (leafB (rs.map g) ∘ g) = rs.filter (leafB rs) := List.filter_congr fun r _ => by
    show leafB (rs.map g) (g r) = _
    unfold leafB
    rw [List.any_map]
    congr 1
    congr 1
    funext q
    show decide ((g q).above = (g r).name) = _
    rw [ha, hn]
  rw [this]
  exact List.map_congr_left fun r _ => hn r
end
def scD (f : Rat) : PyData → PyData
  | .tuple [.int n, .int m] => amtD (mkRat n m.toNat * f)
  | d => d
theorem scD_amt (f q : Rat) : scD f (amtD q) = amtD (q * f) := by
  show amtD (mkRat q.num ((q.den : Int)).toNat * f) = _
  rw [Int.toNat_natCast, Rat.mkRat_self]
def scR (f : Rat) (r : RowM) : RowM := ⟨r.name, r.above, r.dues.map fun du => (du.1, scD f du.2)⟩
theorem sc_ms {q f : Rat} (hq : Drawn q) (hf : InMS 420 9 f) : InMS (2520 * 420) (10 ^ 13 * 9) (q * f) := by
  have := mul_ms (by decide) (by decide) hq.ms hf
  exact this
theorem sc_dues {f : Rat} (hf : InMS 420 9 f) {words : List Str} {dues : List (Str × PyData)} (h : DuesDr words dues) : ∃ ps : List (Str × Rat), dues = ps.map (fun z => (z.1, amtD z.2)) ∧ (dues.map fun du => (du.1, scD f du.2)) = ps.map (fun z => (z.1, amtD (z.2 * f))) ∧ (ps.map (·.1)).Sublist words ∧ (∀ z ∈ ps, Drawn z.2) ∧ DuesAm words (dues.map fun du => (du.1, scD f du.2)) := by
  obtain ⟨ps, rfl, hs, hd⟩ := h
  have e : ((ps.map fun z => (z.1, amtD z.2)).map fun du : Str × PyData => (du.1, scD f du.2)) = ps.map (fun z => (z.1, amtD (z.2 * f))) := by
    rw [List.map_map]
    exact List.map_congr_left fun z _ => by
      show (z.1, scD f (amtD z.2)) = _
      rw [scD_amt]
  refine ⟨ps, rfl, e, hs, hd, ps.map fun z => (z.1, z.2 * f), by rw [e, List.map_map]; rfl, by rw [List.map_map]; exact hs, fun z hz => ?_⟩
  obtain ⟨y, hy, rfl⟩ := List.mem_map.mp hz
  have := sc_ms (hd y hy) hf
  exact ⟨this.lo, this.sz (m := 30) (s := 50) (by decide) (by decide) (by decide) (by decide)⟩
theorem due_map (g : PyData → PyData) (dues : List (Str × PyData)) (x : Str) : dueOf (dues.map fun du => (du.1, g du.2)) x = (dueOf dues x).map g := by
  unfold dueOf
  rw [List.find?_map, Option.map_map, Option.map_map]
  rfl
theorem sc_kind {rs : List RowM} {kd : Str} {k : Str → Rat} {f : Rat} (hk : kd = "min" ∨ kd = "low") (h : KindOk rs kd k) : KindOk (rs.map (scR f)) kd fun n => k n * f := fun r hr => by
  obtain ⟨q, hq, rfl⟩ := List.mem_map.mp hr
  have h1 := h q hq
  show dueOf (fullD (q.dues.map fun du => (du.1, scD f du.2))) kd = some (amtD (k q.name * f))
  have e : ∀ dues : List (Str × PyData), dueOf (fullD dues) kd = some ((dueOf dues kd).getD (.tuple [.int 0, .int 1])) := fun dues => by
    rcases hk with rfl | rfl <;> rfl
  rw [e] at h1 ⊢
  rw [due_map]
  have h1 : (dueOf q.dues kd).getD (.tuple [.int 0, .int 1]) = amtD (k q.name) := Option.some.inj h1
  cases z : dueOf q.dues kd with
  | none =>
    rw [z] at h1
    have h2 : amtD 0 = amtD (k q.name) := h1
    have h3 : k q.name = 0 := by
      have := eqv_amt2 0 (k q.name)
      rw [← h2, eqv_amt] at this
      exact (of_decide_eq_true this.symm).symm
    rw [h3, Rat.zero_mul]
    rfl
  | some d =>
    rw [z] at h1
    have h2 : d = amtD (k q.name) := h1
    rw [h2]
    show some (scD f (amtD (k q.name))) = _
    rw [scD_amt]
theorem part_sc {h : Bool} {a un cl f : Rat} {U c : Str → Rat} {x : Str} (f0 : 0 < f) : partQ h (a * f) (un * f) (cl * f) (fun n => U n * f) (fun n => c n * f) x = partQ h a un cl U c x * f := by
  have lt : ∀ a b : Rat, a * f < b * f ↔ a < b := fun a b => ⟨fun z => by
      by_cases y : a < b
      · exact y
      · have := Rat.mul_le_mul_of_nonneg_right (show b ≤ a by grind) (Rat.le_of_lt f0)
        grind, fun z => Rat.mul_lt_mul_of_pos_right z f0⟩
  have dv : ∀ a b : Rat, (a * f) / (b * f) = a / b := fun a b => by
    by_cases z : b = 0
    · rw [z, Rat.zero_mul, Rat.div_def, Rat.div_def]
      have : (0 : Rat)⁻¹ = 0 := Rat.inv_zero
      rw [this, Rat.mul_zero, Rat.mul_zero]
    · have : f ≠ 0 := by grind
      grind
  unfold partQ
  by_cases l : a < cl
  · rw [if_pos l, if_pos ((lt a cl).mpr l), dv]
    grind
  · rw [if_neg l, if_neg (fun z => l ((lt a cl).mp z))]
    by_cases g : h = true ∧ cl < un
    · rw [if_pos g, if_pos ⟨g.1, (lt cl un).mpr g.2⟩]
      have e1 : a * f - cl * f = (a - cl) * f := by grind
      have e2 : un * f - cl * f = (un - cl) * f := by grind
      rw [e1, e2, dv]
      grind
    · rw [if_neg g, if_neg (fun z => g ⟨z.1, (lt cl un).mp z.2⟩)]
/-- all amounts so many times: what is protected is so many times -/
theorem held_sc {rs : List RowM} {top : Str} {h : Bool} {k U c p : Str → Rat} {f : Rat} (o : HeldOk rs top h k U c p 2520 (10 ^ 13 * 12 ^ 12)) (f0 : 0 < f) (hf : InMS 420 9 f) (hb : ∀ n ∈ belowL rs top, (p n).den < 2 ^ 1490) :
    HeldOk (rs.map (scR f)) top h (fun n => k n * f) (fun n => U n * f) (fun n => c n * f) (fun n => p n * f) (2520 * 420) (10 ^ 13 * 12 ^ 12 * 9) := by
  have hn : ∀ r, (scR f r).name = r.name := fun _ => rfl
  have ha : ∀ r, (scR f r).above = r.above := fun _ => rfl
  have eb := like_below (rs := rs) hn ha top
  have ek := fun n => like_kids (rs := rs) hn ha n
  have ms : ∀ {q : Rat}, InMS 2520 (10 ^ 13 * 12 ^ 12) q → InMS (2520 * 420) (10 ^ 13 * 12 ^ 12 * 9) (q * f) := fun h => mul_ms (by decide) (by decide) h hf
  have lt : ∀ a b : Rat, a * f < b * f ↔ a < b := fun a b => ⟨fun z => by
      by_cases y : a < b
      · exact y
      · have := Rat.mul_le_mul_of_nonneg_right (show b ≤ a by grind) (Rat.le_of_lt f0)
        grind, fun z => Rat.mul_lt_mul_of_pos_right z f0⟩
  refine ⟨by decide, by decide, ?_, fun n hn => ?_, fun n hn => ?_, fun n hn hk0 => ?_, fun n hn => ?_, fun n hn => ?_, fun n hn x hx => ?_, fun n hn => ?_⟩
  · exact lt_up (lt_mul2 S_lt (show 9 < 2 ^ 4 by decide)) (by decide)
  · rw [eb] at hn
    exact ms (o.uz n hn)
  · rw [eb] at hn
    exact ms (o.kz n hn)
  · rw [eb] at hn
    rw [ek] at hk0 ⊢
    show U n * f = _
    rw [o.sum n hn hk0, sum_mulR]
  · rw [eb] at hn
    show c n * f = if k n * f < U n * f then k n * f else U n * f
    rw [o.cl n hn]
    by_cases z : k n < U n
    · rw [if_pos z, if_pos ((lt _ _).mpr z)]
    · rw [if_neg z, if_neg (fun y => z ((lt _ _).mp y))]
  · rw [ek] at hn
    show p n * f = c n * f
    rw [o.tp n hn]
  · rw [eb] at hn
    rw [ek] at hx ⊢
    show p x * f = _
    rw [o.part n hn x hx, sum_mulR, part_sc f0]
  · rw [eb] at hn
    obtain ⟨a, b, d⟩ := o.p0 n hn
    refine ⟨Rat.mul_nonneg a hf.lo, Rat.mul_le_mul_of_nonneg_right b hf.lo, ?_⟩
    have h1 : (p n * f).den ∣ (p n).den * f.den := of_den (Nat.mul_pos (p n).den_pos f.den_pos) ((den_of (Nat.dvd_refl _) (p n).den_pos).mul (den_of (Nat.dvd_refl _) f.den_pos))
    have h2 := Nat.le_of_dvd (Nat.mul_pos (p n).den_pos f.den_pos) h1
    have h3 : f.den < 2 ^ 9 := Nat.lt_of_le_of_lt (hf.denle (by decide)) (by decide)
    exact Nat.lt_of_le_of_lt h2 (lt_up (lt_mul2 (hb n hn) h3) (by decide))
end Bd
end

section
namespace Bd
open PySem L2 Am
open Evl hiding tCut pss_cut
abbrev sCAmt : Stmt := (top 50)
theorem scCAmt : FnScope ["amount"] ["amount"] (defScope sCAmt) := ⟨rfl, rfl, rfl, by decide +kernel, rfl, by decide +kernel, by decide +kernel⟩

/-! the path of a group, the siblings of its groups, what is safe -/
section
variable {P : Program} {w : World} {K : PySem.W.Frag} {mg : Str → Option Value} {base : Heap} {aL C CN CW : Addr} {left : List (Key × V)}
theorem path_snoc (rows : List RowM) (x : Str) (i : Nat) : pathL rows x (i + 1) = pathL rows x i ++ [upN rows i x] := by
  unfold pathL
  rw [List.range_succ, List.map_append]
  rfl
def muL (l : Addr) (m : Nat) : St → Hp → Nat := fun _ H => match H l with
  | some (.lst xs) => m - xs.length
  | _ => 0
theorem muL_at {l : Addr} {m : Nat} {σ : St} {H : Hp} {xs : List V} (h : H l = some (.lst xs)) : muL l m σ H = m - xs.length := by
  unfold muL
  rw [h]
end
theorem lcN0 {K : PySem.W.Frag} {H : Hp} {σ : L2.St} {te tl : TE} {t : TT} {j : Nat} {vs : List Nat} (xs : List Str) (p : Str → Bool) (g : Str → V) (h : EvL tl σ H (xs.map V.str)) (hz : xs.length ≤ 1000) (hw : ∀ x, wipe ((wipe σ vs).set j (some x)) vs = wipe σ vs)
    (ht : ∀ y ∈ xs, ∀ H1, Ex H H1 → EvT t ((wipe σ vs).set j (some (.str y))) H1 (p y)) (he : ∀ y ∈ xs, ∀ H1, Ex H H1 → p y = true → Ev te ((wipe σ vs).set j (some (.str y))) H1 (g y)) : EvL (tLc (iList K tl) (gName j) t te vs) σ H ((xs.filter p).map g) := fun H1 e Q k =>
  h H1 e _ fun l H2 hl e2 f2 => by
    refine lcL (K := K) (H := H2) (tl := tC (.ref l)) xs p g ev_c (sq_of f2) (List.length_map _) hz hw (fun i x y H3 e3 hx hy => ?_) (fun i x y H3 e3 hx hy hp => ?_) H2 (Ex.refl _) Q fun p H3 hp3 e3 f3 => k p H3 (fresh_back e2 hp3) (Ex.trans e2 e3) f3
    · rw [List.getElem?_map, hy] at hx
      cases hx
      exact ht y (List.mem_of_getElem? hy) H3 ((e.trans e2).trans e3)
    · rw [List.getElem?_map, hy] at hx
      cases hx
      exact he y (List.mem_of_getElem? hy) H3 ((e.trans e2).trans e3) hp
theorem el_path {K : PySem.W.Frag} {H : Hp} {σ : L2.St} {tx : TE} {E : XK} {C CN p : Addr} {i m : Nat} {n : Str} {rows : List RowM} {h : Bool} {tk : List (Key × V)} (hv : σ[i]? = some (some (.ref p))) (ht : TreeAt K H C p rows h tk) (ok : RowsOk rows) (hn : n ∈ nms rows) (um : UpM rows n m) (hm : m ≤ 200) (hx : Ev tx σ H (.str n)) : EvL (tMeth C "path" (spTPath K C CN) [] E (tVar i) (tCons tx tNil)) σ H ((pathL rows n m).map .str) := fun H1 e Q k => by
  obtain ⟨dx, po, pp, pk, pt, o1, _⟩ := id ht
  exact ⟨_, hv, p, dx, _, rfl, e _ _ o1, by rfl, hx H1 e _ fun H2 e2 => ⟨p, _, rows, h, tk, rfl, ht.same (e.trans e2) ok, nms_nd ok, nms_ne ok, .inl ⟨n, m, rfl, hn, um, hm, fun l hl => k l _ (fresh_back e2 hl) (e2.trans (Ex.new hl)) upd_same⟩⟩⟩
section
variable {K : PySem.W.Frag} {H : Hp} {σ : L2.St} {ta tb tx : TE} {a b : Bool}
theorem ev_orV (h1 : Ev ta σ H (.bl a)) (h2 : a = false → Ev tb σ H (.bl b)) : Ev (tOrV ta tb) σ H (.bl (a || b)) := fun H1 e Q q => h1 H1 e _ fun H2 e2 => by
  cases a with
  | true => exact ⟨true, rfl, iteT (q H2 e2)⟩
  | false => exact ⟨false, rfl, iteF (h2 rfl H2 (e.trans e2) _ fun H3 e3 => q H3 (e2.trans e3))⟩
theorem ev_notV (h1 : Ev ta σ H (.bl a)) : Ev (tNotV ta) σ H (.bl (!a)) := fun H1 e Q q => h1 H1 e _ fun H2 e2 => ⟨a, rfl, q H2 e2⟩
theorem ev_lenS {l : Addr} {xs : List V} (h : Ev tx σ H (.ref l)) (hs : SqL K H l xs) : Ev (tCB (fun xs H Q => ∃ (p : Addr) (ys : List V), xs = [.ref p] ∧ (SqL K H p ys ∨ SqT K H p ys) ∧ Q (.int (ys.length : Int)) H) (tCons tx tNil)) σ H (.int (xs.length : Int)) := fun H1 e Q q =>
  h H1 e _ fun H2 e2 => ⟨l, xs, rfl, .inl (ex_l (e.trans e2) hs), q H2 e2⟩
theorem ev_gtI {i j : Int} (h1 : Ev ta σ H (.int i)) (h2 : Ev tb σ H (.int j)) : Ev (tOp (rI0 fun i j => V.bl (decide (j < i))) ta tb) σ H (.bl (decide (j < i))) := fun H1 e Q q =>
  h1 H1 e _ fun H2 e2 => h2 H2 (e.trans e2) _ fun H3 e3 => ⟨i, j, rfl, rfl, q H3 (e2.trans e3)⟩
end
/-- a new list of new amounts -/
def EvLQ (K : PySem.W.Frag) (te : TE) (σ : L2.St) (H : Hp) (qs : List Rat) : Prop := ∀ H1, Ex H H1 → ∀ Q : VK, (∀ l ws H2, H1 l = none → Ex H1 H2 → H2 l = some (.lst ws) → Paired (AmtQ K H2) ws qs → Q (.ref l) H2) → te σ H1 Q
section
variable {K : PySem.W.Frag} {H : Hp} {σ : L2.St} {te tl : TE} {E : XK}
theorem elq_list {a : Addr} {j : Nat} {vs : List Nat} {ns : List Str} {f : Str → Rat} (hl : Ev tl σ H (.ref a)) (hs : SqL K H a (ns.map V.str)) (len : ns.length ≤ 900) (hw : ∀ x, wipe ((wipe σ vs).set j (some x)) vs = wipe σ vs)
    (hv : ∀ n ∈ ns, ∀ G, Ex H G → EvQ K te ((wipe σ vs).set j (some (.str n))) G (f n)) : EvLQ K (tLc (iList K tl) (gName j) tYes te vs) σ H (ns.map f) := by
  intro H0 e0 Q k
  refine hl H0 e0 _ fun H1 e1 => ?_
  have e := e0.trans e1
  refine ⟨a, rfl, ⟨_, ex_l e hs⟩, fun Dl hD => ?_⟩
  refine lc_it (walk_list (K := K) (a := a) (xs := ns.map V.str)) (fun m G => Ex H1 G ∧ ∃ ws, G Dl = some (.lst ws) ∧ Paired (AmtQ K G) ws ((ns.take m).map f)) ⟨Ex.new hD, [], upd_same, .nil⟩ ?_ ?_ ?_
  · rintro m G _ ⟨a, _⟩
    exact ex_l (e.trans a) hs
  · rintro m x G G' hm ⟨a, ws, b, pp⟩ ⟨rfl, hx⟩
    rw [List.getElem?_map] at hx
    obtain ⟨n, hn1, rfl⟩ := Option.map_eq_some_iff.mp hx
    have et : ns.take (m + 1) = ns.take m ++ [n] := by
      rw [List.take_add_one, hn1]
      rfl
    have wl : ws.length ≤ 900 := by
      have h1 := Paired.length pp
      rw [List.length_map, List.length_take] at h1
      omega
    refine ⟨hw _, ?_⟩
    unfold tYes
    refine iteT (hv n (List.mem_of_getElem? hn1) G' (e.trans a) G' (Ex.refl _) _ fun v G3 e3 hv3 => ?_)
    have b3 := e3 _ _ b
    have tX : TK G3 (upd G3 Dl (.lst (ws ++ [v]))) := TK.lst b3 _
    refine ⟨ws, b3, small1000 (by omega), Ex.mut (a.trans e3) hD, ws ++ [v], upd_same, ?_⟩
    rw [et, List.map_append]
    exact paired_snoc (hv3.tk tX) (paired_mono (fun _ _ z => AmtQ.tk (TK.trans (.of e3) tX) z) pp)
  · rintro G ⟨a, ws, b, pp⟩
    rw [List.length_map, List.take_length] at pp
    exact k Dl ws _ (fresh_back e1 hD) (e1.trans a) b pp
theorem eq_totalQ {qs : List Rat} {M S : Nat} (h : EvLQ K tl σ H qs) (M0 : 0 < M) (hM : M < 2 ^ 3000) (hS : S * qs.length * M < 2 ^ 3000) (hd : ∀ q ∈ qs, q.den ∣ M ∧ q.num.natAbs ≤ S * q.den) (z : 0 ≤ sumQ qs) : EvQ K (tCall (spTotal K) [] E (tCons tl tNil)) σ H (sumQ qs) := fun H1 e Q k =>
  h H1 e _ fun p ws H2 _ e2 f2 p2 => ⟨p, ws, qs, M, S, rfl, SqL.of f2, p2, M0, hM, hS, hd, z, fun v H' s hv => k v H' (e2.trans s) hv⟩
end
def lastL (xs : List Str) : Str := xs.getLastD ""
theorem InMS.add {M S T : Nat} {a b : Rat} (M0 : 0 < M) (ha : InMS M S a) (hb : InMS M T b) : InMS M (S + T) (a + b) := by
  refine ⟨of_den M0 ((ha.of M0).add M0 (hb.of M0)), Rat.add_nonneg ha.lo hb.lo, ?_⟩
  have h1 := ha.hi
  have h2 := hb.hi
  have e : ((S + T : Nat) : Rat) = (S : Rat) + (T : Rat) := by rw [← Rat.natCast_add]
  rw [e]
  grind
theorem InMS.zero {M S : Nat} : InMS M S 0 := ⟨⟨M, by show M = 1 * M; omega⟩, Rat.le_refl, Rat.natCast_nonneg⟩
theorem sumMS {M S : Nat} {ks : List Str} {f : Str → Rat} (M0 : 0 < M) (h : ∀ x ∈ ks, InMS M S (f x)) : InMS M (S * ks.length) (sumQ (ks.map f)) := by
  induction ks with
  | nil => exact .zero
  | cons x xs ih =>
    rw [List.map_cons, sum_cons, List.length_cons]
    have := InMS.add M0 (h x List.mem_cons_self) (ih fun y hy => h y (List.mem_cons_of_mem _ hy))
    have e : S * (xs.length + 1) = S + S * xs.length := by rw [Nat.mul_add, Nat.mul_one, Nat.add_comm]
    rwa [e]
def BoundV (K : PySem.W.Frag) (G : Hp) (v : V) (b : Option Rat) : Prop := (b = none ∧ v = .non) ∨ ∃ q, b = some q ∧ AmtQ K G v q
theorem BoundV.same {K : PySem.W.Frag} {G G' : Hp} {v : V} {b : Option Rat} (e : Ex G G') (h : BoundV K G v b) : BoundV K G' v b := by
  rcases h with h | ⟨q, h1, h2⟩
  · exact .inl h
  · exact .inr ⟨q, h1, h2.same e⟩
theorem last_at {way : List Str} (hne : way ≠ []) : atI (way.map V.str) (-1) = some (V.str (lastL way)) := by
  obtain ⟨ys, y, rfl⟩ : ∃ ys y, way = ys ++ [y] := ⟨way.dropLast, way.getLast hne, (List.dropLast_concat_getLast hne).symm⟩
  unfold atI ixN lastL
  rw [if_neg (by decide), List.length_map, List.length_append, List.length_singleton, if_pos (by omega)]
  have e : (-1 + ((ys.length + 1 : Nat) : Int)).toNat = ys.length := by omega
  rw [e]
  simp
theorem upN_upA {rs : List RowM} {x : Str} : ∀ j, upN rs j x = upA rs x j
  | 0 => rfl
  | j + 1 => by
    show upOf rs (upN rs j x) = abv rs (upA rs x j)
    rw [upN_upA j]
    rfl
theorem path_way {rs : List RowM} (rok : RowsOk rs) {n : Str} (hn : n ∈ nms rs) : ∃ m, UpM rs n m ∧ m ≤ rs.length ∧ pathL rs n m = (List.range m).map (upA rs n) ∧ (∀ i, i < m → upA rs n i ≠ "") ∧ upA rs n m = "" := by
  obtain ⟨m, h1, h2, h3⟩ := wayL_is (top := "") rok hn
  have hm : upA rs n m = "" := by rcases h2 with e | e <;> exact e
  obtain ⟨r, hr, rfl⟩ := List.mem_map.mp hn
  obtain ⟨j, hj⟩ := List.mem_iff_getElem?.mp hr
  have lj := (List.getElem?_eq_some_iff.mp hj).1
  refine ⟨m, ⟨fun i hi => ?_, by rw [upN_upA, hm]⟩, ?_, ?_, fun i hi => (h1 i hi).2, hm⟩
  · rw [upN_upA]
    obtain ⟨k, q, hk, en, _⟩ := up_ix rok hj i (h1 i hi).2
    exact en ▸ List.mem_map_of_mem (List.mem_of_getElem? hk)
  · by_cases z : m = 0
    · omega
    · obtain ⟨k, q, hk, _, lk⟩ := up_ix rok hj (m - 1) (h1 (m - 1) (by omega)).2
      omega
  · unfold pathL
    exact List.map_congr_left fun i _ => upN_upA i
theorem cut_takeS (xs : List Str) {i : Nat} (h : i ≤ xs.length) : cutV (xs.map V.str) none (some (i : Int)) = (xs.take i).map V.str := by
  unfold cutV
  rw [HT.sIx_none, HT.sIx_nat, List.length_map, Nat.min_eq_left h, List.drop_zero, Nat.sub_zero, List.map_take]
def sibL (rs : List RowM) (n top : Str) : List Str := if abv rs n = top then [] else (kidsOf rs (Sum.inr (abv rs n))).filter fun x => !decide (x = n)
def spSibl (K : PySem.W.Frag) (C : Addr) : Sp := fun vs H Q _ => ∃ (p : Addr) (n top : Str) (rows : List RowM) (h : Bool) (tk : List (Key × V)), vs = [.ref p, .str n, .str top] ∧ TreeAt K H C p rows h tk ∧ RowsOk rows ∧ rows.length ≤ 200 ∧ n ∈ nms rows ∧ ∀ r H', H r = none → Same H H' → H' r = some (.lst ((sibL rows n top).map .str)) → Q (.ref r) H'
def spPBel (K : PySem.W.Frag) (C : Addr) : Sp := fun vs H Q _ => ∃ (p : Addr) (n top : Str) (rows : List RowM) (h : Bool) (tk : List (Key × V)), vs = [.ref p, .str n, .str top] ∧ TreeAt K H C p rows h tk ∧ RowsOk rows ∧ rows.length ≤ 200 ∧ n ∈ nms rows ∧ top ∈ ("" : Str) :: nms rows ∧ wayL rows n top ≠ [] ∧ ∀ r H', H r = none → Same H H' → H' r = some (.lst ((wayL rows n top).map .str)) → Q (.ref r) H'
def spCAmt (K : PySem.W.Frag) : Sp := fun vs H Q _ => ∃ (v : V) (q : Rat), vs = [v] ∧ AmtQ K H v q ∧ Sz q ∧ 0 ≤ q ∧ Q .non H
def spChPath (K : PySem.W.Frag) (C : Addr) : Sp := fun vs H Q _ => ∃ (p : Addr) (v : V) (q : Rat) (n top kd : Str) (rows : List RowM) (h : Bool) (tk : List (Key × V)), vs = [.ref p, .str n, v, .str top, .str kd] ∧ TreeAt K H C p rows h tk ∧ RowsOk rows ∧ rows.length ≤ 200 ∧ n ∈ nms rows ∧ AmtQ K H v q ∧ Sz q ∧ 0 ≤ q ∧ top ∈ ("" : Str) :: nms rows ∧ (top = "" ∨ kidsOf rows (Sum.inr top) ≠ []) ∧ (kd = "min" ∨ kd = "low") ∧ wayL rows n top ≠ [] ∧ ∀ r H', H r = none → Same H H' → H' r = some (.lst ((wayL rows n top).map .str)) → Q (.ref r) H'
/-- a step: the setting, what the siblings ask for, whether it counts -/
def StepR (K : PySem.W.Frag) (G : Hp) (v : V) (s : Rat × Rat × Bool) : Prop := ∃ (a : Addr) (x y : V), v = .ref a ∧ SqT K G a [x, y, .bl s.2.2] ∧ AmtQ K G x s.1 ∧ AmtQ K G y s.2.1
theorem StepR.tk {K : PySem.W.Frag} {G G' : Hp} {v : V} {s : Rat × Rat × Bool} (t : TK G G') (h : StepR K G v s) : StepR K G' v s := by
  obtain ⟨a, x, y, e, h1, h2, h3⟩ := h
  exact ⟨a, x, y, e, t.seqT h1, h2.tk t, h3.tk t⟩
def stepOf (rs : List RowM) (h : Bool) (k : Str → Rat) (top last n : Str) : Rat × Rat × Bool := (k n, sumQ ((sibL rs n top).map k), !h || (decide (n = last) || decide (0 < (sibL rs n top).length)))
def stepsL (rs : List RowM) (h : Bool) (k : Str → Rat) (way : List Str) : List (Rat × Rat × Bool) := way.map (stepOf rs h k (abv rs (lastL way)) (lastL way))
def spSteps (K : PySem.W.Frag) (C : Addr) : Sp := fun vs H Q _ => ∃ (p pl : Addr) (kd : Str) (way : List Str) (rows : List RowM) (h : Bool) (tk : List (Key × V)) (k : Str → Rat) (M S : Nat), vs = [.ref p, .ref pl, .str kd] ∧ TreeAt K H C p rows h tk ∧ RowsOk rows ∧ rows.length ≤ 200 ∧ H pl = some (.lst (way.map .str)) ∧ way ≠ [] ∧ way.length ≤ 200 ∧ (∀ n ∈ way, n ∈ nms rows) ∧ (kd = "min" ∨ kd = "low") ∧ KindOk rows kd k ∧ 0 < M ∧ M < 2 ^ 200 ∧ S < 2 ^ 200 ∧ (∀ r ∈ rows, InMS M S (k r.name)) ∧
  ∀ r ws H', H r = none → Same H H' → H' r = some (.lst ws) → Paired (StepR K H') ws (stepsL rows h k way) → Q (.ref r) H'
def safeF : List (Rat × Rat × Bool) → Option Rat → Rat → Option Rat
  | [], b, _ => b
  | (s, be, c) :: t, b, a => safeF t (if c then some (match b with
    | none => if a < s then s - a else 0
    | some b => if (if a < s then s - a else 0) < b then (if a < s then s - a else 0) else b) else b) (a + be)
def spSafe (K : PySem.W.Frag) (C : Addr) : Sp := fun vs H Q _ => ∃ (p : Addr) (n top kd : Str) (rows : List RowM) (h : Bool) (tk : List (Key × V)) (k : Str → Rat) (M S : Nat), vs = [.ref p, .str n, .str top, .str kd] ∧ TreeAt K H C p rows h tk ∧ RowsOk rows ∧ rows.length ≤ 200 ∧ n ∈ nms rows ∧ top ∈ ("" : Str) :: nms rows ∧ (top = "" ∨ kidsOf rows (Sum.inr top) ≠ []) ∧ (kd = "min" ∨ kd = "low") ∧ wayL rows n top ≠ [] ∧ KindOk rows kd k ∧ 0 < M ∧ M < 2 ^ 180 ∧ S < 2 ^ 200 ∧ (∀ r ∈ rows, InMS M S (k r.name)) ∧
  ∀ v q H', Same H H' → AmtQ K H' v q → safeF (stepsL rows h k (wayL rows n top)) none 0 = some q → Q v H'
theorem sib_in {rows : List RowM} {n top y : Str} (hy : y ∈ sibL rows n top) : ∃ z ∈ rows, z.name = y := by
  unfold sibL at hy
  by_cases c : abv rows n = top
  · rw [if_pos c] at hy
    cases hy
  · rw [if_neg c] at hy
    obtain ⟨m, z, hm, e, _⟩ := kid_row (List.mem_filter.mp hy).1
    exact ⟨z, List.mem_of_getElem? hm, e⟩
theorem sib_len {rows : List RowM} {n top : Str} (len : rows.length ≤ 200) : (sibL rows n top).length ≤ 200 := by
  unfold sibL
  by_cases c : abv rows n = top
  · rw [if_pos c]
    exact Nat.zero_le _
  · rw [if_neg c]
    refine Nat.le_trans (List.length_filter_le _ _) ?_
    rw [kids_flt, List.length_map]
    exact Nat.le_trans (List.length_filter_le _ _) len
theorem wayL_len2 {rows : List RowM} {n top : Str} (rok : RowsOk rows) (hn : n ∈ nms rows) : (wayL rows n top).length ≤ rows.length := by
  obtain ⟨m, h1, _, h3⟩ := wayL_is (top := top) rok hn
  obtain ⟨r, hr, rfl⟩ := List.mem_map.mp hn
  obtain ⟨j, hj⟩ := List.mem_iff_getElem?.mp hr
  have lj := (List.getElem?_eq_some_iff.mp hj).1
  rw [h3]
  by_cases c : upA rows r.name m = top
  · rw [if_pos c, List.length_map, List.length_range]
    by_cases z : m = 0
    · omega
    · obtain ⟨k, q, hk, _, lk⟩ := up_ix rok hj (m - 1) (h1 (m - 1) (by omega)).2
      omega
  · rw [if_neg c]
    exact Nat.zero_le _
theorem safe_snoc (s be : Rat) : ∀ (xs : List (Rat × Rat × Bool)) (b : Option Rat) (a : Rat), ∃ q, safeF (xs ++ [(s, be, true)]) b a = some q
  | [], b, a => ⟨_, rfl⟩
  | (s', be', c) :: xs, b, a => safe_snoc s be xs _ _
theorem safe_some {rows : List RowM} {h : Bool} {k : Str → Rat} {way : List Str} (hne : way ≠ []) : ∃ q, safeF (stepsL rows h k way) none 0 = some q := by
  have e : stepsL rows h k way = (way.dropLast.map (stepOf rows h k (abv rows (lastL way)) (lastL way))) ++ [(k (lastL way), sumQ ((sibL rows (lastL way) (abv rows (lastL way))).map k), true)] := by
    have h1 : ∀ f : Str → (Rat × Rat × Bool), way.map f = way.dropLast.map f ++ [f (lastL way)] := fun f => by
      have e : way.getLast hne = lastL way := by
        unfold lastL
        rw [List.getLastD_eq_getLast?, List.getLast?_eq_some_getLast hne]
        rfl
      conv => lhs; rw [← List.dropLast_concat_getLast hne, List.map_append, e]
      rfl
    unfold stepsL
    rw [h1]
    have h2 : stepOf rows h k (abv rows (lastL way)) (lastL way) (lastL way) = (k (lastL way), sumQ ((sibL rows (lastL way) (abv rows (lastL way))).map k), true) := by
      unfold stepOf
      rw [decide_eq_true rfl, Bool.true_or, Bool.or_true]
    rw [h2]
  rw [e]
  exact safe_snoc _ _ _ _ _
section
variable {P : Program} {w : World} {K : PySem.W.Frag} {mg : Str → Option Value} {base : Heap} {aL aK aZ C CN CW : Addr} {left : List (Key × V)}
theorem ok_camt {f gM : Addr} {fd dM : FuncData} (F : Fun K "check_amount" "check_amount" sCAmt f fd) (cM : Cal P w K mg base "is_amount" ["thing"] 2 (spIsAmount K) gM dM) : FnOk P w K mg base CX0 3 f fd ["amount"] (spCAmt K) := by
  refine F.ok scCAmt (fun vs H Q E h => ?_) (fun cdv A outer s H vs Q E hr h => ?_)
  · obtain ⟨v, q, rfl, _⟩ := h
    rfl
  obtain ⟨v, q, rfl, hv, sz, q0, qq⟩ := h
  refine ⟨_, (pss_one (ps_if (pt_not (pt_val (pe_call cM.ok (hr.mono (by decide)) rfl cM.mg cM.kp cM.bd .nil pass0 (pa_cons (pv 0) pa_nil)))) (pss_one ps_never) pss_nil)), ?_⟩
  have hd := dp_amt hv
  obtain ⟨z1, z2⟩ := sz
  refine ⟨_, rfl, v, q.num.natAbs, q.den, rfl, ?_, z1, q.den_pos, z2, q.reduced, ⟨true, rfl, iteF qq⟩⟩
  unfold amtD at hd
  rw [nat_num q0] at hd
  exact hd
end
end Bd
end

section
namespace Bd
open PySem L2 Am
open Evl hiding tCut pss_cut
abbrev sGreater : Stmt := (top 21)
theorem scGreater : FnScope ["one", "other"] ["one", "other"] (defScope sGreater) := ⟨rfl, rfl, rfl, by decide +kernel, rfl, by decide +kernel, by decide +kernel⟩
abbrev sKept : Stmt := (top 58)
theorem scKept : FnScope ["tree", "uses", "top", "kinds", "kept", "kind", "more", "leaf", "name"] ["tree", "uses", "top", "kinds"] (defScope sKept) := ⟨rfl, rfl, rfl, by decide +kernel, rfl, by decide +kernel, by decide +kernel⟩
abbrev sGo : Stmt := (top 57)
theorem scGo : FnScope ["tree", "uses", "top", "amount", "kinds", "kept", "beyond", "free", "left", "rate", "leaf"] ["tree", "uses", "top", "amount", "kinds"] (defScope sGo) := ⟨rfl, rfl, rfl, by decide +kernel, rfl, by decide +kernel, by decide +kernel⟩
abbrev sBoth : Stmt := (top 56)
theorem scBoth : FnScope ["tree", "uses", "top", "amount"] ["tree", "uses", "top", "amount"] (defScope sBoth) := ⟨rfl, rfl, rfl, by decide +kernel, rfl, by decide +kernel, by decide +kernel⟩
abbrev sRecl : Stmt := (top 55)
theorem scRecl : FnScope ["tree", "uses", "top", "amount", "used"] ["tree", "uses", "top", "amount"] (defScope sRecl) := ⟨rfl, rfl, rfl, by decide +kernel, rfl, by decide +kernel, by decide +kernel⟩

def spGreater (K : PySem.W.Frag) : Sp := fun vs H Q _ => ∃ (va vb : V) (a b : Rat), vs = [va, vb] ∧ AmtQ K H va a ∧ AmtQ K H vb b ∧ Sz a ∧ Sz b ∧ ∀ H', Same H H' → Q (if a < b then vb else va) H'
/-- the leaves below a top -/
def lvB (rows : List RowM) (top : Str) : List Str := (leavesOf rows).filter fun n => decide (n ∈ belowL rows top)
def freeQ (rows : List RowM) (top : Str) (U κ : Str → Rat) : Rat := sumQ ((lvB rows top).map fun n => U n - κ n)
/-- what a leaf is left by a go that takes a of F -/
def goQ (F a u k : Rat) : Rat := if a < F then u - (u - k) * (a / F) else k
def goU (rows : List RowM) (top : Str) (U κ : Str → Rat) (a : Rat) : Str → Rat := fun n => if n ∈ lvB rows top then goQ (freeQ rows top U κ) a (U n) (κ n) else U n
def goA (F a : Rat) : Rat := if a < F then 0 else a - F
/-- what a kind protects -/
def HeldK (rows : List RowM) (top : Str) (h : Bool) (kd : Str) (U p : Str → Rat) : Prop := ∃ (k W c : Str → Rat) (M S : Nat), KindOk rows kd k ∧ HeldOk rows top h k W c p M S ∧ ∀ n ∈ leavesOf rows, W n = U n
def KeptOk (rows : List RowM) (top : Str) (h : Bool) (xs : List Str) (U κ : Str → Rat) : Prop := ∃ p, HeldK rows top h "min" U p ∧ ((xs = [] ∧ ∀ n ∈ belowL rows top, κ n = p n) ∨ ∃ q, xs = (["low"] : List Str) ∧ HeldK rows top h "low" U q ∧ ∀ n ∈ belowL rows top, κ n = if p n < q n then q n else p n)
def spKept (K : PySem.W.Frag) (C : Addr) : Sp := fun vs H Q _ => ∃ (t du ka : Addr) (top : Str) (xs : List Str) (rows : List RowM) (h : Bool) (tk : List (Key × V)) (kvs : List (Key × V)) (U κ : Str → Rat), vs = [.ref t, .ref du, .str top, .ref ka] ∧ TreeAt K H C t rows h tk ∧ RowsOk rows ∧ rows.length ≤ 200 ∧ top ∈ ("" : Str) :: nms rows ∧
  SqT K H ka ((("min" : Str) :: xs).map V.str) ∧ KeptOk rows top h xs U κ ∧ H du = some (.dK kvs) ∧ MapR (AmR K U) H kvs (leavesOf rows) ∧ ∀ d ls H', H d = none → Same H H' → H' d = some (.dK ls) → MapR (AmR K κ) H' ls (lvB rows top) → Q (.ref d) H'
/-- one go -/
structure GoOk (rows : List RowM) (top : Str) (h : Bool) (xs : List Str) (U κ : Str → Rat) (a : Rat) (M S : Nat) : Prop where
  kept : KeptOk rows top h xs U κ
  M0 : 0 < M
  hM : M < 2 ^ 1000
  hS : S < 2 ^ 500
  uz : ∀ n ∈ lvB rows top, InMS M S (U n)
  kz : ∀ n ∈ lvB rows top, InMS M S (κ n)
  le : ∀ n ∈ lvB rows top, κ n ≤ U n
  az : InMS M S a
  nz : ∀ n ∈ lvB rows top, InMS M S (goQ (freeQ rows top U κ) a (U n) (κ n))
def spGo (K : PySem.W.Frag) (C : Addr) : Sp := fun vs H Q _ => ∃ (t du ka : Addr) (va : V) (top : Str) (xs : List Str) (rows : List RowM) (h : Bool) (tk : List (Key × V)) (kvs : List (Key × V)) (U κ : Str → Rat) (a : Rat) (M S : Nat), vs = [.ref t, .ref du, .str top, va, .ref ka] ∧ TreeAt K H C t rows h tk ∧ RowsOk rows ∧ rows.length ≤ 200 ∧ top ∈ ("" : Str) :: nms rows ∧
  AmtQ K H va a ∧ SqT K H ka ((("min" : Str) :: xs).map V.str) ∧ GoOk rows top h xs U κ a M S ∧ H du = some (.dK kvs) ∧ MapR (AmR K U) H kvs (leavesOf rows) ∧ ∀ r d ls v H', H r = none → (d = du ∨ H d = none) → Same H H' → SqT K H' r [.ref d, v] → H' d = some (.dK ls) → MapR (AmR K (goU rows top U κ a)) H' ls (leavesOf rows) → AmtQ K H' v (goA (freeQ rows top U κ) a) → Q (.ref r) H'
/-- both goes -/
def BothOk (rows : List RowM) (top : Str) (h : Bool) (U κ μ : Str → Rat) (a : Rat) (M S : Nat) : Prop := GoOk rows top h (["low"] : List Str) U κ a M S ∧ GoOk rows top h [] (goU rows top U κ a) μ (goA (freeQ rows top U κ) a) M S
def endU (rows : List RowM) (top : Str) (U κ μ : Str → Rat) (a : Rat) : Str → Rat := goU rows top (goU rows top U κ a) μ (goA (freeQ rows top U κ) a)
def endA (rows : List RowM) (top : Str) (U κ μ : Str → Rat) (a : Rat) : Rat := goA (freeQ rows top (goU rows top U κ a) μ) (goA (freeQ rows top U κ) a)
def spBoth (K : PySem.W.Frag) (C : Addr) : Sp := fun vs H Q _ => ∃ (t du : Addr) (va : V) (top : Str) (rows : List RowM) (h : Bool) (tk : List (Key × V)) (kvs : List (Key × V)) (U κ μ : Str → Rat) (a : Rat) (M S : Nat), vs = [.ref t, .ref du, .str top, va] ∧ TreeAt K H C t rows h tk ∧ RowsOk rows ∧ rows.length ≤ 200 ∧ top ∈ ("" : Str) :: nms rows ∧
  AmtQ K H va a ∧ BothOk rows top h U κ μ a M S ∧ H du = some (.dK kvs) ∧ MapR (AmR K U) H kvs (leavesOf rows) ∧ ∀ r d ls v H', H r = none → (d = du ∨ H d = none) → Same H H' → SqT K H' r [.ref d, v] → H' d = some (.dK ls) → MapR (AmR K (endU rows top U κ μ a)) H' ls (leavesOf rows) → AmtQ K H' v (endA rows top U κ μ a) → Q (.ref r) H'
def spRecl (K : PySem.W.Frag) (C : Addr) : Sp := fun vs H Q _ => ∃ (t du : Addr) (va : V) (top : Str) (rows : List RowM) (h : Bool) (tk : List (Key × V)) (U κ μ : Str → Rat) (a : Rat) (M S : Nat), vs = [.ref t, .ref du, .str top, va] ∧ TreeAt K H C t rows h tk ∧ RowsOk rows ∧ rows.length ≤ 200 ∧ top ∈ ("" : Str) :: nms rows ∧ (top = "" ∨ kidsOf rows (Sum.inr top) ≠ []) ∧
  AmtQ K H va a ∧ BothOk rows top h U κ μ a M S ∧ UsesAt K H du rows U ∧ ∀ r d ls v H', H r = none → H d = none → Same H H' → SqT K H' r [.ref d, v] → H' d = some (.dK ls) → MapR (AmR K (endU rows top U κ μ a)) H' ls (leavesOf rows) → AmtQ K H' v (endA rows top U κ μ a) → Q (.ref r) H'
section
variable {K : PySem.W.Frag} {H : Hp} {σ : L2.St} {ta tb te tl : TE}
theorem eq_greater {E : XK} {a b : Rat} (ha : EvQ K ta σ H a) (hb : EvQ K tb σ H b) (za : Sz a) (zb : Sz b) : EvQ K (tCall (spGreater K) [] E (tCons ta (tCons tb tNil))) σ H (if a < b then b else a) := fun H1 e Q k =>
  ea_two ha hb e fun va vb H2 e2 qa qb => ⟨va, vb, a, b, rfl, qa, qb, za, zb, fun H' s => by
    by_cases c : a < b
    · rw [if_pos c]
      exact k vb H' (e2.trans s) (by rw [if_pos c]; exact qb.same s)
    · rw [if_neg c]
      exact k va H' (e2.trans s) (by rw [if_neg c]; exact qa.same s)⟩
theorem q_forIt {J : It} {n : Nat} {G0 : Hp → Prop} {Y : Nat → Hp → V → Hp → Prop} (w : Walk J n G0 Y) {g : TG} {tb : TS} {tz : TS} {D : Ends} {σ : L2.St} {H : Hp} (Pv : Nat → L2.St → Hp → Prop) (h0 : Pv 0 σ H) (hG : ∀ i σ H, i ≤ n → Pv i σ H → G0 H)
    (hs : ∀ i x σ H H', i < n → Pv i σ H → Y i H x H' → g x σ H' fun σ2 H2 => tb { D with nx := Pv (i + 1), ct := Pv (i + 1), bk := tz D } σ2 H2) (hd : ∀ σ H, Pv n σ H → tz D σ H) :
    ∃ W : Nat → Nat → L2.St → Hp → Prop, (∃ m, W 0 m σ H) ∧ ∀ i m σ H, W i m σ H →
      (J.stop i H ∧ tz D σ H) ∨ (J.go i H ∧ ∃ N : L2.St → Hp → Prop, (∀ σ' H', N σ' H' → ∃ m', m' < m ∧ W (i + 1) m' σ' H') ∧ ∀ x H', J.yld i H x H' → g x σ H' fun σ2 H2 => tb { nx := N, rt := D.rt, bk := tz D, ct := N } σ2 H2) := for_it (D := { D with nx := tz D }) w Pv h0 hG hs hd
theorem Amts.lockO {e d : Addr} {kvs : List (Key × V)} {names : List Str} {f : Str → Rat} (h : Amts K H e names f) (ne : e ≠ d) (fd : H d = some (.dK kvs)) (od : Obj) : Amts K (upd H d (.frz od (.dK kvs))) e names f := by
  obtain ⟨ks, h1, h2⟩ := h
  exact ⟨ks, by rw [upd_ne ne]; exact h1, fun n hn => let ⟨v, a, b⟩ := h2 n hn; ⟨v, a, AmtQ.tk (lock_tk fd od) b⟩⟩
theorem mapR_has {R : Hp → V → Str → Prop} {G : Hp} {kvs : List (Key × V)} {ns : List Str} (m : MapR R G kvs ns) (nd : ns.Nodup) (n : Str) : (valV kvs (Sum.inr n)).isSome = decide (n ∈ ns) := by
  by_cases c : n ∈ ns
  · obtain ⟨v, a, _⟩ := m.get nd c
    rw [a, decide_eq_true c]
    rfl
  · rw [MapR.none m c, decide_eq_false c]
    rfl
/-- some of the names have other amounts -/
theorem mapR_over {f g u : Str → Rat} {G : Hp} {ms : List Str} {ls : List (Key × V)} (m2 : MapR (AmR K g) G ls ms) (nd : ms.Nodup) (h1 : ∀ n ∈ ms, u n = g n) (h2 : ∀ n, n ∉ ms → u n = f n) : ∀ {ks : List (Key × V)} {ns : List Str}, MapR (AmR K f) G ks ns → MapR (AmR K u) G (ks.map fun kv => (kv.1, (valV ls kv.1).getD kv.2)) ns
  | _, _, .nil => .nil
  | _, _, .cons (b := n) a b => by
    refine .cons ⟨a.1, ?_⟩ (mapR_over m2 nd h1 h2 b)
    show AmtQ K G _ (u n)
    dsimp only
    rw [a.1]
    by_cases c : n ∈ ms
    · obtain ⟨v, e, q⟩ := m2.get nd c
      rw [e, h1 n c]
      exact q
    · rw [MapR.none m2 c, h2 n c]
      exact a.2
theorem mapR_merge {f g u : Str → Rat} {G : Hp} {ns ms : List Str} {ks ls : List (Key × V)} (m1 : MapR (AmR K f) G ks ns) (m2 : MapR (AmR K g) G ls ms) (nd : ms.Nodup) (sub : ∀ n ∈ ms, n ∈ ns) (h1 : ∀ n ∈ ms, u n = g n) (h2 : ∀ n, n ∉ ms → u n = f n) : MapR (AmR K u) G (mergeK ks ls) ns := by
  rw [mergeK_over ls ks (by rw [m2.keys]; exact nodup_inr nd) fun p hp => by
    have : p.1 ∈ ls.map (·.1) := List.mem_map_of_mem hp
    rw [m2.keys] at this
    obtain ⟨y, hy, e⟩ := List.mem_map.mp this
    rw [← e, m1.keys]
    exact List.mem_map_of_mem (sub y hy)]
  exact mapR_over m2 nd h1 h2 m1
theorem HeldOk.psz {rows : List RowM} {top : Str} {h : Bool} {k U c p : Str → Rat} {M S : Nat} (o : HeldOk rows top h k U c p M S) {n : Str} (hn : n ∈ belowL rows top) : Sz (p n) := by
  obtain ⟨a, b, d⟩ := o.p0 n hn
  exact ⟨Nat.lt_of_le_of_lt (num_le a (Rat.le_trans b (o.uz n hn).hi)) (lt_up (lt_mul2 o.hS d) (by decide)), lt_up d (by decide)⟩
end
section
variable {rows : List RowM} {top : Str}
theorem lvB_nd (ok : RowsOk rows) : (lvB rows top).Nodup := (leaves_nd ok).filter _
theorem lvB_leaf {n : Str} (h : n ∈ lvB rows top) : n ∈ leavesOf rows := (List.mem_filter.mp h).1
theorem lvB_below {n : Str} (h : n ∈ lvB rows top) : n ∈ belowL rows top := of_decide_eq_true (List.mem_filter.mp h).2
theorem leaves_len2 : (leavesOf rows).length ≤ rows.length := by
  unfold leavesOf
  rw [List.length_map]
  exact List.length_filter_le _ _
theorem lvB_len : (lvB rows top).length ≤ rows.length := Nat.le_trans (List.length_filter_le _ _) leaves_len2
end
theorem mapR_amts {K : PySem.W.Frag} {f : Str → Rat} {G : Hp} : ∀ {kvs : List (Key × V)} {ns : List Str}, MapR (AmR K f) G kvs ns → Paired (AmtQ K G) (kvs.map (·.2)) (ns.map f)
  | _, _, .nil => .nil
  | _, _, .cons a b => .cons a.2 (mapR_amts b)
theorem le_sumQ {f : Str → Rat} {x : Str} : ∀ {xs : List Str}, (∀ y ∈ xs, 0 ≤ f y) → x ∈ xs → f x ≤ sumQ (xs.map f)
  | [], _, h => by cases h
  | a :: t, h0, h => by
    rw [List.map_cons, sum_cons]
    have ha := h0 a List.mem_cons_self
    have nn : 0 ≤ sumQ (t.map f) := by
      have : ∀ {ys : List Str}, (∀ y ∈ ys, 0 ≤ f y) → 0 ≤ sumQ (ys.map f) := fun {ys} hy => by
        induction ys with
        | nil => exact Rat.le_refl
        | cons b s ih =>
          rw [List.map_cons, sum_cons]
          have h1 := hy b List.mem_cons_self
          have h2 := ih fun y hm => hy y (List.mem_cons_of_mem _ hm)
          grind
      exact this fun y hy => h0 y (List.mem_cons_of_mem _ hy)
    rcases List.mem_cons.mp h with e | m
    · subst e
      grind
    · have := le_sumQ (fun y hy => h0 y (List.mem_cons_of_mem _ hy)) m
      grind
theorem sum_nnR {f : Str → Rat} {xs : List Str} (h0 : ∀ y ∈ xs, 0 ≤ f y) : 0 ≤ sumQ (xs.map f) := by
  cases xs with
  | nil => exact Rat.le_refl
  | cons a t => exact Rat.le_trans (h0 a List.mem_cons_self) (le_sumQ h0 List.mem_cons_self)
theorem freeQ_nn {rows : List RowM} {top : Str} {U κ : Str → Rat} (le : ∀ n ∈ lvB rows top, κ n ≤ U n) : 0 ≤ freeQ rows top U κ := sum_nnR fun n hn => by have := le n hn; grind
theorem free_none {rows : List RowM} {top : Str} {U κ : Str → Rat} (le : ∀ n ∈ lvB rows top, κ n ≤ U n) (z : ¬ 0 < freeQ rows top U κ) : ∀ n ∈ lvB rows top, κ n = U n := fun n hn => by
  have h1 := le_sumQ (f := fun n => U n - κ n) (fun y hy => by have := le y hy; grind) hn
  have h2 := le n hn
  unfold freeQ at z
  grind
theorem goU_zero {rows : List RowM} {top : Str} {U κ : Str → Rat} (le : ∀ n ∈ lvB rows top, κ n ≤ U n) (n : Str) : goU rows top U κ 0 n = U n := by
  unfold goU goQ
  split
  · rename_i hn
    split
    · rw [Rat.div_def, Rat.zero_mul, Rat.mul_zero, Rat.sub_eq_add_neg, Rat.neg_zero, Rat.add_zero]
    · rename_i z
      exact free_none le z n hn
  · rfl
theorem goA_zero {rows : List RowM} {top : Str} {U κ : Str → Rat} (le : ∀ n ∈ lvB rows top, κ n ≤ U n) : goA (freeQ rows top U κ) 0 = 0 := by
  unfold goA
  have := freeQ_nn le
  split
  · rfl
  · grind
theorem eq_zeroT {K : PySem.W.Frag} {mg : Str → Option Value} {aK aZ : Addr} (Tk : TKd K mg aK aZ) {σ : L2.St} {H : Hp} : EvQ K (tC (.ref aZ)) σ H 0 := fun H1 e Q k => k _ H1 (Ex.refl _) ⟨aZ, rfl, Tk.zero H1⟩
section
variable {P : Program} {w : World} {K : PySem.W.Frag} {mg : Str → Option Value} {base : Heap} {C CN CW aL aK aZ : Addr} {left : List (Key × V)}
theorem ok_greater {f g : Addr} {fd gd : FuncData} (F : Fun K "greater" "greater" sGreater f fd) (cL : Cal P w K mg base "is_less" ["one", "other"] 1 (spLess K) g gd) : FnOk P w K mg base CX0 2 f fd ["one", "other"] (spGreater K) := by
  refine F.ok scGreater (fun vs H Q E h => ?_) (fun cdv A outer s H vs Q E hr h => ?_)
  · obtain ⟨va, vb, a, b, rfl, _⟩ := h
    rfl
  obtain ⟨va, vb, a, b, rfl, ha, hb, za, zb, q⟩ := h
  refine ⟨_, (pss_one (ps_ret (pe_ifExp (pt_val (pe_call cL.ok (hr.mono (by decide)) rfl cL.mg cL.kp cL.bd .nil pass0 (pa_cons (pv 0) (pa_cons (pv 1) pa_nil)))) (pv 1) (pv 0)))), ?_⟩
  refine et_test (ev_less (eq_var (i := 0) rfl ha) (eq_var (i := 1) rfl hb) za zb) H (Ex.refl _) _ fun H1 e1 => ?_
  by_cases c : a < b
  · rw [decide_eq_true c]
    refine iteT ⟨_, rfl, ?_⟩
    have := q H1 e1
    rwa [if_pos c] at this
  · rw [decide_eq_false c]
    refine iteF ⟨_, rfl, ?_⟩
    have := q H1 e1
    rwa [if_neg c] at this
theorem ok_keptby {f gH gG : Addr} {fd dH dG : FuncData} (F : Fun K "kept_by" "kept_by" sKept f fd) (cH : Cal P w K mg base "held" ["tree", "uses", "top", "kind"] 6 (spHeld K C) gH dH) (cG : Cal P w K mg base "greater" ["one", "other"] 2 (spGreater K) gG dG) : FnOk P w K mg base CX0 7 f fd ["tree", "uses", "top", "kinds"] (spKept K C) := by
  refine F.ok scKept (fun vs H Q E h => ?_) (fun cdv A outer s H vs Q E hr h => ?_)
  · obtain ⟨t, du, ka, top, xs, rows, h, tk, kvs, U, κ, rfl, _⟩ := h
    rfl
  obtain ⟨t, du, ka, top, xs, rows, h, tk, kvs, U, κ, rfl, ht, ok, len, htop, hka, ⟨p, ⟨k, W, c, M, S, hk, ho, hW⟩, hx⟩, fdu, mdu, q⟩ := h
  have hu := hu_of hr
  refine ⟨_, (pss_cons (ps_set (i := 4) scKept.nd rfl (Or.inr rfl) (pe_call cH.ok (hr.mono (by decide)) rfl cH.mg cH.kp cH.bd .nil pass0 (pa_cons (pv 0) (pa_cons (pv 1) (pa_cons (pv 2) (pa_cons (pe_ix ix_tup (pv 3) pe_int (fun _ _ => rfl)) pa_nil)))))) (pss_cons (ps_for PassesOwn.never rfl (pi_tup (pe_slice sl_tup (pv 3) (po_some pe_int) po_none)) (pg_name (i := 5) scKept.nd rfl (Or.inl rfl)) (pss_cons (ps_set (i := 6) scKept.nd rfl (Or.inr rfl) (pe_call cH.ok (hr.mono (by decide)) rfl cH.mg cH.kp cH.bd .nil pass0 (pa_cons (pv 0) (pa_cons (pv 1) (pa_cons (pv 2) (pa_cons (pv 5) pa_nil)))))) (pss_one (ps_set (i := 4) scKept.nd rfl (Or.inr rfl) (pe_lock (pe_dc (own := [("name", 8)]) (g := gName 8) (tt := tYes) (tk := tVar 8) (tv := (tCall (spGreater K) [] E0 (tCons (tDGet (tVar 4) (tVar 8)) (tCons (tDGet (tVar 6) (tVar 8)) tNil)))) rfl scKept.nd (pi_keys (pv 4)) (blkOk_by (own := [("name", 8)]) (N := ["tree", "uses", "top", "kinds", "kept", "kind", "more", "leaf", "name"]) (sc := defScope sKept) (by decide +kernel)) (fun _ _ _ _ _ => (pg_name (i := 8) scKept.nd rfl (Or.inl rfl))) (fun _ _ _ _ _ => pts_nil) (fun _ _ _ _ _ => (pv 8)) (fun _ _ _ _ _ => (pe_call cG.ok (hr.mono (by decide)) rfl cG.mg cG.kp cG.bd .nil pass0 (pa_cons (pe_dget hu (pv 4) (pv 8) (fun _ _ => rfl)) (pa_cons (pe_dget hu (pv 6) (pv 8) (fun _ _ => rfl)) pa_nil)))))))))) (pss_one (ps_ret (pe_lock (pe_dc (own := [("leaf", 7)]) (g := gName 7) (tt := (tTest (tDIn (tVar 7) (tVar 4)))) (tk := tVar 7) (tv := (tDGet (tVar 4) (tVar 7))) rfl scKept.nd (pi_keys (pv 1)) (blkOk_by (own := [("leaf", 7)]) (N := ["tree", "uses", "top", "kinds", "kept", "kind", "more", "leaf", "name"]) (sc := defScope sKept) (by decide +kernel)) (fun _ _ _ _ _ => (pg_name (i := 7) scKept.nd rfl (Or.inl rfl))) (fun _ _ _ _ _ => (pts_one (pt_cmp (pc_din hu (pv 7) (pv 4))))) (fun _ _ _ _ _ => (pv 7)) (fun _ _ _ _ _ => (pe_dget hu (pv 4) (pv 7) (fun _ _ => rfl))))))))), ?_⟩
  have nd := nms_nd ok
  have bnd := below_nd (top := top) nd
  have bl := (ho.uo ok len).len
  have aU : Amts K H du (leavesOf rows) U := Amts.of fdu mdu (leaves_nd ok)
  have hcut : cutV ((("min" : Str) :: xs).map V.str) (some 1) none = xs.map V.str := by
    rcases hx with ⟨rfl, _⟩ | ⟨_, rfl, _⟩ <;> rfl
  have hix : atI (((("min" : Str) :: xs).map V.str)) 0 = some (.str "min") := by
    rcases hx with ⟨rfl, _⟩ | ⟨_, rfl, _⟩ <;> rfl
  have hno : ¬ (HT.sIx ((("min" : Str) :: xs).map V.str).length 0 (some 1) = 0 ∧ HT.sIx ((("min" : Str) :: xs).map V.str).length ((("min" : Str) :: xs).map V.str).length none = ((("min" : Str) :: xs).map V.str).length) := by
    rcases hx with ⟨rfl, _⟩ | ⟨_, rfl, _⟩ <;> decide
  refine ⟨_, rfl, _, rfl, _, rfl, ?_⟩
  refine ev_op (ev_var (i := 3) rfl) ev_c (rv_ixT hka hix) H (Ex.refl _) _ fun H0 e0 => ?_
  refine ⟨t, du, top, "min", rows, h, tk, k, W, c, p, M, S, rfl, ht.same e0 ok, ok, len, htop, by decide +kernel, hk, ho, (aU.ex e0).congr (fun n hn => (hW n hn).symm), fun d0 k0 H1 hd0 s1 f1 m1 => ?_⟩
  have e1 := e0.trans s1
  try dsimp only [gName]
  show tSeq (tFor (iTup K (tSl (rSlT K) (tVar 3) _ _)) _ _) _ _ [some (.ref t), some (.ref du), some (.str top), some (.ref ka), some (.ref d0), none, none, none, none] H1
  refine ⟨_, rfl, 1, rfl, ka, _, rfl, ex_t e1 hka, hno, fun ip hip => ?_⟩
  rw [hcut]
  have s2 := Same.new (Same.refl H1) hip (.tup (xs.map V.str))
  have f2 : upd H1 ip (.tup (xs.map V.str)) ip = some (.tup (xs.map V.str)) := upd_same
  generalize upd H1 ip (.tup (xs.map V.str)) = H2 at s2 f2 ⊢
  have e2 := e1.trans s2
  refine ⟨ip, rfl, ⟨_, SqT.of f2⟩, ?_⟩
  refine q_forIt (walk_tup (K := K) (a := ip) (xs := xs.map V.str)) (fun m σ G => ∃ (d : Addr) (ks : List (Key × V)) (o5 o6 : Option V), σ = [some (.ref t), some (.ref du), some (.str top), some (.ref ka), some (.ref d), o5, o6, none, none] ∧ Ex H2 G ∧ H d = none ∧ G d = some (.dK ks) ∧ MapR (AmR K (if m = 0 then p else κ)) G ks (belowL rows top))
    ⟨d0, k0, _, _, rfl, Ex.refl _, fresh_back e0 hd0, s2 _ _ f1, m1.mono fun _ _ z => AmtQ.same s2 z⟩ ?_ ?_ ?_
  · rintro m σ G _ ⟨_, _, _, _, rfl, eG, _⟩
    exact SqT.of (eG _ _ f2)
  · rintro m x σ Gx G hm ⟨d, ks, o5, o6, rfl, eG, hd, fd, md⟩ ⟨rfl, hx2⟩
    rcases hx with ⟨rfl, _⟩ | ⟨q', rfl, ⟨k', W', c', M', S', hk', ho', hW'⟩, hκ⟩
    · exact absurd hm (Nat.not_lt_zero _)
    have hm : m < 1 := hm
    obtain rfl : m = 0 := by omega
    obtain rfl : x = .str "low" := (Option.some.inj hx2).symm
    have eA := e2.trans eG
    refine ⟨_, rfl, _, rfl, _, rfl, _, rfl, t, du, top, "low", rows, h, tk, k', W', c', q', M', S', rfl, ht.same eA ok, ok, len, htop, by decide +kernel, hk', ho', (aU.ex eA).congr (fun n hn => (hW' n hn).symm), fun d1 k1 G1 hd1 s3 f3 m3 => ?_⟩
    have fd3 := s3 _ _ fd
    have md3 : MapR (AmR K p) G1 ks (belowL rows top) := md.mono fun _ _ z => AmtQ.same s3 z
    have ne : d1 ≠ d := fun z => by rw [z, fd] at hd1; cases hd1
    have aM := Amts.of f3 m3 bnd
    have em := em_dcKeys (K := K) (H := G1) (σ := [some (.ref t), some (.ref du), some (.str top), some (.ref ka), some (.ref d), some (.str "low"), some (.ref d1), none, none]) (tv := tCall (spGreater K) [] E0 (tCons (tDGet (tVar 4) (tVar 8)) (tCons (tDGet (tVar 6) (tVar 8)) tNil))) (t := tYes) (i := 4) (j := 8) (vs := [8]) (ns := belowL rows top) (f := κ) (fun _ => true) rfl fd3 md3.keys bnd (by omega) (fun _ => rfl) (fun _ => rfl) (fun _ _ _ _ _ _ _ => et_yes) (fun Ga ea od n hn _ Gb eb => by
      have aK := (AmtsR.lock (ea _ _ fd3) (md3.mono fun _ _ z => AmtQ.same ea z) bnd od).ex eb
      have aM2 := ((aM.ex ea).lockO ne (ea _ _ fd3) od).ex eb
      exact EvQ.is (eq_greater (eq_getR rfl (ev_var rfl) aK hn) (eq_get rfl (ev_var rfl) aM2 hn) (ho.psz hn) (ho'.psz hn)) (hκ n hn).symm)
    rw [List.filter_eq_self.mpr fun _ _ => rfl] at em
    refine em G1 (Ex.refl _) _ fun d2 k2 G2 hd2 e4 f4 m4 => ?_
    exact ⟨d2, k2, _, _, rfl, (eG.trans s3).trans e4, fresh_back (eA.trans s3) hd2, f4, m4⟩
  · rintro σ G ⟨d, ks, o5, o6, rfl, eG, hd, fd, md⟩
    have mκ : MapR (AmR K κ) G ks (belowL rows top) := by
      rcases hx with ⟨rfl, hκ⟩ | ⟨q', rfl, _, hκ⟩
      · exact paired_monoM (fun kv n hn z => ⟨z.1, by have := z.2; unfold AmR at this ⊢; rw [hκ n hn]; exact this⟩) md
      · exact md
    have eA := e2.trans eG
    have fdu' := eA _ _ fdu
    have mdu' : MapR (AmR K U) G kvs (leavesOf rows) := mdu.mono fun _ _ z => AmtQ.same eA z
    have ne : d ≠ du := fun z => by rw [z, fdu] at hd; cases hd
    have aK := Amts.of fd mκ bnd
    have llen : (leavesOf rows).length ≤ 900 := by have := leaves_len2 (rows := rows); omega
    have em := em_dcKeys (K := K) (H := G) (σ := [some (.ref t), some (.ref du), some (.str top), some (.ref ka), some (.ref d), o5, o6, none, none]) (tv := tDGet (tVar 4) (tVar 7)) (t := tTest (tDIn (tVar 7) (tVar 4))) (i := 1) (j := 7) (vs := [7]) (ns := leavesOf rows) (f := κ) (fun n => decide (n ∈ belowL rows top)) rfl fdu' mdu'.keys (leaves_nd ok) llen (fun _ => rfl) (fun _ => rfl) (fun Ga ea od n hn Gb eb => by
      have fd2 : Gb d = some (.dK ks) := eb _ _ (by rw [upd_ne ne]; exact ea _ _ fd)
      rw [← mapR_has mκ bnd n]
      exact et_test (ev_din (ev_var rfl) (ev_var rfl) fd2)) (fun Ga ea od n hn hb Gb eb => by
      have aK2 := ((aK.ex ea).lockO ne (ea _ _ fdu') od).ex eb
      exact eq_get rfl (ev_var rfl) aK2 (of_decide_eq_true hb))
    exact s_retM em fun d2 ls G2 h1 h2 h3 h4 => q d2 ls G2 (fresh_back eA h1) (eA.trans h2) h3 h4
theorem ok_go {f gK gMi gT gL gO gTi : Addr} {fd dK dMi dT dL dO dTi : FuncData} (F : Fun K "after_go" "after_go" sGo f fd) (Td : TDd mg) (Tk : TKd K mg aK aZ) (cK : Cal P w K mg base "kept_by" ["tree", "uses", "top", "kinds"] 7 (spKept K C) gK dK) (cMi : Cal P w K mg base "minus" ["one", "other"] 4 (spMinus K) gMi dMi)
    (cT : Cal P w K mg base "total" ["amounts"] 3 (spTotal K) gT dT) (cL : Cal P w K mg base "is_less" ["one", "other"] 1 (spLess K) gL dL) (cO : Cal P w K mg base "over" ["one", "other"] 3 (spOver K) gO dO) (cTi : Cal P w K mg base "times" ["one", "other"] 2 (spTimes K) gTi dTi) : FnOk P w K mg base CX0 8 f fd ["tree", "uses", "top", "amount", "kinds"] (spGo K C) := by
  refine F.ok scGo (fun vs H Q E h => ?_) (fun cdv A outer s H vs Q E hr h => ?_)
  · obtain ⟨t, du, ka, va, top, xs, rows, h, tk, kvs, U, κ, a, M, S, rfl, _⟩ := h
    rfl
  obtain ⟨t, du, ka, va, top, xs, rows, h, tk, kvs, U, κ, a, M, S, rfl, ht, ok, len, htop, hva, hka, o, fdu, mdu, q⟩ := h
  have hu := hu_of hr
  refine ⟨_, (pss_cons (ps_if (pt_cmpR (op_eqD hr.units) (pv 3) (pe_glob (v := .ref aZ) rfl Tk.g_ZERO rfl) (nomark _)) (pss_one (ps_ret (pe_tup (pa_cons (pv 1) (pa_cons (pe_glob (v := .ref aZ) rfl Tk.g_ZERO rfl) pa_nil))))) pss_nil) (pss_cons (ps_set (i := 5) scGo.nd rfl (Or.inr rfl) (pe_call cK.ok (hr.mono (by decide)) rfl cK.mg cK.kp cK.bd .nil pass0 (pa_cons (pv 0) (pa_cons (pv 1) (pa_cons (pv 2) (pa_cons (pv 4) pa_nil)))))) (pss_cons (ps_set (i := 6) scGo.nd rfl (Or.inr rfl) (pe_lock (pe_dc (own := [("leaf", 10)]) (g := gName 10) (tt := tYes) (tk := tVar 10) (tv := (tCall (spMinus K) [] E0 (tCons (tDGet (tVar 1) (tVar 10)) (tCons (tDGet (tVar 5) (tVar 10)) tNil)))) rfl scGo.nd (pi_keys (pv 5)) (blkOk_by (own := [("leaf", 10)]) (N := ["tree", "uses", "top", "amount", "kinds", "kept", "beyond", "free", "left", "rate", "leaf"]) (sc := defScope sGo) (by decide +kernel)) (fun _ _ _ _ _ => (pg_name (i := 10) scGo.nd rfl (Or.inl rfl))) (fun _ _ _ _ _ => pts_nil) (fun _ _ _ _ _ => (pv 10)) (fun _ _ _ _ _ => (pe_call cMi.ok (hr.mono (by decide)) rfl cMi.mg cMi.kp cMi.bd .nil pass0 (pa_cons (pe_dget hu (pv 1) (pv 10) (fun _ _ => rfl)) (pa_cons (pe_dget hu (pv 5) (pv 10) (fun _ _ => rfl)) pa_nil))))))) (pss_cons (ps_set (i := 7) scGo.nd rfl (Or.inl rfl) (pe_call cT.ok (hr.mono (by decide)) rfl cT.mg cT.kp cT.bd .nil pass0 (pa_cons (pe_lock (pe_lc (own := [("leaf", 10)]) (g := gName 10) (tt := tYes) (te := (tDGet (tVar 6) (tVar 10))) rfl scGo.nd (pi_keys (pv 6)) (blkOk_by (own := [("leaf", 10)]) (N := ["tree", "uses", "top", "amount", "kinds", "kept", "beyond", "free", "left", "rate", "leaf"]) (sc := defScope sGo) (by decide +kernel)) (fun _ _ _ _ _ => (pg_name (i := 10) scGo.nd rfl (Or.inl rfl))) (fun _ _ _ _ _ => pts_nil) (fun _ _ _ _ _ => (pe_dget hu (pv 6) (pv 10) (fun _ _ => rfl))))) pa_nil))) (pss_cons (ps_set (i := 8) scGo.nd rfl (Or.inl rfl) (pe_callTy call_dictD (by rfl) Td.z_dict (by decide +kernel) (pa_cons (pv 1) pa_nil))) (pss_cons (ps_if (pt_not (pt_val (pe_call cL.ok (hr.mono (by decide)) rfl cL.mg cL.kp cL.bd .nil pass0 (pa_cons (pv 3) (pa_cons (pv 7) pa_nil))))) (pss_cons (ps_expr (pe_bm PySem.F.plainAttrs_dict PySem.F.slot_dict_update PySem.F.type_dict_update mtd_update (pv 8) (pa_cons (pv 5) pa_nil))) (pss_one (ps_ret (pe_tup (pa_cons (pv 8) (pa_cons (pe_call cMi.ok (hr.mono (by decide)) rfl cMi.mg cMi.kp cMi.bd .nil pass0 (pa_cons (pv 3) (pa_cons (pv 7) pa_nil))) pa_nil)))))) pss_nil) (pss_cons (ps_set (i := 9) scGo.nd rfl (Or.inr rfl) (pe_call cO.ok (hr.mono (by decide)) rfl cO.mg cO.kp cO.bd .nil pass0 (pa_cons (pv 3) (pa_cons (pv 7) pa_nil)))) (pss_cons (ps_expr (pe_bm PySem.F.plainAttrs_dict PySem.F.slot_dict_update PySem.F.type_dict_update mtd_update (pv 8) (pa_cons (pe_lock (pe_dc (own := [("leaf", 10)]) (g := gName 10) (tt := tYes) (tk := tVar 10) (tv := (tCall (spMinus K) [] E0 (tCons (tDGet (tVar 1) (tVar 10)) (tCons (tCall (spTimes K) [] E0 (tCons (tDGet (tVar 6) (tVar 10)) (tCons (tVar 9) tNil))) tNil)))) rfl scGo.nd (pi_keys (pv 6)) (blkOk_by (own := [("leaf", 10)]) (N := ["tree", "uses", "top", "amount", "kinds", "kept", "beyond", "free", "left", "rate", "leaf"]) (sc := defScope sGo) (by decide +kernel)) (fun _ _ _ _ _ => (pg_name (i := 10) scGo.nd rfl (Or.inl rfl))) (fun _ _ _ _ _ => pts_nil) (fun _ _ _ _ _ => (pv 10)) (fun _ _ _ _ _ => (pe_call cMi.ok (hr.mono (by decide)) rfl cMi.mg cMi.kp cMi.bd .nil pass0 (pa_cons (pe_dget hu (pv 1) (pv 10) (fun _ _ => rfl)) (pa_cons (pe_call cTi.ok (hr.mono (by decide)) rfl cTi.mg cTi.kp cTi.bd .nil pass0 (pa_cons (pe_dget hu (pv 6) (pv 10) (fun _ _ => rfl)) (pa_cons (pv 9) pa_nil))) pa_nil)))))) pa_nil))) (pss_one (ps_ret (pe_tup (pa_cons (pv 8) (pa_cons (pe_glob (v := .ref aZ) rfl Tk.g_ZERO rfl) pa_nil))))))))))))), ?_⟩
  have lnd := lvB_nd (top := top) ok
  have ll := lvB_len (rows := rows) (top := top)
  have llen : (leavesOf rows).length ≤ 200 := Nat.le_trans leaves_len2 len
  have hM3 : M < 2 ^ 3000 := lt_up o.hM (by decide)
  have hS3 : S * 2 * M < 2 ^ 3000 := lt_up (lt_mul2 (lt_mul2 o.hS (by decide : 2 < 2 ^ 2)) o.hM) (by decide)
  have F0 := freeQ_nn o.le
  have dms : ∀ n ∈ lvB rows top, InMS M S (U n - κ n) := fun n hn => (o.uz n hn).sub ((o.kz n hn).of o.M0) (o.kz n hn).lo o.M0 (o.le n hn)
  have fms : InMS M (S * (lvB rows top).length) (freeQ rows top U κ) := sumMS (f := fun n => U n - κ n) o.M0 dms
  have l8 : (lvB rows top).length < 2 ^ 8 := by omega
  have fms2 : InMS M (S * 2 ^ 8) (freeQ rows top U κ) := fms.up (Nat.dvd_refl _) (Nat.mul_le_mul_left _ (Nat.le_of_lt l8))
  have hS8 : S * 2 ^ 8 < 2 ^ 510 := by
    have := o.hS
    have e : (2 : Nat) ^ 510 = 2 ^ 500 * 2 ^ 10 := by rw [← Nat.pow_add]
    have : S * 2 ^ 8 ≤ 2 ^ 500 * 2 ^ 8 := Nat.mul_le_mul_right _ (Nat.le_of_lt o.hS)
    have : (2 : Nat) ^ 500 * 2 ^ 8 < 2 ^ 500 * 2 ^ 10 := Nat.mul_lt_mul_of_pos_left (by decide) (Nat.pow_pos (by decide))
    omega
  have fz : Sz (freeQ rows top U κ) := fms2.sz (m := 1000) (s := 510) o.M0 o.hM hS8 (by decide)
  have azS : Sz a := o.az.sz (m := 1000) (s := 500) o.M0 o.hM o.hS (by decide)
  have aU : Amts K H du (leavesOf rows) U := Amts.of fdu mdu (leaves_nd ok)
  refine q_when (b := decide (a = 0)) (et_test (ev_eqQ (eq_var (i := 3) rfl hva) (eq_zeroT Tk))) (fun hb H1 e1 => ?_) fun hb H1 e1 => ?_
  · have a0 : a = 0 := of_decide_eq_true hb
    subst a0
    refine ⟨_, rfl, by show 2 ≤ sizeLine; decide, fun tp htp => ?_⟩
    have s2 := Same.new (Same.refl H1) htp (.tup [.ref du, .ref aZ])
    have f2 : upd H1 tp (.tup [.ref du, .ref aZ]) tp = some (.tup [.ref du, .ref aZ]) := upd_same
    generalize upd H1 tp (.tup [.ref du, .ref aZ]) = H2 at s2 f2 ⊢
    have e2 := e1.trans s2
    have mz : MapR (AmR K (goU rows top U κ 0)) H2 kvs (leavesOf rows) := paired_mono (fun kv n z => ⟨z.1, by
      show AmtQ K H2 kv.2 (goU rows top U κ 0 n)
      rw [goU_zero o.le]
      exact AmtQ.same e2 z.2⟩) mdu
    refine q tp du kvs (.ref aZ) H2 (fresh_back e1 htp) (.inl rfl) e2 (SqT.of f2) (e2 _ _ fdu) mz ?_
    rw [goA_zero o.le]
    exact ⟨aZ, rfl, Tk.zero H2⟩
  have a0 : 0 < a := by
    have h1 := o.az.lo
    have h2 : ¬ a = 0 := of_decide_eq_false hb
    grind
  refine ⟨_, rfl, _, rfl, _, rfl, _, rfl, t, du, ka, top, xs, rows, h, tk, kvs, U, κ, rfl, ht.same e1 ok, ok, len, htop, ex_t e1 hka, o.kept, e1 _ _ fdu, mdu.mono fun _ _ z => AmtQ.same e1 z, fun dk kk H2 hdk s2 fk mk => ?_⟩
  have e2 := e1.trans s2
  have hdk0 : H dk = none := fresh_back e1 hdk
  have fdu2 := e2 _ _ fdu
  have nek : du ≠ dk := fun z => by rw [← z, fdu] at hdk0; cases hdk0
  have aU2 := aU.ex e2
  try dsimp only [gName]
  show tSeq (tAsg _ _) _ _ [some (.ref t), some (.ref du), some (.str top), some va, some (.ref ka), some (.ref dk), none, none, none, none, none] H2
  have emB := em_dcKeys (K := K) (H := H2) (σ := [some (.ref t), some (.ref du), some (.str top), some va, some (.ref ka), some (.ref dk), none, none, none, none, none]) (tv := tCall (spMinus K) [] E0 (tCons (tDGet (tVar 1) (tVar 10)) (tCons (tDGet (tVar 5) (tVar 10)) tNil))) (t := tYes) (i := 5) (j := 10) (vs := [10]) (ns := lvB rows top) (f := fun n => U n - κ n) (fun _ => true) rfl fk mk.keys lnd (by omega) (fun _ => rfl) (fun _ => rfl) (fun _ _ _ _ _ _ _ => et_yes) (fun Ga ea od n hn _ Gb eb => by
    have aK := (AmtsR.lock (ea _ _ fk) (mk.mono fun _ _ z => AmtQ.same ea z) lnd od).ex eb
    have aU3 := ((aU2.ex ea).lockO nek (ea _ _ fk) od).ex eb
    exact eq_minus (eq_get rfl (ev_var rfl) aU3 (lvB_leaf hn)) (eq_getR rfl (ev_var rfl) aK hn) o.M0 hM3 hS3 (o.uz n hn).dn (o.kz n hn).dn (o.le n hn))
  rw [List.filter_eq_self.mpr fun _ _ => rfl] at emB
  refine q_asgM emB fun db kb H3 hdb e3 fb mb => ?_
  have e23 := e2.trans e3
  have hdb0 : H db = none := fresh_back e2 hdb
  have blen : kb.length ≤ 900 := by rw [Paired.length mb]; omega
  try dsimp only [gName]
  show tSeq (tAsg _ _) _ _ [some (.ref t), some (.ref du), some (.str top), some va, some (.ref ka), some (.ref dk), some (.ref db), none, none, none, none] H3
  have kbn : (kb.map (·.1)).Nodup := by rw [mb.keys]; exact nodup_inr lnd
  have elF := el_lockLc (H := H3) (σ := [some (.ref t), some (.ref du), some (.str top), some va, some (.ref ka), some (.ref dk), some (.ref db), none, none, none, none]) (te := tDGet (tVar 6) (tVar 10)) (t := tYes) (i := 6) (j := 10) (vs := [10]) (fun _ => true) (fun kv : Key × V => kv.2) rfl fb blen (fun _ => rfl) (fun _ _ _ _ _ _ _ => et_yes) (fun Ga ea od kv hkv _ Gb eb => by
    have fl : Gb db = some (.frz od (.dK kb)) := eb _ _ upd_same
    exact fun G1 e Q k => ⟨_, rfl, _, rfl, db, kv.2, rfl, .inl ⟨kb, kv.1, .inr ⟨od, e _ _ fl⟩, rfl, (val_nd kbn kv hkv).symm⟩, k G1 (Ex.refl _)⟩)
  rw [List.filter_eq_self.mpr fun _ _ => rfl] at elF
  refine q_asgQ (K := K) (q := freeQ rows top U κ) (eq_total (M := M) (S := S) elF (fun G e => paired_mono (fun _ _ z => AmtQ.same e z) (mapR_amts mb)) o.M0 hM3 (by
    rw [List.length_map]
    exact Nat.lt_of_le_of_lt (Nat.mul_le_mul_right _ (Nat.mul_le_mul_left _ (Nat.le_of_lt l8))) (lt_up (lt_mul2 hS8 o.hM) (by decide))) (fun x hx => by
    obtain ⟨n, hn, rfl⟩ := List.mem_map.mp hx
    exact (dms n hn).dn) F0) fun vf H4 e4 hvf => ?_
  have e24 := e23.trans e4
  have fdu4 := e24 _ _ fdu
  try dsimp only [gName]
  show tSeq (tAsg _ _) _ _ [some (.ref t), some (.ref du), some (.str top), some va, some (.ref ka), some (.ref dk), some (.ref db), some vf, none, none, none] H4
  refine ⟨_, rfl, du, kvs, rfl, .inl fdu4, fun dl hdl => ?_⟩
  have s5 := Same.new (Same.refl H4) hdl (.dK kvs)
  have f5 : upd H4 dl (.dK kvs) dl = some (.dK kvs) := upd_same
  generalize upd H4 dl (.dK kvs) = H5 at s5 f5 ⊢
  have e5 := e24.trans s5
  have hdl0 : H dl = none := fresh_back e24 hdl
  have fk5 := (e3.trans (e4.trans s5)) _ _ fk
  have fb5 := (e4.trans s5) _ _ fb
  have hva5 := hva.same e5
  have hvf5 := hvf.same s5
  have nelk : dl ≠ dk := fun z => by rw [z] at hdl; rw [(e3.trans e4) _ _ fk] at hdl; cases hdl
  try dsimp only [gName]
  show tSeq (tIfS _ _ _) _ _ [some (.ref t), some (.ref du), some (.str top), some va, some (.ref ka), some (.ref dk), some (.ref db), some vf, some (.ref dl), none, none] H5
  have mdu5 : MapR (AmR K U) H5 kvs (leavesOf rows) := mdu.mono fun _ _ z => AmtQ.same e5 z
  have mk5 : MapR (AmR K κ) H5 kk (lvB rows top) := mk.mono fun _ _ z => AmtQ.same (e3.trans (e4.trans s5)) z
  have kvl : kvs.length ≤ 200 := by rw [Paired.length mdu]; omega
  refine q_when (b := !decide (a < freeQ rows top U κ)) (et_not (et_test (ev_less (eq_var (i := 3) rfl hva5) (eq_var (i := 7) rfl hvf5) azS fz))) (fun hb H6 e6 => ?_) fun hb H6 e6 => ?_
  · have c : ¬ a < freeQ rows top U κ := of_decide_eq_false (by simpa using hb)
    have c' : freeQ rows top U κ ≤ a := Rat.not_lt.mp c
    have kkl : kk.length ≤ 200 := by rw [Paired.length mk]; omega
    have f56 := e6 _ _ f5
    have fk6 := e6 _ _ fk5
    refine ⟨_, rfl, .inr (.inr (.inl ⟨rfl, .inl ⟨_, f56⟩⟩)), _, rfl, dl, dk, kvs, kk, rfl, rfl, nelk, f56, fk6, by omega, ?_⟩
    have mM := mapR_merge (u := goU rows top U κ a) (mdu5.mono fun _ _ z => AmtQ.same e6 z) (mk5.mono fun _ _ z => AmtQ.same e6 z) lnd (fun n hn => lvB_leaf hn) (fun n hn => by
      unfold goU goQ
      rw [if_pos hn, if_neg c]) (fun n hn => by
      unfold goU
      rw [if_neg hn])
    have t7 := TK.dk f56 (.dK (mergeK kvs kk))
    have e7 : Ex H (upd H6 dl (.dK (mergeK kvs kk))) := Ex.mut (e5.trans e6) hdl0
    have f7 : upd H6 dl (.dK (mergeK kvs kk)) dl = some (.dK (mergeK kvs kk)) := upd_same
    have hva7 := (hva5.same e6).tk t7
    have hvf7 := (hvf5.same e6).tk t7
    have mM7 : MapR (AmR K (goU rows top U κ a)) (upd H6 dl (.dK (mergeK kvs kk))) (mergeK kvs kk) (leavesOf rows) := mM.mono fun _ _ z => AmtQ.tk t7 z
    generalize upd H6 dl (.dK (mergeK kvs kk)) = H7 at e7 f7 hva7 hvf7 mM7 ⊢
    have hS9 : S * 2 ^ 8 * 2 * M < 2 ^ 3000 := lt_up (lt_mul2 (lt_mul2 hS8 (by decide : 2 < 2 ^ 2)) o.hM) (by decide)
    refine ⟨_, rfl, ?_⟩
    refine eq_minus (K := K) (H := H7) (M := M) (S := S * 2 ^ 8) (eq_var (i := 3) rfl hva7) (eq_var (i := 7) rfl hvf7) o.M0 hM3 hS9 (o.az.up (Nat.dvd_refl _) (Nat.le_mul_of_pos_right _ (by decide))).dn fms2.dn c' H7 (Ex.refl _) _ fun vd H8 e8 hvd => ?_
    refine ⟨by show 2 ≤ sizeLine; decide, fun tp htp => ?_⟩
    have s9 := Same.new (Same.refl H8) htp (.tup [.ref dl, vd])
    have f9 : upd H8 tp (.tup [.ref dl, vd]) tp = some (.tup [.ref dl, vd]) := upd_same
    generalize upd H8 tp (.tup [.ref dl, vd]) = H9 at s9 f9 ⊢
    refine q tp dl _ vd H9 (fresh_back (e7.trans e8) htp) (.inr hdl0) ((e7.trans e8).trans s9) (SqT.of f9) ((e8.trans s9) _ _ f7) (mM7.mono fun _ _ z => AmtQ.same (e8.trans s9) z) ?_
    unfold goA
    rw [if_neg c]
    exact hvd.same s9
  · have c : a < freeQ rows top U κ := of_decide_eq_true (by simpa using hb)
    have Fp : 0 < freeQ rows top U κ := by grind
    have f56 := e6 _ _ f5
    have fk6 := e6 _ _ fk5
    have fb6 := e6 _ _ fb5
    have hva6 := hva5.same e6
    have hvf6 := hvf5.same e6
    have e06 := e5.trans e6
    try dsimp only [gName]
    show tSeq (tAsg _ _) _ _ [some (.ref t), some (.ref du), some (.str top), some va, some (.ref ka), some (.ref dk), some (.ref db), some vf, some (.ref dl), none, none] H6
    refine q_asgQ (K := K) (q := a / freeQ rows top U κ) (eq_over (eq_var (i := 3) rfl hva6) (eq_var (i := 7) rfl hvf6) azS fz o.az.lo Fp) fun vr H7 e7 hvr => ?_
    have e07 := e06.trans e7
    have f57 := e7 _ _ f56
    have fb7 := e7 _ _ fb6
    have aU7 := aU.ex e07
    have mb7 : MapR (AmR K fun n => U n - κ n) H7 kb (lvB rows top) := mb.mono fun _ _ z => AmtQ.same ((((e4.trans s5).trans e6).trans e7)) z
    have neb : du ≠ db := fun z => by rw [← z, fdu] at hdb0; cases hdb0
    obtain ⟨rn, rd⟩ := quot_sz (a := a) (b := freeQ rows top U κ) o.az.lo Fp
    have rz : Sz (a / freeQ rows top U κ) := by
      have h1 := o.az.nlt (m := 1000) (s := 500) o.M0 o.hM o.hS
      have h2 : a.den < 2 ^ 1000 := Nat.lt_of_le_of_lt (o.az.denle o.M0) o.hM
      have h3 := fms2.nlt (m := 1000) (s := 510) o.M0 o.hM hS8
      have h4 : (freeQ rows top U κ).den < 2 ^ 1000 := Nat.lt_of_le_of_lt (fms2.denle o.M0) o.hM
      exact ⟨Nat.lt_of_le_of_lt rn (lt_up (lt_mul2 h1 h4) (by decide)), Nat.lt_of_le_of_lt rd (lt_up (lt_mul2 h2 h3) (by decide))⟩
    have r0 : 0 ≤ a / freeQ rows top U κ := by
      rw [Rat.div_def]
      exact Rat.mul_nonneg o.az.lo (Rat.le_of_lt (Rat.inv_pos.mpr Fp))
    have eg : ∀ n ∈ lvB rows top, (U n - κ n) * (a / freeQ rows top U κ) = U n - goQ (freeQ rows top U κ) a (U n) (κ n) := fun n hn => by
      unfold goQ
      rw [if_pos c]
      grind
    have pn : ∀ n ∈ lvB rows top, 0 ≤ (U n - κ n) * (a / freeQ rows top U κ) := fun n hn => Rat.mul_nonneg (dms n hn).lo r0
    have pms : ∀ n ∈ lvB rows top, InMS M S ((U n - κ n) * (a / freeQ rows top U κ)) := fun n hn => by
      have h1 := pn n hn
      rw [eg n hn] at h1 ⊢
      exact (o.uz n hn).sub ((o.nz n hn).of o.M0) (o.nz n hn).lo o.M0 (by grind)
    try dsimp only [gName]
    show tSeq (tDrop (tBM K _ _ _ _)) _ _ [some (.ref t), some (.ref du), some (.str top), some va, some (.ref ka), some (.ref dk), some (.ref db), some vf, some (.ref dl), some vr, none] H7
    refine ⟨_, rfl, .inr (.inr (.inl ⟨rfl, .inl ⟨_, f57⟩⟩)), ?_⟩
    have emN := em_dcKeys (K := K) (H := H7) (σ := [some (.ref t), some (.ref du), some (.str top), some va, some (.ref ka), some (.ref dk), some (.ref db), some vf, some (.ref dl), some vr, none]) (tv := tCall (spMinus K) [] E0 (tCons (tDGet (tVar 1) (tVar 10)) (tCons (tCall (spTimes K) [] E0 (tCons (tDGet (tVar 6) (tVar 10)) (tCons (tVar 9) tNil))) tNil))) (t := tYes) (i := 6) (j := 10) (vs := [10]) (ns := lvB rows top) (f := fun n => U n - (U n - κ n) * (a / freeQ rows top U κ)) (fun _ => true) rfl fb7 mb7.keys lnd (by omega) (fun _ => rfl) (fun _ => rfl) (fun _ _ _ _ _ _ _ => et_yes) (fun Ga ea od n hn _ Gb eb => by
      have aK := (AmtsR.lock (ea _ _ fb7) (mb7.mono fun _ _ z => AmtQ.same ea z) lnd od).ex eb
      have aU3 := ((aU7.ex ea).lockO neb (ea _ _ fb7) od).ex eb
      have hvr3 : AmtQ K Gb vr (a / freeQ rows top U κ) := ((hvr.same ea).tk (lock_tk (ea _ _ fb7) od)).same eb
      have d0 : 0 ≤ U n - κ n := (dms n hn).lo
      have h9 : (U n - κ n) * (a / freeQ rows top U κ) ≤ U n := by
        rw [eg n hn]
        have := (o.nz n hn).lo
        grind
      exact eq_minus (eq_get rfl (ev_var rfl) aU3 (lvB_leaf hn)) (eq_times (eq_getR rfl (ev_var rfl) aK hn) (eq_var (i := 9) rfl hvr3) ((dms n hn).sz (m := 1000) (s := 500) o.M0 o.hM o.hS (by decide)) rz d0 r0) o.M0 hM3 hS3 (o.uz n hn).dn (pms n hn).dn h9)
    rw [List.filter_eq_self.mpr fun _ _ => rfl] at emN
    refine emN H7 (Ex.refl _) _ fun dn kn H8 hdn e8 fn mn => ?_
    have f58 := e8 _ _ f57
    have nen : dl ≠ dn := fun z => by rw [← z, f57] at hdn; cases hdn
    have knl : kn.length ≤ 200 := by rw [Paired.length mn]; omega
    refine ⟨dl, dn, kvs, kn, rfl, rfl, nen, f58, fn, by omega, ?_⟩
    have e08 := e07.trans e8
    have mM := mapR_merge (u := goU rows top U κ a) (mdu.mono fun _ _ z => AmtQ.same e08 z) mn lnd (fun n hn => lvB_leaf hn) (fun n hn => by
      unfold goU goQ
      rw [if_pos hn, if_pos c]) (fun n hn => by
      unfold goU
      rw [if_neg hn])
    have t9 := TK.dk f58 (.dK (mergeK kvs kn))
    have e9 : Ex H (upd H8 dl (.dK (mergeK kvs kn))) := Ex.mut e08 hdl0
    have f9 : upd H8 dl (.dK (mergeK kvs kn)) dl = some (.dK (mergeK kvs kn)) := upd_same
    have mM9 : MapR (AmR K (goU rows top U κ a)) (upd H8 dl (.dK (mergeK kvs kn))) (mergeK kvs kn) (leavesOf rows) := mM.mono fun _ _ z => AmtQ.tk t9 z
    generalize upd H8 dl (.dK (mergeK kvs kn)) = H9 at e9 f9 mM9 ⊢
    refine ⟨_, rfl, by show 2 ≤ sizeLine; decide, fun tp htp => ?_⟩
    have s10 := Same.new (Same.refl H9) htp (.tup [.ref dl, .ref aZ])
    have f10 : upd H9 tp (.tup [.ref dl, .ref aZ]) tp = some (.tup [.ref dl, .ref aZ]) := upd_same
    generalize upd H9 tp (.tup [.ref dl, .ref aZ]) = H10 at s10 f10 ⊢
    refine q tp dl _ (.ref aZ) H10 (fresh_back e9 htp) (.inr hdl0) (e9.trans s10) (SqT.of f10) (s10 _ _ f9) (mM9.mono fun _ _ z => AmtQ.same s10 z) ?_
    unfold goA
    rw [if_pos c]
    exact ⟨aZ, rfl, Tk.zero H10⟩
theorem ok_both {f gA : Addr} {fd dA : FuncData} (F : Fun K "after_both_goes" "after_both_goes" sBoth f fd) (Tk : TKd K mg aK aZ) (cA : Cal P w K mg base "after_go" ["tree", "uses", "top", "amount", "kinds"] 8 (spGo K C) gA dA) : FnOk P w K mg base CX0 9 f fd ["tree", "uses", "top", "amount"] (spBoth K C) := by
  refine F.ok scBoth (fun vs H Q E h => ?_) (fun cdv A outer s H vs Q E hr h => ?_)
  · obtain ⟨t, du, va, top, rows, h, tk, kvs, U, κ, μ, a, M, S, rfl, _⟩ := h
    rfl
  obtain ⟨t, du, va, top, rows, h, tk, kvs, U, κ, μ, a, M, S, rfl, ht, ok, len, htop, hva, ⟨o1, o2⟩, fdu, mdu, q⟩ := h
  refine ⟨_, (pss_cons (ps_asg (pe_call cA.ok (hr.mono (by decide)) rfl cA.mg cA.kp cA.bd .nil pass0 (pa_cons (pv 0) (pa_cons (pv 1) (pa_cons (pv 2) (pa_cons (pv 3) (pa_cons (pe_glob (v := .ref aK) rfl Tk.g_KINDS rfl) pa_nil)))))) (pg_tup (by rfl) (pgs_cons (pg_name (i := 1) scBoth.nd rfl (Or.inl rfl)) (pgs_cons (pg_name (i := 3) scBoth.nd rfl (Or.inl rfl)) pgs_nil)))) (pss_one (ps_ret (pe_call cA.ok (hr.mono (by decide)) rfl cA.mg cA.kp cA.bd .nil pass0 (pa_cons (pv 0) (pa_cons (pv 1) (pa_cons (pv 2) (pa_cons (pv 3) (pa_cons (pe_tup (pa_cons pe_str pa_nil)) pa_nil))))))))), ?_⟩
  refine ⟨_, rfl, _, rfl, _, rfl, _, rfl, t, du, aK, va, top, ["low"], rows, h, tk, kvs, U, κ, a, M, S, rfl, ht, ok, len, htop, hva, Tk.kinds H, o1, fdu, mdu, fun r d ls v H1 hr1 hd s1 fr fd1 m1 hv => ?_⟩
  refine ⟨r, _, rfl, fr, rfl, _, _, rfl, _, _, rfl, rfl, ?_⟩
  try dsimp only [gName]
  show tRet _ _ [some (.ref t), some (.ref d), some (.str top), some v] H1
  refine ⟨_, rfl, _, rfl, _, rfl, _, rfl, by show 1 ≤ sizeLine; decide, fun tp htp => ?_⟩
  have s2 := Same.new (Same.refl H1) htp (.tup [.str "min"])
  have f2 : upd H1 tp (.tup [.str "min"]) tp = some (.tup [.str "min"]) := upd_same
  generalize upd H1 tp (.tup [.str "min"]) = H2 at s2 f2 ⊢
  have s12 := s1.trans s2
  refine ⟨t, d, tp, v, top, [], rows, h, tk, ls, goU rows top U κ a, μ, goA (freeQ rows top U κ) a, M, S, rfl, ht.same s12 ok, ok, len, htop, hv.same s2, SqT.of f2, o2, s2 _ _ fd1, m1.mono fun _ _ z => AmtQ.same s2 z, fun r2 d2 ls2 v2 H3 hr2 hd2 s3 fr2 fd2 m2 hv2 => ?_⟩
  refine q r2 d2 ls2 v2 H3 (fresh_back s12 hr2) ?_ (s12.trans s3) fr2 fd2 m2 hv2
  rcases hd2 with rfl | hd2
  · exact hd
  · exact .inr (fresh_back s12 hd2)
theorem ok_recl {f gT gU gP gA gB : Addr} {fd dT dU dP dA dB : FuncData} (F : Fun K "reclaimed" "reclaimed" sRecl f fd) (cCT : Cal P w K mg base "check_tree" ["thing"] 1 (spCTree K C) gT dT) (cU : Cal P w K mg base "told_uses" ["tree", "uses"] 4 (spTold K C) gU dU) (cTop : Cal P w K mg base "check_top" ["tree", "top"] 1 (spCTop K C) gP dP)
    (cCA : Cal P w K mg base "check_amount" ["amount"] 3 (spCAmt K) gA dA) (cB : Cal P w K mg base "after_both_goes" ["tree", "uses", "top", "amount"] 9 (spBoth K C) gB dB) : FnOk P w K mg base CX0 10 f fd ["tree", "uses", "top", "amount"] (spRecl K C) := by
  refine F.ok scRecl (fun vs H Q E h => ?_) (fun cdv A outer s H vs Q E hr h => ?_)
  · obtain ⟨t, du, va, top, rows, h, tk, U, κ, μ, a, M, S, rfl, _⟩ := h
    rfl
  obtain ⟨t, du, va, top, rows, h, tk, U, κ, μ, a, M, S, rfl, ht, ok, len, htop, htk, hva, o, hd, q⟩ := h
  refine ⟨_, (pss_cons (ps_expr (pe_call cCT.ok (hr.mono (by decide)) rfl cCT.mg cCT.kp cCT.bd .nil pass0 (pa_cons (pv 0) pa_nil))) (pss_cons (ps_set (i := 4) scRecl.nd rfl (Or.inl rfl) (pe_call cU.ok (hr.mono (by decide)) rfl cU.mg cU.kp cU.bd .nil pass0 (pa_cons (pv 0) (pa_cons (pv 1) pa_nil)))) (pss_cons (ps_expr (pe_call cTop.ok (hr.mono (by decide)) rfl cTop.mg cTop.kp cTop.bd .nil pass0 (pa_cons (pv 0) (pa_cons (pv 2) pa_nil)))) (pss_cons (ps_expr (pe_call cCA.ok (hr.mono (by decide)) rfl cCA.mg cCA.kp cCA.bd .nil pass0 (pa_cons (pv 3) pa_nil))) (pss_one (ps_ret (pe_call cB.ok (hr.mono (by decide)) rfl cB.mg cB.kp cB.bd .nil pass0 (pa_cons (pv 0) (pa_cons (pv 4) (pa_cons (pv 2) (pa_cons (pv 3) pa_nil))))))))))), ?_⟩
  refine ⟨_, rfl, t, rows, h, tk, rfl, ht, ?_⟩
  refine ⟨_, rfl, _, rfl, t, du, rows, h, tk, U, rfl, ht, ok, len, hd, fun d kvs H1 hd1 s1 f1 m1 => ?_⟩
  have ht1 := ht.same s1 ok
  refine ⟨_, rfl, _, rfl, t, top, rows, h, tk, rfl, ht1, ok, htop, htk, ?_⟩
  refine ⟨_, rfl, va, a, rfl, hva.same s1, o.1.az.sz (m := 1000) (s := 500) o.1.M0 o.1.hM o.1.hS (by decide), o.1.az.lo, ?_⟩
  refine ⟨_, rfl, _, rfl, _, rfl, _, rfl, t, d, va, top, rows, h, tk, kvs, U, κ, μ, a, M, S, rfl, ht1, ok, len, htop, hva.same s1, o, f1, m1, fun r2 d2 ls2 v2 H3 hr2 hd2 s3 fr2 fd2 m2 hv2 => ?_⟩
  refine q r2 d2 ls2 v2 H3 (fresh_back s1 hr2) ?_ (s1.trans s3) fr2 fd2 m2 hv2
  rcases hd2 with rfl | hd2
  · exact hd1
  · exact fresh_back s1 hd2
end
end Bd
end

section
/-! a slice of a tuple: itself, or a new one that has no dict -/
namespace Bd
open PySem PySem.Spec PyProof.Rows L2
def rSlF (K : PySem.W.Frag) : V → Option Int → Option Int → Hp → VK → Prop := fun x lo hi H Q => ∃ a xs, x = .ref a ∧ SqT K H a xs ∧ (HT.sIx xs.length 0 lo = 0 ∧ HT.sIx xs.length xs.length hi = xs.length → Q (.ref a) H) ∧
  (¬ (HT.sIx xs.length 0 lo = 0 ∧ HT.sIx xs.length xs.length hi = xs.length) → ∀ (p : Addr) (o : Obj), H p = none → o.dict = none → Q (.ref p) (upd H p (.frz o (.tup (cutV xs lo hi)))))
theorem vals_drop {xs : List V} {its : List Value} (h : Vals xs its) : ∀ n, Vals (xs.drop n) (its.drop n) := by
  induction h with
  | nil => intro n; cases n <;> exact .nil
  | cons a b ih =>
    intro n
    cases n with
    | zero => exact .cons a b
    | succ n => exact ih n
theorem vals_take {xs : List V} {its : List Value} (h : Vals xs its) : ∀ n, Vals (xs.take n) (its.take n) := by
  induction h with
  | nil => intro n; cases n <;> exact .nil
  | cons a b ih =>
    intro n
    cases n with
    | zero => exact .nil
    | succ n => exact .cons a (ih n)
theorem sl_tupF {X : Cx} : SlR X (rSlF X.K) := by
  intro pins s σ H x v vl vu lo hi sl Q I rx hsl hl hu h
  obtain ⟨a, xs, rfl, hq, h1, h2⟩ := h
  cases (show v = Value.ref a from rx)
  obtain ⟨its, rv, p, z⟩ := I.tuple hq
  have ln := rv.length
  have sz : its.toArray.size = xs.length := by rw [List.size_toArray, ← ln]
  obtain ⟨o, ho, hc, _⟩ := id p
  refine ⟨"tuple", "tuple.__getitem__", PySem.F.slot_tuple_getitem.lookup, ⟨o, ho, hc⟩, ?_⟩
  by_cases c : HT.sIx xs.length 0 lo = 0 ∧ HT.sIx xs.length xs.length hi = xs.length
  · refine getItem_tuple_whole p hsl hl hu (by rw [sz]; exact c) ?_
    exact ⟨.ref a, H, I, rfl, h1 c⟩
  · refine HT.getItem_tuple_cut p hsl hl hu (by rw [sz]; exact c) ?_ (by rw [sz]; exact z)
    rw [sz, List.toList_toArray]
    have r2 : Vals (cutV xs lo hi) (List.take (HT.sIx xs.length xs.length hi - HT.sIx xs.length 0 lo) (List.drop (HT.sIx xs.length 0 lo) its)) := vals_take (vals_drop rv _) _
    have zc : (cutV xs lo hi).length ≤ sizeLine := by
      refine Nat.le_trans ?_ z
      unfold cutV
      rw [List.length_take, List.length_drop]
      omega
    have I2 := I.laid (a := s.heap.objs.size) (o := .frz { cls := .type "tuple", data := .seq (List.take (HT.sIx xs.length xs.length hi - HT.sIx xs.length 0 lo) (List.drop (HT.sIx xs.length 0 lo) its)).toArray } (.tup (cutV xs lo hi))) (h' := s.heap.push { cls := .type "tuple", data := .seq (List.take (HT.sIx xs.length xs.length hi - HT.sIx xs.length 0 lo) (List.drop (HT.sIx xs.length 0 lo) its)).toArray }) (t' := s.toks) (fun b u e => Heap.get?_push_of_some _ e) (Nat.le_refl _)
      (show ObjOk X.prog X.w _ _ _ (.frz _ (.tup (cutV xs lo hi))) from ⟨Heap.get?_push_size _ rfl, zc, _, r2, PyProof.Rows.IsTup.new _ _⟩)
    exact ⟨.ref s.heap.objs.size, _, I2, rfl, h2 c _ _ (I.hok.fresh (Nat.le_refl _)) rfl⟩
end Bd
end

section
namespace Bd
open PySem L2 Am
open Evl hiding tCut pss_cut
/-! sorted names, lists of pairs joined, the pairs of a dict -/
theorem rising_pw : ∀ (r : List Str) (x : Str), PyProof.Rows.risingS x r = true → (x :: r).Pairwise (fun a b => a.cps.toList ≤ b.cps.toList)
  | [], x, _ => List.pairwise_singleton _ _
  | y :: r, x, h => by
    have h : (!PySem.Spec.ltCps y.cps.toList x.cps.toList && PyProof.Rows.risingS y r) = true := h
    rw [Bool.and_eq_true, PyProof.Rows.ltCps_eq] at h
    have ih := rising_pw r y h.2
    have hxy : x.cps.toList ≤ y.cps.toList := by
      have h1 := h.1
      rw [Bool.not_eq_true', decide_eq_false_iff_not] at h1
      exact List.not_lt.mp h1
    refine List.pairwise_cons.mpr ⟨fun z hz => ?_, ih⟩
    rcases List.mem_cons.mp hz with rfl | hz
    · exact hxy
    · exact List.le_trans hxy ((List.pairwise_cons.mp ih).1 z hz)
theorem sorted_pw {xs : List Str} (h : PyProof.Rows.sortedS xs = true) : xs.Pairwise (fun a b => a.cps.toList ≤ b.cps.toList) := by
  cases xs with
  | nil => exact List.Pairwise.nil
  | cons x r => exact rising_pw r x h
theorem sorted_one {xs ys : List Str} (hx : PyProof.Rows.sortedS xs = true) (hy : PyProof.Rows.sortedS ys = true) (p : xs.Perm ys) : xs = ys :=
  List.Perm.eq_of_pairwise (le := fun a b : Str => a.cps.toList ≤ b.cps.toList) (fun a b _ _ h1 h2 => by
    have e := List.le_antisymm h1 h2
    have : a.cps = b.cps := Array.ext' e
    cases a
    cases b
    congr) (sorted_pw hx) (sorted_pw hy) p
section
variable {K : PySem.W.Frag} {H : Hp} {σ : L2.St} {ta tb te : TE}
abbrev rSortD : List V → Hp → VK → Prop := fun xs H Q => ∃ (a : Addr) (kvs : List (Key × V)) (ks : List Str), xs = [.ref a] ∧ Rd H a (.dK kvs) ∧ kvs.map (·.1) = ks.map Sum.inr ∧ ks.length < 64 ∧
  ∀ ys p, ys.Perm ks → PyProof.Rows.sortedS ys = true → H p = none → Q (.ref p) (upd H p (.lst (ys.map V.str)))
/-- sorted(d) != sorted(names), where the names are d's keys -/
theorem ev_sorts {i j : Nat} {d a : Addr} {kvs : List (Key × V)} {ks : List Str} (hv : σ[i]? = some (some (.ref d))) (fd : H d = some (.dK kvs)) (hk : kvs.map (·.1) = ks.map Sum.inr) (len : ks.length < 64) (hw : σ[j]? = some (some (.ref a))) (fa : SqL K H a (ks.map V.str)) (lay : ∀ x ∈ ks, PyData.canLay0 (.str x) = true) :
    Ev (tOp (rNeD K) (tCB rSortD (tCons (tVar i) tNil)) (tCB (rSortedS K) (tCons (tVar j) tNil))) σ H (.bl false) := fun H1 e Q k =>
  ⟨_, hv, d, kvs, ks, rfl, .inl (e _ _ fd), hk, len, fun ys p hy sy hp => by
    have s1 := Same.new (Same.refl H1) hp (.lst (ys.map V.str))
    have f1 : upd H1 p (.lst (ys.map V.str)) p = some (.lst (ys.map V.str)) := upd_same
    generalize upd H1 p (.lst (ys.map V.str)) = H2 at s1 f1 ⊢
    refine ⟨_, hw, a, ks, rfl, ex_l (e.trans s1) fa, len, fun zs p2 hz sz hp2 => ?_⟩
    have s2 := Same.new (Same.refl H2) hp2 (.lst (zs.map V.str))
    have f2 : upd H2 p2 (.lst (zs.map V.str)) p2 = some (.lst (zs.map V.str)) := upd_same
    generalize upd H2 p2 (.lst (zs.map V.str)) = H3 at s2 f2 ⊢
    have ez : zs = ys := sorted_one sz sy (hz.trans hy.symm)
    subst ez
    refine ⟨.list (zs.map .str), .list (zs.map .str), .lst (SqL.of (s2 _ _ f1)) (dp_strs zs), .lst (SqL.of f2) (dp_strs zs), shaped_strs fun x hx => lay x (hz.subset hx), shaped_strs fun x hx => lay x (hz.subset hx), ?_⟩
    have : PyData.eqv (.list (zs.map .str)) (.list (zs.map .str)) = true := by
      rw [PyData.eqv, eqv_strs, decide_eq_true rfl]
    rw [this]
    exact k H3 (s1.trans s2)⟩
theorem q_parL1 {i j : Nat} {xs : List V} {D : Ends} {tz : TS} {tl : TE} (h : EvL te σ H xs) (k : ∀ p H1, H p = none → Ex H H1 → H1 p = some (.lst xs) → tl σ H1 fun v H2 => ∃ a c, [V.ref p, v] = [a, c] ∧ tz D ((σ.set i (some a)).set j (some c)) H2) : tSeq (tPar i j (tCons te (tCons tl tNil))) tz D σ H :=
  h H (Ex.refl H) _ fun p H1 hp e f => k p H1 hp e f
theorem epl_cat {f : Str → Rat} {ns ms : List Str} (h1 : EvPL K ta σ H f ns) (h2 : EvPL K tb σ H f ms) (len : ns.length + ms.length ≤ 1000) : EvPL K (tOp rCat ta tb) σ H f (ns ++ ms) := fun H1 e Q k =>
  h1 H1 e _ fun l as H2 hl e2 f2 p2 => h2 H2 (e.trans e2) _ fun m bs H3 hm e3 f3 p3 => ⟨l, m, as.map V.ref, bs.map V.ref, rfl, rfl, e3 _ _ f2, f3, by
    rw [List.length_map, List.length_map, Paired.length p2, Paired.length p3]
    exact sz_of (by omega), fun r hr => by
    have s4 := Same.new (Same.refl H3) hr (.lst (as.map V.ref ++ bs.map V.ref))
    refine k r (as ++ bs) _ (fresh_back (e2.trans e3) hr) ((e2.trans e3).trans s4) (by rw [upd_same, List.map_append]) ?_
    have pa := paired_mono (fun _ _ z => PairN.tk (.of (Ex.trans e3 s4)) z) p2
    have pb := paired_mono (fun _ _ z => PairN.tk (.of s4) z) p3
    have app : ∀ {xs ys : List Addr} {us vs : List Str} {F : Addr → Str → Prop}, Paired F xs us → Paired F ys vs → Paired F (xs ++ ys) (us ++ vs) := by
      intro xs ys us vs F a b
      induction a with
      | nil => exact b
      | cons h _ ih => exact .cons h ih
    exact app pa pb⟩
/-- list(d.items()) -/
theorem epl_items {i : Nat} {d : Addr} {kvs : List (Key × V)} {f : Str → Rat} {ns : List Str} (hv : σ[i]? = some (some (.ref d))) (fd : H d = some (.dK kvs)) (m : MapR (AmR K f) H kvs ns) : EvPL K (LiI.tListItems (tVar i)) σ H f ns := fun H1 e Q k =>
  ⟨_, hv, d, kvs, rfl, e _ _ fd, fun H' p ts hH hp hts hpt hl hpair => by
    refine k p ts H' hp hH hl ?_
    have m' : MapR (AmR K f) H' kvs ns := m.mono fun _ _ z => AmtQ.same (e.trans hH) z
    have main : ∀ {ts : List Addr} {kvs : List (Key × V)} {ns : List Str}, Paired (fun (t : Addr) (q : Key × V) => H' t = some (.tup [kV q.1, q.2])) ts kvs → MapR (AmR K f) H' kvs ns → Paired (PairN K f H') ts ns := by
      intro ts kvs ns a b
      induction a generalizing ns with
      | nil => cases b; exact .nil
      | cons h _ ih =>
        cases b with
        | cons g gs =>
          rw [g.1] at h
          exact .cons ⟨_, SqT.of h, g.2⟩ (ih gs)
    exact main hpair m'⟩
theorem epl_is {f : Str → Rat} {xs ys : List Str} (h : EvPL K te σ H f xs) (e : xs = ys) : EvPL K te σ H f ys := e ▸ h
theorem epl_congr {f g : Str → Rat} {xs : List Str} (h : EvPL K te σ H f xs) (e : ∀ n ∈ xs, f n = g n) : EvPL K te σ H g xs := fun H1 e1 Q k => h H1 e1 Q fun l as H2 a b c p => k l as H2 a b c (by
    have main : ∀ {as : List Addr} {xs : List Str}, Paired (PairN K f H2) as xs → (∀ n ∈ xs, f n = g n) → Paired (PairN K g H2) as xs := by
      intro as xs a
      induction a with
      | nil => exact fun _ => .nil
      | cons h _ ih =>
        intro e
        obtain ⟨u, h1, h2⟩ := h
        exact .cons ⟨u, h1, by rw [← e _ List.mem_cons_self]; exact h2⟩ (ih fun n hn => e n (List.mem_cons_of_mem _ hn))
    exact main p e)
theorem em_is {f : Str → Rat} {xs ys : List Str} (h : EvM K te σ H f xs) (e : xs = ys) : EvM K te σ H f ys := e ▸ h
theorem em_congr {f g : Str → Rat} {xs : List Str} (h : EvM K te σ H f xs) (e : ∀ n ∈ xs, f n = g n) : EvM K te σ H g xs := fun H1 e1 Q k => h H1 e1 Q fun d kvs H2 a b c m => k d kvs H2 a b c (mapR_congr m e)
theorem fid {xs : List Str} : (xs.filter fun _ => true).map id = xs := by rw [List.filter_eq_self.mpr fun _ _ => rfl, List.map_id]
end
end Bd
end

section
namespace Bd
open PySem L2 Am
open Evl hiding tCut pss_cut

/-! what the laws of guarantees share -/
theorem flt_one {α : Type} {key : α → Str} : ∀ {xs : List α}, (xs.map key).Nodup → ∀ {y : α}, y ∈ xs → xs.filter (fun x => decide (key x = key y)) = [y]
  | [], _, y, hy => by cases hy
  | x :: xs, nd, y, hy => by
    obtain ⟨h1, h2⟩ := List.nodup_cons.mp nd
    rcases List.mem_cons.mp hy with e | m
    · subst e
      rw [List.filter_cons_of_pos (p := fun x => decide (key x = key y)) (decide_eq_true rfl)]
      have : xs.filter (fun x => decide (key x = key y)) = [] := List.filter_eq_nil_iff.mpr fun z hz e => h1 (by rw [← of_decide_eq_true e]; exact List.mem_map_of_mem hz)
      rw [this]
    · have hne : ¬ key x = key y := fun e => h1 (by rw [e]; exact List.mem_map_of_mem m)
      rw [List.filter_cons_of_neg (by rw [decide_eq_false hne]; decide)]
      exact flt_one h2 m
/-- [row[j] for row in rows if row[0] == name] -/
theorem el_rowj {K : PySem.W.Frag} {H : Hp} {σ : L2.St} {i j m : Nat} {f : Int} {l a t : Addr} {ws : List V} {rs : List RowM} {vs : List Nat} {z : RowM} {v : V} (hv : σ[i]? = some (some (.ref l))) (hl : SqL K H l ws) (hp : Paired (RowAt K H) ws rs) (nd : (nms rs).Nodup) (len : rs.length ≤ 200) {jz : Nat} (hjz : rs[jz]? = some z) (hwz : ws[jz]? = some (.ref a)) (hrow : SqT K H a [.str z.name, .str z.above, .ref t]) (hf : atI [V.str z.name, .str z.above, .ref t] f = some v)
    (hw : ∀ x, wipe ((wipe σ vs).set j (some x)) vs = wipe σ vs) (h3 : ∀ x, ((wipe σ vs).set j (some x))[j]? = some (some x)) (h4 : ∀ x, ((wipe σ vs).set j (some x))[m]? = some (some (.str z.name))) :
    EvL (tLc (iList K (tVar i)) (gName j) (tTest (tOp rEq (tOp (rIxT K) (tVar j) (tC (.int 0))) (tVar m))) (tOp (rIxT K) (tVar j) (tC (.int f))) vs) σ H [v] := by
  have wl : ws.length = rs.length := Paired.length hp
  have zl : (ws.zip rs).length = ws.length := by rw [List.length_zip, wl, Nat.min_self]
  have zat : ∀ {i : Nat} {x : V} {y : V × RowM}, ws[i]? = some x → (ws.zip rs)[i]? = some y → y.1 = x ∧ rs[i]? = some y.2 := fun {i x y} h1 h2 => by
    obtain ⟨g1, g2⟩ := List.getElem?_zip_eq_some.mp h2
    rw [h1] at g1
    exact ⟨(Option.some.inj g1).symm, g2⟩
  have el := lcL (K := K) (a := l) (ws := ws) (tl := tVar i) (te := tOp (rIxT K) (tVar j) (tC (.int f))) (t := tTest (tOp rEq (tOp (rIxT K) (tVar j) (tC (.int 0))) (tVar m))) (j := j) (vs := vs) (σ := σ) (H := H) (ws.zip rs) (fun y : V × RowM => decide (y.2.name = z.name)) (fun _ : V × RowM => v) (ev_var hv) hl zl.symm (by omega) hw (fun i x y H1 e h1 h2 => by
      obtain ⟨g1, g2⟩ := zat h1 h2
      obtain ⟨r, hr, b, t, rfl, hrow, _⟩ := paired_get hp h1
      rw [g2] at hr
      cases Option.some.inj hr
      exact et_is (et_test (ev_op (ev_op (ev_var (h3 _)) ev_c (rv_ixT (ex_t e hrow) rfl)) (ev_var (h4 _)) (rv_eq rfl))) (dec_strs _ _)) (fun i x y H1 e h1 h2 hp2 => by
      obtain ⟨g1, g2⟩ := zat h1 h2
      have e1 := row_inj nd g2 hjz (of_decide_eq_true hp2)
      subst e1
      rw [hwz] at h1
      cases Option.some.inj h1
      exact ev_op (ev_var (h3 _)) ev_c (rv_ixT (ex_t e hrow) hf))
  have e1 : ((ws.zip rs).filter fun y : V × RowM => decide (y.2.name = z.name)) = [(V.ref a, z)] := by
    have nd2 : ((ws.zip rs).map fun y : V × RowM => y.2.name).Nodup := by
      have : (ws.zip rs).map (fun y : V × RowM => y.2.name) = nms rs := by
        unfold nms
        have h5 : (ws.zip rs).map Prod.snd = rs := List.map_snd_zip (by omega)
        conv => rhs; rw [← h5]
        rw [List.map_map]
        rfl
      rw [this]
      exact nd
    exact flt_one (key := fun y : V × RowM => y.2.name) nd2 (y := (V.ref a, z)) (List.mem_of_getElem? (i := jz) (List.getElem?_zip_eq_some.mpr ⟨hwz, hjz⟩))
  rw [e1] at el
  exact el
/-- a row of the list -/
theorem row_here {K : PySem.W.Frag} {H : Hp} {ws : List V} {rs : List RowM} (hp : Paired (RowAt K H) ws rs) {n : Str} (hn : n ∈ nms rs) : ∃ (jz : Nat) (z : RowM) (a t : Addr), rs[jz]? = some z ∧ z ∈ rs ∧ z.name = n ∧ ws[jz]? = some (.ref a) ∧ SqT K H a [.str z.name, .str z.above, .ref t] ∧ DuesAt K H t z.dues := by
  have wl : ws.length = rs.length := Paired.length hp
  obtain ⟨z, hz, e⟩ := List.mem_map.mp hn
  obtain ⟨jz, hjz⟩ := List.mem_iff_getElem?.mp hz
  have lz := (List.getElem?_eq_some_iff.mp hjz).1
  have hv' : ws[jz]? = some ws[jz] := List.getElem?_eq_getElem (by omega)
  obtain ⟨z', hz', a, t, ea, hrow, hdu⟩ := paired_get hp hv'
  rw [hjz] at hz'
  cases Option.some.inj hz'
  exact ⟨jz, z, a, t, hjz, hz, e, by rw [hv', ea], hrow, hdu⟩
theorem elq_listG {K : PySem.W.Frag} {H : Hp} {σ : L2.St} {te tl : TE} {j : Nat} {vs : List Nat} {ns : List Str} {f : Str → Rat} (hl : EvL tl σ H (ns.map V.str)) (len : ns.length ≤ 900) (hw : ∀ x, wipe ((wipe σ vs).set j (some x)) vs = wipe σ vs)
    (hv : ∀ n ∈ ns, ∀ G, Ex H G → EvQ K te ((wipe σ vs).set j (some (.str n))) G (f n)) : EvLQ K (tLc (iList K tl) (gName j) tYes te vs) σ H (ns.map f) := fun H1 e Q k =>
  hl H1 e _ fun l H2 hl2 e2 f2 => elq_list (K := K) (H := H2) (tl := tC (.ref l)) ev_c (sq_of f2) len hw (fun n hn G e3 => hv n hn G ((e.trans e2).trans e3)) H2 (Ex.refl _) Q fun l2 ws H3 a b c p => k l2 ws H3 (fresh_back e2 a) (e2.trans b) c p
theorem eq_lsumG {K : PySem.W.Frag} {H : Hp} {σ : L2.St} {tl : TE} {E : XK} {qs : List Rat} {M S : Nat} (h : EvLQ K tl σ H qs) (M0 : 0 < M) (hM : M < 2 ^ 2700) (hS : S < 2 ^ 200) (hl : qs.length ≤ 200) (hd : ∀ q ∈ qs, InMS M S q) : EvQ K (tCall (spLSum K) [] E (tCons tl tNil)) σ H (sumQ qs) := fun H1 e Q k =>
  h H1 e _ fun p ws H2 _ e2 f2 p2 => ⟨p, ws, qs, M, S, rfl, SqL.of f2, p2, M0, hM, hS, hl, hd, fun v H' s hv => k v H' (e2.trans s) hv⟩
theorem ev_first {K : PySem.W.Frag} {H : Hp} {σ : L2.St} {te : TE} {v : V} (h : EvL te σ H [v]) : Ev (tOp (rIxL K) te (tC (.int 0))) σ H v := fun H1 e Q q =>
  h H1 e _ fun p H2 hp e2 f2 => ⟨p, _, 0, v, rfl, rfl, sq_of f2, rfl, q H2 e2⟩
def spGSet (K : PySem.W.Frag) : Sp := fun vs H Q _ => ∃ (l : Addr) (n kd : Str) (ws : List V) (rs : List RowM) (k : Str → Rat), vs = [.ref l, .str n, .str kd] ∧ SqL K H l ws ∧ Paired (RowAt K H) ws rs ∧ RowsOk rs ∧ rs.length ≤ 200 ∧ n ∈ nms rs ∧ (kd = "min" ∨ kd = "low") ∧ KindOk rs kd k ∧ ∀ v H', Same H H' → AmtQ K H' v (k n) → Q v H'
def spGAbove (K : PySem.W.Frag) : Sp := fun vs H Q _ => ∃ (l : Addr) (n : Str) (ws : List V) (rs : List RowM), vs = [.ref l, .str n] ∧ SqL K H l ws ∧ Paired (RowAt K H) ws rs ∧ RowsOk rs ∧ rs.length ≤ 200 ∧ n ∈ nms rs ∧ ∀ H', Same H H' → Q (.str (abv rs n)) H'
def spGKids (K : PySem.W.Frag) : Sp := fun vs H Q _ => ∃ (l : Addr) (n : Str) (ws : List V) (rs : List RowM), vs = [.ref l, .str n] ∧ SqL K H l ws ∧ Paired (RowAt K H) ws rs ∧ rs.length ≤ 200 ∧ ∀ r H', H r = none → Same H H' → H' r = some (.lst ((kidsOf rs (Sum.inr n)).map .str)) → Q (.ref r) H'
def besG (rs : List RowM) (n : Str) : List Str := (kidsOf rs (Sum.inr (abv rs n))).filter fun x => !decide (x = n)
def spGBes (K : PySem.W.Frag) : Sp := fun vs H Q _ => ∃ (l : Addr) (n : Str) (ws : List V) (rs : List RowM), vs = [.ref l, .str n] ∧ SqL K H l ws ∧ Paired (RowAt K H) ws rs ∧ RowsOk rs ∧ rs.length ≤ 200 ∧ n ∈ nms rs ∧ ∀ r H', H r = none → Same H H' → H' r = some (.lst ((besG rs n).map .str)) → Q (.ref r) H'
def spGIns (K : PySem.W.Frag) : Sp := fun vs H Q _ => ∃ (l : Addr) (top : Str) (ws : List V) (rs : List RowM), vs = [.ref l, .str top] ∧ SqL K H l ws ∧ Paired (RowAt K H) ws rs ∧ rs.length ≤ 200 ∧ ∀ r H', H r = none → Same H H' → H' r = some (.lst ((belowL rs top).map .str)) → Q (.ref r) H'
def spGPath (K : PySem.W.Frag) : Sp := fun vs H Q _ => ∃ (l : Addr) (n top : Str) (ws : List V) (rs : List RowM), vs = [.ref l, .str n, .str top] ∧ SqL K H l ws ∧ Paired (RowAt K H) ws rs ∧ RowsOk rs ∧ rs.length ≤ 200 ∧ n ∈ nms rs ∧ wayL rs n top ≠ [] ∧ ∀ r H', H r = none → Same H H' → H' r = some (.lst ((wayL rs n top).map .str)) → Q (.ref r) H'
def spGAsk (K : PySem.W.Frag) : Sp := fun vs H Q _ => ∃ (l : Addr) (n kd : Str) (ws : List V) (rs : List RowM) (k : Str → Rat), vs = [.ref l, .str n, .str kd] ∧ SqL K H l ws ∧ Paired (RowAt K H) ws rs ∧ RowsOk rs ∧ rs.length ≤ 200 ∧ n ∈ nms rs ∧ (kd = "min" ∨ kd = "low") ∧ KindOk rs kd k ∧ (∃ M S : Nat, 0 < M ∧ M < 2 ^ 2700 ∧ S < 2 ^ 200 ∧ ∀ y ∈ nms rs, InMS M S (k y)) ∧ ∀ v H', Same H H' → AmtQ K H' v (sumQ ((besG rs n).map k)) → Q v H'
def spGrown (K : PySem.W.Frag) : Sp := fun vs H Q _ => ∃ (s : Addr) (m : Nat), vs = [.ref s, .int (m : Int)] ∧ Src H s ∧ m ≤ 12 ∧ ∀ r H' ws rs nn, RD K H' s r ws rs → H r = none → RowsOk rs → RowsI nn ["min", "low"] rs → rs.length = m → Kept s H H' → Q (.ref r) H'
structure GSt (K : PySem.W.Frag) (H G : Hp) (p nl fl : Addr) (ns : List Str) (ws : List V) (rs : List RowM) : Prop where
  src : Src G p
  k : Kept p H G
  enl : G nl = some (.lst (ns.map .str))
  efl : G fl = some (.lst ws)
  rows : Paired (RowAt K G) ws rs
  rI : RowsI ns ["min", "low"] rs
  pn : p ≠ nl
  pf : p ≠ fl
  nf : nl ≠ fl
  f0 : H fl = none
theorem GSt.next {K : PySem.W.Frag} {H G G' : Hp} {p nl fl : Addr} {ns : List Str} {ws : List V} {rs : List RowM} (h : GSt K H G p nl fl ns ws rs) (s : Src G' p) (k : Kept p G G') : GSt K H G' p nl fl ns ws rs := by
  have t := src_tkE h.src k
  refine ⟨s, h.k.trans k, k _ _ h.pn.symm h.enl, k _ _ h.pf.symm h.efl, paired_monoM (fun x y hy z => t.row ?_ z) h.rows, h.rI, h.pn, h.pf, h.nf, h.f0⟩
  obtain ⟨j, hj⟩ := List.mem_iff_getElem?.mp hy
  exact dues_dok w2ok (h.rI j y hj).2.2
theorem GSt.same {K : PySem.W.Frag} {H G G' : Hp} {p nl fl : Addr} {ns : List Str} {ws : List V} {rs : List RowM} (h : GSt K H G p nl fl ns ws rs) (e : Ex G G') : GSt K H G' p nl fl ns ws rs := h.next (src_ex e h.src) (Kept.of e)
section
variable {P : Program} {w : World} {K : PySem.W.Frag} {mg : Str → Option Value} {base : Heap} {C CN CW : Addr}
end
theorem el_gkids {K : PySem.W.Frag} {H : Hp} {σ : L2.St} {tn : TE} {E : XK} {i : Nat} {l : Addr} {n : Str} {ws : List V} {rs : List RowM} (hi : σ[i]? = some (some (.ref l))) (hx : Ev tn σ H (.str n)) (hl : SqL K H l ws) (hp : Paired (RowAt K H) ws rs) (len : rs.length ≤ 200) :
    EvL (tCall (spGKids K) [] E (tCons (tVar i) (tCons tn tNil))) σ H ((kidsOf rs (Sum.inr n)).map .str) := fun H1 e Q q =>
  ⟨_, hi, hx H1 e _ fun H2 e2 => ⟨l, n, ws, rs, rfl, ex_l (e.trans e2) hl, rows_same (e.trans e2) hp, len, fun r H3 a b c => q r H3 (fresh_back e2 a) (e2.trans b) c⟩⟩
theorem ev_gabove {K : PySem.W.Frag} {H : Hp} {σ : L2.St} {tn : TE} {E : XK} {i : Nat} {l : Addr} {n : Str} {ws : List V} {rs : List RowM} (hi : σ[i]? = some (some (.ref l))) (hx : Ev tn σ H (.str n)) (hl : SqL K H l ws) (hp : Paired (RowAt K H) ws rs) (rok : RowsOk rs) (len : rs.length ≤ 200) (hn : n ∈ nms rs) :
    Ev (tCall (spGAbove K) [] E (tCons (tVar i) (tCons tn tNil))) σ H (.str (abv rs n)) := fun H1 e Q q =>
  ⟨_, hi, hx H1 e _ fun H2 e2 => ⟨l, n, ws, rs, rfl, ex_l (e.trans e2) hl, rows_same (e.trans e2) hp, rok, len, hn, fun H3 b => q H3 (e2.trans b)⟩⟩
end Bd
end

section
namespace Bd
open PySem L2 Am
open Evl hiding tCut pss_cut

/-! differences below nothing -/
def spCommonI : Sp := fun vs H Q _ => ∃ (x : Int) (b : Nat), vs = [.int x, .int (b : Int)] ∧ Q (.int ((Nat.gcd x.natAbs b : Nat) : Int)) H
def spFracI (K : PySem.W.Frag) : Sp := fun vs H Q _ => ∃ (n : Int) (b : Nat), vs = [.int n, .int (b : Int)] ∧ 0 < b ∧ b < 2 ^ 9000 ∧ ∀ v H', Same H H' → AmtQ K H' v (mkRat n b) → Q v H'
def spMinusI (K : PySem.W.Frag) : Sp := fun vs H Q _ => ∃ (va vb : V) (a b : Rat), vs = [va, vb] ∧ AmtQ K H va a ∧ AmtQ K H vb b ∧ Sz a ∧ Sz b ∧ ∀ v H', Same H H' → AmtQ K H' v (a - b) → Q v H'
theorem eq_fracI {K : PySem.W.Frag} {H : Hp} {σ : L2.St} {ta tb : TE} {E : XK} {n : Int} {b : Nat} (ha : Ev ta σ H (.int n)) (hb : Ev tb σ H (.int (b : Int))) (b0 : 0 < b) (hl : b < 2 ^ 9000) : EvQ K (tCall (spFracI K) [] E (tCons ta (tCons tb tNil))) σ H (mkRat n b) := fun H1 e Q k =>
  ha H1 e _ fun H2 e2 => hb H2 (e.trans e2) _ fun H3 e3 => ⟨n, b, rfl, b0, hl, fun v H4 s hv => k v H4 ((e2.trans e3).trans s) hv⟩
theorem rat_pos (x : Rat) : 0 < x ↔ 0 < x.num := by
  rw [Rat.lt_iff]
  show (0 : Int) * (x.den : Int) < x.num * ((1 : Nat) : Int) ↔ _
  omega
def mx0 (x : Rat) : Rat := if x < 0 then 0 else x
theorem sz_diff {M S m s : Nat} {a b : Rat} (ha : InMS M S a) (hb : InMS M S b) (M0 : 0 < M) (hM : M < 2 ^ m) (hS : S < 2 ^ s) (z : s + m ≤ 3000) : Sz (a - b) := by
  by_cases c : b ≤ a
  · exact (InMS.sub ha (hb.of M0) hb.lo M0 c).sz M0 hM hS z
  · have h1 := (InMS.sub hb (ha.of M0) ha.lo M0 (by grind)).sz M0 hM hS z
    have e : a - b = -(b - a) := by grind
    rw [e]
    refine ⟨?_, ?_⟩
    · rw [Rat.neg_num, Int.natAbs_neg]
      exact h1.1
    · rw [Rat.neg_den]
      exact h1.2
theorem eq_minusI {K : PySem.W.Frag} {H : Hp} {σ : L2.St} {ta tb : TE} {E : XK} {a b : Rat} (ha : EvQ K ta σ H a) (hb : EvQ K tb σ H b) (za : Sz a) (zb : Sz b) : EvQ K (tCall (spMinusI K) [] E (tCons ta (tCons tb tNil))) σ H (a - b) := fun H1 e Q k =>
  ea_two ha hb e fun va vb H2 e2 qa qb => ⟨va, vb, a, b, rfl, qa, qb, za, zb, fun v H' s h => k v H' (e2.trans s) h⟩
theorem eq_lplusQ {K : PySem.W.Frag} {H : Hp} {σ : L2.St} {ta tb : TE} {E : XK} {a b : Rat} (ha : EvQ K ta σ H a) (hb : EvQ K tb σ H b) (za : Sz a) (zb : Sz b) (a0 : 0 ≤ a) (b0 : 0 ≤ b) : EvQ K (tCall (spLPlus K) [] E (tCons ta (tCons tb tNil))) σ H (a + b) := fun H1 e Q k =>
  ea_two ha hb e fun va vb H2 e2 qa qb => ⟨va, vb, a, b, rfl, qa, qb, za, zb, a0, b0, trivial, fun v H' s h => k v H' (e2.trans s) h⟩
theorem eq_gset {K : PySem.W.Frag} {H : Hp} {σ : L2.St} {tn tk : TE} {E : XK} {i : Nat} {l : Addr} {n kd : Str} {ws : List V} {rs : List RowM} {k : Str → Rat} (hi : σ[i]? = some (some (.ref l))) (hx : Ev tn σ H (.str n)) (hk : Ev tk σ H (.str kd)) (hl : SqL K H l ws) (hp : Paired (RowAt K H) ws rs) (rok : RowsOk rs) (len : rs.length ≤ 200) (hn : n ∈ nms rs) (hkd : kd = "min" ∨ kd = "low") (hK : KindOk rs kd k) :
    EvQ K (tCall (spGSet K) [] E (tCons (tVar i) (tCons tn (tCons tk tNil)))) σ H (k n) := fun H1 e Q q =>
  ⟨_, hi, hx H1 e _ fun H2 e2 => hk H2 (e.trans e2) _ fun H3 e3 => ⟨l, n, kd, ws, rs, k, rfl, ex_l (e.trans (e2.trans e3)) hl, rows_same (e.trans (e2.trans e3)) hp, rok, len, hn, hkd, hK, fun v H4 s hv => q v H4 ((e2.trans e3).trans s) hv⟩⟩
theorem eq_gaskW {K : PySem.W.Frag} {H : Hp} {σ : L2.St} {tn tk : TE} {E : XK} {i : Nat} {l : Addr} {n kd : Str} {ws : List V} {rs : List RowM} {k : Str → Rat} (hi : σ[i]? = some (some (.ref l))) (hx : Ev tn σ H (.str n)) (hk : Ev tk σ H (.str kd)) (hl : SqL K H l ws) (hp : Paired (RowAt K H) ws rs) (rok : RowsOk rs) (len : rs.length ≤ 200) (hn : n ∈ nms rs) (hkd : kd = "min" ∨ kd = "low") (hK : KindOk rs kd k) (hk0 : ∃ M S : Nat, 0 < M ∧ M < 2 ^ 2700 ∧ S < 2 ^ 200 ∧ ∀ y ∈ nms rs, InMS M S (k y)) :
    EvQ K (tCall (spGAsk K) [] E (tCons (tVar i) (tCons tn (tCons tk tNil)))) σ H (sumQ ((besG rs n).map k)) := fun H1 e Q q =>
  ⟨_, hi, hx H1 e _ fun H2 e2 => hk H2 (e.trans e2) _ fun H3 e3 => ⟨l, n, kd, ws, rs, k, rfl, ex_l (e.trans (e2.trans e3)) hl, rows_same (e.trans (e2.trans e3)) hp, rok, len, hn, hkd, hK, hk0, fun v H4 s hv => q v H4 ((e2.trans e3).trans s) hv⟩⟩
theorem eq_gask {K : PySem.W.Frag} {H : Hp} {σ : L2.St} {tn tk : TE} {E : XK} {i : Nat} {l : Addr} {n kd : Str} {ws : List V} {rs : List RowM} {k : Str → Rat} (hi : σ[i]? = some (some (.ref l))) (hx : Ev tn σ H (.str n)) (hk : Ev tk σ H (.str kd)) (hl : SqL K H l ws) (hp : Paired (RowAt K H) ws rs) (rok : RowsOk rs) (len : rs.length ≤ 200) (hn : n ∈ nms rs) (hkd : kd = "min" ∨ kd = "low") (hK : KindOk rs kd k) (hk0 : ∀ n, Drawn (k n)) :
    EvQ K (tCall (spGAsk K) [] E (tCons (tVar i) (tCons tn (tCons tk tNil)))) σ H (sumQ ((besG rs n).map k)) := eq_gaskW hi hx hk hl hp rok len hn hkd hK ⟨2520, 10 ^ 13, by decide, by decide, by decide, fun y _ => (hk0 y).ms⟩
theorem et_fullN2 {K : PySem.W.Frag} {H : Hp} {σ : L2.St} {te : TE} {xs : List Str} (h : EvL te σ H (xs.map .str)) (lay : ∀ x ∈ xs, PyData.canLay0 (.str x) = true) : EvT (tTest (tOp (rNeD K) te (tLst tNil))) σ H (!xs.isEmpty) :=
  et_test (ev_opLL h (el_lst ea_nil (Nat.zero_le _)) fun p q H1 h1 h2 e1 => rv_val fun H2 e2 Q k => ⟨.list (xs.map .str), .list [], .lst (SqL.of (e2 _ _ h1)) (dp_strs xs), .lst (SqL.of (e2 _ _ h2)) .nil, shaped_strs lay, by simp [SeqAt.shaped, PyData.canLay0, PyData.canLayAll0, PyData.depth, PyData.depthAll], by
    have : PyData.eqv (.list (xs.map .str)) (.list []) = xs.isEmpty := by cases xs <;> simp [PyData.eqv, PyData.eqvAll]
    rw [this]
    exact k⟩)
theorem el_gbes {K : PySem.W.Frag} {H : Hp} {σ : L2.St} {tn : TE} {E : XK} {i : Nat} {l : Addr} {n : Str} {ws : List V} {rs : List RowM} (hi : σ[i]? = some (some (.ref l))) (hx : Ev tn σ H (.str n)) (hl : SqL K H l ws) (hp : Paired (RowAt K H) ws rs) (rok : RowsOk rs) (len : rs.length ≤ 200) (hn : n ∈ nms rs) :
    EvL (tCall (spGBes K) [] E (tCons (tVar i) (tCons tn tNil))) σ H ((besG rs n).map .str) := fun H1 e Q q =>
  ⟨_, hi, hx H1 e _ fun H2 e2 => ⟨l, n, ws, rs, rfl, ex_l (e.trans e2) hl, rows_same (e.trans e2) hp, rok, len, hn, fun r H3 a b c => q r H3 (fresh_back e2 a) (e2.trans b) c⟩⟩
theorem el_gpath {K : PySem.W.Frag} {H : Hp} {σ : L2.St} {tn tt : TE} {E : XK} {i : Nat} {l : Addr} {n top : Str} {ws : List V} {rs : List RowM} (hi : σ[i]? = some (some (.ref l))) (hx : Ev tn σ H (.str n)) (ht : Ev tt σ H (.str top)) (hl : SqL K H l ws) (hp : Paired (RowAt K H) ws rs) (rok : RowsOk rs) (len : rs.length ≤ 200) (hn : n ∈ nms rs) (hw : wayL rs n top ≠ []) :
    EvL (tCall (spGPath K) [] E (tCons (tVar i) (tCons tn (tCons tt tNil)))) σ H ((wayL rs n top).map .str) := fun H1 e Q q =>
  ⟨_, hi, hx H1 e _ fun H2 e2 => ht H2 (e.trans e2) _ fun H3 e3 => ⟨l, n, top, ws, rs, rfl, ex_l (e.trans (e2.trans e3)) hl, rows_same (e.trans (e2.trans e3)) hp, rok, len, hn, hw, fun r H4 a b c => q r H4 (fresh_back (e2.trans e3) a) ((e2.trans e3).trans b) c⟩⟩
def spSure (K : PySem.W.Frag) : Sp := fun vs H Q _ => ∃ (l : Addr) (h : Bool) (n top kd : Str) (ws : List V) (rs : List RowM) (k : Str → Rat), vs = [.ref l, .bl h, .str n, .str top, .str kd] ∧ SqL K H l ws ∧ Paired (RowAt K H) ws rs ∧ RowsOk rs ∧ rs.length ≤ 12 ∧ n ∈ nms rs ∧ (kd = "min" ∨ kd = "low") ∧ wayL rs n top ≠ [] ∧ KindOk rs kd k ∧ (∀ n, Drawn (k n)) ∧
  ∀ v q H', Same H H' → AmtQ K H' v q → safeF (stepsL rs h k (wayL rs n top)) none 0 = some q → Q v H'
theorem way_last {rs : List RowM} {n top : Str} {m : Nat} (w : WayOk rs n top m) : lastL (wayL rs n top) = upA rs n (m - 1) := by
  have hm : m = m - 1 + 1 := by have := w.pos; omega
  rw [w.is]
  conv => lhs; rw [hm, List.range_succ, List.map_append]
  unfold lastL
  simp
theorem up_distinct {rs : List RowM} (rok : RowsOk rs) {n : Str} (hn : n ∈ nms rs) {top : Str} {m : Nat} (w : WayOk rs n top m) {i j : Nat} (hi : i < m) (hj : j < m) (e : upA rs n i = upA rs n j) : i = j := by
  have key : ∀ {i j : Nat}, i < m → j < m → upA rs n i = upA rs n j → i < j → False := fun {i j} hi hj e l => by
    obtain ⟨r, hr, e1, _⟩ := w.row rok hn hi
    refine no_round (n := upA rs n i) rok (e1 ▸ List.mem_map_of_mem hr : upA rs n i ∈ nms rs) (a := j - i - 1) (b := 0) ?_ rfl
    rw [← upA_add]
    have : i + (j - i - 1 + 1) = j := by omega
    rw [this, ← e]
  rcases Nat.lt_trichotomy i j with l | l | l
  · exact (key hi hj e l).elim
  · exact l
  · exact (key hj hi e.symm l).elim
/-- the steps, one by one -/
theorem step_at {rs : List RowM} (rok : RowsOk rs) {n : Str} (hn : n ∈ nms rs) {top : Str} {m : Nat} (w : WayOk rs n top m) {h : Bool} {k : Str → Rat} {i : Nat} (hi : i < m) : ∃ B : Rat, (stepsL rs h k (wayL rs n top))[i]? = some (k (upA rs n i), B, !h || (decide (i = m - 1) || !(besG rs (upA rs n i)).isEmpty)) ∧ (i + 1 < m → B = sumQ ((besG rs (upA rs n i)).map k)) := by
  have hl := way_last w
  have ea : abv rs (lastL (wayL rs n top)) = top := by
    rw [hl]
    show upA rs n (m - 1 + 1) = top
    rw [← w.end_]
    congr 1
    have := w.pos
    omega
  have hs : (stepsL rs h k (wayL rs n top))[i]? = some (stepOf rs h k top (upA rs n (m - 1)) (upA rs n i)) := by
    unfold stepsL
    rw [ea, hl, w.is, List.getElem?_map, List.getElem?_map, List.getElem?_range hi]
    rfl
  have hd : decide (upA rs n i = upA rs n (m - 1)) = decide (i = m - 1) := decide_eq_decide.mpr ⟨fun e => up_distinct rok hn w hi (by have := w.pos; omega) e, fun e => by rw [e]⟩
  refine ⟨(stepOf rs h k top (upA rs n (m - 1)) (upA rs n i)).2.1, ?_, ?_⟩
  · rw [hs]
    unfold stepOf
    dsimp only
    rw [hd]
    by_cases c : i = m - 1
    · rw [decide_eq_true c, Bool.true_or, Bool.true_or]
    · have hne : abv rs (upA rs n i) ≠ top := (w.lt (i + 1) (by omega)).1
      have hsib : sibL rs (upA rs n i) top = besG rs (upA rs n i) := by
        unfold sibL besG
        rw [if_neg hne]
      rw [hsib, decide_eq_false c, Bool.false_or, Bool.false_or]
      congr 3
      cases besG rs (upA rs n i) with
      | nil => rfl
      | cons _ _ => simp
  · intro h1
    have hne : abv rs (upA rs n i) ≠ top := (w.lt (i + 1) h1).1
    unfold stepOf sibL besG
    dsimp only
    rw [if_neg hne]
theorem mx_own {s a : Rat} : (if a < s then s - a else 0) = mx0 (s - a) := by
  unfold mx0
  by_cases c : a < s
  · rw [if_pos c, if_neg (by grind)]
  · rw [if_neg c]
    by_cases d : s - a < 0
    · rw [if_pos d]
    · rw [if_neg d]
      grind
theorem mx_min {f r : Rat} : (if mx0 r < mx0 f then mx0 r else mx0 f) = mx0 (if f < r then f else r) := by
  unfold mx0
  by_cases c1 : r < 0 <;> by_cases c2 : f < 0 <;> by_cases c3 : f < r <;> simp only [c1, c2, c3, if_true, if_false] <;> grind
theorem el_gins {K : PySem.W.Frag} {H : Hp} {σ : L2.St} {tn : TE} {E : XK} {i : Nat} {l : Addr} {top : Str} {ws : List V} {rs : List RowM} (hi : σ[i]? = some (some (.ref l))) (hx : Ev tn σ H (.str top)) (hl : SqL K H l ws) (hp : Paired (RowAt K H) ws rs) (len : rs.length ≤ 200) :
    EvL (tCall (spGIns K) [] E (tCons (tVar i) (tCons tn tNil))) σ H ((belowL rs top).map .str) := fun H1 e Q q =>
  ⟨_, hi, hx H1 e _ fun H2 e2 => ⟨l, top, ws, rs, rfl, ex_l (e.trans e2) hl, rows_same (e.trans e2) hp, len, fun r H3 a b c => q r H3 (fresh_back e2 a) (e2.trans b) c⟩⟩
theorem eq_safe {K : PySem.W.Frag} {H : Hp} {σ : L2.St} {tn tt tk' : TE} {E : XK} {C : Addr} {i : Nat} {p : Addr} {n top kd : Str} {rs : List RowM} {h : Bool} {tk : List (Key × V)} {k : Str → Rat} {q : Rat} {M S : Nat} (hi : σ[i]? = some (some (.ref p))) (hx : Ev tn σ H (.str n)) (ht' : Ev tt σ H (.str top)) (hk' : Ev tk' σ H (.str kd)) (ht : TreeAt K H C p rs h tk) (rok : RowsOk rs) (len : rs.length ≤ 200) (hn : n ∈ nms rs) (hc1 : top ∈ ("" : Str) :: nms rs) (hc2 : top = "" ∨ kidsOf rs (Sum.inr top) ≠ []) (hkd : kd = "min" ∨ kd = "low") (hw : wayL rs n top ≠ []) (hK : KindOk rs kd k)
    (M0 : 0 < M) (hM : M < 2 ^ 180) (hS : S < 2 ^ 200) (hk : ∀ r ∈ rs, InMS M S (k r.name)) (hq : safeF (stepsL rs h k (wayL rs n top)) none 0 = some q) : EvQ K (tCall (spSafe K C) [] E (tCons (tVar i) (tCons tn (tCons tt (tCons tk' tNil))))) σ H q := fun H1 e Q z =>
  ⟨_, hi, hx H1 e _ fun H2 e2 => ht' H2 (e.trans e2) _ fun H3 e3 => hk' H3 ((e.trans e2).trans e3) _ fun H4 e4 => ⟨p, n, top, kd, rs, h, tk, k, M, S, rfl, ht.same (((e.trans e2).trans e3).trans e4) rok, rok, len, hn, hc1, hc2, hkd, hw, hK, M0, hM, hS, hk, fun v q' H5 s hv hq' => by
    rw [hq] at hq'
    cases Option.some.inj hq'
    exact z v H5 (((e2.trans e3).trans e4).trans s) hv⟩⟩
theorem eq_sure {K : PySem.W.Frag} {H : Hp} {σ : L2.St} {th tn tt tk' : TE} {E : XK} {i : Nat} {l : Addr} {n top kd : Str} {ws : List V} {rs : List RowM} {h : Bool} {k : Str → Rat} {q : Rat} (hi : σ[i]? = some (some (.ref l))) (hh : Ev th σ H (.bl h)) (hx : Ev tn σ H (.str n)) (ht' : Ev tt σ H (.str top)) (hk' : Ev tk' σ H (.str kd)) (hl : SqL K H l ws) (hp : Paired (RowAt K H) ws rs) (rok : RowsOk rs) (len : rs.length ≤ 12) (hn : n ∈ nms rs) (hkd : kd = "min" ∨ kd = "low") (hw : wayL rs n top ≠ []) (hK : KindOk rs kd k) (hk0 : ∀ n, Drawn (k n))
    (hq : safeF (stepsL rs h k (wayL rs n top)) none 0 = some q) : EvQ K (tCall (spSure K) [] E (tCons (tVar i) (tCons th (tCons tn (tCons tt (tCons tk' tNil)))))) σ H q := fun H1 e Q z =>
  ⟨_, hi, hh H1 e _ fun H2 e2 => hx H2 (e.trans e2) _ fun H3 e3 => ht' H3 ((e.trans e2).trans e3) _ fun H4 e4 => hk' H4 (((e.trans e2).trans e3).trans e4) _ fun H5 e5 => ⟨l, h, n, top, kd, ws, rs, k, rfl, ex_l ((((e.trans e2).trans e3).trans e4).trans e5) hl, rows_same ((((e.trans e2).trans e3).trans e4).trans e5) hp, rok, len, hn, hkd, hw, hK, hk0, fun v q' H6 s hv hq' => by
    rw [hq] at hq'
    cases Option.some.inj hq'
    exact z v H6 ((((e2.trans e3).trans e4).trans e5).trans s) hv⟩⟩
theorem ev_lastE {K : PySem.W.Frag} {H : Hp} {σ : L2.St} {te : TE} {xs : List Str} (h : EvL te σ H (xs.map V.str)) (hne : xs ≠ []) : Ev (tOp (rIxL K) te (tUn (rU fun i => V.int (-i)) (tC (.int 1)))) σ H (.str (lastL xs)) := fun H1 e Q q =>
  h H1 e _ fun p H2 hp e2 f2 => ⟨1, rfl, p, _, -1, _, rfl, rfl, sq_of f2, last_at hne, q H2 e2⟩
/-- below a top there is a path -/
theorem below_way {rs : List RowM} (rok : RowsOk rs) {n top : Str} (hb : n ∈ belowL rs top) : wayL rs n top ≠ [] := by
  have hn := below_nms hb
  obtain ⟨j, hj⟩ := List.mem_iff_getElem?.mp hb
  obtain ⟨a, ea⟩ := below_anc rok j n hj
  obtain ⟨m, h1, h2, h3⟩ := wayL_is (top := top) rok hn
  have le : m ≤ a + 1 := by
    by_cases c : m ≤ a + 1
    · exact c
    · exact absurd ea (h1 (a + 1) (by omega)).1
  have e : upA rs n m = top := by
    rcases h2 with e | e
    · exact e
    · have h4 : upA rs n (a + 1) = "" := by
        have := upA_add (rs := rs) (x := n) (i := m) (a + 1 - m)
        rw [e, up_empty rok] at this
        rw [← this]
        congr 1
        omega
      rw [e, ← ea, h4]
  rw [h3, if_pos e]
  intro z
  have m0 : m = 0 := by
    have := congrArg List.length z
    rw [List.length_map, List.length_range] at this
    exact this
  rw [m0] at e
  exact no_round (n := top) rok hn (a := a) (b := 0) ea e.symm
/-- the child of the top -/
theorem first_way {rs : List RowM} (rok : RowsOk rs) {n top : Str} (hn : n ∈ nms rs) {m : Nat} (w : WayOk rs n top m) : ∃ r ∈ rs, r.name = lastL (wayL rs n top) ∧ r.above = top ∧ wayL rs r.name top = [r.name] := by
  have hm := w.pos
  obtain ⟨r, hr, e1, e2⟩ := w.row rok hn (i := m - 1) (by omega)
  have e3 : m - 1 + 1 = m := by omega
  rw [e3, w.end_] at e2
  have hrn : r.name ∈ nms rs := List.mem_map_of_mem hr
  refine ⟨r, hr, by rw [way_last w, e1], e2, ?_⟩
  obtain ⟨m', w'⟩ := way_ok rok hrn (way_ex rok hr e2)
  have u1 : upA rs r.name 1 = top := (up_one rok hr).trans e2
  have m1 : m' = 1 := by
    have := w'.pos
    by_cases c : 1 < m'
    · exact absurd u1 (w'.lt 1 c).1
    · omega
  rw [w'.is, m1]
  rfl
theorem safe_one {rs : List RowM} {h : Bool} {k : Str → Rat} {n : Str} (h0 : 0 ≤ k n) : safeF (stepsL rs h k [n]) none 0 = some (k n) := by
  show safeF [stepOf rs h k (abv rs n) n n] none 0 = _
  have e : stepOf rs h k (abv rs n) n n = (k n, 0, true) := by
    unfold stepOf sibL
    rw [if_pos rfl, decide_eq_true rfl, Bool.true_or, Bool.or_true]
    rfl
  rw [e]
  show some (if (0 : Rat) < k n then k n - 0 else 0) = _
  congr 1
  by_cases c : (0 : Rat) < k n
  · rw [if_pos c]
    grind
  · rw [if_neg c]
    grind
theorem safe_ms {M S S2 : Nat} (M0 : 0 < M) : ∀ (xs : List (Rat × Rat × Bool)) (b : Option Rat) (a q : Rat) (T : Nat), InMS M T a → (∀ z ∈ xs, InMS M S z.1 ∧ InMS M S2 z.2.1) → (∀ x, b = some x → InMS M S x) → safeF xs b a = some q → InMS M S q
  | [], b, a, q, T, _, _, hb, h => hb q h
  | (s, be, c) :: xs, b, a, q, T, ha, hz, hb, h => by
    obtain ⟨s0, be0⟩ := hz _ List.mem_cons_self
    refine safe_ms M0 xs _ (a + be) q (T + S2) (ha.add M0 be0) (fun z hz' => hz z (List.mem_cons_of_mem _ hz')) (fun x hx => ?_) h
    cases c with
    | false => exact hb x hx
    | true =>
      have own : InMS M S (if a < s then s - a else 0) := by
        by_cases l : a < s
        · rw [if_pos l]
          exact InMS.sub s0 (ha.of M0) ha.lo M0 (Rat.le_of_lt l)
        · rw [if_neg l]
          exact .zero
      cases b with
      | none =>
        have e : (if a < s then s - a else 0) = x := Option.some.inj hx
        rw [← e]
        exact own
      | some b =>
        have e : (if (if a < s then s - a else 0) < b then (if a < s then s - a else 0) else b) = x := Option.some.inj hx
        rw [← e]
        by_cases l : (if a < s then s - a else 0) < b
        · rw [if_pos l]
          exact own
        · rw [if_neg l]
          exact hb b rfl
theorem safe_le : ∀ (xs : List (Rat × Rat × Bool)) (b : Option Rat) (a q : Rat), 0 ≤ a → (∀ z ∈ xs, 0 ≤ z.1 ∧ 0 ≤ z.2.1) → safeF xs b a = some q → (∀ x, b = some x → q ≤ x) ∧ ∀ z ∈ xs, z.2.2 = true → q ≤ z.1
  | [], b, a, q, _, _, h => ⟨fun x hx => by
      have h : b = some q := h
      rw [hx] at h
      cases Option.some.inj h
      exact Rat.le_refl, (fun z hz => by cases hz)⟩
  | (s, be, c) :: xs, b, a, q, a0, hz, h => by
    obtain ⟨s0, be0⟩ := hz _ List.mem_cons_self
    have ih := safe_le xs _ (a + be) q (Rat.add_nonneg a0 be0) (fun z hz' => hz z (List.mem_cons_of_mem _ hz')) h
    cases c with
    | false => exact ⟨ih.1, fun z hz' hc => by
        rcases List.mem_cons.mp hz' with rfl | hz'
        · cases hc
        · exact ih.2 z hz' hc⟩
    | true =>
      have own : (if a < s then s - a else 0) ≤ s := by
        have s0 : 0 ≤ s := s0
        split <;> grind
      cases b with
      | none =>
        have h1 : q ≤ (if a < s then s - a else 0) := ih.1 _ rfl
        refine ⟨(fun x hx => by cases hx), fun z hz' hc => ?_⟩
        rcases List.mem_cons.mp hz' with rfl | hz'
        · exact Rat.le_trans h1 own
        · exact ih.2 z hz' hc
      | some b =>
        have h1 : q ≤ if (if a < s then s - a else 0) < b then (if a < s then s - a else 0) else b := ih.1 _ rfl
        have h2 : q ≤ (if a < s then s - a else 0) ∧ q ≤ b := by
          by_cases c : (if a < s then s - a else 0) < b
          · rw [if_pos c] at h1
            exact ⟨h1, by grind⟩
          · rw [if_neg c] at h1
            exact ⟨by grind, h1⟩
        refine ⟨fun x hx => by rw [← Option.some.inj hx]; exact h2.2, fun z hz' hc => ?_⟩
        rcases List.mem_cons.mp hz' with rfl | hz'
        · exact Rat.le_trans h2.1 own
        · exact ih.2 z hz' hc
section
variable {P : Program} {w : World} {K : PySem.W.Frag} {mg : Str → Option Value} {base : Heap} {C CN CW : Addr}
theorem ok_commonI {f : Addr} {fd : FuncData} (F : Fun K "_law_common" "_law_common" sCommon f fd) (T : TA mg) : FnOk P w K mg base CX0 1 f fd ["_law_one_here", "_law_other"] spCommonI := by
  refine F.ok scCommon (fun vs H Q E h => ?_) (fun cdv A outer s H vs Q E hr h => ?_)
  · obtain ⟨a, b, rfl, _⟩ := h
    rfl
  obtain ⟨a, b, rfl, q⟩ := h
  refine ⟨_, (pss_cons (ps_while PassesOwn.never (pt_cmpR op_gt (pv 1) pe_int (nomark _)) (pss_one (ps_par (i := 0) (j := 1) (by rfl) scCommon.nd rfl rfl (by decide) rfl rfl (pa_cons (pv 1) (pa_cons (pe_op op_modN (pe_callTy call_int1 (by rfl) T.z_int (by decide +kernel) (pa_cons (pv 0) pa_nil)) (pv 1)) pa_nil)) (by rfl)))) (pss_one (ps_ret (pe_callB call_abs (by rfl) T.z_abs (by decide +kernel) (pa_cons (pv 0) pa_nil))))), ?_⟩
  refine while_by (fun σ H' => H' = H ∧ ∃ (x : Int) (y : Nat), σ = [some (.int x), some (.int (y : Int))] ∧ Nat.gcd x.natAbs y = Nat.gcd a.natAbs b) mu1 ⟨rfl, a, b, rfl, rfl⟩ ?_ ?_
  · rintro σ H' ⟨rfl, x, y, rfl, e⟩
    refine ⟨_, rfl, _, _, rfl, rfl, _, rfl, ?_⟩
    refine ite2 (fun c => ?_) (fun c => ?_)
    · have c' : (0 : Int) < (y : Int) := of_decide_eq_true c
      refine ⟨_, rfl, _, rfl, .inl ⟨_, rfl, _, rfl, _, _, rfl, rfl, by show (y : Int) ≠ 0; omega, _, _, rfl, ?_⟩⟩
      have e0 : 0 ≤ x % (y : Int) := Int.emod_nonneg _ (by omega)
      have em : x.fmod (y : Int) = (((x % (y : Int)).toNat : Nat) : Int) := by
        rw [Int.fmod_eq_emod_of_nonneg _ (by omega)]
        omega
      refine ⟨⟨rfl, y, (x % (y : Int)).toNat, ?_, ?_⟩, ?_⟩
      · show [some (V.int (y : Int)), some (V.int (x.fmod (y : Int)))] = _
        rw [em]
      · rw [← e, Int.natAbs_natCast]
        have h1 : (x % (y : Int)).toNat = (x % (y : Int)).natAbs := by omega
        rw [h1]
        have h2 : Int.gcd (y : Int) (x % (y : Int)) = Int.gcd x (y : Int) := by
          rw [Int.gcd_comm x]
          have e3 : x % (y : Int) = x - (x / (y : Int)) * (y : Int) := by
            have := Int.emod_add_mul_ediv x (y : Int)
            have h := Int.mul_comm (y : Int) (x / (y : Int))
            omega
          rw [e3]
          exact Int.gcd_sub_mul_right_right _ _ _
        exact h2
      · show (x.fmod (y : Int)).toNat < (y : Int).toNat
        rw [em]
        have := Int.emod_lt_of_pos x c'
        omega
    · have c' : ¬ (0 : Int) < (y : Int) := of_decide_eq_false (Bool.eq_false_iff.mpr c)
      have y0 : y = 0 := by omega
      subst y0
      refine ⟨_, rfl, _, rfl, ?_⟩
      rw [Nat.gcd_zero_right] at e
      have : (if x < 0 then -x else x) = ((x.natAbs : Nat) : Int) := by
        split <;> omega
      rw [this, e]
      exact q
  · rintro σ H' Q Q' f ⟨v, h1, i, j, h2, h3, k, h4, q⟩
    exact ⟨v, h1, i, j, h2, h3, k, h4, f _ _ q⟩
theorem ok_fracI {f g : Addr} {fd gd : FuncData} (F : Fun K "_law_fraction" "_law_fraction" sFraction f fd) (T : TA mg) (cC : Cal P w K mg base "_law_common" ["_law_one_here", "_law_other"] 1 spCommonI g gd) : FnOk P w K mg base CX0 2 f fd ["_law_top_here", "_law_bottom"] (spFracI K) := by
  refine F.ok scFraction (fun vs H Q E h => ?_) (fun cdv A outer s H vs Q E hr h => ?_)
  · obtain ⟨a, b, rfl, _⟩ := h
    rfl
  obtain ⟨n, c, rfl, c0, hc, q⟩ := h
  refine ⟨_, (pss_cons (ps_set (i := 2) scFraction.nd rfl (Or.inl rfl) (pe_call cC.ok (hr.mono (by decide)) rfl cC.mg cC.kp cC.bd .nil pass0 (pa_cons (pv 0) (pa_cons (pv 1) pa_nil)))) (pss_one (ps_ret (pe_tup (pa_cons (pe_op op_fdivW (pv 0) (pv 2)) (pa_cons (pe_op op_fdivW (pv 1) (pv 2)) pa_nil)))))), ?_⟩
  have hg : 0 < Nat.gcd n.natAbs c := Nat.gcd_pos_of_pos_right _ c0
  have gl : Nat.gcd n.natAbs c < 2 ^ 9000 := Nat.lt_of_le_of_lt (Nat.gcd_le_right _ c0) hc
  have hdv : ((Nat.gcd n.natAbs c : Nat) : Int) ∣ n := Int.dvd_natAbs.mp (Int.natCast_dvd_natCast.mpr (Nat.gcd_dvd_left _ _))
  refine q_asg (v := .int ((Nat.gcd n.natAbs c : Nat) : Int)) (ev_call (vs := [.int n, .int (c : Int)]) (ea_cons (ev_var rfl) (ea_cons (ev_var rfl) ea_nil)) fun H3 e3 Q3 k3 E3 => ⟨n, c, rfl, k3 H3 (Ex.refl H3)⟩) fun H2 e2 => ?_
  have lg : (((Nat.gcd n.natAbs c : Nat) : Int)).natAbs.log2 < 9000 := by
    rw [Int.natAbs_natCast]
    exact (Nat.log2_lt (by omega)).mpr gl
  refine s_retU (eu_tup (ea_cons (ev_op (z := .int (n / ((Nat.gcd n.natAbs c : Nat) : Int))) (ev_var rfl) (ev_var rfl) fun H3 e3 Q3 k3 => ⟨_, _, rfl, rfl, ⟨by omega, lg⟩, k3 H3 (Ex.refl H3)⟩) (ea_cons (ev_op (ev_var rfl) (ev_var rfl) (rv_div9 hg gl)) ea_nil)) (by show 2 ≤ 100000; decide)) fun p H3 _ e3 f => ?_
  have hm : mkRat (n / ((Nat.gcd n.natAbs c : Nat) : Int)) (c / Nat.gcd n.natAbs c) = mkRat n c := mk_div hg hdv (Nat.gcd_dvd_right _ _)
  have hk : Nat.Coprime (n / ((Nat.gcd n.natAbs c : Nat) : Int)).natAbs (c / Nat.gcd n.natAbs c) := by
    have h1 : Nat.Coprime (n.natAbs / Nat.gcd n.natAbs c) (c / Nat.gcd n.natAbs c) := Nat.coprime_div_gcd_div_gcd hg
    have h2 : (n / ((Nat.gcd n.natAbs c : Nat) : Int)).natAbs = n.natAbs / Nat.gcd n.natAbs c := by
      rw [Int.natAbs_ediv_of_dvd hdv, Int.natAbs_natCast]
    rw [h2]
    exact h1
  obtain ⟨z1, z2⟩ := mk_low (n := n / ((Nat.gcd n.natAbs c : Nat) : Int)) (Nat.div_pos (Nat.le_of_dvd c0 (Nat.gcd_dvd_right _ _)) hg) hk
  rw [hm] at z1 z2
  refine q _ H3 (Same.trans e2 e3) ⟨p, rfl, ?_⟩
  rw [z1, z2]
  exact SqT.of f
end
end Bd
end

section
namespace Bd
open PySem L2 Am
open Evl hiding tCut pss_cut

/-! what bears, what is overfull -/
theorem sums_okG {M S : Nat} {ks : List Str} {f : Str → Rat} (hM : M < 2 ^ 1000) (hS : S < 2 ^ 1000) (len : ks.length ≤ 200) (h : ∀ x ∈ ks, InMS M S (f x)) : M < 2 ^ 3000 ∧ S * (ks.map f).length * M < 2 ^ 3000 ∧ (∀ q ∈ ks.map f, q.den ∣ M ∧ q.num.natAbs ≤ S * q.den) ∧ 0 ≤ sumQ (ks.map f) := by
  refine ⟨lt_up hM (by decide), ?_, fun q hq => ?_, ?_⟩
  · have : (ks.map f).length < 2 ^ 9 := by rw [List.length_map]; omega
    exact lt_up (lt_mul2 (lt_mul2 hS this) hM) (by decide)
  · obtain ⟨x, hx, rfl⟩ := List.mem_map.mp hq
    exact (h x hx).dn
  · exact sum_nn fun x hx => (h x hx).lo
def condB (rs : List RowM) (fl : Bool) (top y : Str) : Bool := !fl || (decide (abv rs y = top) || !(sibL rs y top).isEmpty)
def bearG (rs : List RowM) (fl : Bool) (top n : Str) : Str := ((wayL rs n top).find? (condB rs fl top)).getD ""
def fullG (rs : List RowM) (fl : Bool) (top : Str) (k : Str → Rat) (n : Str) : Bool := decide (k (bearG rs fl top n) < sumQ ((kidsOf rs (Sum.inr n)).map k))
theorem bear_at {rs : List RowM} {fl : Bool} {top n : Str} {m : Nat} (w : WayOk rs n top m) : ∃ i, i < m ∧ bearG rs fl top n = upA rs n i := by
  cases z : (wayL rs n top).find? (condB rs fl top) with
  | none =>
    exfalso
    have h1 := List.find?_eq_none.mp z (upA rs n (m - 1)) (w.mem.mpr ⟨m - 1, by have := w.pos; omega, rfl⟩)
    refine h1 ?_
    unfold condB
    have e : abv rs (upA rs n (m - 1)) = top := by
      show upA rs n (m - 1 + 1) = top
      rw [← w.end_]
      congr 1
      have := w.pos
      omega
    rw [e, decide_eq_true rfl, Bool.true_or, Bool.or_true]
  | some y =>
    obtain ⟨i, hi, e⟩ := w.mem.mp (List.mem_of_find?_eq_some z)
    refine ⟨i, hi, ?_⟩
    unfold bearG
    rw [z, ← e]
    rfl
theorem bear_is {rs : List RowM} {fl : Bool} {top n : Str} {m i : Nat} (w : WayOk rs n top m) (hi : i < m) (h1 : ∀ j, j < i → condB rs fl top (upA rs n j) = false) (h2 : condB rs fl top (upA rs n i) = true) : bearG rs fl top n = upA rs n i := by
  have l : i < (wayL rs n top).length := by
    rw [w.is, List.length_map, List.length_range]
    exact hi
  have g : ∀ {j : Nat} (hj : j < (wayL rs n top).length), (wayL rs n top)[j] = upA rs n j := fun {j} hj => by
    have := List.getElem?_eq_getElem hj
    rw [w.is, List.length_map, List.length_range] at hj
    conv at this => lhs; rw [w.is, List.getElem?_map, List.getElem?_range hj]
    exact (Option.some.inj this).symm
  have e : (wayL rs n top).find? (condB rs fl top) = some (upA rs n i) := by
    refine List.find?_eq_some_iff_append.mpr ⟨h2, (wayL rs n top).take i, (wayL rs n top).drop (i + 1), ?_, fun a ha => ?_⟩
    · rw [← g l, ← List.drop_eq_getElem_cons l, List.take_append_drop]
    · obtain ⟨j, hj, ea⟩ := List.mem_iff_getElem.mp ha
      rw [List.length_take] at hj
      rw [List.getElem_take, g (by omega)] at ea
      rw [← ea, h1 j (by omega)]
      rfl
  unfold bearG
  rw [e]
  rfl
def spBearer (K : PySem.W.Frag) (C : Addr) : Sp := fun vs H Q _ => ∃ (p : Addr) (n top : Str) (rows : List RowM) (h : Bool) (tk : List (Key × V)), vs = [.ref p, .str n, .str top] ∧ TreeAt K H C p rows h tk ∧ RowsOk rows ∧ rows.length ≤ 200 ∧ n ∈ nms rows ∧ wayL rows n top ≠ [] ∧ ∀ H', Same H H' → Q (.str (bearG rows h top n)) H'
def spFull (K : PySem.W.Frag) (C : Addr) : Sp := fun vs H Q _ => ∃ (p : Addr) (top kd : Str) (rows : List RowM) (h : Bool) (tk : List (Key × V)) (k : Str → Rat) (M S : Nat), vs = [.ref p, .str top, .str kd] ∧ TreeAt K H C p rows h tk ∧ RowsOk rows ∧ rows.length ≤ 200 ∧ (kd = "min" ∨ kd = "low") ∧ KindOk rows kd k ∧ 0 < M ∧ M < 2 ^ 1000 ∧ S < 2 ^ 1000 ∧ (∀ r ∈ rows, InMS M S (k r.name)) ∧
  ∀ v H', Same H H' → (v = .non ∧ (∀ n ∈ belowL rows top, fullG rows h top k n = false)) ∨ (∃ n ∈ belowL rows top, v = .str n ∧ fullG rows h top k n = true) → Q v H'
def spNever (K : PySem.W.Frag) (C : Addr) : Sp := fun vs H Q _ => ∃ (p : Addr) (top kd : Str) (rows : List RowM) (h : Bool) (tk : List (Key × V)) (k : Str → Rat) (M S : Nat), vs = [.ref p, .str top, .str kd] ∧ TreeAt K H C p rows h tk ∧ RowsOk rows ∧ rows.length ≤ 200 ∧ top ∈ ("" : Str) :: nms rows ∧ (top = "" ∨ kidsOf rows (Sum.inr top) ≠ []) ∧ (kd = "min" ∨ kd = "low") ∧ KindOk rows kd k ∧ 0 < M ∧ M < 2 ^ 1000 ∧ S < 2 ^ 1000 ∧ (∀ r ∈ rows, InMS M S (k r.name)) ∧
  ∀ H', Same H H' → Q (.bl ((belowL rows top).all fun n => !fullG rows h top k n)) H'
section
variable {P : Program} {w : World} {K : PySem.W.Frag} {mg : Str → Option Value} {base : Heap} {aL C CN CW aK aZ : Addr} {left : List (Key × V)}
theorem el_sibl {H : Hp} {σ : L2.St} {tn tt : TE} {E : XK} {i : Nat} {p : Addr} {n top : Str} {rs : List RowM} {h : Bool} {tk : List (Key × V)} (hi : σ[i]? = some (some (.ref p))) (hx : Ev tn σ H (.str n)) (ht' : Ev tt σ H (.str top)) (ht : TreeAt K H C p rs h tk) (rok : RowsOk rs) (len : rs.length ≤ 200) (hn : n ∈ nms rs) :
    EvL (tCall (spSibl K C) [] E (tCons (tVar i) (tCons tn (tCons tt tNil)))) σ H ((sibL rs n top).map .str) := fun H1 e Q q =>
  ⟨_, hi, hx H1 e _ fun H2 e2 => ht' H2 (e.trans e2) _ fun H3 e3 => ⟨p, n, top, rs, h, tk, rfl, ht.same (e.trans (e2.trans e3)) rok, rok, len, hn, fun r H4 a b c => q r H4 (fresh_back (e2.trans e3) a) ((e2.trans e3).trans b) c⟩⟩
/-- the truth of a new list -/
def tTruL (K : PySem.W.Frag) (ta : TE) : TT := fun σ H Q => ta σ H fun x H' => ∃ k, TruV K x H' k ∧ Q k H'
theorem et_truL {H : Hp} {σ : L2.St} {te : TE} {xs : List V} (h : EvL te σ H xs) : EvT (tTruL K te) σ H (!xs.isEmpty) := fun H1 e Q k =>
  h H1 e _ fun p H2 hp e2 f2 => ⟨!xs.isEmpty, by
    exact .inl ⟨xs, sq_of f2, rfl⟩, k H2 e2⟩
theorem ev_bearer {H : Hp} {σ : L2.St} {tn tt : TE} {E : XK} {i : Nat} {p : Addr} {n top : Str} {rs : List RowM} {h : Bool} {tk : List (Key × V)} (hi : σ[i]? = some (some (.ref p))) (hx : Ev tn σ H (.str n)) (ht' : Ev tt σ H (.str top)) (ht : TreeAt K H C p rs h tk) (rok : RowsOk rs) (len : rs.length ≤ 200) (hn : n ∈ nms rs) (hw : wayL rs n top ≠ []) :
    Ev (tCall (spBearer K C) [] E (tCons (tVar i) (tCons tn (tCons tt tNil)))) σ H (.str (bearG rs h top n)) := fun H1 e Q q =>
  ⟨_, hi, hx H1 e _ fun H2 e2 => ht' H2 (e.trans e2) _ fun H3 e3 => ⟨p, n, top, rs, h, tk, rfl, ht.same (e.trans (e2.trans e3)) rok, rok, len, hn, hw, fun H4 b => q H4 ((e2.trans e3).trans b)⟩⟩
theorem el_belowP {H : Hp} {σ : L2.St} {tt : TE} {E : XK} {i : Nat} {p : Addr} {top : Str} {rs : List RowM} {h : Bool} {tk : List (Key × V)} (hi : σ[i]? = some (some (.ref p))) (ht' : Ev tt σ H (.str top)) (ht : TreeAt K H C p rs h tk) (rok : RowsOk rs) (len : rs.length ≤ 200) :
    EvL (tCall (spBelow K C) [] E (tCons (tVar i) (tCons tt tNil))) σ H ((belowL rs top).map .str) := fun H1 e Q q =>
  ⟨_, hi, ht' H1 e _ fun H2 e2 => ⟨p, top, rs, h, tk, rfl, ht.same (e.trans e2) rok, rok, len, fun r H4 a b c => q r H4 (fresh_back e2 a) (e2.trans b) c⟩⟩
end
end Bd
end

section
namespace Bd
open PySem L2 Am
open Evl hiding tCut pss_cut
/-! reclaims from trees that are never cut and don't hand on: one behind the other as at once (k42) -/
/-- at least what the children come to -/
def RoomK (rs : List RowM) (κ : Str → Rat) : Prop := ∀ z ∈ rs, kidsOf rs (Sum.inr z.name) ≠ [] → sumQ ((kidsOf rs (Sum.inr z.name)).map κ) ≤ κ z.name
def mnQ (a b : Rat) : Rat := if b < a then b else a
def mxQ (a b : Rat) : Rat := if a < b then b else a
section
variable {rs : List RowM} {κ U u : Str → Rat} {top : Str}
theorem room_never (rok : RowsOk rs) (room : RoomK rs κ) (k0 : ∀ n, 0 ≤ κ n) : ((belowL rs top).all fun n => !fullG rs false top κ n) = true := by
  refine List.all_eq_true.mpr fun n hn => ?_
  have hnm := below_nms hn
  obtain ⟨m, w⟩ := way_ok rok hnm (below_way rok hn)
  have hb : bearG rs false top n = n := bear_is (i := 0) w w.pos (fun j hj => by omega) rfl
  unfold fullG
  rw [hb]
  have : ¬ κ n < sumQ ((kidsOf rs (Sum.inr n)).map κ) := by
    by_cases c : kidsOf rs (Sum.inr n) = []
    · rw [c]
      exact Rat.not_lt.mpr (k0 n)
    · obtain ⟨z, hz, rfl⟩ := List.mem_map.mp hnm
      exact Rat.not_lt.mpr (room z hz c)
  rw [decide_eq_false this]
  rfl
theorem mn_le (a b : Rat) : mnQ a b ≤ a ∧ mnQ a b ≤ b := by
  unfold mnQ
  split
  · exact ⟨by grind, Rat.le_refl⟩
  · exact ⟨Rat.le_refl, by grind⟩
theorem sum_mn {xs : List Str} {f g : Str → Rat} : sumQ (xs.map fun x => mnQ (f x) (g x)) ≤ mnQ (sumQ (xs.map f)) (sumQ (xs.map g)) := by
  have h1 := sum_le (ks := xs) (f := fun x => mnQ (f x) (g x)) (g := f) fun x _ => (mn_le _ _).1
  have h2 := sum_le (ks := xs) (f := fun x => mnQ (f x) (g x)) (g := g) fun x _ => (mn_le _ _).2
  unfold mnQ at h1 h2 ⊢
  split
  · exact h2
  · exact h1
/-- what is protected is the lesser of use and setting -/
theorem room_held {M S : Nat} (rok : RowsOk rs) (M0 : 0 < M) (hM : M < 2 ^ 200) (hS : S < 2 ^ 200) (room : RoomK rs κ) (hU : ∀ r ∈ rs, U r.name = if kidsOf rs (Sum.inr r.name) = [] then u r.name else sumQ ((kidsOf rs (Sum.inr r.name)).map U)) (uz : ∀ r ∈ rs, InMS M S (U r.name)) (kz : ∀ n, InMS M S (κ n)) :
    HeldOk rs top false κ U (fun n => mnQ (U n) (κ n)) (fun n => mnQ (U n) (κ n)) M S := by
  have row : ∀ {n : Str}, n ∈ belowL rs top → ∃ r ∈ rs, r.name = n := fun h => by
    obtain ⟨r, hr, e⟩ := List.mem_map.mp (below_nms h)
    exact ⟨r, hr, e⟩
  refine ⟨M0, hM, hS, fun n hn => ?_, fun n hn => kz n, fun n hn hk0 => ?_, fun n hn => rfl, fun n hn => rfl, fun n hn x hx => ?_, fun n hn => ?_⟩
  · obtain ⟨r, hr, rfl⟩ := row hn
    exact uz r hr
  · obtain ⟨r, hr, rfl⟩ := row hn
    rw [hU r hr, if_neg hk0]
  · obtain ⟨r, hr, rfl⟩ := row hn
    have ne : kidsOf rs (Sum.inr r.name) ≠ [] := fun e => by rw [e] at hx; cases hx
    have h1 := sum_mn (xs := kidsOf rs (Sum.inr r.name)) (f := U) (g := κ)
    have h2 := hU r hr
    rw [if_neg ne] at h2
    have h3 := room r hr ne
    unfold partQ
    have : ¬ mnQ (U r.name) (κ r.name) < sumQ ((kidsOf rs (Sum.inr r.name)).map fun n => mnQ (U n) (κ n)) := by
      rw [Rat.not_lt]
      refine Rat.le_trans h1 ?_
      rw [← h2]
      unfold mnQ
      split <;> split <;> grind
    dsimp only
    rw [if_neg this, if_neg (fun z => by cases z.1)]
  · obtain ⟨r, hr, rfl⟩ := row hn
    have a := uz r hr
    have b := kz r.name
    have l := (mn_le (U r.name) (κ r.name)).1
    refine ⟨?_, l, ?_⟩
    · unfold mnQ
      split
      · exact b.lo
      · exact a.lo
    · unfold mnQ
      split
      · exact Nat.lt_of_le_of_lt (b.denle M0) (lt_up hM (by decide))
      · exact Nat.lt_of_le_of_lt (a.denle M0) (lt_up hM (by decide))
end
/-! one behind the other -/
section
variable {F A b u k : Rat}
theorem goQ_chain (A0 : 0 ≤ A) (l : A < F) (b0 : 0 ≤ b) : goQ (F - A) b (goQ F A u k) k = goQ F (A + b) u k := by
  have hF : F ≠ 0 := by grind
  have hG : F - A ≠ 0 := by grind
  unfold goQ
  rw [if_pos l]
  by_cases c : b < F - A
  · rw [if_pos c, if_pos (by grind)]
    have e1 : A / F * F = A := by rw [Rat.div_mul_cancel hF]
    have e2 : b / (F - A) * (F - A) = b := by rw [Rat.div_mul_cancel hG]
    have e3 : (A + b) / F * F = A + b := by rw [Rat.div_mul_cancel hF]
    generalize A / F = r at e1 ⊢
    generalize b / (F - A) = s at e2 ⊢
    generalize (A + b) / F = q at e3 ⊢
    have : (q - r - s + r * s) * F = 0 := by grind
    have : q - r - s + r * s = 0 := by
      rcases Rat.mul_eq_zero.mp this with h | h
      · exact h
      · exact absurd h hF
    grind
  · rw [if_neg c, if_neg (by grind)]
theorem goQ_zero (u k : Rat) (F0 : 0 < F) : goQ F 0 u k = u := by
  unfold goQ
  rw [if_pos F0, Rat.div_def, Rat.zero_mul, Rat.mul_zero]
  grind
theorem ratio01 (A0 : 0 ≤ A) (l : A < F) : 0 ≤ A / F ∧ A / F ≤ 1 := by
  have Fp : 0 < F := by grind
  have i0 := Rat.inv_pos.mpr Fp
  rw [Rat.div_def]
  refine ⟨Rat.mul_nonneg A0 (Rat.le_of_lt i0), ?_⟩
  have := Rat.mul_le_mul_of_nonneg_right (Rat.le_of_lt l) (Rat.le_of_lt i0)
  rwa [Rat.mul_inv_cancel _ (fun e => by rw [e] at Fp; exact absurd Fp (by decide))] at this
theorem goQ_bd (A0 : 0 ≤ A) (le : k ≤ u) : k ≤ goQ F A u k ∧ goQ F A u k ≤ u := by
  unfold goQ
  by_cases l : A < F
  · rw [if_pos l]
    obtain ⟨h1, h2⟩ := ratio01 A0 l
    have m1 := Rat.mul_le_mul_of_nonneg_left h2 (show 0 ≤ u - k by grind)
    have m2 := Rat.mul_nonneg (show 0 ≤ u - k by grind) h1
    rw [Rat.mul_one] at m1
    exact ⟨by grind, by grind⟩
  · rw [if_neg l]
    exact ⟨Rat.le_refl, le⟩
end
theorem goQ_sum {xs : List Str} {u k : Str → Rat} {A : Rat} (l : A < sumQ (xs.map fun n => u n - k n)) (A0 : 0 ≤ A) : sumQ (xs.map fun n => goQ (sumQ (xs.map fun n => u n - k n)) A (u n) (k n) - k n) = sumQ (xs.map fun n => u n - k n) - A := by
  generalize hF : sumQ (xs.map fun n => u n - k n) = F at l ⊢
  have hF0 : F ≠ 0 := by grind
  have e : (xs.map fun n => goQ F A (u n) (k n) - k n) = xs.map fun n => (u n - k n) * (1 - A / F) := List.map_congr_left fun n _ => by
    unfold goQ
    rw [if_pos l]
    grind
  rw [e, sum_mulR, hF]
  have e1 : A / F * F = A := by rw [Rat.div_mul_cancel hF0]
  grind
/-! sizes -/
def dQ (F : Rat) : Nat := max 1 F.num.natAbs
theorem dQ_pos (F : Rat) : 0 < dQ F := by unfold dQ; omega
theorem of_dvd {M N : Nat} {q : Rat} (h : Of M q) (M0 : 0 < M) (d : M ∣ N) (N0 : 0 < N) : Of N q := den_of (Nat.dvd_trans (of_den M0 h) d) N0
theorem div_of {M : Nat} {A F : Rat} (hA : Of M A) (F0 : 0 < F) : Of (M * dQ F) (A / F) := by
  rw [Rat.div_def]
  obtain ⟨h1, h2⟩ := inv_low F0
  have n0 : 0 < F.num.natAbs := by rw [← h2]; exact (F⁻¹).den_pos
  have e : dQ F = F.num.natAbs := by unfold dQ; omega
  rw [e]
  exact hA.mul ⟨(F⁻¹).num, by rw [← h2, Rat.mkRat_self]⟩
theorem goQ_ms {MM S : Nat} {F A u k : Rat} (hu : InMS 2520 S u) (hk : InMS 2520 S k) (le : k ≤ u) (A0 : 0 ≤ A) (hA : Of 2520 A) (d : 2520 * (2520 * dQ F) ∣ MM) (M0 : 0 < MM) : InMS MM S (goQ F A u k) := by
  obtain ⟨b1, b2⟩ := goQ_bd (F := F) A0 le
  have dd : 2520 ∣ MM := Nat.dvd_trans (Nat.dvd_mul_right _ _) d
  refine ⟨?_, Rat.le_trans hk.lo b1, Rat.le_trans b2 hu.hi⟩
  unfold goQ
  by_cases l : A < F
  · rw [if_pos l]
    have F0 : 0 < F := by grind
    have h1 := (((hu.of (by decide)).sub (by decide) (hk.of (by decide))).mul (div_of hA F0))
    exact of_den M0 (((of_dvd (hu.of (by decide)) (by decide) dd M0)).sub M0 (of_dvd h1 (Nat.mul_pos (by decide) (Nat.mul_pos (by decide) (dQ_pos F))) d M0))
  · rw [if_neg l]
    exact Nat.dvd_trans hk.den dd
/-! the state behind so much -/
def vQ (u m l : Str → Rat) (n : Str) : Rat := mxQ (mnQ (u n) (m n)) (mnQ (u n) (l n))
def wQ (u m : Str → Rat) (n : Str) : Rat := mnQ (u n) (m n)
def f1Q (rs : List RowM) (top : Str) (u m l : Str → Rat) : Rat := freeQ rs top u (vQ u m l)
def f2Q (rs : List RowM) (top : Str) (u m l : Str → Rat) : Rat := freeQ rs top (vQ u m l) (wQ u m)
def tQ (F G A u v w : Rat) : Rat := if A < F then goQ F A u v else goQ G (A - F) v w
def stQ (rs : List RowM) (top : Str) (u m l : Str → Rat) (A : Rat) : Str → Rat := fun n => if n ∈ lvB rs top then tQ (f1Q rs top u m l) (f2Q rs top u m l) A (u n) (vQ u m l n) (wQ u m n) else u n
def rsQ (rs : List RowM) (top : Str) (u m l : Str → Rat) (A : Rat) : Rat := if A < f1Q rs top u m l then 0 else goA (f2Q rs top u m l) (A - f1Q rs top u m l)
def mmQ (rs : List RowM) (top : Str) (u m l : Str → Rat) : Nat := 2520 * 2520 * (dQ (f1Q rs top u m l) * dQ (f2Q rs top u m l))
structure RcOk (rs : List RowM) (top : Str) (u m l : Str → Rat) : Prop where
  rok : RowsOk rs
  len : rs.length ≤ 10
  uz : ∀ n, InMS 2520 (10 ^ 13) (u n)
  mz : ∀ n, InMS 2520 (10 ^ 30) (m n)
  lz : ∀ n, InMS 2520 (10 ^ 30) (l n)
  rm : RoomK rs m
  rl : RoomK rs l
  km : KindOk rs "min" m
  kl : KindOk rs "low" l
theorem vw_le (u m l : Rat) : mnQ u m ≤ mxQ (mnQ u m) (mnQ u l) ∧ mxQ (mnQ u m) (mnQ u l) ≤ u := by
  have h1 := (mn_le u m).1
  have h2 := (mn_le u l).1
  unfold mxQ
  split
  · exact ⟨by grind, h2⟩
  · exact ⟨Rat.le_refl, h1⟩
theorem mn_mid {u t m : Rat} (h1 : mnQ u m ≤ t) (h2 : t ≤ u) : mnQ t m = mnQ u m := by
  unfold mnQ at h1 ⊢
  split <;> split <;> grind
theorem mx_mid {u t m l : Rat} (h1 : mxQ (mnQ u m) (mnQ u l) ≤ t) (h2 : t ≤ u) : mxQ (mnQ t m) (mnQ t l) = mxQ (mnQ u m) (mnQ u l) := by
  have a : mnQ u m ≤ t := Rat.le_trans (vw_le u m l).1 h1
  have b : mnQ u l ≤ t := by
    refine Rat.le_trans ?_ h1
    unfold mxQ
    split
    · exact Rat.le_refl
    · grind
  rw [mn_mid a h2, mn_mid b h2]
theorem mx_same {u t m l : Rat} (h0 : mnQ u m ≤ t) (h1 : t ≤ mxQ (mnQ u m) (mnQ u l)) : mxQ (mnQ t m) (mnQ t l) = t := by
  have h2 := (vw_le u m l).2
  unfold mxQ mnQ at *
  grind
section
variable {rs : List RowM} {top : Str} {u m l : Str → Rat}
theorem RcOk.vz (o : RcOk rs top u m l) (n : Str) : InMS 2520 (10 ^ 13) (vQ u m l n) ∧ InMS 2520 (10 ^ 13) (wQ u m n) := by
  have key : ∀ k : Str → Rat, (∀ n, InMS 2520 (10 ^ 30) (k n)) → InMS 2520 (10 ^ 13) (mnQ (u n) (k n)) := fun k hk => by
    have h := (mn_le (u n) (k n)).1
    have hu := (o.uz n).hi
    unfold mnQ at h ⊢
    split
    · rename_i c
      rw [if_pos c] at h
      exact ⟨(hk n).den, (hk n).lo, Rat.le_trans h hu⟩
    · exact o.uz n
  refine ⟨?_, key m o.mz⟩
  unfold vQ mxQ
  split
  · exact key l o.lz
  · exact key m o.mz
theorem RcOk.le (o : RcOk rs top u m l) (n : Str) : wQ u m n ≤ vQ u m l n ∧ vQ u m l n ≤ u n := vw_le _ _ _
theorem RcOk.fz (o : RcOk rs top u m l) : InMS 2520 (10 ^ 13 * 10) (f1Q rs top u m l) ∧ InMS 2520 (10 ^ 13 * 10) (f2Q rs top u m l) := by
  have ll := lvB_len (rows := rs) (top := top)
  have lu := o.len
  refine ⟨?_, ?_⟩
  · exact (sumMS (M := 2520) (S := 10 ^ 13) (f := fun n => u n - vQ u m l n) (by decide) fun n _ => (o.uz n).sub ((o.vz n).1.of (by decide)) (o.vz n).1.lo (by decide) (o.le n).2).up (Nat.dvd_refl _) (Nat.mul_le_mul_left _ (by omega))
  · exact (sumMS (M := 2520) (S := 10 ^ 13) (f := fun n => vQ u m l n - wQ u m n) (by decide) fun n _ => (o.vz n).1.sub ((o.vz n).2.of (by decide)) (o.vz n).2.lo (by decide) (o.le n).1).up (Nat.dvd_refl _) (Nat.mul_le_mul_left _ (by omega))
theorem dQ_lt {F : Rat} (h : InMS 2520 (10 ^ 13 * 10) F) : dQ F < 2 ^ 60 := by
  have := h.nlt (m := 12) (s := 47) (by decide) (by decide) (by decide)
  unfold dQ
  have : F.num.natAbs < 2 ^ 59 := this
  have : (2 : Nat) ^ 59 < 2 ^ 60 := by decide
  omega
theorem RcOk.M0 (o : RcOk rs top u m l) : 0 < mmQ rs top u m l := Nat.mul_pos (by decide) (Nat.mul_pos (dQ_pos _) (dQ_pos _))
theorem RcOk.hM (o : RcOk rs top u m l) : mmQ rs top u m l < 2 ^ 150 := by
  have h := lt_mul2 (a := 24) (x := 2520 * 2520) (by decide) (lt_mul2 (dQ_lt o.fz.1) (dQ_lt o.fz.2))
  exact lt_up h (by decide)
theorem RcOk.d0 (o : RcOk rs top u m l) : 2520 ∣ mmQ rs top u m l := ⟨2520 * (dQ (f1Q rs top u m l) * dQ (f2Q rs top u m l)), by unfold mmQ; rw [Nat.mul_assoc]⟩
theorem RcOk.d1 (o : RcOk rs top u m l) : 2520 * (2520 * dQ (f1Q rs top u m l)) ∣ mmQ rs top u m l := ⟨dQ (f2Q rs top u m l), by unfold mmQ; simp only [Nat.mul_assoc]⟩
theorem RcOk.d2 (o : RcOk rs top u m l) : 2520 * (2520 * dQ (f2Q rs top u m l)) ∣ mmQ rs top u m l := ⟨dQ (f1Q rs top u m l), by unfold mmQ; rw [Nat.mul_comm (dQ (f1Q rs top u m l)) (dQ (f2Q rs top u m l))]; simp only [Nat.mul_assoc]⟩
theorem RcOk.tz (o : RcOk rs top u m l) {A : Rat} (A0 : 0 ≤ A) (hA : Of 2520 A) (n : Str) : InMS (mmQ rs top u m l) (10 ^ 13) (tQ (f1Q rs top u m l) (f2Q rs top u m l) A (u n) (vQ u m l n) (wQ u m n)) := by
  unfold tQ
  split
  · exact goQ_ms (o.uz n) (o.vz n).1 (o.le n).2 A0 hA o.d1 o.M0
  · rename_i c
    exact goQ_ms (o.vz n).1 (o.vz n).2 (o.le n).1 (by grind) (hA.sub (by decide) (o.fz.1.of (by decide))) o.d2 o.M0
theorem RcOk.sz (o : RcOk rs top u m l) {A : Rat} (A0 : 0 ≤ A) (hA : Of 2520 A) (n : Str) : InMS (mmQ rs top u m l) (10 ^ 13) (stQ rs top u m l A n) := by
  unfold stQ
  split
  · exact o.tz A0 hA n
  · exact (o.uz n).up o.d0 (Nat.le_refl _)
theorem RcOk.tb (o : RcOk rs top u m l) {A : Rat} (A0 : 0 ≤ A) (n : Str) : wQ u m n ≤ tQ (f1Q rs top u m l) (f2Q rs top u m l) A (u n) (vQ u m l n) (wQ u m n) ∧ tQ (f1Q rs top u m l) (f2Q rs top u m l) A (u n) (vQ u m l n) (wQ u m n) ≤ u n := by
  unfold tQ
  obtain ⟨h1, h2⟩ := o.le n
  split
  · obtain ⟨a, b⟩ := goQ_bd (F := f1Q rs top u m l) A0 h2
    exact ⟨Rat.le_trans h1 a, b⟩
  · rename_i c
    obtain ⟨a, b⟩ := goQ_bd (F := f2Q rs top u m l) (A := A - f1Q rs top u m l) (by grind) h1
    exact ⟨a, Rat.le_trans b h2⟩
/-- what a kind protects behind any uses -/
theorem RcOk.heldK (o : RcOk rs top u m l) {k U : Str → Rat} {kd : Str} (kz : ∀ n, InMS 2520 (10 ^ 30) (k n)) (room : RoomK rs k) (hk : KindOk rs kd k) (hU : ∀ n, InMS (mmQ rs top u m l) (10 ^ 13) (U n)) {W : Str → Rat} (hW : ∀ r ∈ rs, W r.name = if kidsOf rs (Sum.inr r.name) = [] then U r.name else sumQ ((kidsOf rs (Sum.inr r.name)).map W)) :
    HeldK rs top false kd U (fun n => mnQ (W n) (k n)) := by
  refine ⟨k, W, _, mmQ rs top u m l, 10 ^ 30, hk, room_held o.rok o.M0 (lt_up o.hM (by decide)) (by decide) room hW (fun r hr => ?_) (fun n => (kz n).up o.d0 (Nat.le_refl _)), fun n hn => ?_⟩
  · exact (uzG o.M0 (by decide : 0 < 10) hW o.rok o.len hU r hr).up (Nat.dvd_refl _) (by decide)
  · obtain ⟨h1, h2⟩ := leaf_kids hn
    obtain ⟨r, hr, rfl⟩ := List.mem_map.mp h1
    rw [hW r hr, if_pos h2]
theorem goA_nn {F a : Rat} (a0 : 0 ≤ a) : 0 ≤ goA F a := by
  unfold goA
  split
  · exact Rat.le_refl
  · grind
theorem goA_le {F a : Rat} (F0 : 0 ≤ F) (a0 : 0 ≤ a) : goA F a ≤ a := by
  unfold goA
  split
  · exact a0
  · grind
theorem goA_of {M : Nat} {F a : Rat} (M0 : 0 < M) (hF : Of M F) (ha : Of M a) : Of M (goA F a) := by
  unfold goA
  split
  · exact of_zero
  · exact ha.sub M0 hF
theorem sum_zeroQ {xs : List Str} {f : Str → Rat} (h : ∀ x ∈ xs, f x = 0) : sumQ (xs.map f) = 0 := by
  have e : xs.map f = xs.map fun x => f x * 0 := List.map_congr_left fun x hx => by rw [h x hx, Rat.mul_zero]
  rw [e, sum_mulR, Rat.mul_zero]
/-- a reclaim of b behind one of A is one of both -/
theorem RcOk.both (o : RcOk rs top u m l) {A b : Rat} (A0 : 0 ≤ A) (hA : Of 2520 A) (hb : InMS 2520 (10 ^ 30) b) :
    ∃ κ μ, BothOk rs top false (stQ rs top u m l A) κ μ b (mmQ rs top u m l) (10 ^ 30) ∧ (∀ n, endU rs top (stQ rs top u m l A) κ μ b n = stQ rs top u m l (A + b) n) ∧ endA rs top (stQ rs top u m l A) κ μ b = rsQ rs top u m l (A + b) - rsQ rs top u m l A := by
  have b0 := hb.lo
  have hbO := hb.of (by decide)
  have AB0 : 0 ≤ A + b := by grind
  have ABo : Of 2520 (A + b) := hA.add (by decide) hbO
  obtain ⟨W1, hW1⟩ := use_ex o.rok (stQ rs top u m l A)
  have dF : f1Q rs top u m l = sumQ ((lvB rs top).map fun n => u n - vQ u m l n) := rfl
  have dG : f2Q rs top u m l = sumQ ((lvB rs top).map fun n => vQ u m l n - wQ u m n) := rfl
  have leafW : ∀ {W U : Str → Rat}, (∀ r ∈ rs, W r.name = if kidsOf rs (Sum.inr r.name) = [] then U r.name else sumQ ((kidsOf rs (Sum.inr r.name)).map W)) → ∀ n ∈ lvB rs top, W n = U n := fun {W U} hW n hn => by
    obtain ⟨h1, h2⟩ := leaf_kids (lvB_leaf hn)
    obtain ⟨r, hr, rfl⟩ := List.mem_map.mp h1
    rw [hW r hr, if_pos h2]
  have sA : ∀ n ∈ lvB rs top, stQ rs top u m l A n = tQ (f1Q rs top u m l) (f2Q rs top u m l) A (u n) (vQ u m l n) (wQ u m n) := fun n hn => if_pos hn
  refine ⟨fun n => mxQ (mnQ (W1 n) (m n)) (mnQ (W1 n) (l n)), ?_⟩
  generalize hκ : (fun n => mxQ (mnQ (W1 n) (m n)) (mnQ (W1 n) (l n))) = κ
  have ek : ∀ n ∈ lvB rs top, κ n = if A < f1Q rs top u m l then vQ u m l n else tQ (f1Q rs top u m l) (f2Q rs top u m l) A (u n) (vQ u m l n) (wQ u m n) := fun n hn => by
    rw [← hκ]
    dsimp only
    rw [leafW hW1 n hn, sA n hn]
    obtain ⟨h1, h2⟩ := o.le n
    unfold tQ
    by_cases c : A < f1Q rs top u m l
    · rw [if_pos c, if_pos c]
      obtain ⟨x, y⟩ := goQ_bd (F := f1Q rs top u m l) A0 h2
      exact mx_mid x y
    · rw [if_neg c, if_neg c]
      obtain ⟨x, y⟩ := goQ_bd (F := f2Q rs top u m l) (A := A - f1Q rs top u m l) (by grind) h1
      exact mx_same x y
  have ef : freeQ rs top (stQ rs top u m l A) κ = if A < f1Q rs top u m l then f1Q rs top u m l - A else 0 := by
    by_cases c : A < f1Q rs top u m l
    · rw [if_pos c]
      have e : freeQ rs top (stQ rs top u m l A) κ = sumQ ((lvB rs top).map fun n => goQ (sumQ ((lvB rs top).map fun n => u n - vQ u m l n)) A (u n) (vQ u m l n) - vQ u m l n) := congrArg sumQ (List.map_congr_left fun n hn => by
        rw [ek n hn, if_pos c, sA n hn]
        unfold tQ
        rw [if_pos c]
        rfl)
      rw [e]
      exact goQ_sum c A0
    · rw [if_neg c]
      exact sum_zeroQ fun n hn => by
        rw [ek n hn, if_neg c, sA n hn]
        exact Rat.sub_self
  have e1 : ∀ n ∈ lvB rs top, goQ (freeQ rs top (stQ rs top u m l A) κ) b (stQ rs top u m l A n) (κ n) = if A < f1Q rs top u m l then goQ (f1Q rs top u m l) (A + b) (u n) (vQ u m l n) else tQ (f1Q rs top u m l) (f2Q rs top u m l) A (u n) (vQ u m l n) (wQ u m n) := fun n hn => by
    rw [ef, ek n hn, sA n hn]
    by_cases c : A < f1Q rs top u m l
    · rw [if_pos c, if_pos c, if_pos c]
      unfold tQ
      rw [if_pos c]
      exact goQ_chain A0 c b0
    · rw [if_neg c, if_neg c, if_neg c]
      unfold goQ
      rw [if_neg (Rat.not_lt.mpr b0)]
  have ea : goA (freeQ rs top (stQ rs top u m l A) κ) b = if A < f1Q rs top u m l then goA (f1Q rs top u m l - A) b else b := by
    rw [ef]
    by_cases c : A < f1Q rs top u m l
    · rw [if_pos c, if_pos c]
    · rw [if_neg c, if_neg c]
      unfold goA
      rw [if_neg (Rat.not_lt.mpr b0)]
      grind
  have f0 : 0 ≤ freeQ rs top (stQ rs top u m l A) κ := by
    rw [ef]
    split
    · grind
    · exact Rat.le_refl
  have fO : Of 2520 (freeQ rs top (stQ rs top u m l A) κ) := by
    rw [ef]
    split
    · exact (o.fz.1.of (by decide)).sub (by decide) hA
    · exact of_zero
  generalize hs1 : goU rs top (stQ rs top u m l A) κ b = s1
  have es1 : ∀ n ∈ lvB rs top, s1 n = if A < f1Q rs top u m l then goQ (f1Q rs top u m l) (A + b) (u n) (vQ u m l n) else tQ (f1Q rs top u m l) (f2Q rs top u m l) A (u n) (vQ u m l n) (wQ u m n) := fun n hn => by
    rw [← e1 n hn, ← hs1]
    exact if_pos hn
  have s1z : ∀ n, InMS (mmQ rs top u m l) (10 ^ 13) (s1 n) := fun n => by
    by_cases hn : n ∈ lvB rs top
    · rw [es1 n hn]
      split
      · exact goQ_ms (o.uz n) (o.vz n).1 (o.le n).2 AB0 ABo o.d1 o.M0
      · exact o.tz A0 hA n
    · have : s1 n = stQ rs top u m l A n := by
        rw [← hs1]
        exact if_neg hn
      rw [this]
      exact o.sz A0 hA n
  have s1b : ∀ n ∈ lvB rs top, wQ u m n ≤ s1 n ∧ s1 n ≤ u n := fun n hn => by
    rw [es1 n hn]
    split
    · obtain ⟨x, y⟩ := goQ_bd (F := f1Q rs top u m l) AB0 (o.le n).2
      exact ⟨Rat.le_trans (o.le n).1 x, y⟩
    · exact o.tb A0 n
  obtain ⟨W2, hW2⟩ := use_ex o.rok s1
  refine ⟨fun n => mnQ (W2 n) (m n), ?_⟩
  generalize hμ : (fun n => mnQ (W2 n) (m n)) = μ
  have eμ : ∀ n ∈ lvB rs top, μ n = wQ u m n := fun n hn => by
    rw [← hμ]
    dsimp only
    rw [leafW hW2 n hn]
    exact mn_mid (s1b n hn).1 (s1b n hn).2
  have a1O := goA_of (by decide) fO hbO
  have a10 := goA_nn (F := freeQ rs top (stQ rs top u m l A) κ) b0
  have a1l := goA_le f0 b0
  generalize ha1 : goA (freeQ rs top (stQ rs top u m l A) κ) b = a1 at ea a1O a10 a1l
  -- the second go
  have le2 : ∀ n ∈ lvB rs top, μ n ≤ s1 n := fun n hn => by
    rw [eμ n hn]
    exact (s1b n hn).1
  have two : (∀ n ∈ lvB rs top, goQ (freeQ rs top s1 μ) a1 (s1 n) (μ n) = tQ (f1Q rs top u m l) (f2Q rs top u m l) (A + b) (u n) (vQ u m l n) (wQ u m n)) ∧ goA (freeQ rs top s1 μ) a1 = rsQ rs top u m l (A + b) - rsQ rs top u m l A := by
    by_cases c : A < f1Q rs top u m l
    · rw [if_pos c] at ea
      by_cases d : b < f1Q rs top u m l - A
      · have d' : A + b < f1Q rs top u m l := by grind
        have z : a1 = 0 := by
          rw [ea]
          exact if_pos d
        subst z
        refine ⟨fun n hn => ?_, ?_⟩
        · have := goU_zero le2 n
          unfold goU at this
          rw [if_pos hn] at this
          rw [this, es1 n hn, if_pos c]
          unfold tQ
          rw [if_pos d']
        · rw [goA_zero le2]
          unfold rsQ
          rw [if_pos d', if_pos c]
          grind
      · have d' : ¬ A + b < f1Q rs top u m l := by grind
        have z : a1 = A + b - f1Q rs top u m l := by
          rw [ea]
          unfold goA
          rw [if_neg d]
          grind
        have ev : ∀ n ∈ lvB rs top, s1 n = vQ u m l n := fun n hn => by
          rw [es1 n hn, if_pos c]
          unfold goQ
          rw [if_neg d']
        have e2 : freeQ rs top s1 μ = f2Q rs top u m l := congrArg sumQ (List.map_congr_left fun n hn => by rw [ev n hn, eμ n hn])
        refine ⟨fun n hn => ?_, ?_⟩
        · rw [e2, z, ev n hn, eμ n hn]
          unfold tQ
          rw [if_neg d']
        · rw [e2, z]
          unfold rsQ
          rw [if_neg d', if_pos c]
          grind
    · rw [if_neg c] at ea
      subst ea
      have d' : ¬ A + a1 < f1Q rs top u m l := by grind
      have et : ∀ n ∈ lvB rs top, s1 n = goQ (f2Q rs top u m l) (A - f1Q rs top u m l) (vQ u m l n) (wQ u m n) := fun n hn => by
        rw [es1 n hn, if_neg c]
        unfold tQ
        rw [if_neg c]
      have ear : A + a1 - f1Q rs top u m l = A - f1Q rs top u m l + a1 := by grind
      by_cases g : A - f1Q rs top u m l < f2Q rs top u m l
      · have e2 : freeQ rs top s1 μ = f2Q rs top u m l - (A - f1Q rs top u m l) := by
          have e : freeQ rs top s1 μ = sumQ ((lvB rs top).map fun n => goQ (sumQ ((lvB rs top).map fun n => vQ u m l n - wQ u m n)) (A - f1Q rs top u m l) (vQ u m l n) (wQ u m n) - wQ u m n) := congrArg sumQ (List.map_congr_left fun n hn => by
            rw [et n hn, eμ n hn]
            rfl)
          rw [e]
          exact goQ_sum g (by grind)
        refine ⟨fun n hn => ?_, ?_⟩
        · rw [e2, et n hn, eμ n hn]
          unfold tQ
          rw [if_neg d', ear]
          exact goQ_chain (by grind) g b0
        · rw [e2]
          unfold rsQ goA
          rw [if_neg d', if_neg c, if_pos g]
          split <;> split <;> grind
      · have ew : ∀ n ∈ lvB rs top, s1 n = wQ u m n := fun n hn => by
          rw [et n hn]
          unfold goQ
          rw [if_neg g]
        have e2 : freeQ rs top s1 μ = 0 := sum_zeroQ fun n hn => by
          rw [ew n hn, eμ n hn]
          exact Rat.sub_self
        refine ⟨fun n hn => ?_, ?_⟩
        · rw [e2, ew n hn, eμ n hn]
          unfold tQ
          rw [if_neg d']
          unfold goQ
          rw [if_neg (Rat.not_lt.mpr b0), if_neg (by grind)]
        · rw [e2]
          unfold rsQ goA
          rw [if_neg d', if_neg c, if_neg g, if_neg (Rat.not_lt.mpr b0), if_neg (by grind)]
          grind
  have S13 : (10 : Nat) ^ 13 ≤ 10 ^ 30 := by decide
  have H1 : HeldK rs top false "min" (stQ rs top u m l A) (fun n => mnQ (W1 n) (m n)) := o.heldK o.mz o.rm o.km (fun n => o.sz A0 hA n) hW1
  have H2 : HeldK rs top false "low" (stQ rs top u m l A) (fun n => mnQ (W1 n) (l n)) := o.heldK o.lz o.rl o.kl (fun n => o.sz A0 hA n) hW1
  have H3 : HeldK rs top false "min" s1 μ := by
    rw [← hμ]
    exact o.heldK o.mz o.rm o.km s1z hW2
  have kz : ∀ n ∈ lvB rs top, InMS (mmQ rs top u m l) (10 ^ 30) (κ n) ∧ κ n ≤ stQ rs top u m l A n := fun n hn => by
    rw [ek n hn, sA n hn]
    by_cases c : A < f1Q rs top u m l
    · rw [if_pos c]
      refine ⟨(o.vz n).1.up o.d0 S13, ?_⟩
      unfold tQ
      rw [if_pos c]
      exact (goQ_bd A0 (o.le n).2).1
    · rw [if_neg c]
      exact ⟨(o.tz A0 hA n).up (Nat.dvd_refl _) S13, Rat.le_refl⟩
  refine ⟨⟨⟨⟨_, H1, .inr ⟨_, rfl, H2, fun n hn => by rw [← hκ]; rfl⟩⟩, o.M0, lt_up o.hM (by decide), by decide, fun n hn => (o.sz A0 hA n).up (Nat.dvd_refl _) S13, fun n hn => (kz n hn).1, fun n hn => (kz n hn).2, hb.up o.d0 (Nat.le_refl _), fun n hn => ?_⟩, ?_⟩, fun n => ?_, ?_⟩
  · have := s1z n
    rw [← hs1] at this
    unfold goU at this
    rw [if_pos hn] at this
    exact this.up (Nat.dvd_refl _) S13
  · rw [hs1, ha1]
    refine ⟨⟨_, H3, .inl ⟨rfl, fun _ _ => rfl⟩⟩, o.M0, lt_up o.hM (by decide), by decide, fun n hn => (s1z n).up (Nat.dvd_refl _) S13, fun n hn => ?_, le2, ⟨of_den o.M0 (of_dvd a1O (by decide) o.d0 o.M0), a10, Rat.le_trans a1l hb.hi⟩, fun n hn => ?_⟩
    · rw [eμ n hn]
      exact (o.vz n).2.up o.d0 S13
    · rw [two.1 n hn]
      exact (o.tz AB0 ABo n).up (Nat.dvd_refl _) S13
  · unfold endU
    rw [hs1, ha1]
    by_cases hn : n ∈ lvB rs top
    · have e : goU rs top s1 μ a1 n = goQ (freeQ rs top s1 μ) a1 (s1 n) (μ n) := if_pos hn
      rw [e, two.1 n hn]
      exact (if_pos hn).symm
    · have e : goU rs top s1 μ a1 n = s1 n := if_neg hn
      rw [e, ← hs1]
      have e2 : goU rs top (stQ rs top u m l A) κ b n = stQ rs top u m l A n := if_neg hn
      rw [e2]
      unfold stQ
      rw [if_neg hn, if_neg hn]
  · unfold endA
    rw [hs1, ha1]
    exact two.2
/-- behind nothing -/
theorem RcOk.st0 (o : RcOk rs top u m l) (n : Str) : stQ rs top u m l 0 n = u n := by
  unfold stQ
  by_cases hn : n ∈ lvB rs top
  · rw [if_pos hn]
    have l1 : ∀ n ∈ lvB rs top, vQ u m l n ≤ u n := fun n _ => (o.le n).2
    have l2 : ∀ n ∈ lvB rs top, wQ u m n ≤ vQ u m l n := fun n _ => (o.le n).1
    unfold tQ
    by_cases c : 0 < f1Q rs top u m l
    · rw [if_pos c]
      exact goQ_zero _ _ c
    · rw [if_neg c]
      have e1 := free_none l1 c n hn
      have F0 : f1Q rs top u m l = 0 := by
        have : 0 ≤ f1Q rs top u m l := freeQ_nn l1
        grind
      rw [F0]
      by_cases d : 0 < f2Q rs top u m l
      · have : (0 : Rat) - 0 = 0 := by grind
        rw [this, goQ_zero _ _ d, e1]
      · have e2 := free_none l2 d n hn
        unfold goQ
        rw [if_neg (by grind), e2, e1]
  · rw [if_neg hn]
theorem RcOk.rs0 (o : RcOk rs top u m l) : rsQ rs top u m l 0 = 0 := by
  have F0 : 0 ≤ f1Q rs top u m l := freeQ_nn fun n _ => (o.le n).2
  have G0 : 0 ≤ f2Q rs top u m l := freeQ_nn fun n _ => (o.le n).1
  unfold rsQ goA
  split
  · rfl
  · split <;> grind
end
end Bd
end

section
/-! two tuples are equal whose items are, one by one, within one model (an item may hold a dict) -/
namespace PySem.SeqAt
open AutoSeq1 (wpAny_loadPart')
open MeetsSeq MeetsSeq2 MeetsSeq3 SeqRoads2 PyProof.Rows
section
variable {prog : Program} {w : World}
theorem eqTupIn (l b : Addr) (as bs : Array Value) (n n2 : Nat) (dd dd2 : Option Addr) (sl sl2 : Array (Option Value)) (hsz : as.size = bs.size) :
    MeetsIn prog w (Builtin.«tuple.__eq__» ⟨[.ref l, .ref b], []⟩)
      (fun A R s => s.heap.get? l = some { cls := .type "tuple", dict := dd, data := .seq as n, slots := sl } ∧ s.heap.get? b = some { cls := .type "tuple", dict := dd2, data := .seq bs n2, slots := sl2 } ∧
        (∀ p ∈ as.toList.zip bs.toList, EqP prog w A.in1 s p.1 p.2 true) ∧ R (.ok (.ret (.bool true))) s) := by
  intro A R s h
  obtain ⟨hp, g, d, tk, os⟩ := s
  obtain ⟨hl, hb, he, h⟩ := h
  have f2 := AutoSeq1.sub_tuple_tuple
  wp_walk using wpAny_loadPart' hl, wpAny_loadPart' hb, wpAny_forIn_list _ (fun rest c s' => c.1 = none ∧ s' = ⟨hp, g, d, tk, os⟩ ∧ ∀ p ∈ rest, EqP prog w A.in1 ⟨hp, g, d, tk, os⟩ p.1 p.2 true) _
  case turn =>
    rintro ⟨y, x⟩ rest c s' ⟨hc, rfl, hz⟩
    refine wpAny_bind (hz (y, x) List.mem_cons_self _ _ ?_)
    wp_walk
    exact ⟨rfl, rfl, fun p hm => hz p (List.mem_cons_of_mem _ hm)⟩
  case fin =>
    rintro ⟨c1, c2⟩ s' ⟨hc, rfl, _⟩
    simp only at hc
    subst hc
    wp_walk
    have e : (as.size == bs.size) = true := by simp [hsz]
    first
      | exact ⟨_, rfl, by simpa [Builtin.Tuple.tupleCompareSizes, e] using h⟩
      | simpa [Builtin.Tuple.tupleCompareSizes, e] using h
  case h => exact ⟨rfl, rfl, he⟩
theorem rcP_tups {A : Around} {s : Shared} {l b : Addr} {as bs : Array Value} (hl : IsTup s.heap l as) (hb : IsTup s.heap b bs) (hsz : as.size = bs.size) (hu : A.units < cLine) (he : ∀ p ∈ as.toList.zip bs.toList, EqP prog w A.in1 s p.1 p.2 true)
    (E Q : Value → Shared → Prop) (h : Q (.bool true) s) : wpAny (model prog w) A (richCompare .Eq (.ref l) (.ref b)) Q E s := by
  obtain ⟨⟨cls, dd, data, sl⟩, ho, hc, n, hd⟩ := id hl
  obtain ⟨⟨cls2, dd2, data2, sl2⟩, ho2, hc2, n2, hd2⟩ := id hb
  simp only at hc hd hc2 hd2
  subst hc hd hc2 hd2
  have ta : s.TypeIs (.ref l) "tuple" := ⟨_, ho, rfl⟩
  have tb : s.TypeIs (.ref b) "tuple" := ⟨_, ho2, rfl⟩
  exact wpAny_richCompare_same_room (op := .Eq) ta tb F.slot_tuple_eq (call_meetsIn F.slot_tuple_eq ta F.entry_tuple_eq (F.args_tuple_eq_2 _ _) (eqTupIn l b as bs n n2 dd dd2 sl sl2 hsz)
    ⟨ho, ho2, he, show Value.bool true ≠ Value.notImplemented ∧ Q (.bool true) s from ⟨(fun x => nomatch x), h⟩⟩) hu
end
end PySem.SeqAt
namespace Bd
open PySem PySem.Spec PyProof.Rows L2
theorem vals_zip {F : V → V → Prop} {xs ys : List V} (hp : Paired F xs ys) : ∀ {us ws : List Value}, Vals xs us → Vals ys ws → ∀ p ∈ us.zip ws, ∃ x y, F x y ∧ RelV x p.1 ∧ RelV y p.2 := by
  induction hp with
  | nil =>
    intro us ws r1 r2 p hm
    cases r1
    cases hm
  | cons h _ k =>
    intro us ws r1 r2 p hm
    cases r1 with
    | cons a1 b1 =>
      cases r2 with
      | cons a2 b2 =>
        rcases List.mem_cons.mp hm with rfl | hm
        · exact ⟨_, _, h, a1, a2⟩
        · exact k b1 b2 p hm
/-- two tuples of items that are equal, dicts too -/
def rEqTF (K : PySem.W.Frag) : R2 := fun x y H Q => ∃ a b xs ys, x = .ref a ∧ y = .ref b ∧ SqT K H a xs ∧ SqT K H b ys ∧ Paired (fun x y => ∃ n, n ≤ 10 ∧ EqF K H n x y true) xs ys ∧ Q (.bl true) H
theorem op_eqTF {X : Cx} (hu : X.A.units + 100 < cLine) : OpR X (compareOp .Eq) (rEqTF X.K) := by
  intro pins s σ H x y v u Q I rx ry h
  obtain ⟨a, b, xs, ys, rfl, rfl, ha, hb, hp, q⟩ := h
  cases (show v = Value.ref a from rx)
  cases (show u = Value.ref b from ry)
  obtain ⟨us, r1, p1, _⟩ := I.tuple ha
  obtain ⟨ws, r2, p2, _⟩ := I.tuple hb
  have hsz : us.toArray.size = ws.toArray.size := by
    rw [List.size_toArray, List.size_toArray, ← r1.length, ← r2.length]
    exact Paired.length hp
  refine SeqAt.rcP_tups p1 p2 hsz (by omega) (fun p hm => ?_) _ _ ⟨.bl true, H, I, rfl, q⟩
  obtain ⟨x, y, ⟨n, hn, hF⟩, rx2, ry2⟩ := vals_zip hp r1 r2 p (by simpa using hm)
  exact eqF_run I n X.A.in1 (by show X.A.units + 1 + n + 65 < cLine; omega) x y _ _ true hF rx2 ry2
end Bd
end

section
/-! two tuples are not unequal whose items are equal, one by one -/
namespace PySem.SeqAt
open AutoSeq1 (wpAny_loadPart')
open MeetsSeq MeetsSeq2 MeetsSeq3 SeqRoads2 PyProof.Rows
section
variable {prog : Program} {w : World}
theorem neTupIn (l b : Addr) (as bs : Array Value) (n n2 : Nat) (dd dd2 : Option Addr) (sl sl2 : Array (Option Value)) (hsz : as.size = bs.size) :
    MeetsIn prog w (Builtin.«tuple.__ne__» ⟨[.ref l, .ref b], []⟩)
      (fun A R s => s.heap.get? l = some { cls := .type "tuple", dict := dd, data := .seq as n, slots := sl } ∧ s.heap.get? b = some { cls := .type "tuple", dict := dd2, data := .seq bs n2, slots := sl2 } ∧
        (∀ p ∈ as.toList.zip bs.toList, EqP prog w A.in1 s p.1 p.2 true) ∧ R (.ok (.ret (.bool false))) s) := by
  intro A R s h
  obtain ⟨hp, g, d, tk, os⟩ := s
  obtain ⟨hl, hb, he, h⟩ := h
  have f2 := AutoSeq1.sub_tuple_tuple
  wp_walk using wpAny_loadPart' hl, wpAny_loadPart' hb, wpAny_forIn_list _ (fun rest c s' => c.1 = none ∧ s' = ⟨hp, g, d, tk, os⟩ ∧ ∀ p ∈ rest, EqP prog w A.in1 ⟨hp, g, d, tk, os⟩ p.1 p.2 true) _
  case turn =>
    rintro ⟨y, x⟩ rest c s' ⟨hc, rfl, hz⟩
    refine wpAny_bind (hz (y, x) List.mem_cons_self _ _ ?_)
    wp_walk
    exact ⟨rfl, rfl, fun p hm => hz p (List.mem_cons_of_mem _ hm)⟩
  case fin =>
    rintro ⟨c1, c2⟩ s' ⟨hc, rfl, _⟩
    simp only at hc
    subst hc
    wp_walk
    have e : (as.size == bs.size) = true := by simp [hsz]
    first
      | exact ⟨_, rfl, by simpa [Builtin.Tuple.tupleCompareSizes, e] using h⟩
      | simpa [Builtin.Tuple.tupleCompareSizes, e] using h
      | simpa [Builtin.Tuple.tupleCompareSizes, hsz] using h
  case h => exact ⟨rfl, rfl, he⟩
theorem rcN_tups {A : Around} {s : Shared} {l b : Addr} {as bs : Array Value} (hl : IsTup s.heap l as) (hb : IsTup s.heap b bs) (hsz : as.size = bs.size) (hu : A.units < cLine) (he : ∀ p ∈ as.toList.zip bs.toList, EqP prog w A.in1 s p.1 p.2 true)
    (E Q : Value → Shared → Prop) (h : Q (.bool false) s) : wpAny (model prog w) A (richCompare .NotEq (.ref l) (.ref b)) Q E s := by
  obtain ⟨⟨cls, dd, data, sl⟩, ho, hc, n, hd⟩ := id hl
  obtain ⟨⟨cls2, dd2, data2, sl2⟩, ho2, hc2, n2, hd2⟩ := id hb
  simp only at hc hd hc2 hd2
  subst hc hd hc2 hd2
  have ta : s.TypeIs (.ref l) "tuple" := ⟨_, ho, rfl⟩
  have tb : s.TypeIs (.ref b) "tuple" := ⟨_, ho2, rfl⟩
  exact wpAny_richCompare_same_room (op := .NotEq) ta tb F.slot_tuple_ne (call_meetsIn F.slot_tuple_ne ta F.entry_tuple_ne (F.args_tuple_ne_2 _ _) (neTupIn l b as bs n n2 dd dd2 sl sl2 hsz)
    ⟨ho, ho2, he, show Value.bool false ≠ Value.notImplemented ∧ Q (.bool false) s from ⟨(fun x => nomatch x), h⟩⟩) hu
end
end PySem.SeqAt
namespace Bd
open PySem PySem.Spec PyProof.Rows L2
def rNeTF (K : PySem.W.Frag) : R2 := fun x y H Q => ∃ a b xs ys, x = .ref a ∧ y = .ref b ∧ SqT K H a xs ∧ SqT K H b ys ∧ Paired (fun x y => ∃ n, n ≤ 10 ∧ EqF K H n x y true) xs ys ∧ Q (.bl false) H
theorem op_neTF {X : Cx} (hu : X.A.units + 100 < cLine) : OpR X (compareOp .NotEq) (rNeTF X.K) := by
  intro pins s σ H x y v u Q I rx ry h
  obtain ⟨a, b, xs, ys, rfl, rfl, ha, hb, hp, q⟩ := h
  cases (show v = Value.ref a from rx)
  cases (show u = Value.ref b from ry)
  obtain ⟨us, r1, p1, _⟩ := I.tuple ha
  obtain ⟨ws, r2, p2, _⟩ := I.tuple hb
  have hsz : us.toArray.size = ws.toArray.size := by
    rw [List.size_toArray, List.size_toArray, ← r1.length, ← r2.length]
    exact Paired.length hp
  refine SeqAt.rcN_tups p1 p2 hsz (by omega) (fun p hm => ?_) _ _ ⟨.bl false, H, I, rfl, q⟩
  obtain ⟨x, y, ⟨n, hn, hF⟩, rx2, ry2⟩ := vals_zip hp r1 r2 p (by simpa using hm)
  exact eqF_run I n X.A.in1 (by show X.A.units + 1 + n + 65 < cLine; omega) x y _ _ true hF rx2 ry2
end Bd
end

section
namespace Bd
open PySem L2 Am
open Evl hiding tCut pss_cut
/-! words for what a reclaim answers (from G26, for other laws) -/
section
variable {K : PySem.W.Frag} {H : Hp} {σ : L2.St} {ta tb te tx tq td : TE} {E : XK} {C : Addr}
def EvTr (K : PySem.W.Frag) (C : Addr) (te : TE) (σ : L2.St) (H : Hp) (rows : List RowM) (b : Bool) : Prop := ∀ H1, Ex H H1 → ∀ Q : VK, (∀ p tk H2, Ex H1 H2 → TreeAt K H2 C p rows b tk → Q (.ref p) H2) → te σ H1 Q
theorem EvTree.tr {rows : List RowM} {b : Bool} (h : EvTree K C te σ H rows b) : EvTr K C te σ H rows b := fun H1 e Q k => h H1 e Q fun p tk H2 _ e2 t => k p tk H2 e2 t
theorem tr_var {i : Nat} {p : Addr} {rows : List RowM} {b : Bool} {tk : List (Key × V)} (hi : σ[i]? = some (some (.ref p))) (ht : TreeAt K H C p rows b tk) (rok : RowsOk rows) : EvTr K C (tVar i) σ H rows b := fun H1 e Q k => ⟨_, hi, k p tk H1 (Ex.refl _) (ht.same e rok)⟩
theorem ea_tree {ts : L2.TA} {rows : List RowM} {b : Bool} {Q : List V → Hp → Prop} (h : EvTree K C te σ H rows b) (k : ∀ p tk H1, H p = none → Ex H H1 → TreeAt K H1 C p rows b tk → ts σ H1 fun xs H2 => Q (.ref p :: xs) H2) : tCons te ts σ H Q := h H (Ex.refl H) _ fun p tk H1 hp e t => k p tk H1 hp e t
/-- a dict by names, new or there -/
def EvDm (K : PySem.W.Frag) (te : TE) (σ : L2.St) (H : Hp) (f : Str → Rat) (ns : List Str) : Prop := ∀ H1, Ex H H1 → ∀ Q : VK, (∀ d ls H2, Ex H1 H2 → H2 d = some (.dK ls) → MapR (AmR K f) H2 ls ns → Q (.ref d) H2) → te σ H1 Q
theorem dm_var {i : Nat} {d : Addr} {ls : List (Key × V)} {f : Str → Rat} {ns : List Str} (hi : σ[i]? = some (some (.ref d))) (fd : H d = some (.dK ls)) (m : MapR (AmR K f) H ls ns) : EvDm K (tVar i) σ H f ns := fun H1 e Q k => ⟨_, hi, k d ls H1 (Ex.refl _) (e _ _ fd) (m.mono fun _ _ z => AmtQ.same e z)⟩
/-- what a reclaim answers -/
def EvRes (K : PySem.W.Frag) (te : TE) (σ : L2.St) (H : Hp) (f : Str → Rat) (ns : List Str) (q : Rat) : Prop := ∀ H1, Ex H H1 → ∀ Q : VK, (∀ r d ls v H2, H1 r = none → H1 d = none → Ex H1 H2 → SqT K H2 r [.ref d, v] → H2 d = some (.dK ls) → MapR (AmR K f) H2 ls ns → AmtQ K H2 v q → Q (.ref r) H2) → te σ H1 Q
theorem er_recl {j : Nat} {du : Addr} {top : Str} {rows : List RowM} {h : Bool} {U κ μ : Str → Rat} {b : Rat} {M S : Nat} (ht : EvTr K C te σ H rows h) (rok : RowsOk rows) (len : rows.length ≤ 200) (hj : σ[j]? = some (some (.ref du))) (hu : UsesAt K H du rows U) (hx : Ev tx σ H (.str top)) (hc1 : top ∈ ("" : Str) :: nms rows) (hc2 : top = "" ∨ kidsOf rows (Sum.inr top) ≠ []) (hb : EvQ K tb σ H b) (o : BothOk rows top h U κ μ b M S) :
    EvRes K (tCall (spRecl K C) [] E (tCons te (tCons (tVar j) (tCons tx (tCons tb tNil))))) σ H (endU rows top U κ μ b) (leavesOf rows) (endA rows top U κ μ b) := fun H1 e Q k =>
  ht H1 e _ fun p tk H2 e2 t2 => ⟨_, hj, hx H2 (e.trans e2) _ fun H3 e3 => hb H3 ((e.trans e2).trans e3) _ fun vb H4 e4 hvb =>
    ⟨p, du, vb, top, rows, h, tk, U, κ, μ, b, M, S, rfl, (t2.same e3 rok).same e4 rok, rok, len, hc1, hc2, hvb, o, hu.same (((e.trans e2).trans e3).trans e4), fun r d ls v H5 hr hd s5 fr fd m hv => k r d ls v H5 (fresh_back ((e2.trans e3).trans e4) hr) (fresh_back ((e2.trans e3).trans e4) hd) (((e2.trans e3).trans e4).trans s5) fr fd m hv⟩⟩
theorem res_is {f g : Str → Rat} {ns : List Str} {q q' : Rat} (h : EvRes K te σ H f ns q) (e : ∀ n, f n = g n) (eq : q = q') : EvRes K te σ H g ns q' := by
  have : f = g := funext e
  rw [← this, ← eq]
  exact h
theorem eqF_amt {H : Hp} {v w : V} {q : Rat} (h1 : AmtQ K H v q) (h2 : AmtQ K H w q) : EqF K H 0 v w true := ⟨amtD q, amtD q, dp_amt h1, dp_amt h2, shaped_amt _, shaped_amt _, (eqv_amt _).symm⟩
theorem eqF_dict {H : Hp} {d d2 : Addr} {ls ls2 : List (Key × V)} {f g : Str → Rat} {ns ms : List Str} (fd : H d = some (.dK ls)) (fd2 : H d2 = some (.dK ls2)) (m : MapR (AmR K f) H ls ns) (m2 : MapR (AmR K g) H ls2 ms) (nd : ms.Nodup) (lens : ns.length = ms.length) (sub : ∀ n ∈ ns, n ∈ ms ∧ f n = g n) : EqF K H 1 (.ref d) (.ref d2) true := by
  refine ⟨d, d2, rfl, rfl, ?_⟩
  by_cases c : d = d2
  · exact .inl ⟨c, rfl⟩
  · refine .inr ⟨c, ls, ls2, true, fd, fd2, fun _ => hits_am m fun n hn => ?_, ?_⟩
    · obtain ⟨h1, h2⟩ := sub n hn
      obtain ⟨v, a, b⟩ := m2.get nd h1
      exact ⟨v, a, by rw [h2]; exact b⟩
    · have : ls.length = ls2.length := by rw [Paired.length m, Paired.length m2, lens]
      rw [this]
      simp
theorem ev_resC {r : R2} {z : V} {f g : Str → Rat} {ns ms : List Str} {q q' : Rat} (hr : ∀ (a b : Addr) (xs ys : List V) (H1 : Hp) (Q : VK), SqT K H1 a xs → SqT K H1 b ys → Paired (fun x y => ∃ n, n ≤ 10 ∧ EqF K H1 n x y true) xs ys → Q z H1 → r (.ref a) (.ref b) H1 Q)
    (h : EvRes K ta σ H f ns q) (hd : EvDm K td σ H g ms) (hq : EvQ K tq σ H q') (nd : ms.Nodup) (lens : ns.length = ms.length) (sub : ∀ n ∈ ns, n ∈ ms ∧ f n = g n) (eq : q = q') : Ev (tOp r ta (tTup (tCons td (tCons tq tNil)))) σ H z := fun H1 e Q k =>
  h H1 e _ fun a d ls v H2 _ _ e2 fr fd m hv => hd H2 (e.trans e2) _ fun d2 ls2 H3 e3 fd2 m2 => hq H3 ((e.trans e2).trans e3) _ fun vq H4 e4 hvq => ⟨by show 2 ≤ sizeLine; decide, fun tp htp => by
    have s5 := Same.new (Same.refl H4) htp (.tup [.ref d2, vq])
    have f5 : upd H4 tp (.tup [.ref d2, vq]) tp = some (.tup [.ref d2, vq]) := upd_same
    generalize upd H4 tp (.tup [.ref d2, vq]) = H5 at s5 f5 ⊢
    have e25 := (e3.trans e4).trans s5
    have e35 := e4.trans s5
    subst eq
    refine hr a tp _ _ H5 Q (ex_t e25 fr) (SqT.of f5) (.cons ⟨1, by decide, eqF_dict (e25 _ _ fd) (e35 _ _ fd2) (m.mono fun _ _ z => AmtQ.same e25 z) (m2.mono fun _ _ z => AmtQ.same e35 z) nd lens sub⟩ (.cons ⟨0, by decide, eqF_amt (hv.same e25) (hvq.same s5)⟩ .nil)) (k H5 (e2.trans e25))⟩
theorem eqTF_i (a b : Addr) (xs ys : List V) (H1 : Hp) (Q : VK) (h1 : SqT K H1 a xs) (h2 : SqT K H1 b ys) (h3 : Paired (fun x y => ∃ n, n ≤ 10 ∧ EqF K H1 n x y true) xs ys) (q : Q (.bl true) H1) : rEqTF K (.ref a) (.ref b) H1 Q := ⟨a, b, xs, ys, rfl, rfl, h1, h2, h3, q⟩
theorem neTF_i (a b : Addr) (xs ys : List V) (H1 : Hp) (Q : VK) (h1 : SqT K H1 a xs) (h2 : SqT K H1 b ys) (h3 : Paired (fun x y => ∃ n, n ≤ 10 ∧ EqF K H1 n x y true) xs ys) (q : Q (.bl false) H1) : rNeTF K (.ref a) (.ref b) H1 Q := ⟨a, b, xs, ys, rfl, rfl, h1, h2, h3, q⟩
theorem uses_all {rows : List RowM} {f : Str → Rat} {d : Addr} {ls : List (Key × V)} (rok : RowsOk rows) (len : rows.length ≤ 200) (fd : H d = some (.dK ls)) (m : MapR (AmR K f) H ls (leavesOf rows)) (hz : ∀ n ∈ leavesOf rows, Sz (f n) ∧ 0 ≤ f n) : UsesAt K H d rows f :=
  ⟨ls, leavesOf rows, fd, m, leaves_nd rok, Nat.le_trans leaves_len2 len, fun n hn => ⟨hn, hz n hn⟩, fun n hn hno => absurd hn hno⟩
end
def EvUs (K : PySem.W.Frag) (te : TE) (σ : L2.St) (H : Hp) (rows : List RowM) (U : Str → Rat) : Prop := ∀ H1, Ex H H1 → ∀ Q : VK, (∀ du H2, Ex H1 H2 → UsesAt K H2 du rows U → Q (.ref du) H2) → te σ H1 Q
section
variable {K : PySem.W.Frag} {H : Hp} {σ : L2.St} {ta tb te tx tq td t1 t2 t3 tt tk' : TE} {E : XK} {C : Addr} {D : Ends} {tz : TS}
theorem us_var {i : Nat} {du : Addr} {rows : List RowM} {U : Str → Rat} (hi : σ[i]? = some (some (.ref du))) (h : UsesAt K H du rows U) : EvUs K (tVar i) σ H rows U := fun H1 e Q k => ⟨_, hi, k du H1 (Ex.refl _) (h.same e)⟩
theorem us_new {rows : List RowM} {U : Str → Rat} {ns : List Str} (h : EvM K te σ H U ns) (en : leavesOf rows = ns) (nd : ns.Nodup) (len : ns.length ≤ 200) (hz : ∀ n ∈ ns, Sz (U n) ∧ 0 ≤ U n) : EvUs K te σ H rows U := fun H1 e Q k => h H1 e _ fun d ls H2 _ e2 fd m => k d H2 e2 ⟨ls, ns, fd, m, nd, len, fun n hn => ⟨by rw [en]; exact hn, hz n hn⟩, fun n hn hno => by rw [en] at hn; exact absurd hn hno⟩
theorem er_reclU {top : Str} {rows : List RowM} {h : Bool} {U κ μ : Str → Rat} {b : Rat} {M S : Nat} (ht : EvTr K C te σ H rows h) (rok : RowsOk rows) (len : rows.length ≤ 200) (hu : EvUs K td σ H rows U) (hx : Ev tx σ H (.str top)) (hc1 : top ∈ ("" : Str) :: nms rows) (hc2 : top = "" ∨ kidsOf rows (Sum.inr top) ≠ []) (hb : EvQ K tb σ H b) (o : BothOk rows top h U κ μ b M S) :
    EvRes K (tCall (spRecl K C) [] E (tCons te (tCons td (tCons tx (tCons tb tNil))))) σ H (endU rows top U κ μ b) (leavesOf rows) (endA rows top U κ μ b) := fun H1 e Q k =>
  ht H1 e _ fun p tk H2 e2 t2 => hu H2 (e.trans e2) _ fun du H2' e2' hu2 => hx H2' ((e.trans e2).trans e2') _ fun H3 e3 => hb H3 (((e.trans e2).trans e2').trans e3) _ fun vb H4 e4 hvb =>
    ⟨p, du, vb, top, rows, h, tk, U, κ, μ, b, M, S, rfl, ((t2.same e2' rok).same e3 rok).same e4 rok, rok, len, hc1, hc2, hvb, o, hu2.same (e3.trans e4), fun r d ls v H5 hr hd s5 fr fd m hv => k r d ls v H5 (fresh_back (((e2.trans e2').trans e3).trans e4) hr) (fresh_back (((e2.trans e2').trans e3).trans e4) hd) ((((e2.trans e2').trans e3).trans e4).trans s5) fr fd m hv⟩
theorem res_on {f g : Str → Rat} {ns ms : List Str} {q q' : Rat} (h : EvRes K te σ H f ns q) (en : ns = ms) (e : ∀ n ∈ ms, f n = g n) (eq : q = q') : EvRes K te σ H g ms q' := fun H1 e1 Q k => h H1 e1 Q fun r d ls v H2 hr hd e2 fr fd m hv => k r d ls v H2 hr hd e2 fr fd (by
  subst en
  exact paired_monoM (fun kv n hn z => ⟨z.1, by have := z.2; unfold AmR at this ⊢; rw [← e n hn]; exact this⟩) m) (by rw [← eq]; exact hv)
/-- what is used behind it: reclaimed(..)[0] -/
theorem em_res0 {f : Str → Rat} {ns : List Str} {q : Rat} (h : EvRes K te σ H f ns q) : EvM K (tOp (rIxT K) te (tC (.int 0))) σ H f ns := fun H1 e Q k => h H1 e _ fun r d ls v H2 _ hd e2 fr fd m _ => ⟨r, _, 0, _, rfl, rfl, fr, show atI _ ((0 : Nat) : Int) = _ from atI_nat rfl, k d ls H2 hd e2 fd m⟩
end
section
theorem q_forRng {n i : Nat} {tb tz : TS} {D : Ends} {σ : L2.St} {H : Hp} (Pv : Nat → L2.St → Hp → Prop) (h0 : Pv 0 σ H) (h1 : ((n : Nat) : Int) < 2 ^ 62) (h2 : -(2 ^ 62) ≤ ((n : Nat) : Int))
    (hs : ∀ (j : Nat) σ G, j < n → Pv j σ G → ∀ D2 : Ends, (∀ σ2 G2, Pv (j + 1) σ2 G2 → D2.nx σ2 G2) → tb D2 (σ.set i (some (.int (0 + (j : Int))))) G) (hd : ∀ σ G, Pv n σ G → tz D σ G) : tSeq (tFor (iRng1 (tCons (tC (.int (n : Int))) tNil)) (gName i) tb) tz D σ H :=
  ⟨_, rfl, h2, h1, for_range (D := { D with nx := tz D }) (n := n) Pv h0 (fun j σ G hj p => hs j σ G hj p _ fun _ _ h => h) hd⟩
end
section
variable {K : PySem.W.Frag} {H : Hp} {σ : L2.St} {te tn : TE}
theorem dm_of {f : Str → Rat} {ns : List Str} (h : EvM K te σ H f ns) : EvDm K te σ H f ns := fun H1 e Q k => h H1 e Q fun d ls H2 _ e2 fd m => k d ls H2 e2 fd m
theorem eq_dgetM42 {f : Str → Rat} {ns : List Str} {n : Str} (h : EvM K te σ H f ns) (hx : Ev tn σ H (.str n)) (nd : ns.Nodup) (hn : n ∈ ns) : EvQ K (tDGet te tn) σ H (f n) := fun H1 e Q k => h H1 e _ fun d ls H2 _ e2 fd m => hx H2 (e.trans e2) _ fun H3 e3 => by
  obtain ⟨v, a, b⟩ := m.get nd hn
  exact ⟨d, v, rfl, dget_of (k := Sum.inr n) (e3 _ _ fd) a, k v H3 (e2.trans e3) (AmtQ.same e3 b)⟩
end
end Bd
end

section
namespace Bd
open PySem L2 Am
open Evl hiding tCut pss_cut
/-! the greatest that a group can get -/
def boundsG (h : Bool) (way : List Str) : List Str := if h then [lastL way] else way
def mostF (k : Str → Rat) (u : Rat) (xs : List Str) : Rat := xs.foldl (fun m g => if k g < m then k g else m) u
theorem most_ge {k : Str → Rat} {q : Rat} : ∀ {xs : List Str} {u : Rat}, q ≤ u → (∀ g ∈ xs, q ≤ k g) → q ≤ mostF k u xs
  | [], _, h, _ => h
  | g :: xs, u, h, h2 => by
    show q ≤ mostF k (if k g < u then k g else u) xs
    refine most_ge ?_ fun y hy => h2 y (List.mem_cons_of_mem _ hy)
    split
    · exact h2 g List.mem_cons_self
    · exact h
theorem most_le {k : Str → Rat} : ∀ {xs : List Str} {u : Rat}, mostF k u xs ≤ u ∧ ∀ g ∈ xs, mostF k u xs ≤ k g
  | [], _ => ⟨Rat.le_refl, fun _ h => by cases h⟩
  | g :: xs, u => by
    have ih := most_le (k := k) (xs := xs) (u := if k g < u then k g else u)
    have e : mostF k u (g :: xs) = mostF k (if k g < u then k g else u) xs := rfl
    rw [e]
    have h1 : (if k g < u then k g else u) ≤ u ∧ (if k g < u then k g else u) ≤ k g := by
      split
      · rename_i c
        exact ⟨Rat.le_of_lt c, Rat.le_refl⟩
      · rename_i c
        exact ⟨Rat.le_refl, by grind⟩
    refine ⟨Rat.le_trans ih.1 h1.1, fun y hy => ?_⟩
    rcases List.mem_cons.mp hy with rfl | m
    · exact Rat.le_trans ih.1 h1.2
    · exact ih.2 y m
theorem part_leA {M S : Nat} {a un : Rat} {kids : List Str} {U c : Str → Rat} {h : Bool} {x : Str} (po : PartOk M S a un kids U c) (hsum : un = sumQ (kids.map U)) (hx : x ∈ kids) : partQ h a un (sumQ (kids.map c)) U c x ≤ a := by
  have cx := sum_ge1 (fun y hy => (po.kc y hy).lo) hx
  have c0 := (po.kc x hx).lo
  unfold partQ
  by_cases l : a < sumQ (kids.map c)
  · rw [if_pos l]
    have lp := po.clp l
    have i0 := Rat.le_of_lt (Rat.inv_pos.mpr lp)
    have e : c x * (a / sumQ (kids.map c)) = a * (c x * (sumQ (kids.map c))⁻¹) := by
      rw [Rat.div_def]
      grind
    have h1 : c x * (sumQ (kids.map c))⁻¹ ≤ 1 := by
      have := Rat.mul_le_mul_of_nonneg_right cx i0
      rwa [Rat.mul_inv_cancel _ (fun e => by rw [e] at lp; exact absurd lp (by decide))] at this
    rw [e]
    have := Rat.mul_le_mul_of_nonneg_left h1 po.a0
    rwa [Rat.mul_one] at this
  · rw [if_neg l]
    by_cases g : h = true ∧ sumQ (kids.map c) < un
    · rw [if_pos g]
      obtain ⟨r0, r1, _, _⟩ := po.rr l g.2
      have p2 : 0 < un - sumQ (kids.map c) := by have := g.2; grind
      have er : (un - sumQ (kids.map c)) * ((a - sumQ (kids.map c)) / (un - sumQ (kids.map c))) = a - sumQ (kids.map c) := by
        rw [Rat.div_def, Rat.mul_comm, Rat.mul_assoc, Rat.inv_mul_cancel _ (fun e => by rw [e] at p2; exact absurd p2 (by decide)), Rat.mul_one]
      generalize (a - sumQ (kids.map c)) / (un - sumQ (kids.map c)) = r at r0 r1 er ⊢
      have f0 : ∀ y ∈ kids, 0 ≤ c y + (U y - c y) * r := fun y hy => by
        have := Rat.mul_nonneg (by have := po.cu y hy; grind : 0 ≤ U y - c y) r0
        have := (po.kc y hy).lo
        grind
      have hle := sum_ge1 f0 hx
      have es : sumQ (kids.map fun y => c y + (U y - c y) * r) = sumQ (kids.map c) + (un - sumQ (kids.map c)) * r := by
        rw [sum_add, sum_mulR, sum_sub, ← hsum]
      rw [es, er] at hle
      grind
    · rw [if_neg g]
      grind
section
variable {rs : List RowM} {top : Str} {h : Bool} {k u U c p : Str → Rat} {M S m s : Nat}
theorem Bds.pp (B : Bds rs M S m s k U) (R : Reck rs top h k u U c p) (rok : RowsOk rs) {r q : RowM} (hr : r ∈ rs) (hq : q ∈ rs) (e : r.above = q.name) (hb : q.name ∈ belowL rs top) (ne : r.above ≠ top) : p r.name = partQ h (p q.name) (U q.name) (sumQ ((kidsOf rs (Sum.inr q.name)).map c)) U c r.name ∧ PartOk M S (p q.name) (U q.name) (kidsOf rs (Sum.inr q.name)) U c ∧ r.name ∈ kidsOf rs (Sum.inr q.name) ∧ U q.name = sumQ ((kidsOf rs (Sum.inr q.name)).map U) := by
  obtain ⟨p0, p1, p2, _⟩ := B.p0 R rok q.name hb
  have hk : r.name ∈ kidsOf rs (Sum.inr q.name) := e ▸ kid_of hr
  refine ⟨?_, B.po R hq p0 p1 p2, hk, ?_⟩
  · rw [R.up r hr, if_neg ne, e]
  · rw [R.use q hq, if_neg (fun z => by rw [z] at hk; cases hk)]
theorem way_rows {n : Str} {mm : Nat} (rok : RowsOk rs) (hn : n ∈ nms rs) (w : WayOk rs n top mm) {i : Nat} (hi : i < mm) : ∃ r ∈ rs, r.name = upA rs n i ∧ r.above = upA rs n (i + 1) ∧ r.name ∈ belowL rs top := by
  obtain ⟨r, hr, e1, e2⟩ := w.row rok hn hi
  exact ⟨r, hr, e1, e2, by rw [e1]; exact (w.in_below rok hn (w.mem.mpr ⟨i, hi, rfl⟩)).2⟩
/-- what is got falls along the path -/
theorem p_fall {n : Str} {mm : Nat} (B : Bds rs M S m s k U) (R : Reck rs top h k u U c p) (rok : RowsOk rs) (hn : n ∈ nms rs) (w : WayOk rs n top mm) : ∀ i, i < mm → p n ≤ p (upA rs n i)
  | 0, _ => Rat.le_refl
  | i + 1, hi => by
    have ih := p_fall B R rok hn w i (by omega)
    obtain ⟨r, hr, e1, e2, _⟩ := way_rows rok hn w (i := i) (by omega)
    obtain ⟨q, hq, e3, _, hb⟩ := way_rows rok hn w (i := i + 1) hi
    have ne : r.above ≠ top := by
      rw [e2]
      exact (w.lt (i + 1) hi).1
    obtain ⟨ep, po, hk, hs⟩ := B.pp R rok hr hq (e2.trans e3.symm) hb ne
    rw [e1, e3] at ep
    have := part_leA (h := h) po hs hk
    rw [e1, e3] at this
    rw [← ep] at this
    exact Rat.le_trans ih this
theorem p_last {n : Str} {mm : Nat} (R : Reck rs top h k u U c p) (rok : RowsOk rs) (hn : n ∈ nms rs) (w : WayOk rs n top mm) : p (upA rs n (mm - 1)) = c (upA rs n (mm - 1)) := by
  have := w.pos
  obtain ⟨r, hr, e1, e2, _⟩ := way_rows rok hn w (i := mm - 1) (by omega)
  have e3 : mm - 1 + 1 = mm := by omega
  rw [e3, w.end_] at e2
  rw [← e1, R.up r hr, if_pos e2]
theorem p_cl {n : Str} {mm : Nat} (B : Bds rs M S m s k U) (R : Reck rs top false k u U c p) (rok : RowsOk rs) (hn : n ∈ nms rs) (w : WayOk rs n top mm) {i : Nat} (hi : i < mm) : p (upA rs n i) ≤ c (upA rs n i) := by
  by_cases l : i = mm - 1
  · rw [l, p_last R rok hn w]
    exact Rat.le_refl
  · obtain ⟨r, hr, e1, e2, _⟩ := way_rows rok hn w hi
    obtain ⟨q, hq, e3, _, hb⟩ := way_rows rok hn w (i := i + 1) (by omega)
    have ne : r.above ≠ top := by
      rw [e2]
      exact (w.lt (i + 1) (by omega)).1
    obtain ⟨ep, po, hk, hs⟩ := B.pp R rok hr hq (e2.trans e3.symm) hb ne
    rw [← e1, ep]
    unfold partQ
    by_cases l2 : p q.name < sumQ ((kidsOf rs (Sum.inr q.name)).map c)
    · rw [if_pos l2]
      have lp := po.clp l2
      have r1 : p q.name / sumQ ((kidsOf rs (Sum.inr q.name)).map c) ≤ 1 := by
        rw [Rat.div_def]
        have := Rat.mul_le_mul_of_nonneg_right (Rat.le_of_lt l2) (Rat.le_of_lt (Rat.inv_pos.mpr lp))
        rwa [Rat.mul_inv_cancel _ (fun e => by rw [e] at lp; exact absurd lp (by decide))] at this
      have := Rat.mul_le_mul_of_nonneg_left r1 (po.kc _ hk).lo
      rwa [Rat.mul_one] at this
    · rw [if_neg l2, if_neg (fun z => by cases z.1)]
      exact Rat.le_refl
theorem R_cle (R : Reck rs top h k u U c p) {r : RowM} (hr : r ∈ rs) : c r.name ≤ k r.name ∧ c r.name ≤ U r.name := by
  rw [R.cl r hr]
  split
  · rename_i z
    exact ⟨Rat.le_refl, Rat.le_of_lt z⟩
  · rename_i z
    exact ⟨by grind, Rat.le_refl⟩
/-- never more than the greatest -/
theorem p_most {n : Str} {mm : Nat} (B : Bds rs M S m s k U) (R : Reck rs top h k u U c p) (rok : RowsOk rs) (hn : n ∈ nms rs) (w : WayOk rs n top mm) : p n ≤ mostF k (U n) (boundsG h (wayL rs n top)) := by
  obtain ⟨r0, hr0, e0, _, hb0⟩ := way_rows rok hn w w.pos
  have e0 : r0.name = n := e0
  refine most_ge ?_ fun g hg => ?_
  · rw [← e0]
    exact (B.p0 R rok _ hb0).2.1
  · unfold boundsG at hg
    cases h with
    | true =>
      rw [if_pos rfl] at hg
      rw [List.mem_singleton.mp hg, way_last w]
      obtain ⟨r, hr, e1, _, _⟩ := way_rows rok hn w (i := mm - 1) (by have := w.pos; omega)
      have h1 := p_fall B R rok hn w (mm - 1) (by have := w.pos; omega)
      rw [p_last R rok hn w, ← e1] at h1
      rw [← e1]
      exact Rat.le_trans h1 (R_cle R hr).1
    | false =>
      rw [if_neg (by decide)] at hg
      obtain ⟨i, hi, rfl⟩ := w.mem.mp hg
      obtain ⟨r, hr, e1, _, _⟩ := way_rows rok hn w hi
      have h1 := p_fall B R rok hn w i hi
      have h2 := p_cl B R rok hn w hi
      rw [← e1] at h1 h2 ⊢
      exact Rat.le_trans h1 (Rat.le_trans h2 (R_cle R hr).1)
/-- with all others idle, the greatest itself -/
theorem p_idle {n : Str} {mm : Nat} {use : Rat} (B : Bds rs M S m s k U) (R : Reck rs top h k u U c p) (rok : RowsOk rs) (hn : n ∈ nms rs) (w : WayOk rs n top mm) (hon : ∀ i, i < mm → U (upA rs n i) = use) (hoff : ∀ i, i + 1 < mm → ∀ y ∈ kidsOf rs (Sum.inr (upA rs n (i + 1))), y ≠ upA rs n i → U y = 0) : p n = mostF k use (boundsG h (wayL rs n top)) := by
  have hU0 : U n = use := hon 0 w.pos
  have up := p_most B R rok hn w
  rw [hU0] at up
  obtain ⟨m1, m2⟩ := most_le (k := k) (xs := boundsG h (wayL rs n top)) (u := use)
  have cAt : ∀ i, i < mm → c (upA rs n i) = if k (upA rs n i) < use then k (upA rs n i) else use := fun i hi => by
    obtain ⟨r, hr, e1, _, _⟩ := way_rows rok hn w hi
    rw [← hon i hi, ← e1]
    exact R.cl r hr
  have low : ∀ j i, i + j + 1 = mm → mostF k use (boundsG h (wayL rs n top)) ≤ p (upA rs n i) := by
    intro j
    induction j with
    | zero =>
      intro i e
      have ei : i = mm - 1 := by omega
      have hi : i < mm := by omega
      rw [ei, p_last R rok hn w, ← ei, cAt i hi]
      split
      · refine m2 _ ?_
        unfold boundsG
        cases h with
        | true => rw [if_pos rfl, way_last w, ei]; exact List.mem_singleton.mpr rfl
        | false => rw [if_neg (by decide)]; exact w.mem.mpr ⟨i, hi, rfl⟩
      · exact m1
    | succ j ih =>
      intro i e
      have ih := ih (i + 1) (by omega)
      obtain ⟨r, hr, e1, e2, _⟩ := way_rows rok hn w (i := i) (by omega)
      obtain ⟨q, hq, e3, _, hb⟩ := way_rows rok hn w (i := i + 1) (by omega)
      have ne : r.above ≠ top := by
        rw [e2]
        exact (w.lt (i + 1) (by omega)).1
      obtain ⟨ep, po, hk, hs⟩ := B.pp R rok hr hq (e2.trans e3.symm) hb ne
      have ecl : sumQ ((kidsOf rs (Sum.inr q.name)).map c) = c r.name := by
        have nd := kids_nd rok (Sum.inr q.name)
        rw [sum_off1 nd hk (f := c) (g := fun y => if y = r.name then c r.name else 0) (fun y hy hne => ?_)]
        · rw [if_pos rfl]
          have : sumQ ((kidsOf rs (Sum.inr q.name)).map fun y => if y = r.name then c r.name else 0) = c r.name := by
            rw [sum_off1 nd hk (f := fun y => if y = r.name then c r.name else 0) (g := fun _ => 0) (fun y _ hne => if_neg hne), sum_zero, if_pos rfl]
            grind
          rw [this]
          grind
        · rw [if_neg hne]
          obtain ⟨mz, z, hz, ez, _⟩ := kid_row hy
          have hzr := List.mem_of_getElem? hz
          have u0 := hoff i (by omega) y (by rw [← e3]; exact hy) (by rw [← e1]; exact hne)
          have := (R_cle R hzr).2
          rw [ez, u0] at this
          have c0 := (po.kc y hy).lo
          exact Rat.le_antisymm this c0
      rw [← e3] at ih
      rw [← e1, ep, ecl]
      have Ur : U r.name = use := by rw [e1]; exact hon i (by omega)
      have Uq : U q.name = use := by rw [e3]; exact hon (i + 1) (by omega)
      have cr := cAt i (by omega)
      rw [← e1] at cr
      unfold partQ
      by_cases l : p q.name < c r.name
      · rw [if_pos l]
        have lp : 0 < c r.name := by have := po.a0; grind
        have : c r.name * (p q.name / c r.name) = p q.name := by
          rw [Rat.div_def, Rat.mul_comm, Rat.mul_assoc, Rat.inv_mul_cancel _ (fun e => by rw [e] at lp; exact absurd lp (by decide)), Rat.mul_one]
        rw [this]
        exact ih
      · rw [if_neg l]
        by_cases g : h = true ∧ c r.name < U q.name
        · rw [if_pos g, Ur, Uq]
          have p2 : 0 < use - c r.name := by have := g.2; rw [Uq] at this; grind
          have : (use - c r.name) * ((p q.name - c r.name) / (use - c r.name)) = p q.name - c r.name := by
            rw [Rat.div_def, Rat.mul_comm, Rat.mul_assoc, Rat.inv_mul_cancel _ (fun e => by rw [e] at p2; exact absurd p2 (by decide)), Rat.mul_one]
          rw [this]
          grind
        · rw [if_neg g]
          rw [Uq] at g
          rw [cr]
          split
          · rename_i z
            cases h with
            | true =>
              exfalso
              refine g ⟨rfl, ?_⟩
              rw [cr, if_pos z]
              exact z
            | false =>
              refine m2 _ ?_
              unfold boundsG
              rw [if_neg (by decide)]
              exact e1 ▸ w.mem.mpr ⟨i, by omega, rfl⟩
          · exact m1
  exact Rat.le_antisymm up (low (mm - 1) 0 (by have := w.pos; omega))
end
def belowB (rs : List RowM) (n x : Str) : Bool := decide (x = n ∨ x ∈ belowL rs n)
theorem belowB_iff {rs : List RowM} (n x : Str) : belowB rs n x = true ↔ (x = n ∨ x ∈ belowL rs n) := by
  unfold belowB
  exact decide_eq_true_iff
theorem below_lv {rs : List RowM} {n x : Str} : x ∈ (leavesOf rs).filter (belowB rs n) ↔ x ∈ leavesOf rs ∧ (x = n ∨ x ∈ belowL rs n) := by
  rw [List.mem_filter, belowB_iff]
/-- below a top there is a leaf -/
theorem below_leaf {rs : List RowM} (rok : RowsOk rs) {top : Str} (hk : kidsOf rs (Sum.inr top) ≠ []) : (leavesOf rs).filter (belowB rs top) ≠ [] := by
  have hb : belowL rs top ≠ [] := fun e => by
    cases z : kidsOf rs (Sum.inr top) with
    | nil => exact hk z
    | cons x xs =>
      have := below_top rok (x := x) (top := top) (by rw [z]; exact List.mem_cons_self)
      rw [e] at this
      cases this
  have l0 : 0 < (belowL rs top).length := List.length_pos_iff.mpr hb
  have hl : (belowL rs top)[(belowL rs top).length - 1]? = some (belowL rs top)[(belowL rs top).length - 1] := List.getElem?_eq_getElem (by omega)
  generalize (belowL rs top)[(belowL rs top).length - 1] = n at hl
  have hk0 : kidsOf rs (Sum.inr n) = [] := by
    cases z : kidsOf rs (Sum.inr n) with
    | nil => rfl
    | cons x xs =>
      have := below_kids rok hl (x := x) (by rw [z]; exact List.mem_cons_self)
      rw [List.drop_eq_nil_of_le (by omega)] at this
      cases this
  have hm := List.mem_of_getElem? hl
  have : n ∈ (leavesOf rs).filter (belowB rs top) := below_lv.mpr ⟨leaf_mem (below_nms hm) (by rw [hk0]; rfl), .inr hm⟩
  intro e
  rw [e] at this
  cases this
theorem bl_ne {rs : List RowM} (rok : RowsOk rs) {z : Str} (hz : z ∈ nms rs) : (leavesOf rs).filter (belowB rs z) ≠ [] := by
  by_cases hk : kidsOf rs (Sum.inr z) = []
  · intro e
    have : z ∈ (leavesOf rs).filter (belowB rs z) := below_lv.mpr ⟨leaf_mem hz (by rw [hk]; rfl), .inl rfl⟩
    rw [e] at this
    cases this
  · exact below_leaf rok hk
theorem lvs_nd {rs : List RowM} (rok : RowsOk rs) (n : Str) : ((leavesOf rs).filter (belowB rs n)).Nodup := by
  have h : (leavesOf rs).Nodup := by
    unfold leavesOf
    exact (nms_nd rok).sublist (List.filter_sublist.map _)
  exact h.sublist List.filter_sublist
/-- of all that is below a group, one leaf alone uses something -/
theorem use_one {rs : List RowM} (rok : RowsOk rs) {u U : Str → Rat} (hU : ∀ r ∈ rs, U r.name = if kidsOf rs (Sum.inr r.name) = [] then u r.name else sumQ ((kidsOf rs (Sum.inr r.name)).map U)) {n x0 : Str} (hn : n ∈ nms rs) {use : Rat} (hx : x0 ∈ (leavesOf rs).filter (belowB rs n)) (h0 : u x0 = use) (h1 : ∀ y ∈ (leavesOf rs).filter (belowB rs n), y ≠ x0 → u y = 0) : U n = use := by
  obtain ⟨r, hr, rfl⟩ := List.mem_map.mp hn
  obtain ⟨j, hj⟩ := List.mem_iff_getElem?.mp hr
  have e := below_sum rok (p := belowB rs) (fun n x => belowB_iff n x) hU _ j r rfl hj
  rw [← e, sum_off1 (lvs_nd rok r.name) hx (f := u) (g := fun _ => 0) h1, sum_zero, h0]
  grind
/-- one leaf uses something, all others nothing -/
theorem idle_use {rs : List RowM} (rok : RowsOk rs) {x0 : Str} (hx : x0 ∈ leavesOf rs) (use : Rat) : ∃ U : Str → Rat, (∀ r ∈ rs, U r.name = if kidsOf rs (Sum.inr r.name) = [] then (if r.name = x0 then use else 0) else sumQ ((kidsOf rs (Sum.inr r.name)).map U)) ∧ (∀ y, Anc rs x0 y → U y = use) ∧ ∀ y, ¬ Anc rs x0 y → U y = 0 := by
  have h := useP_eq rok (d := use) (u := fun _ => 0) (U := fun _ => 0) hx fun r _ => by
    show (0 : Rat) = _
    rw [sum_zero, ite_self]
  refine ⟨useP rs x0 use fun _ => 0, fun r hr => ?_, fun y a => ?_, fun y a => ?_⟩
  · rw [h r hr]
    by_cases e : r.name = x0
    · simp only [if_pos e]
      have : (0 : Rat) + use = use := by grind
      rw [this]
    · simp only [if_neg e]
  · unfold useP
    rw [if_pos a]
    grind
  · unfold useP
    rw [if_neg a]
theorem idle_off {rs : List RowM} (rok : RowsOk rs) {x0 n y : Str} {top : Str} {mm i : Nat} (hn : n ∈ nms rs) (w : WayOk rs n top mm) (ha : Anc rs x0 n) (hi : i + 1 < mm) (hy : y ∈ kidsOf rs (Sum.inr (upA rs n (i + 1)))) (ne : y ≠ upA rs n i) : ¬ Anc rs x0 y := fun a => by
  obtain ⟨q, hq, e3, _⟩ := w.row rok hn (i := i + 1) hi
  obtain ⟨z, hz, e1, e2⟩ := w.row rok hn (i := i) (by omega)
  obtain ⟨mz, r, hr, er, eu⟩ := kid_row hy
  have az : Anc rs x0 z.name := by
    obtain ⟨j, hj⟩ := ha
    exact ⟨j + i, by rw [upA_add, hj, e1]⟩
  exact ne (er ▸ e1 ▸ anc_one rok hq (List.mem_of_getElem? hr) hz (eu.trans e3.symm) (e2.trans e3.symm) (er ▸ a) az)
end Bd
end

section
namespace Bd
open PySem L2 Am
open Evl hiding tCut pss_cut
/-! the least that a group is protected for all uses of others -/
def claimF (u : Rat) (s : Rat × Rat × Bool) : Rat := if s.2.2 then (if s.1 < u then s.1 else u) else u
def usesF : List (Rat × Rat × Bool) → Rat → List Rat
  | [], _ => []
  | s :: t, u => u :: usesF t (u + s.2.1)
def claimsF : List (Rat × Rat × Bool) → Rat → List Rat
  | [], _ => []
  | s :: t, u => claimF u s :: claimsF t (u + s.2.1)
def cutF (e b q : Rat) : Rat := if q < e + b then e * (q / (e + b)) else e
def leastF : List (Rat × Rat × Bool) → Rat → Rat
  | [], _ => 0
  | s :: t, u => if t.isEmpty then claimF u s else cutF (claimF u s) s.2.1 (leastF t (u + s.2.1))
def partsF : List (Rat × Rat × Bool) → Rat → List Rat
  | [], _ => []
  | s :: t, u => leastF (s :: t) u :: partsF t (u + s.2.1)
theorem ml {a b c : Rat} (h : a ≤ b) (c0 : 0 ≤ c) : a * c ≤ b * c := Rat.mul_le_mul_of_nonneg_right h c0
theorem mcan {a b c : Rat} (h : a * c ≤ b * c) (c0 : 0 < c) : a ≤ b := by
  have i0 := Rat.le_of_lt (Rat.inv_pos.mpr c0)
  have ne : c ≠ 0 := fun e => by rw [e] at c0; exact absurd c0 (by decide)
  have := Rat.mul_le_mul_of_nonneg_right h i0
  rwa [Rat.mul_assoc, Rat.mul_assoc, Rat.mul_inv_cancel _ ne, Rat.mul_one, Rat.mul_one] at this
/-- a group with use U and share p stands no worse than one with use W and share q -/
def Rel (U p W q : Rat) : Prop := (W ≤ U → q ≤ p) ∧ (U < W → q * U ≤ p * W)
theorem rel_full {k U W s p : Rat} (k0 : 0 ≤ k) (U0 : 0 ≤ U) (W0 : 0 ≤ W) (s0 : 0 ≤ s) (s1 : s ≤ 1) (hp : (if k < U then k else U) ≤ p) : Rel U p W ((if k < W then k else W) * s) := by
  have e0 : 0 ≤ (if k < W then k else W) := by split <;> grind
  have es : (if k < W then k else W) * s ≤ (if k < W then k else W) := by
    have := Rat.mul_le_mul_of_nonneg_left s1 e0
    rwa [Rat.mul_one] at this
  refine ⟨fun h => ?_, fun h => ?_⟩
  · have : (if k < W then k else W) ≤ (if k < U then k else U) := by split <;> split <;> grind
    grind
  · have h1 := ml es U0
    have h2 := ml hp W0
    have h3 : (if k < W then k else W) * U ≤ (if k < U then k else U) * W := by
      split
      · split
        · exact Rat.mul_le_mul_of_nonneg_left (Rat.le_of_lt h) k0
        · rename_i a b
          have := ml (Rat.le_of_lt a) U0
          grind
      · split
        · rename_i a b
          exfalso
          grind
        · grind
    grind
theorem rel_cut {k U V B W b p' q' r s : Rat} (k0 : 0 ≤ k) (U0 : 0 ≤ U) (W0 : 0 ≤ W) (B0 : 0 ≤ B) (Bb : B ≤ b) (BV : B ≤ V) (s0 : 0 ≤ s) (r0 : 0 ≤ r) (hr : r * ((if k < U then k else U) + B) = p') (hs : s * ((if k < W then k else W) + b) ≤ q') (h : Rel (U + V) p' (W + b) q') :
    Rel U ((if k < U then k else U) * r) W ((if k < W then k else W) * s) := by
  obtain ⟨hA, hB⟩ := h
  refine ⟨fun hw => ?_, fun hw => ?_⟩
  · have ce : (if k < W then k else W) ≤ (if k < U then k else U) := by split <;> split <;> grind
    have e0 : 0 ≤ (if k < W then k else W) := by split <;> grind
    have eW : (if k < W then k else W) = W ∨ ((if k < W then k else W) = k ∧ (if k < U then k else U) = k ∧ k < W) := by
      by_cases a : k < W
      · exact .inr ⟨if_pos a, if_pos (by grind), a⟩
      · exact .inl (if_neg a)
    have cU : (if k < U then k else U) ≤ U := by split <;> grind
    generalize (if k < W then k else W) = e at *
    generalize (if k < U then k else U) = c at *
    have c0 : 0 ≤ c := by grind
    by_cases cb : 0 < c + B
    · by_cases le : W + b ≤ U + V
      · have h1 := hA le
        have h2 : s * (e + b) ≤ r * (c + B) := by grind
        have h3 := ml h2 c0
        have h4 : e * B ≤ c * b := by
          have a1 := Rat.mul_le_mul_of_nonneg_left Bb e0
          have a2 := ml ce (by grind : 0 ≤ b)
          grind
        have h5 := ml h4 s0
        refine mcan (c := c + B) ?_ cb
        grind
      · have h1 := hB (by grind)
        have UV : 0 ≤ U + V := by grind
        have h2 := ml hs UV
        rw [← hr] at h1
        rcases eW with rfl | ⟨rfl, rfl, kW⟩
        · have Wb : 0 < e + b := by grind
          have h3 : s * (U + V) ≤ r * (c + B) := by
            refine mcan (c := e + b) ?_ Wb
            grind
          have h4 : s * (c + B) ≤ s * (U + V) := Rat.mul_le_mul_of_nonneg_left (by grind) s0
          have h5 : s ≤ r := mcan (by grind) cb
          have h6 := Rat.mul_le_mul_of_nonneg_left h5 c0
          have h7 := ml ce s0
          grind
        · have h3 : (c + B) * (W + b) ≤ (c + b) * (U + V) := by
            have a1 := Rat.mul_nonneg (by grind : 0 ≤ b - B) (by grind : 0 ≤ W - c)
            have a2 := Rat.mul_le_mul_of_nonneg_left (by grind : W + B ≤ U + V) (by grind : 0 ≤ c + b)
            grind
          have h4 := Rat.mul_le_mul_of_nonneg_left h3 s0
          have Wb : 0 < W + b := by grind
          have h5 : s * (c + B) ≤ r * (c + B) := mcan (c := W + b) (by grind) Wb
          have h6 : s ≤ r := mcan h5 cb
          exact Rat.mul_le_mul_of_nonneg_left h6 e0
    · have c1 : c = 0 := by grind
      have e1 : e = 0 := by grind
      rw [c1, e1, Rat.zero_mul, Rat.zero_mul]
      exact Rat.le_refl
  · have eU : (if k < W then k else W) * U ≤ (if k < U then k else U) * W := by
      split
      · split
        · exact Rat.mul_le_mul_of_nonneg_left (Rat.le_of_lt hw) k0
        · rename_i a b
          have := ml (Rat.le_of_lt a) U0
          grind
      · split
        · exfalso
          grind
        · grind
    have e0 : 0 ≤ (if k < W then k else W) := by split <;> grind
    have c0 : 0 ≤ (if k < U then k else U) := by split <;> grind
    have cU : (if k < U then k else U) ≤ U := by split <;> grind
    have cs : ((if k < W then k else W) = W ∧ (if k < U then k else U) = U) ∨ ((if k < W then k else W) = k ∧ k < W ∧ (if k < U then k else U) = U ∧ U ≤ k) ∨ ((if k < W then k else W) = k ∧ k < W ∧ (if k < U then k else U) = k ∧ k < U) := by
      by_cases a : k < W
      · by_cases d : k < U
        · exact .inr (.inr ⟨if_pos a, a, if_pos d, d⟩)
        · exact .inr (.inl ⟨if_pos a, a, if_neg d, by grind⟩)
      · exact .inl ⟨if_neg a, if_neg (by grind)⟩
    generalize (if k < W then k else W) = e at *
    generalize (if k < U then k else U) = c at *
    by_cases cb : 0 < c + B
    · by_cases le : W + b ≤ U + V
      · have h1 := hA le
        have h2 : s * (e + b) ≤ r * (c + B) := by grind
        have h3 := Rat.mul_le_mul_of_nonneg_left h2 (Rat.mul_nonneg c0 W0)
        have h4 : e * U * (c + B) ≤ c * W * (e + b) := by
          have a1 := Rat.mul_le_mul_of_nonneg_left Bb (Rat.mul_nonneg e0 U0)
          have a2 := ml eU (by grind : 0 ≤ b)
          have a3 := Rat.mul_le_mul_of_nonneg_left (Rat.le_of_lt hw) (Rat.mul_nonneg e0 c0)
          grind
        have h5 := ml h4 s0
        refine mcan (c := c + B) ?_ cb
        grind
      · have h1 := hB (by grind)
        have UV : 0 ≤ U + V := by grind
        have h2 := ml hs UV
        rw [← hr] at h1
        have Wb : 0 < W + b := by grind
        rcases cs with ⟨rfl, rfl⟩ | ⟨rfl, kW, rfl, Uk⟩ | ⟨rfl, kW, rfl, kU⟩
        · have h3 : s * (c + V) ≤ r * (c + B) := mcan (c := e + b) (by grind) Wb
          have h4 : s * (c + B) ≤ s * (c + V) := Rat.mul_le_mul_of_nonneg_left (by grind) s0
          have h5 : s ≤ r := mcan (by grind) cb
          have h6 := Rat.mul_le_mul_of_nonneg_left h5 (Rat.mul_nonneg U0 W0)
          grind
        · have h3 : s * (e + b) * (c + B) ≤ s * (e + b) * (c + V) := Rat.mul_le_mul_of_nonneg_left (by grind) (Rat.mul_nonneg s0 (by grind))
          have h4 : s * (e + b) ≤ r * (W + b) := mcan (c := c + B) (by grind) cb
          by_cases z : 0 < e + b
          · have a1 : e * (W + b) ≤ W * (e + b) := by
              have := ml (Rat.le_of_lt kW) (by grind : 0 ≤ b)
              grind
            have a2 := Rat.mul_le_mul_of_nonneg_left a1 r0
            have a3 := Rat.mul_le_mul_of_nonneg_left h4 e0
            have h5 : e * s ≤ r * W := mcan (c := e + b) (by grind) z
            have := ml h5 U0
            grind
          · have : e = 0 := by grind
            have : c = 0 := by grind
            subst this
            rw [Rat.mul_zero, Rat.zero_mul, Rat.zero_mul]
            exact Rat.le_refl
        · have h3 : s * (c + b) * (U + B) ≤ s * (c + b) * (U + V) := Rat.mul_le_mul_of_nonneg_left (by grind) (Rat.mul_nonneg s0 (by grind))
          have h4 : U * ((c + B) * (W + b)) ≤ W * ((c + b) * (U + B)) := by
            have a1 := Rat.mul_nonneg (Rat.mul_nonneg (by grind : 0 ≤ b - B) U0) (by grind : 0 ≤ W - c)
            have a2 := Rat.mul_nonneg (Rat.mul_nonneg B0 e0) (by grind : 0 ≤ W - U)
            have a3 := Rat.mul_nonneg (Rat.mul_nonneg B0 (by grind : 0 ≤ b)) (by grind : 0 ≤ W - U)
            grind
          have h5 : s * ((c + b) * (U + B)) ≤ r * ((c + B) * (W + b)) := by grind
          have a4 := ml h4 s0
          have a5 := ml h5 W0
          have h6 : s * U ≤ r * W := by
            refine mcan (c := c + B) (mcan (c := W + b) ?_ Wb) cb
            grind
          have := Rat.mul_le_mul_of_nonneg_left h6 e0
          grind
    · have c1 : c = 0 := by grind
      have : e * U ≤ 0 := by rw [c1, Rat.zero_mul] at eU; exact eU
      have := ml this s0
      rw [c1, Rat.zero_mul, Rat.zero_mul]
      rw [Rat.zero_mul] at this
      grind
theorem sumP {f : Str → Rat} : ∀ {xs : List Str}, (∀ y ∈ xs, 0 ≤ f y) → 0 ≤ sumQ (xs.map f)
  | [], _ => Rat.le_refl
  | x :: xs, h => by
    rw [List.map_cons, sum_cons]
    have h1 := h x List.mem_cons_self
    have h2 := sumP (xs := xs) fun y hy => h y (List.mem_cons_of_mem _ hy)
    grind
theorem Rel.mono {U p W q p2 q2 : Rat} (h : Rel U p W q) (U0 : 0 ≤ U) (W0 : 0 ≤ W) (hp : p ≤ p2) (hq : q2 ≤ q) : Rel U p2 W q2 := by
  refine ⟨fun z => ?_, fun z => ?_⟩
  · have := h.1 z
    grind
  · have h1 := h.2 z
    have h2 := ml hp W0
    have h3 := ml hq U0
    grind
theorem cut_form {e b q : Rat} (e0 : 0 ≤ e) (b0 : 0 ≤ b) (q0 : 0 ≤ q) : ∃ s, 0 ≤ s ∧ s ≤ 1 ∧ s * (e + b) ≤ q ∧ cutF e b q = e * s := by
  unfold cutF
  by_cases l : q < e + b
  · rw [if_pos l]
    have p : 0 < e + b := by grind
    have ne : e + b ≠ 0 := fun z => by rw [z] at p; exact absurd p (by decide)
    have i0 := Rat.le_of_lt (Rat.inv_pos.mpr p)
    have m : q / (e + b) * (e + b) = q := by rw [Rat.div_def, Rat.mul_assoc, Rat.inv_mul_cancel _ ne, Rat.mul_one]
    refine ⟨q / (e + b), by rw [Rat.div_def]; exact Rat.mul_nonneg q0 i0, ?_, by rw [m]; exact Rat.le_refl, rfl⟩
    exact mcan (c := e + b) (by rw [m, Rat.one_mul]; exact Rat.le_of_lt l) p
  · rw [if_neg l]
    exact ⟨1, by decide, Rat.le_refl, by grind, by rw [Rat.mul_one]⟩
theorem claim_bd {u : Rat} {s : Rat × Rat × Bool} (u0 : 0 ≤ u) (s0 : 0 ≤ s.1) : 0 ≤ claimF u s ∧ claimF u s ≤ u := by
  unfold claimF
  split
  · split <;> grind
  · exact ⟨u0, Rat.le_refl⟩
theorem leastF_bd : ∀ {ss : List (Rat × Rat × Bool)} {u : Rat}, (∀ s ∈ ss, 0 ≤ s.1 ∧ 0 ≤ s.2.1) → 0 ≤ u → 0 ≤ leastF ss u ∧ leastF ss u ≤ u
  | [], u, _, h => ⟨Rat.le_refl, h⟩
  | s :: t, u, h, u0 => by
    have hs := h s List.mem_cons_self
    have cb := claim_bd u0 hs.1
    have ih := leastF_bd (ss := t) (u := u + s.2.1) (fun y hy => h y (List.mem_cons_of_mem _ hy)) (by grind)
    show 0 ≤ (if t.isEmpty then claimF u s else cutF (claimF u s) s.2.1 (leastF t (u + s.2.1))) ∧ (if t.isEmpty then claimF u s else cutF (claimF u s) s.2.1 (leastF t (u + s.2.1))) ≤ u
    split
    · exact cb
    · obtain ⟨x, x0, x1, _, e⟩ := cut_form cb.1 hs.2 ih.1
      rw [e]
      refine ⟨Rat.mul_nonneg cb.1 x0, ?_⟩
      have := Rat.mul_le_mul_of_nonneg_left x1 cb.1
      rw [Rat.mul_one] at this
      exact Rat.le_trans this cb.2
theorem sum_sib {z : Str} (f : Str → Rat) : ∀ {xs : List Str}, xs.Nodup → z ∈ xs → sumQ (xs.map f) = f z + sumQ ((xs.filter fun y => !decide (y = z)).map f)
  | x :: xs, nd, h => by
    rw [List.nodup_cons] at nd
    by_cases e : x = z
    · subst e
      have : (xs.filter fun y => !decide (y = x)) = xs := List.filter_eq_self.mpr fun y hy => by
        have : y ≠ x := fun e => nd.1 (e ▸ hy)
        simp [this]
      rw [List.filter_cons_of_neg (by simp), this, List.map_cons, sum_cons]
    · have hm : z ∈ xs := by
        rcases List.mem_cons.mp h with rfl | m
        · exact absurd rfl e
        · exact m
      rw [List.filter_cons_of_pos (by simp [e]), List.map_cons, List.map_cons, sum_cons, sum_cons, sum_sib f nd.2 hm]
      grind
section
variable {rs : List RowM} {top : Str} {h : Bool} {k u U c p : Str → Rat} {M S m s : Nat}
theorem rel_way {n : Str} {mm : Nat} (B : Bds rs M S m s k U) (R : Reck rs top h k u U c p) (rok : RowsOk rs) (hn : n ∈ nms rs) (w : WayOk rs n top mm) (hu : ∀ r ∈ rs, 0 ≤ U r.name) : ∀ (d i : Nat), i + d + 1 = mm → ∀ W : Rat, 0 ≤ W →
    Rel (U (upA rs n i)) (p (upA rs n i)) W (leastF ((List.range' i (d + 1)).map fun j => stepOf rs h k top (upA rs n (mm - 1)) (upA rs n j)) W) := by
  have k0 : ∀ y ∈ nms rs, 0 ≤ k y := fun y hy => by
    obtain ⟨r, hr, rfl⟩ := List.mem_map.mp hy
    exact (B.kz r hr).lo
  intro d
  induction d with
  | zero =>
    intro i hi W W0
    obtain ⟨r, hr, e1, e2, hb⟩ := way_rows rok hn w (i := i) (by omega)
    have ei : i = mm - 1 := by omega
    have ep : p (upA rs n i) = c (upA rs n i) := by rw [ei]; exact p_last R rok hn w
    rw [List.range'_succ, List.map_cons]
    show Rel _ _ W (claimF W (stepOf rs h k top (upA rs n (mm - 1)) (upA rs n i)))
    have ec : claimF W (stepOf rs h k top (upA rs n (mm - 1)) (upA rs n i)) = (if k (upA rs n i) < W then k (upA rs n i) else W) * 1 := by
      unfold claimF stepOf
      rw [ei]
      simp
    rw [ec, ep, ← e1]
    refine rel_full (k0 _ (List.mem_map_of_mem hr)) (hu r hr) W0 (by decide) Rat.le_refl ?_
    rw [R.cl r hr]
    exact Rat.le_refl
  | succ d ih =>
    intro i hi W W0
    obtain ⟨r, hr, e1, e2, hb⟩ := way_rows rok hn w (i := i) (by omega)
    obtain ⟨q, hq, e3, _, hbq⟩ := way_rows rok hn w (i := i + 1) (by omega)
    have ne : r.above ≠ top := by
      rw [e2]
      exact (w.lt (i + 1) (by omega)).1
    obtain ⟨ep, po, hk, hs⟩ := B.pp R rok hr hq (e2.trans e3.symm) hbq ne
    have eab : abv rs (upA rs n i) = q.name := by rw [← e1, abv_of rok hr, e2, e3]
    have esib : sibL rs (upA rs n i) top = (kidsOf rs (Sum.inr q.name)).filter fun x => !decide (x = r.name) := by
      unfold sibL
      rw [eab, if_neg (fun e => ne (by rw [e2, ← e3, e])), e1]
    have nd : (kidsOf rs (Sum.inr q.name)).Nodup := kids_nd rok _
    have ss := fun f => sum_sib (z := r.name) f nd hk
    have sin : ∀ y ∈ (kidsOf rs (Sum.inr q.name)).filter (fun x => !decide (x = r.name)), ∃ z ∈ rs, z.name = y := fun y hy => by
      obtain ⟨j, z, hj, e, _⟩ := kid_row (List.mem_filter.mp hy).1
      exact ⟨z, List.mem_of_getElem? hj, e⟩
    have ihW := ih (i + 1) (by omega)
    rw [List.range'_succ, List.map_cons]
    have hb0 : (stepOf rs h k top (upA rs n (mm - 1)) (upA rs n i)).2.1 = sumQ (((kidsOf rs (Sum.inr q.name)).filter fun x => !decide (x = r.name)).map k) := by
      show sumQ ((sibL rs (upA rs n i) top).map k) = _
      rw [esib]
    have hne : ((List.range' (i + 1) (d + 1)).map fun j => stepOf rs h k top (upA rs n (mm - 1)) (upA rs n j)).isEmpty = false := by
      rw [List.range'_succ, List.map_cons]
      rfl
    have el : ∀ t, t.isEmpty = false → leastF (stepOf rs h k top (upA rs n (mm - 1)) (upA rs n i) :: t) W = cutF (claimF W (stepOf rs h k top (upA rs n (mm - 1)) (upA rs n i))) (sumQ (((kidsOf rs (Sum.inr q.name)).filter fun x => !decide (x = r.name)).map k)) (leastF t (W + sumQ (((kidsOf rs (Sum.inr q.name)).filter fun x => !decide (x = r.name)).map k))) := fun t ht => by
      rw [← hb0]
      show (if t.isEmpty then _ else _) = _
      rw [ht]
      rfl
    rw [el _ hne]
    have b0 : 0 ≤ sumQ (((kidsOf rs (Sum.inr q.name)).filter fun x => !decide (x = r.name)).map k) := sumP fun y hy => by
      obtain ⟨z, hz, rfl⟩ := sin y hy
      exact k0 _ (List.mem_map_of_mem hz)
    have rel := ihW (W + sumQ (((kidsOf rs (Sum.inr q.name)).filter fun x => !decide (x = r.name)).map k)) (by grind)
    have qb : 0 ≤ leastF ((List.range' (i + 1) (d + 1)).map fun j => stepOf rs h k top (upA rs n (mm - 1)) (upA rs n j)) (W + sumQ (((kidsOf rs (Sum.inr q.name)).filter fun x => !decide (x = r.name)).map k)) ∧ leastF ((List.range' (i + 1) (d + 1)).map fun j => stepOf rs h k top (upA rs n (mm - 1)) (upA rs n j)) (W + sumQ (((kidsOf rs (Sum.inr q.name)).filter fun x => !decide (x = r.name)).map k)) ≤ _ := leastF_bd (fun y hy => by
      obtain ⟨j, hj, rfl⟩ := List.mem_map.mp hy
      have hj := List.mem_range'_1.mp hj
      obtain ⟨rj, hrj, ej, _, _⟩ := way_rows rok hn w (i := j) (by omega)
      refine ⟨by show 0 ≤ k (upA rs n j); rw [← ej]; exact k0 _ (List.mem_map_of_mem hrj), ?_⟩
      refine sumP fun y hy => ?_
      obtain ⟨z, hz, rfl⟩ := sib_in hy
      exact k0 _ (List.mem_map_of_mem hz)) (by grind)
    generalize leastF ((List.range' (i + 1) (d + 1)).map fun j => stepOf rs h k top (upA rs n (mm - 1)) (upA rs n j)) (W + sumQ (((kidsOf rs (Sum.inr q.name)).filter fun x => !decide (x = r.name)).map k)) = q' at rel qb ⊢
    rw [← e3] at rel
    rw [← e1]
    rw [← e1] at hb0 eab esib
    have ecnt : (stepOf rs h k top (upA rs n (mm - 1)) r.name).2.2 = (!h || (decide (r.name = upA rs n (mm - 1)) || decide (0 < ((kidsOf rs (Sum.inr q.name)).filter fun x => !decide (x = r.name)).length))) := by
      show (!h || (_ || decide (0 < (sibL rs r.name top).length))) = _
      rw [esib]
    have eU : U q.name = U r.name + sumQ (((kidsOf rs (Sum.inr q.name)).filter fun x => !decide (x = r.name)).map U) := hs.trans (ss U)
    have eC : sumQ ((kidsOf rs (Sum.inr q.name)).map c) = c r.name + sumQ (((kidsOf rs (Sum.inr q.name)).filter fun x => !decide (x = r.name)).map c) := ss c
    have Bb : sumQ (((kidsOf rs (Sum.inr q.name)).filter fun x => !decide (x = r.name)).map c) ≤ sumQ (((kidsOf rs (Sum.inr q.name)).filter fun x => !decide (x = r.name)).map k) := sum_le fun y hy => by
      obtain ⟨z, hz, rfl⟩ := sin y hy
      exact (R_cle R hz).1
    have BV : sumQ (((kidsOf rs (Sum.inr q.name)).filter fun x => !decide (x = r.name)).map c) ≤ sumQ (((kidsOf rs (Sum.inr q.name)).filter fun x => !decide (x = r.name)).map U) := sum_le fun y hy => by
      obtain ⟨z, hz, rfl⟩ := sin y hy
      exact (R_cle R hz).2
    have B0 : 0 ≤ sumQ (((kidsOf rs (Sum.inr q.name)).filter fun x => !decide (x = r.name)).map c) := sumP fun y hy => (po.kc y (List.mem_filter.mp hy).1).lo
    have U0 := hu r hr
    have kr := k0 _ (List.mem_map_of_mem hr)
    have ecl := R.cl r hr
    rw [eU] at rel
    have pq0 := po.a0
    by_cases ct : (stepOf rs h k top (upA rs n (mm - 1)) r.name).2.2 = true
    · have ec : claimF W (stepOf rs h k top (upA rs n (mm - 1)) r.name) = if k r.name < W then k r.name else W := by
        unfold claimF
        rw [if_pos ct]
        rfl
      rw [ec]
      have e0 : 0 ≤ (if k r.name < W then k r.name else W) := by split <;> grind
      obtain ⟨x, x0, x1, x2, ex⟩ := cut_form e0 b0 qb.1
      rw [ex]
      by_cases l : p q.name < sumQ ((kidsOf rs (Sum.inr q.name)).map c)
      · have lp := po.clp l
        have nz : sumQ ((kidsOf rs (Sum.inr q.name)).map c) ≠ 0 := fun z => by rw [z] at lp; exact absurd lp (by decide)
        have ep2 : p r.name = (if k r.name < U r.name then k r.name else U r.name) * (p q.name / sumQ ((kidsOf rs (Sum.inr q.name)).map c)) := by
          rw [ep]
          unfold partQ
          rw [if_pos l, ← ecl]
        rw [ep2]
        refine rel_cut kr U0 W0 B0 Bb BV x0 ?_ ?_ x2 rel
        · rw [Rat.div_def]
          exact Rat.mul_nonneg pq0 (Rat.le_of_lt (Rat.inv_pos.mpr lp))
        · rw [← ecl, ← eC, Rat.div_def, Rat.mul_assoc, Rat.inv_mul_cancel _ nz, Rat.mul_one]
      · refine rel_full kr U0 W0 x0 x1 ?_
        rw [← ecl, ep]
        exact part_ge' po hk l
    · have ctf : (stepOf rs h k top (upA rs n (mm - 1)) r.name).2.2 = false := by
        cases z : (stepOf rs h k top (upA rs n (mm - 1)) r.name).2.2 with
        | true => exact absurd z ct
        | false => rfl
      have ec : claimF W (stepOf rs h k top (upA rs n (mm - 1)) r.name) = W := by
        unfold claimF
        rw [if_neg ct]
      rw [ec]
      rw [ecnt, Bool.or_eq_false_iff, Bool.or_eq_false_iff] at ctf
      have hh : h = true := by
        cases h with
        | true => rfl
        | false => cases ctf.1
      have nil : ((kidsOf rs (Sum.inr q.name)).filter fun x => !decide (x = r.name)) = [] := by
        have := of_decide_eq_false ctf.2.2
        exact List.length_eq_zero_iff.mp (by omega)
      rw [nil] at rel eU eC qb ⊢
      have z0 : sumQ (([] : List Str).map k) = 0 := rfl
      have z1 : sumQ (([] : List Str).map U) = 0 := rfl
      have z2 : sumQ (([] : List Str).map c) = 0 := rfl
      rw [z0] at rel qb ⊢
      rw [z1] at rel eU
      rw [z2] at eC
      have eW : W + 0 = W := by grind
      have eU0 : U r.name + 0 = U r.name := by grind
      rw [eW] at rel qb
      rw [eU0] at rel eU
      refine rel.mono U0 W0 ?_ ?_
      · have eC' : sumQ ((kidsOf rs (Sum.inr q.name)).map c) = c r.name := by grind
        rw [ep, hh]
        unfold partQ
        rw [eC']
        by_cases l : p q.name < c r.name
        · rw [if_pos l]
          have lp : 0 < c r.name := by grind
          have nz : c r.name ≠ 0 := fun z => by rw [z] at lp; exact absurd lp (by decide)
          have : c r.name * (p q.name / c r.name) = p q.name := by
            rw [Rat.div_def, Rat.mul_comm, Rat.mul_assoc, Rat.inv_mul_cancel _ nz, Rat.mul_one]
          rw [this]
          exact Rat.le_refl
        · rw [if_neg l]
          by_cases g : c r.name < U q.name
          · rw [if_pos ⟨rfl, g⟩]
            have p2 : 0 < U q.name - c r.name := by grind
            have nz : U q.name - c r.name ≠ 0 := fun z => by rw [z] at p2; exact absurd p2 (by decide)
            rw [eU] at nz g ⊢
            have : (U r.name - c r.name) * ((p q.name - c r.name) / (U r.name - c r.name)) = p q.name - c r.name := by
              rw [Rat.div_def, Rat.mul_comm, Rat.mul_assoc, Rat.inv_mul_cancel _ nz, Rat.mul_one]
            rw [this]
            grind
          · rw [if_neg (fun z => g z.2)]
            have := po.au
            grind
      · unfold cutF
        by_cases l : q' < W + 0
        · rw [if_pos l]
          have p2 : 0 < W + 0 := by grind
          have nz : W + 0 ≠ 0 := fun z => by rw [z] at p2; exact absurd p2 (by decide)
          have : W * (q' / (W + 0)) = q' := by
            rw [eW] at nz ⊢
            rw [Rat.div_def, Rat.mul_comm, Rat.mul_assoc, Rat.inv_mul_cancel _ nz, Rat.mul_one]
          rw [this]
          exact Rat.le_refl
        · rw [if_neg l]
          grind
/-- no uses of others protect a group by less -/
theorem p_least {n : Str} {mm : Nat} (B : Bds rs M S m s k U) (R : Reck rs top h k u U c p) (rok : RowsOk rs) (hn : n ∈ nms rs) (w : WayOk rs n top mm) : leastF (stepsL rs h k (wayL rs n top)) (U n) ≤ p n := by
  have hu : ∀ r ∈ rs, 0 ≤ U r.name := fun r hr => (B.uz r hr).lo
  obtain ⟨r, hr, e1, _, _⟩ := way_rows rok hn w w.pos
  have e1 : r.name = n := e1
  have h1 := rel_way B R rok hn w hu (mm - 1) 0 (by have := w.pos; omega) (U n) (by rw [← e1]; exact hu r hr)
  have em : mm - 1 + 1 = mm := by have := w.pos; omega
  have es : stepsL rs h k (wayL rs n top) = (List.range' 0 (mm - 1 + 1)).map fun j => stepOf rs h k top (upA rs n (mm - 1)) (upA rs n j) := by
    obtain ⟨rl, hrl, e2, e3, _⟩ := way_rows rok hn w (i := mm - 1) (by have := w.pos; omega)
    unfold stepsL
    rw [way_last w, em, ← List.range_eq_range', w.is, List.map_map]
    have : abv rs (upA rs n (mm - 1)) = top := by rw [← e2, abv_of rok hrl, e3, em, w.end_]
    rw [this]
    rfl
  rw [es]
  exact h1.1 Rat.le_refl
end
end Bd
end

section
namespace Bd
open PySem L2 Am
open Evl hiding tCut pss_cut
/-! the uses with which siblings use just their settings -/
def firstL (rs : List RowM) (z : Str) : Str := ((leavesOf rs).filter (belowB rs z)).headD ""
def asgF (L : List (Str × Rat)) (f : Str → Rat) : Str → Rat := L.foldl (fun f a m => if m = a.1 then a.2 else f m) f
theorem asg_snoc (L : List (Str × Rat)) (a : Str × Rat) (f : Str → Rat) : asgF (L ++ [a]) f = fun m => if m = a.1 then a.2 else asgF L f m := by
  unfold asgF
  rw [List.foldl_append]
  rfl
theorem asg_out {x : Str} : ∀ {L : List (Str × Rat)} {f : Str → Rat}, (∀ a ∈ L, a.1 ≠ x) → asgF L f x = f x
  | [], _, _ => rfl
  | a :: L, f, h => by
    show asgF L (fun m => if m = a.1 then a.2 else f m) x = f x
    rw [asg_out fun b hb => h b (List.mem_cons_of_mem _ hb)]
    exact if_neg fun e => h a List.mem_cons_self e.symm
theorem asg_val {x : Str} {q : Rat} : ∀ {L : List (Str × Rat)} {f : Str → Rat}, (∃ a ∈ L, a.1 = x) ∨ f x = q → (∀ a ∈ L, a.1 = x → a.2 = q) → asgF L f x = q
  | [], f, h, _ => by
    rcases h with ⟨a, h, _⟩ | h
    · cases h
    · exact h
  | a :: L, f, h, hv => by
    show asgF L (fun m => if m = a.1 then a.2 else f m) x = q
    refine asg_val ?_ fun b hb => hv b (List.mem_cons_of_mem _ hb)
    by_cases e : x = a.1
    · exact .inr (by rw [if_pos e]; exact hv a List.mem_cons_self e.symm)
    · rcases h with ⟨b, hb, eb⟩ | h
      · rcases List.mem_cons.mp hb with rfl | hb
        · exact absurd eb.symm e
        · exact .inl ⟨b, hb, eb⟩
      · exact .inr (by rw [if_neg e]; exact h)
theorem asg_P {P : Rat → Prop} : ∀ {L : List (Str × Rat)} {f : Str → Rat}, (∀ a ∈ L, P a.2) → (∀ m, P (f m)) → ∀ m, P (asgF L f m)
  | [], _, _, h => h
  | a :: L, f, hL, h => by
    refine asg_P (L := L) (f := fun m => if m = a.1 then a.2 else f m) (fun b hb => hL b (List.mem_cons_of_mem _ hb)) fun m => ?_
    show P (if m = a.1 then a.2 else f m)
    split
    · exact hL a List.mem_cons_self
    · exact h m
def sibsA (rs : List RowM) (k : Str → Rat) (top y : Str) : List (Str × Rat) := (sibL rs y top).map fun s => (firstL rs s, k s)
def worstL (rs : List RowM) (k : Str → Rat) (way : List Str) (use : Rat) (top : Str) : List (Str × Rat) := (firstL rs (way.headD ""), use) :: way.flatMap (sibsA rs k top)
section
variable {rs : List RowM} {top n : Str} {mm : Nat} {k u U c p : Str → Rat} {M S m s : Nat}
theorem first_mem (rok : RowsOk rs) {z : Str} (hz : z ∈ nms rs) : firstL rs z ∈ (leavesOf rs).filter (belowB rs z) := by
  unfold firstL
  cases e : (leavesOf rs).filter (belowB rs z) with
  | nil => exact absurd e (bl_ne rok hz)
  | cons a t => exact List.mem_cons_self
theorem first_anc (rok : RowsOk rs) {z y : Str} (hz : z ∈ nms rs) (hy : y ∈ (leavesOf rs).filter (belowB rs z)) : Anc rs y z :=
  (belB_anc rok hz (leaf_kids (List.mem_filter.mp hy).1).1).mp (below_lv.mp hy).2
theorem sib_lvl (w : WayOk rs n top mm) (rok : RowsOk rs) (hn : n ∈ nms rs) {i : Nat} (hi : i < mm) {s : Str} (h : s ∈ sibL rs (upA rs n i) top) : i + 1 < mm ∧ ∃ r ∈ rs, r.name = s ∧ r.above = upA rs n (i + 1) ∧ s ≠ upA rs n i := by
  obtain ⟨r, hr, e1, e2, _⟩ := way_rows rok hn w hi
  have ea : abv rs (upA rs n i) = upA rs n (i + 1) := by rw [← e1, abv_of rok hr, e2]
  unfold sibL at h
  rw [ea] at h
  by_cases c : upA rs n (i + 1) = top
  · rw [if_pos c] at h
    cases h
  · rw [if_neg c] at h
    have lt : i + 1 < mm := by
      by_cases e : i + 1 = mm
      · rw [e, w.end_] at c
        exact absurd rfl c
      · omega
    obtain ⟨h1, h2⟩ := List.mem_filter.mp h
    obtain ⟨j, z, hj, e, eu⟩ := kid_row h1
    refine ⟨lt, z, List.mem_of_getElem? hj, e, eu, fun z => ?_⟩
    rw [z] at h2
    simp at h2
theorem anc_way {x : Str} {i j : Nat} (h : Anc rs x (upA rs n i)) (l : i ≤ j) : Anc rs x (upA rs n j) := by
  obtain ⟨a, ha⟩ := h
  refine ⟨a + (j - i), ?_⟩
  rw [upA_add, ha, ← upA_add]
  congr 1
  omega
theorem off1 (w : WayOk rs n top mm) (rok : RowsOk rs) (hn : n ∈ nms rs) {i j : Nat} (hi : i < mm) (hj : j ≤ i) {s x : Str} (h : s ∈ sibL rs (upA rs n i) top) (ax : Anc rs x s) : ¬ Anc rs x (upA rs n j) := fun a => by
  obtain ⟨lt, r, hr, e1, e2, ne⟩ := sib_lvl w rok hn hi h
  obtain ⟨q, hq, e3, e4, _⟩ := way_rows rok hn w hi
  obtain ⟨y, hy, e5, _⟩ := way_rows rok hn w lt
  have a2 := anc_way a hj
  rw [← e3] at a2
  rw [← e1] at ax
  exact ne (e1 ▸ e3 ▸ anc_one rok hy hr hq (e2.trans e5.symm) (e4.trans e5.symm) ax a2)
theorem off2 (w : WayOk rs n top mm) (rok : RowsOk rs) (hn : n ∈ nms rs) {i j : Nat} (hi : i < mm) (hj : j < mm) {s t x : Str} (h : s ∈ sibL rs (upA rs n i) top) (h2 : t ∈ sibL rs (upA rs n j) top) (ax : Anc rs x s) (at' : Anc rs x t) : s = t := by
  obtain ⟨li, r, hr, e1, e2, _⟩ := sib_lvl w rok hn hi h
  obtain ⟨lj, q, hq, e3, e4, _⟩ := sib_lvl w rok hn hj h2
  subst e1 e3
  rcases Nat.lt_trichotomy i j with l | rfl | l
  · exfalso
    have := anc_up rok hr ax
    rw [e2] at this
    exact off1 w rok hn hj (by omega : i + 1 ≤ j) h2 at' this
  · obtain ⟨y, hy, e5, _⟩ := way_rows rok hn w li
    exact anc_one rok hy hr hq (e2.trans e5.symm) (e4.trans e5.symm) ax at'
  · exfalso
    have := anc_up rok hq at'
    rw [e4] at this
    exact off1 w rok hn hi (by omega : j + 1 ≤ i) h ax this
theorem worst_mem (w : WayOk rs n top mm) {use : Rat} {a : Str × Rat} : a ∈ worstL rs k (wayL rs n top) use top ↔ a = (firstL rs n, use) ∨ ∃ i, i < mm ∧ ∃ s ∈ sibL rs (upA rs n i) top, a = (firstL rs s, k s) := by
  have hh : (wayL rs n top).headD "" = n := by
    rw [w.is]
    obtain ⟨m', rfl⟩ : ∃ m', mm = m' + 1 := ⟨mm - 1, by have := w.pos; omega⟩
    rw [List.range_succ_eq_map]
    rfl
  unfold worstL
  rw [hh, List.mem_cons, w.is]
  refine or_congr Iff.rfl ?_
  rw [List.mem_flatMap]
  constructor
  · rintro ⟨y, hy, ha⟩
    obtain ⟨i, hi, rfl⟩ := List.mem_map.mp hy
    obtain ⟨s, hs, rfl⟩ := List.mem_map.mp ha
    exact ⟨i, List.mem_range.mp hi, s, hs, rfl⟩
  · rintro ⟨i, hi, s, hs, rfl⟩
    exact ⟨_, List.mem_map_of_mem (List.mem_range.mpr hi), List.mem_map_of_mem hs⟩
theorem worst_use (w : WayOk rs n top mm) (rok : RowsOk rs) (hn : n ∈ nms rs) {use : Rat} (hU : ∀ r ∈ rs, U r.name = if kidsOf rs (Sum.inr r.name) = [] then asgF (worstL rs k (wayL rs n top) use top) (fun _ => 0) r.name else sumQ ((kidsOf rs (Sum.inr r.name)).map U)) :
    asgF (worstL rs k (wayL rs n top) use top) (fun _ => 0) (firstL rs n) = use ∧ U n = use ∧ ∀ i, i < mm → ∀ s ∈ sibL rs (upA rs n i) top, U s = k s := by
  have sin : ∀ {i : Nat} {s : Str}, i < mm → s ∈ sibL rs (upA rs n i) top → s ∈ nms rs := fun hi hs => by
    obtain ⟨_, r, hr, e, _⟩ := sib_lvl w rok hn hi hs
    exact e ▸ List.mem_map_of_mem hr
  have un : asgF (worstL rs k (wayL rs n top) use top) (fun _ => 0) (firstL rs n) = use := by
    refine asg_val (.inl ⟨_, (worst_mem w).mpr (.inl rfl), rfl⟩) fun a ha e => ?_
    rcases (worst_mem w).mp ha with rfl | ⟨i, hi, s, hs, rfl⟩
    · rfl
    · exfalso
      have e : firstL rs s = firstL rs n := e
      have h1 := first_anc rok (sin hi hs) (first_mem rok (sin hi hs))
      have h2 := first_anc rok hn (first_mem rok hn)
      rw [← e] at h2
      exact off1 w rok hn hi (Nat.zero_le _) hs h1 h2
  refine ⟨un, use_one rok hU hn (first_mem rok hn) un fun y hy ne => ?_, fun i hi s hs => use_one rok hU (sin hi hs) (first_mem rok (sin hi hs)) ?_ fun y hy ne => ?_⟩
  · refine asg_out fun a ha e => ?_
    rcases (worst_mem w).mp ha with rfl | ⟨i, hi, s, hs, rfl⟩
    · exact ne e.symm
    · have e : firstL rs s = y := e
      have h1 := first_anc rok (sin hi hs) (first_mem rok (sin hi hs))
      rw [e] at h1
      exact off1 w rok hn hi (Nat.zero_le _) hs h1 (first_anc rok hn hy)
  · refine asg_val (.inl ⟨_, (worst_mem w).mpr (.inr ⟨i, hi, s, hs, rfl⟩), rfl⟩) fun a ha e => ?_
    have hs1 := first_anc rok (sin hi hs) (first_mem rok (sin hi hs))
    rcases (worst_mem w).mp ha with rfl | ⟨j, hj, t, ht, rfl⟩
    · exfalso
      have e : firstL rs n = firstL rs s := e
      have h2 := first_anc rok hn (first_mem rok hn)
      rw [e] at h2
      exact off1 w rok hn hi (Nat.zero_le _) hs hs1 h2
    · have e : firstL rs t = firstL rs s := e
      have h1 := first_anc rok (sin hj ht) (first_mem rok (sin hj ht))
      rw [e] at h1
      show k t = k s
      rw [off2 w rok hn hi hj hs ht hs1 h1]
  · refine asg_out fun a ha e => ?_
    have hys := first_anc rok (sin hi hs) hy
    rcases (worst_mem w).mp ha with rfl | ⟨j, hj, t, ht, rfl⟩
    · have e : firstL rs n = y := e
      have h2 := first_anc rok hn (first_mem rok hn)
      rw [e] at h2
      exact off1 w rok hn hi (Nat.zero_le _) hs hys h2
    · have e : firstL rs t = y := e
      have h1 := first_anc rok (sin hj ht) (first_mem rok (sin hj ht))
      rw [e] at h1
      have := off2 w rok hn hi hj hs ht hys h1
      rw [← this] at e
      exact ne e.symm
/-- with these uses the group is protected by just the least -/
theorem p_worst (B : Bds rs M S m s k U) (R : Reck rs top false k u U c p) (rok : RowsOk rs) (hn : n ∈ nms rs) (w : WayOk rs n top mm) (hsib : ∀ i, i < mm → ∀ s ∈ sibL rs (upA rs n i) top, U s = k s) : ∀ (d i : Nat), i + d + 1 = mm →
    p (upA rs n i) = leastF ((List.range' i (d + 1)).map fun j => stepOf rs false k top (upA rs n (mm - 1)) (upA rs n j)) (U (upA rs n i)) := by
  have ecl : ∀ i, i < mm → claimF (U (upA rs n i)) (stepOf rs false k top (upA rs n (mm - 1)) (upA rs n i)) = c (upA rs n i) := fun i hi => by
    obtain ⟨r, hr, e1, _, _⟩ := way_rows rok hn w hi
    unfold claimF
    rw [if_pos (show (stepOf rs false k top (upA rs n (mm - 1)) (upA rs n i)).2.2 = true from rfl), ← e1, R.cl r hr]
    rfl
  intro d
  induction d with
  | zero =>
    intro i hi
    have ei : i = mm - 1 := by omega
    have ep : p (upA rs n i) = c (upA rs n i) := by rw [ei]; exact p_last R rok hn w
    rw [List.range'_succ, List.map_cons]
    show p (upA rs n i) = claimF (U (upA rs n i)) (stepOf rs false k top (upA rs n (mm - 1)) (upA rs n i))
    rw [ecl i (by omega), ep]
  | succ d ih =>
    intro i hi
    obtain ⟨r, hr, e1, e2, hb⟩ := way_rows rok hn w (i := i) (by omega)
    obtain ⟨q, hq, e3, _, hbq⟩ := way_rows rok hn w (i := i + 1) (by omega)
    have ne : r.above ≠ top := by
      rw [e2]
      exact (w.lt (i + 1) (by omega)).1
    obtain ⟨ep, po, hk, hs⟩ := B.pp R rok hr hq (e2.trans e3.symm) hbq ne
    have eab : abv rs (upA rs n i) = q.name := by rw [← e1, abv_of rok hr, e2, e3]
    have esib : sibL rs (upA rs n i) top = (kidsOf rs (Sum.inr q.name)).filter fun x => !decide (x = r.name) := by
      unfold sibL
      rw [eab, if_neg (fun e => ne (by rw [e2, ← e3, e])), e1]
    have nd : (kidsOf rs (Sum.inr q.name)).Nodup := kids_nd rok _
    have ss := fun f => sum_sib (z := r.name) f nd hk
    rw [← esib] at ss
    have sU : sumQ ((sibL rs (upA rs n i) top).map U) = sumQ ((sibL rs (upA rs n i) top).map k) := congrArg sumQ (List.map_congr_left fun y hy => hsib i (by omega) y hy)
    have sC : sumQ ((sibL rs (upA rs n i) top).map c) = sumQ ((sibL rs (upA rs n i) top).map k) := congrArg sumQ (List.map_congr_left fun y hy => by
      obtain ⟨_, z, hz, rfl, _⟩ := sib_lvl w rok hn (by omega) hy
      rw [R.cl z hz, hsib i (by omega) _ hy, ite_self])
    have eU : U (upA rs n (i + 1)) = U (upA rs n i) + sumQ ((sibL rs (upA rs n i) top).map k) := by rw [← e3, hs, ss U, sU, e1]
    have eC : sumQ ((kidsOf rs (Sum.inr q.name)).map c) = c (upA rs n i) + sumQ ((sibL rs (upA rs n i) top).map k) := by rw [ss c, sC, e1]
    have ih1 := ih (i + 1) (by omega)
    rw [List.range'_succ, List.map_cons]
    have el : ∀ t : List (Rat × Rat × Bool), t.isEmpty = false → leastF (stepOf rs false k top (upA rs n (mm - 1)) (upA rs n i) :: t) (U (upA rs n i)) = cutF (claimF (U (upA rs n i)) (stepOf rs false k top (upA rs n (mm - 1)) (upA rs n i))) (sumQ ((sibL rs (upA rs n i) top).map k)) (leastF t (U (upA rs n i) + sumQ ((sibL rs (upA rs n i) top).map k))) := fun t ht => by
      show (if t.isEmpty then _ else _) = _
      rw [ht]
      rfl
    rw [el _ (by rw [List.range'_succ, List.map_cons]; rfl), ← eU, ← ih1, ecl i (by omega)]
    rw [← e1, ep, e3, e1]
    unfold partQ cutF
    rw [← e3, eC, if_neg (fun z : false = true ∧ _ => by cases z.1)]
theorem least_worst (B : Bds rs M S m s k U) (R : Reck rs top false k u U c p) (rok : RowsOk rs) (hn : n ∈ nms rs) (w : WayOk rs n top mm) (hsib : ∀ i, i < mm → ∀ s ∈ sibL rs (upA rs n i) top, U s = k s) : p n = leastF (stepsL rs false k (wayL rs n top)) (U n) := by
  have h1 := p_worst B R rok hn w hsib (mm - 1) 0 (by have := w.pos; omega)
  have em : mm - 1 + 1 = mm := by have := w.pos; omega
  have es : stepsL rs false k (wayL rs n top) = (List.range' 0 (mm - 1 + 1)).map fun j => stepOf rs false k top (upA rs n (mm - 1)) (upA rs n j) := by
    obtain ⟨rl, hrl, e2, e3, _⟩ := way_rows rok hn w (i := mm - 1) (by have := w.pos; omega)
    unfold stepsL
    rw [way_last w, em, ← List.range_eq_range', w.is, List.map_map]
    have : abv rs (upA rs n (mm - 1)) = top := by rw [← e2, abv_of rok hrl, e3, em, w.end_]
    rw [this]
    rfl
  rw [es]
  exact h1
end
end Bd
end

section
namespace Bd
open PySem L2 Am
open Evl hiding tCut pss_cut
theorem due_tk {K : PySem.W.Frag} {G G' : Hp} {p : Addr} {du : Str × PyData} (t : TK G G') (ok : ValOk du.1 du.2) (h : DueAt K G p du) : DueAt K G' p du := by
  obtain ⟨u, h1, h2⟩ := h
  exact ⟨u, t.seqT h1, t.val ok h2⟩
theorem amt_okG {x : Str} {q : Rat} (hx : x ∈ (["min", "low", "burst", "max", "quota", "tops"] : List Str)) (q0 : 0 ≤ q) (sz : Sz q) : ValOk x (amtD q) := by
  show ValOk x (.tuple [.int q.num, .int (q.den : Int)])
  obtain ⟨z1, z2⟩ := sz
  rw [nat_num q0]
  exact .amt hx z1 q.den_pos z2 q.reduced
/-! rows in which a group has another due -/
def setR (z wd : Str) (d : PyData) (r : RowM) : RowM := if r.name = z then ⟨r.name, r.above, (r.dues.filter fun du => !decide (du.1 = wd)) ++ [(wd, d)]⟩ else r
theorem setR_names {z wd : Str} {d : PyData} (r : RowM) : (setR z wd d r).name = r.name ∧ (setR z wd d r).above = r.above := by
  unfold setR
  split
  · exact ⟨rfl, rfl⟩
  · exact ⟨rfl, rfl⟩
theorem dueOf_set (dues : List (Str × PyData)) (wd : Str) (d : PyData) (x : Str) : dueOf ((dues.filter fun du => !decide (du.1 = wd)) ++ [(wd, d)]) x = if x = wd then some d else dueOf dues x := by
  unfold dueOf
  rw [List.find?_append]
  by_cases c : x = wd
  · rw [if_pos c]
    have h1 : (dues.filter fun du => !decide (du.1 = wd)).find? (fun du => decide (du.1 = x)) = none := List.find?_eq_none.mpr fun du hdu e => by
      have h := (List.mem_filter.mp hdu).2
      have e := of_decide_eq_true e
      rw [e, c] at h
      simp at h
    rw [h1]
    simp [c]
  · rw [if_neg c]
    have h1 : (dues.filter fun du => !decide (du.1 = wd)).find? (fun du => decide (du.1 = x)) = dues.find? fun du => decide (du.1 = x) := by
      rw [List.find?_filter]
      congr 1
      funext du
      by_cases e : du.1 = x
      · have : du.1 ≠ wd := fun z => c (e.symm.trans z)
        simp [e, c]
      · simp [e]
    rw [h1]
    have h2 : ([(wd, d)] : List (Str × PyData)).find? (fun du => decide (du.1 = x)) = none := List.find?_eq_none.mpr fun du hdu e => by
      rw [List.mem_singleton.mp hdu] at e
      exact c (of_decide_eq_true e).symm
    rw [h2, Option.or_none]
theorem set_dok {dues : List (Str × PyData)} {wd : Str} {d : PyData} (h : DuesOk dues) (hw : wd ∈ leftW) (hv : ValOk wd d) : DuesOk ((dues.filter fun du => !decide (du.1 = wd)) ++ [(wd, d)]) := by
  refine ⟨?_, fun du hdu => ?_⟩
  · rw [List.map_append]
    refine List.nodup_append.mpr ⟨h.1.sublist (List.filter_sublist.map _), by simp, fun a ha b hb e => ?_⟩
    obtain ⟨y, hy, rfl⟩ := List.mem_map.mp ha
    have h1 := (List.mem_filter.mp hy).2
    have h2 : b = wd := List.mem_singleton.mp hb
    rw [e, h2] at h1
    simp at h1
  · rcases List.mem_append.mp hdu with m | m
    · exact h.2 du (List.mem_filter.mp m).1
    · rw [List.mem_singleton.mp m]
      exact ⟨hw, hv⟩
structure LikeR (rs : List RowM) (g : RowM → RowM) : Prop where
  hn : ∀ r, (g r).name = r.name
  ha : ∀ r, (g r).above = r.above
  hd : ∀ r ∈ rs, DuesOk (g r).dues ∧ dueOf (fullD (g r).dues) "tops" = some (.str "endless")
theorem LikeR.id {nn : List Str} {rs : List RowM} (h : RowsI nn ["min", "low"] rs) : LikeR rs fun r => r := by
  refine ⟨fun _ => rfl, fun _ => rfl, fun r hr => ?_⟩
  obtain ⟨j, hj⟩ := List.mem_iff_getElem?.mp hr
  have := (h j r hj).2.2
  exact ⟨dues_dok w2ok this, dues_tops w2ok this⟩
theorem LikeR.set {rs : List RowM} {g : RowM → RowM} {z wd : Str} {d : PyData} (L : LikeR rs g) (hw : wd ∈ leftW) (ne : wd ≠ "tops") (hv : ValOk wd d) : LikeR rs fun r => setR z wd d (g r) := by
  refine ⟨fun r => (setR_names _).1.trans (L.hn r), fun r => (setR_names _).2.trans (L.ha r), fun r hr => ?_⟩
  obtain ⟨h1, h2⟩ := L.hd r hr
  unfold setR
  split
  · refine ⟨set_dok h1 hw hv, ?_⟩
    show some ((dueOf _ "tops").getD (.str "endless")) = _
    rw [dueOf_set, if_neg (fun e => ne e.symm)]
    exact h2
  · exact ⟨h1, h2⟩
theorem LikeR.rok {rs : List RowM} {g : RowM → RowM} (L : LikeR rs g) (rok : RowsOk rs) : RowsOk (rs.map g) := by
  intro i r hr
  rw [List.getElem?_map] at hr
  obtain ⟨q, hq, rfl⟩ := Option.map_eq_some_iff.mp hr
  obtain ⟨h1, h2, h3, h4⟩ := rok i q hq
  have hqm := List.mem_of_getElem? hq
  refine ⟨by rw [L.hn]; exact h1, (L.hd q hqm).1, fun z hz => ?_, ?_⟩
  · rw [← List.map_take] at hz
    obtain ⟨y, hy, rfl⟩ := List.mem_map.mp hz
    rw [L.hn, L.hn]
    exact h3 y hy
  · rw [L.ha]
    rcases h4 with e | ⟨y, hy, e, _⟩
    · exact .inl e
    · refine .inr ⟨g y, ?_, by rw [L.hn]; exact e, (L.hd y (List.mem_of_mem_take hy)).2⟩
      rw [← List.map_take]
      exact List.mem_map_of_mem hy
theorem kind_set {rs : List RowM} {g : RowM → RowM} {z wd kd : Str} {d : PyData} {k : Str → Rat} (L : LikeR rs g) (hk : kd = "min" ∨ kd = "low") (h : KindOk (rs.map g) kd k) (ne : wd ≠ kd) : KindOk (rs.map fun r => setR z wd d (g r)) kd k := fun r hr => by
  obtain ⟨y, hy, rfl⟩ := List.mem_map.mp hr
  have h1 := h (g y) (List.mem_map_of_mem hy)
  try dsimp only
  rw [(setR_names _).1]
  unfold setR
  split
  · have full : ∀ dues : List (Str × PyData), dueOf (fullD dues) kd = some ((dueOf dues kd).getD (.tuple [.int 0, .int 1])) := fun dues => by rcases hk with rfl | rfl <;> rfl
    rw [full] at h1 ⊢
    rw [dueOf_set, if_neg (fun e => ne e.symm)]
    exact h1
  · exact h1
theorem kind_new {rs : List RowM} {g : RowM → RowM} {z kd : Str} {q : Rat} {k : Str → Rat} (L : LikeR rs g) (hk : kd = "min" ∨ kd = "low") (h : KindOk (rs.map g) kd k) : KindOk (rs.map fun r => setR z kd (amtD q) (g r)) kd fun n => if n = z then q else k n := fun r hr => by
  obtain ⟨y, hy, rfl⟩ := List.mem_map.mp hr
  have h1 := h (g y) (List.mem_map_of_mem hy)
  try dsimp only
  rw [(setR_names _).1]
  unfold setR
  by_cases c : (g y).name = z
  · rw [if_pos c, if_pos c]
    have full : ∀ dues : List (Str × PyData), dueOf (fullD dues) kd = some ((dueOf dues kd).getD (.tuple [.int 0, .int 1])) := fun dues => by rcases hk with rfl | rfl <;> rfl
    rw [full, dueOf_set, if_pos rfl]
    rfl
  · rw [if_neg c, if_neg c]
    exact h1
section
variable {rs : List RowM} {g : RowM → RowM} (L : LikeR rs g)
include L
theorem LikeR.abv (n : Str) : Bd.abv (rs.map g) n = Bd.abv rs n := by
  unfold Bd.abv
  rw [List.find?_map, Option.map_map]
  have e1 : ((fun r : RowM => decide (r.name = n)) ∘ g) = fun r : RowM => decide (r.name = n) := by
    funext r
    show decide ((g r).name = n) = _
    rw [L.hn]
  have e2 : ((fun r : RowM => r.above) ∘ g) = fun r : RowM => r.above := by
    funext r
    exact L.ha r
  rw [e1, e2]
theorem LikeR.way (n top : Str) : wayL (rs.map g) n top = wayL rs n top := by
  have e : ∀ t, wayS (rs.map g) n top t = wayS rs n top t := by
    intro t
    induction t with
    | zero => rfl
    | succ t ih =>
      show (if (wayS (rs.map g) n top t).2 ≠ top ∧ (wayS (rs.map g) n top t).2 ≠ "" then ((wayS (rs.map g) n top t).1 ++ [(wayS (rs.map g) n top t).2], Bd.abv (rs.map g) (wayS (rs.map g) n top t).2) else wayS (rs.map g) n top t) = _
      rw [ih, L.abv]
      rfl
  unfold wayL
  rw [List.length_map, e]
theorem LikeR.nms : Bd.nms (rs.map g) = Bd.nms rs := like_nms L.hn
theorem LikeR.kids (n : Str) : kidsOf (rs.map g) (Sum.inr n) = kidsOf rs (Sum.inr n) := like_kids L.hn L.ha n
theorem LikeR.sib (n top : Str) : sibL (rs.map g) n top = sibL rs n top := by
  unfold sibL
  rw [L.abv, L.kids]
theorem LikeR.steps {h : Bool} {k k' : Str → Rat} {way : List Str} (hk : ∀ y ∈ way, k' y = k y) (hs : ∀ y ∈ way, ∀ s ∈ sibL rs y (Bd.abv rs (lastL way)), k' s = k s) : stepsL (rs.map g) h k' way = stepsL rs h k way := by
  unfold stepsL
  refine List.map_congr_left fun y hy => ?_
  unfold stepOf
  rw [L.sib, L.abv, hk y hy, List.map_congr_left (g := k) fun s hs' => hs y hy s hs']
end
theorem most_congr {k k' : Str → Rat} : ∀ {xs : List Str} {u : Rat}, (∀ y ∈ xs, k' y = k y) → mostF k' u xs = mostF k u xs
  | [], _, _ => rfl
  | y :: xs, u, h => by
    show mostF k' (if k' y < u then k' y else u) xs = mostF k (if k y < u then k y else u) xs
    rw [h y List.mem_cons_self, most_congr fun z hz => h z (List.mem_cons_of_mem _ hz)]
end Bd
end

section
namespace Bd
open PySem L2 Am
open Evl hiding tCut pss_cut
abbrev sUncut : Stmt := (top 75)
theorem scUncut : FnScope ["_law_source_here", "_law_many", "_law_plain", "_law_found", "_law_known", "_law_name", "_law_above", "_law_dues", "_law_some", "_law_word", "_law_inner", "_law_row"] ["_law_source_here", "_law_many"] (defScope sUncut) := ⟨rfl, rfl, rfl, by decide +kernel, rfl, by decide +kernel, by decide +kernel⟩
abbrev sAllT : Stmt := (top 76)
theorem scAllT : FnScope ["_law_tree", "_law_spent", "_law_crown", "_law_parts", "_law_rest", "_law_much", "_law_more"] ["_law_tree", "_law_spent", "_law_crown", "_law_parts"] (defScope sAllT) := ⟨rfl, rfl, rfl, by decide +kernel, rfl, by decide +kernel, by decide +kernel⟩
abbrev sLaw : Stmt := (top 77)
theorem scLaw : FnScope ["_law_script", "_law_k", "_law_source_here", "_law_rows_here", "_law_tree", "_law_turn", "_law_spent", "_law_crown", "_law_parts", "_law_due", "_law_one_here"] ["_law_script"] (defScope sLaw) := ⟨rfl, rfl, rfl, by decide +kernel, rfl, by decide +kernel, by decide +kernel⟩

def spLaw (K : PySem.W.Frag) : Sp := fun vs H Q _ => ∃ (a : Addr) (ns : List Int), vs = [.ref a] ∧ SqL K H a (ns.map V.int) ∧ ns.length ≤ 63 ∧ ∀ H', Q (.bl true) H'
theorem TK.dt {H : Hp} {p : Addr} {xs : List (List Key × V)} (h : H p = some (.dT xs)) (o : HO) : TK H (upd H p o) :=
  ⟨fun c ys e => by rw [upd_ne (fun z => by rw [z, h] at e; cases e)]; exact e, fun c u w e => by rw [upd_ne (fun z => by rw [z, h] at e; cases e)]; exact e⟩
theorem kept_mut {p d : Addr} {H G : Hp} {o : HO} (k : Kept p H G) (h : H d = none) : Kept p H (L2.upd G d o) := fun c u hc e => by
  rw [upd_ne (fun z => by rw [z, h] at e; cases e)]
  exact k c u hc e
section
variable {K : PySem.W.Frag} {H : Hp} {σ : L2.St} {tx ty te : TE}
theorem ev_dgt {i : Nat} {d : Addr} {kvs : List (List Key × V)} {a b : Str} {v : V} (hi : σ[i]? = some (some (.ref d))) (fd : H d = some (.dT kvs)) (hx : Ev tx σ H (.str a)) (hy : Ev ty σ H (.str b)) (hv : valV kvs ([Sum.inr a, Sum.inr b] : List Key) = some v) : Ev (tDGet (tVar i) (tTup (tCons tx (tCons ty tNil)))) σ H v := fun H1 e Q k =>
  ⟨_, hi, hx H1 e _ fun H2 e2 => hy H2 (e.trans e2) _ fun H3 e3 => ⟨by show 2 ≤ sizeLine; decide, fun p hp => by
    have s4 := Same.new (Same.refl H3) hp (.tup [.str a, .str b])
    have f4 : upd H3 p (.tup [.str a, .str b]) p = some (.tup ([Sum.inr a, Sum.inr b].map kV)) := upd_same
    generalize upd H3 p (.tup [.str a, .str b]) = H4 at s4 f4 ⊢
    refine ⟨d, v, rfl, ?_, k H4 ((e2.trans e3).trans s4)⟩
    rw [← hv]
    exact DGet.t ((((e.trans e2).trans e3).trans s4) _ _ fd) f4⟩⟩
theorem el_revV {i : Nat} {l : Addr} {xs : List V} (hi : σ[i]? = some (some (.ref l))) (hl : H l = some (.lst xs)) : EvL (tRevL K (tVar i)) σ H xs.reverse := fun H1 e Q k => ⟨_, hi, l, xs, rfl, SqL.of (e _ _ hl), fun r hr => k r _ hr (Ex.new hr) upd_same⟩
end
def gU (kk : Str → Str → Rat) (z : RowM) : RowM := ⟨z.name, z.above, [("min", amtD (kk "min" z.name)), ("low", amtD (kk "low" z.name))]⟩
/-- what is known of some rows -/
def KnO (K : PySem.W.Frag) (G : Hp) (kvs : List (List Key × V)) (kk : Str → Str → Rat) (ns : List Str) (kd : Str) : Prop := ∀ n ∈ ns, ∃ v, valV kvs ([Sum.inr n, Sum.inr kd] : List Key) = some v ∧ AmtQ K G v (kk kd n)
theorem KnO.tk {K : PySem.W.Frag} {G G' : Hp} {kvs : List (List Key × V)} {kk : Str → Str → Rat} {ns : List Str} {kd : Str} (t : TK G G') (h : KnO K G kvs kk ns kd) : KnO K G' kvs kk ns kd := fun n hn => let ⟨v, a, b⟩ := h n hn; ⟨v, a, b.tk t⟩
def spUncut (K : PySem.W.Frag) : Sp := fun vs H Q _ => ∃ (s : Addr) (m : Nat), vs = [.ref s, .int (m : Int)] ∧ Src H s ∧ m ≤ 9 ∧ ∀ (r : Addr) (ws : List V) (rs : List RowM) (kk : Str → Str → Rat) (H' : Hp), RD K H' s r ws rs → H r = none → Kept s H H' → RowsOk rs → rs.length ≤ 9 → (∀ kd : Str, kd = "min" ∨ kd = "low" → KindOk rs kd (kk kd) ∧ (∀ n, InMS 2520 (10 ^ 30) (kk kd n)) ∧ RoomK rs (kk kd)) → Q (.ref r) H'
theorem sumMS9 {ks : List Str} {f : Str → Rat} {i : Nat} (h : ∀ x ∈ ks, InMS 2520 (10 ^ 13 * 10 ^ i) (f x)) (l : ks.length ≤ 9) : InMS 2520 (10 ^ 13 * 10 ^ i * 9) (sumQ (ks.map f)) := (sumMS (by decide) h).up (Nat.dvd_refl _) (Nat.mul_le_mul_left _ l)
/-- rows with settings of both kinds -/
theorem gU_dues {kk : Str → Str → Rat} (h : ∀ n, InMS 2520 (10 ^ 30) (kk "min" n) ∧ InMS 2520 (10 ^ 30) (kk "low" n)) (r : RowM) : DuesOk (gU kk r).dues ∧ dueOf (fullD (gU kk r).dues) "tops" = some (.str "endless") := by
  have hd : DuesAm ["min", "low"] (gU kk r).dues := ⟨[("min", kk "min" r.name), ("low", kk "low" r.name)], rfl, List.Sublist.refl _, fun z hz => by
    simp only [List.mem_cons, List.not_mem_nil, or_false] at hz
    rcases hz with rfl | rfl
    · exact ⟨(h _).1.lo, (h _).1.sz (m := 12) (s := 100) (by decide) (by decide) (by decide) (by decide)⟩
    · exact ⟨(h _).2.lo, (h _).2.sz (m := 12) (s := 100) (by decide) (by decide) (by decide) (by decide)⟩⟩
  exact ⟨dues_dokA w2ok hd, dues_topsA w2ok hd⟩
theorem gU_like {rs : List RowM} {kk : Str → Str → Rat} (h : ∀ n, InMS 2520 (10 ^ 30) (kk "min" n) ∧ InMS 2520 (10 ^ 30) (kk "low" n)) : LikeR rs (gU kk) := ⟨fun _ => rfl, fun _ => rfl, fun r _ => gU_dues h r⟩
theorem paired_app2 {α β : Type} {R : α → β → Prop} : ∀ {xs : List α} {ys : List β} {us : List α} {vs : List β}, Paired R xs ys → Paired R us vs → Paired R (xs ++ us) (ys ++ vs)
  | _, _, _, _, .nil, h => h
  | _, _, _, _, .cons a b, h => .cons a (paired_app2 b h)
theorem paired_rev2 {α β : Type} {R : α → β → Prop} : ∀ {xs : List α} {ys : List β}, Paired R xs ys → Paired R xs.reverse ys.reverse
  | _, _, .nil => .nil
  | _, _, .cons a b => by
    rw [List.reverse_cons, List.reverse_cons]
    exact paired_app2 (paired_rev2 b) (.cons a .nil)
theorem paired_maps {α : Type} {K : PySem.W.Frag} {G : Hp} {g : α → V} {h : α → Rat} : ∀ {ys : List α}, (∀ y ∈ ys, AmtQ K G (g y) (h y)) → Paired (AmtQ K G) (ys.map g) (ys.map h)
  | [], _ => .nil
  | y :: ys, e => .cons (e y List.mem_cons_self) (paired_maps fun z hz => e z (List.mem_cons_of_mem _ hz))
theorem room_rows {rs : List RowM} {kk : Str → Str → Rat} {kd : Str} (h : ∀ z ∈ rs, sumQ ((kidsOf rs (Sum.inr z.name)).map (kk kd)) ≤ kk kd z.name) : RoomK (rs.map (gU kk)) (kk kd) := fun z hz hk => by
  obtain ⟨y, hy, rfl⟩ := List.mem_map.mp hz
  have e : kidsOf (rs.map (gU kk)) (Sum.inr (gU kk y).name) = kidsOf rs (Sum.inr y.name) := like_kids (g := gU kk) (fun _ => rfl) (fun _ => rfl) _
  rw [e]
  exact h y hy
theorem gU_kind {rs : List RowM} {kk : Str → Str → Rat} {kd : Str} (hk : kd = "min" ∨ kd = "low") : KindOk (rs.map (gU kk)) kd (kk kd) := fun r hr => by
  obtain ⟨y, hy, rfl⟩ := List.mem_map.mp hr
  rcases hk with rfl | rfl <;> rfl
section
variable {P : Program} {w : World} {K : PySem.W.Frag} {mg : Str → Option Value} {base : Heap} {C CN CW aL aK aZ : Addr} {left : List (Key × V)}
theorem ok_uncut {f gR gP gZ gO gM : Addr} {fd dR dP dZ dO dM : FuncData} (F : Fun K "_law_uncut" "_law_uncut" sUncut f fd) (T : TA mg) (cRw : Cal P w K mg base "_law_rows" ["_law_source_here", "_law_many", "_law_words"] 4 (spLRows K) gR dR) (cP : Cal P w K mg base "_law_plus" ["_law_one_here", "_law_other"] 3 (spLPlus K) gP dP) (cZ : Cal P w K mg base "_law_sum" ["_law_amounts"] 4 (spLSum K) gZ dZ)
    (cO : Cal P w K mg base "_law_one" ["_law_source_here", "_law_things"] 3 (spOne K) gO dO) (cM : Cal P w K mg base "_law_amount" ["_law_source_here"] 3 (spAmount K) gM dM) : FnOk P w K mg base CX0 5 f fd ["_law_source_here", "_law_many"] (spUncut K) := by
  refine F.ok scUncut (fun vs H Q E h => ?_) (fun cdv A outer s H vs Q E hr h => ?_)
  · obtain ⟨p, m, rfl, _⟩ := h
    rfl
  obtain ⟨p, m, rfl, src, hm, q⟩ := h
  have hu := hu_of hr
  refine ⟨_, (pss_cons (ps_par (i := 2) (j := 3) (by rfl) scUncut.nd rfl rfl (by decide) rfl rfl (pa_cons (pe_call cRw.ok (hr.mono (by decide)) rfl cRw.mg cRw.kp cRw.bd .nil pass0 (pa_cons (pv 0) (pa_cons (pv 1) (pa_cons (pe_lst pa_nil) pa_nil)))) (pa_cons (pe_lst pa_nil) pa_nil)) (by rfl)) (pss_cons (ps_set (i := 4) scUncut.nd rfl (Or.inr rfl) pe_dnewT) (pss_cons (ps_for PassesOwn.never rfl (pi_list (pe_revL (pv 2))) (pg_tup (by rfl) (pgs_cons (pg_name (i := 5) scUncut.nd rfl (Or.inr rfl)) (pgs_cons (pg_name (i := 6) scUncut.nd rfl (Or.inl rfl)) (pgs_cons (pg_name (i := 7) scUncut.nd rfl (Or.inl rfl)) pgs_nil)))) (pss_cons (ps_set (i := 8) scUncut.nd rfl (Or.inl rfl) (pe_lst pa_nil)) (pss_cons (ps_for PassesOwn.never rfl (pi_tup (pe_tup (pa_cons pe_str (pa_cons pe_str pa_nil)))) (pg_name (i := 9) scUncut.nd rfl (Or.inr rfl)) (pss_cons (ps_setLc (i := 10) (own := [("_law_row", 11)]) (g := gName 11) (tt := tTest (tOp rEq (tOp (rIxT K) (tVar 11) (tC (.int 1))) (tVar 5))) (te := tDGet (tVar 4) (tTup (tCons (tOp (rIxT K) (tVar 11) (tC (.int 0))) (tCons (tVar 9) tNil)))) rfl scUncut.nd rfl rfl (sw_true rfl rfl rfl (by decide +kernel)) (pi_list (pv 2)) (blkOk_by (own := [("_law_row", 11)]) (N := ["_law_source_here", "_law_many", "_law_plain", "_law_found", "_law_known", "_law_name", "_law_above", "_law_dues", "_law_some", "_law_word", "_law_inner", "_law_row"]) (sc := defScope sUncut) (by decide +kernel)) (fun _ _ _ _ _ => (pg_name (i := 11) scUncut.nd rfl (Or.inl rfl))) (fun _ _ _ _ _ => (pts_one (pt_cmpR op_eq (pe_ix ix_tup (pv 11) pe_int (fun _ _ => rfl)) (pv 5) (nomark _)))) (fun _ _ _ _ _ => (pe_dget hu (pv 4) (pe_tup (pa_cons (pe_ix ix_tup (pv 11) pe_int (fun _ _ => rfl)) (pa_cons (pv 9) pa_nil))) (fun _ _ => rfl)))) (pss_cons (ps_dput hu (pv 4) (pe_tup (pa_cons (pv 5) (pa_cons (pv 9) pa_nil))) (pe_call cP.ok (hr.mono (by decide)) rfl cP.mg cP.kp cP.bd .nil pass0 (pa_cons (pe_call cZ.ok (hr.mono (by decide)) rfl cZ.mg cZ.kp cZ.bd .nil pass0 (pa_cons (pv 10) pa_nil)) (pa_cons (pe_call cO.ok (hr.mono (by decide)) rfl cO.mg cO.kp cO.bd .nil pass0 (pa_cons (pv 0) (pa_cons (pe_lst (pa_cons (pe_tup (pa_cons pe_int (pa_cons pe_int pa_nil))) (pa_cons (pe_call cM.ok (hr.mono (by decide)) rfl cM.mg cM.kp cM.bd .nil pass0 (pa_cons (pv 0) pa_nil)) pa_nil))) pa_nil))) pa_nil))) rfl) (pss_one (ps_expr (pe_bm PySem.F.plainAttrs_list PySem.F.slot_list_append PySem.F.type_list_append mt_append (pv 8) (pa_cons (pe_tup (pa_cons (pv 9) (pa_cons (pe_dget hu (pv 4) (pe_tup (pa_cons (pv 5) (pa_cons (pv 9) pa_nil))) (fun _ _ => rfl)) pa_nil))) pa_nil))))))) (pss_one (ps_expr (pe_bm PySem.F.plainAttrs_list PySem.F.slot_list_append PySem.F.type_list_append mt_append (pv 3) (pa_cons (pe_tup (pa_cons (pv 5) (pa_cons (pv 6) (pa_cons (pe_callTy call_tupleF (by rfl) T.z_tuple (by decide +kernel) (pa_cons (pv 8) pa_nil)) pa_nil)))) pa_nil))))))) (pss_one (ps_ret (pe_revL (pv 3))))))), ?_⟩
  refine ⟨_, rfl, _, rfl, Nat.zero_le _, fun wl hwl => ?_⟩
  have s1 := Same.new (Same.refl H) hwl (.lst [])
  have f1 : upd H wl (.lst []) wl = some (.lst []) := upd_same
  generalize upd H wl (.lst []) = H1 at s1 f1 ⊢
  have src1 := src_sameE s1 src
  refine ⟨p, wl, m, [], rfl, src1, by omega, f1, (src_ne src hwl).symm, ⟨List.nodup_nil, fun w hw => by cases hw⟩, by decide, fun r H2 ws rs nn hr0 er prs hI ndn hmem hnl hrsl src2 k2 => ?_⟩
  have rok : RowsOk rs := rowsI_ok ⟨List.nodup_nil, fun w hw => by cases hw⟩ hI ndn hmem
  have nd := nms_nd rok
  have k02 := (Kept.of s1).trans k2
  have npr : p ≠ r := src_ne src1 hr0
  have hrH : H r = none := fresh_back s1 hr0
  refine ⟨Nat.zero_le _, fun fl hfl => ⟨_, _, rfl, ?_⟩⟩
  have npf : p ≠ fl := src_ne src2 hfl
  have s3 := Same.new (Same.refl H2) hfl (.lst [])
  have f3 : upd H2 fl (.lst []) fl = some (.lst []) := upd_same
  have hflH : H fl = none := k02.free npf.symm hfl
  generalize upd H2 fl (.lst []) = H3 at s3 f3 ⊢
  have src3 := src_sameE s3 src2
  try dsimp only [gName]
  show tSeq (tAsg tDNewT _) _ _ [some (.ref p), some (.int (m : Int)), some (.ref r), some (.ref fl), none, none, none, none, none, none, none, none] H3
  intro kp hkp
  have npk : p ≠ kp := src_ne src3 hkp
  have nfk : fl ≠ kp := fun z => by rw [← z, f3] at hkp; cases hkp
  have s4 := Same.new (Same.refl H3) hkp (.dT [])
  have f4 : upd H3 kp (.dT []) kp = some (.dT []) := upd_same
  have hkpH : H kp = none := (k02.trans (Kept.of s3)).free npk.symm hkp
  generalize upd H3 kp (.dT []) = H4 at s4 f4 ⊢
  have k04 := k02.trans (Kept.of (s3.trans s4))
  have er4 := (s3.trans s4) _ _ er
  have pr4 := rows_same (s3.trans s4) prs
  have ff4 := s4 _ _ f3
  have src4 := src_sameE s4 src3
  have nrf : r ≠ fl := fun z => by rw [z] at er; rw [er] at hfl; cases hfl
  have nrk : r ≠ kp := fun z => by rw [z] at er; rw [(s3 _ _ er)] at hkp; cases hkp
  have wl' : ws.length = rs.length := Paired.length prs
  have klen : ∀ y : Str, (kidsOf rs (Sum.inr y)).length ≤ 9 := fun y => by
    rw [kids_flt, List.length_map]
    exact Nat.le_trans (List.length_filter_le _ _) (by omega)
  clear s1 s3 s4 k2 k02 f1 src1 src2 src3 er prs f3 hfl hkp hwl src
  try dsimp only [gName]
  show tSeq (tFor _ _ _) _ _ [some (.ref p), some (.int (m : Int)), some (.ref r), some (.ref fl), some (.ref kp), none, none, none, none, none, none, none] H4
  refine q_forNL (xs := ws.reverse) (el_revV (i := 2) rfl er4) (fun lp i σ G => ∃ (o5 o6 o7 o8 o9 o10 : Option V) (cs : List V) (kvs : List (List Key × V)) (kk : Str → Str → Rat), σ = [some (.ref p), some (.int (m : Int)), some (.ref r), some (.ref fl), some (.ref kp), o5, o6, o7, o8, o9, o10, none] ∧ Src G p ∧ Kept p H G ∧ lp ≠ p ∧ lp ≠ fl ∧ lp ≠ kp ∧ G lp = some (.lst ws.reverse) ∧ G r = some (.lst ws) ∧ Paired (RowAt K G) ws rs ∧ G fl = some (.lst cs) ∧ Paired (RowAt K G) cs ((rs.reverse.take i).map (gU kk)) ∧
      G kp = some (.dT kvs) ∧ kvs.length ≤ 2 * i ∧ ∀ kd : Str, kd = "min" ∨ kd = "low" → KnO K G kvs kk (nms (rs.reverse.take i)) kd ∧ (∀ n, InMS 2520 (10 ^ 13 * 10 ^ i) (kk kd n)) ∧ ∀ z ∈ rs.reverse.take i, sumQ ((kidsOf rs (Sum.inr z.name)).map (kk kd)) ≤ kk kd z.name)
    (fun lp G hlp e flp => ⟨_, _, _, _, _, _, [], [], fun _ _ => 0, rfl, src_sameE e src4, k04.trans (Kept.of e), (src_ne src4 hlp).symm, (fun z => by rw [z, ff4] at hlp; cases hlp), (fun z => by rw [z, f4] at hlp; cases hlp), flp, e _ _ er4, rows_same e pr4, e _ _ ff4, .nil, e _ _ f4, by decide, fun kd _ => ⟨(fun n hn => by cases hn), (fun n => InMS.zero), (fun z hz => by cases hz)⟩⟩) ?_ ?_ ?_
  · rintro lp i σ G _ ⟨_, _, _, _, _, _, _, _, _, rfl, _, _, _, _, _, flp, _⟩
    exact SqL.of flp
  · rintro lp i x σ G hx ⟨o5, o6, o7, o8, o9, o10, cs, kvs, kk, rfl, sG, kG, nlp, nlf, nlk, flp, er, pr, ffl, pc, fkp, kvl, hkk⟩
    have ix : i < rs.length := by
      have := (List.getElem?_eq_some_iff.mp hx).1
      rwa [List.length_reverse, wl'] at this
    rw [List.getElem?_reverse (by rw [wl']; exact ix), wl'] at hx
    obtain ⟨z, hz, a, t, rfl, hrow, _⟩ := paired_get pr hx
    have hzm := List.mem_of_getElem? hz
    have hzr : rs.reverse[i]? = some z := by rw [List.getElem?_reverse ix]; exact hz
    have tki : rs.reverse.take (i + 1) = rs.reverse.take i ++ [z] := by
      rw [List.take_add_one, hzr]
      rfl
    -- what is done stands behind z
    have done_ix : ∀ y ∈ rs.reverse.take i, ∃ j, rs[j]? = some y ∧ rs.length - 1 - i < j := fun y hy => by
      obtain ⟨j, hj⟩ := List.mem_iff_getElem?.mp hy
      have lj := (List.getElem?_eq_some_iff.mp hj).1
      rw [List.length_take] at lj
      rw [List.getElem?_take_of_lt (by omega), List.getElem?_reverse (by omega)] at hj
      exact ⟨_, hj, by omega⟩
    have done_of : ∀ (j : Nat) (y : RowM), rs[j]? = some y → rs.length - 1 - i < j → y ∈ rs.reverse.take i := fun j y hj hl => by
      have lj := (List.getElem?_eq_some_iff.mp hj).1
      refine List.mem_iff_getElem?.mpr ⟨rs.length - 1 - j, ?_⟩
      rw [List.getElem?_take_of_lt (by omega), List.getElem?_reverse (by omega)]
      have e : rs.length - 1 - (rs.length - 1 - j) = j := by omega
      rw [e]
      exact hj
    have done_ne : ∀ y ∈ rs.reverse.take i, y.name ≠ z.name := fun y hy e => by
      obtain ⟨j, hj, hl⟩ := done_ix y hy
      have := row_inj (nms_nd rok) hj hz e
      omega
    have kid_done : ∀ x ∈ kidsOf rs (Sum.inr z.name), x ∈ nms (rs.reverse.take i) ∧ x ≠ z.name := fun x hx => by
      obtain ⟨j, y, hj, rfl, _, hl⟩ := kid_ix rok hz hx
      have := done_of j y hj hl
      exact ⟨List.mem_map_of_mem this, done_ne y this⟩
    refine ⟨a, _, rfl, hrow, rfl, _, _, rfl, _, _, rfl, _, _, rfl, rfl, ?_⟩
    try dsimp only [gName]
    show tSeq (tAsg _ _) _ _ [some (.ref p), some (.int (m : Int)), some (.ref r), some (.ref fl), some (.ref kp), some (.str z.name), some (.str z.above), some (.ref t), o8, o9, o10, none] G
    refine q_asgL (xs := []) (el_lst ea_nil (Nat.zero_le _)) fun sm G1 hsm e1 fsm => ?_
    have npsm : p ≠ sm := src_ne sG hsm
    have nfsm : fl ≠ sm := fun z => by rw [← z, ffl] at hsm; cases hsm
    have nksm : kp ≠ sm := fun z => by rw [← z, fkp] at hsm; cases hsm
    have nlsm : lp ≠ sm := fun z => by rw [← z, flp] at hsm; cases hsm
    have nrsm : r ≠ sm := fun z => by rw [← z, er] at hsm; cases hsm
    have hsmH : H sm = none := kG.free npsm.symm hsm
    try dsimp only [gName]
    show tSeq (tFor (iTup K (tTup _)) _ _) _ _ [some (.ref p), some (.int (m : Int)), some (.ref r), some (.ref fl), some (.ref kp), some (.str z.name), some (.str z.above), some (.ref t), some (.ref sm), o9, o10, none] G1
    refine ⟨by show 2 ≤ sizeLine; decide, fun tp htp => ?_⟩
    have s2 := Same.new (Same.refl G1) htp (.tup [.str "min", .str "low"])
    have f2 : upd G1 tp (.tup [.str "min", .str "low"]) tp = some (.tup [.str "min", .str "low"]) := upd_same
    generalize upd G1 tp (.tup [.str "min", .str "low"]) = G2 at s2 f2 ⊢
    have e02 := e1.trans s2
    refine ⟨tp, rfl, ⟨_, SqT.of f2⟩, ?_⟩
    have dok : ∀ {k2 : Str → Str → Rat}, (∀ kd : Str, kd = "min" ∨ kd = "low" → ∀ n, InMS 2520 (10 ^ 30) (k2 kd n)) → ∀ y, DuesOk (gU k2 y).dues := fun h y => (gU_dues (fun n => ⟨h "min" (.inl rfl) n, h "low" (.inr rfl) n⟩) y).1
    have up30 : ∀ j, j ≤ 9 → 10 ^ 13 * 10 ^ j ≤ 10 ^ 30 := fun j hj => Nat.le_trans (Nat.mul_le_mul_left _ (Nat.pow_le_pow_right (by decide) hj)) (by decide)
    refine q_forIt (walk_tup (K := K) (a := tp) (xs := ([.str "min", .str "low"] : List V))) (fun m' σ G3 => ∃ (o9 o10 : Option V) (kvs : List (List Key × V)) (kk : Str → Str → Rat) (bs : List Addr), σ = [some (.ref p), some (.int (m : Int)), some (.ref r), some (.ref fl), some (.ref kp), some (.str z.name), some (.str z.above), some (.ref t), some (.ref sm), o9, o10, none] ∧ Src G3 p ∧ Kept p H G3 ∧ SqT K G3 tp [.str "min", .str "low"] ∧ G3 lp = some (.lst ws.reverse) ∧ G3 r = some (.lst ws) ∧ Paired (RowAt K G3) ws rs ∧ G3 fl = some (.lst cs) ∧ Paired (RowAt K G3) cs ((rs.reverse.take i).map (gU kk)) ∧
        G3 kp = some (.dT kvs) ∧ kvs.length ≤ 2 * i + m' ∧ G3 sm = some (.lst (bs.map V.ref)) ∧ Paired (PairN K (fun w => kk w z.name) G3) bs ((["min", "low"] : List Str).take m') ∧
        ∀ kd : Str, kd = "min" ∨ kd = "low" → KnO K G3 kvs kk (nms (rs.reverse.take i)) kd ∧ (∀ n, n ≠ z.name → InMS 2520 (10 ^ 13 * 10 ^ i) (kk kd n)) ∧ InMS 2520 (10 ^ 13 * 10 ^ (i + 1)) (kk kd z.name) ∧ (∀ y ∈ rs.reverse.take i, sumQ ((kidsOf rs (Sum.inr y.name)).map (kk kd)) ≤ kk kd y.name) ∧
          (kd ∈ (["min", "low"] : List Str).take m' → KnO K G3 kvs kk [z.name] kd ∧ sumQ ((kidsOf rs (Sum.inr z.name)).map (kk kd)) ≤ kk kd z.name))
      ⟨_, _, kvs, kk, [], rfl, src_sameE e02 sG, kG.trans (Kept.of e02), SqT.of f2, e02 _ _ flp, e02 _ _ er, rows_same e02 pr, e02 _ _ ffl, rows_same e02 pc, e02 _ _ fkp, kvl, s2 _ _ fsm, .nil, fun kd hkd => ⟨(hkk kd hkd).1.tk (.of e02), fun n _ => (hkk kd hkd).2.1 n, ((hkk kd hkd).2.1 z.name).up (Nat.dvd_refl _) (Nat.mul_le_mul_left _ (Nat.pow_le_pow_right (by decide) (by omega))), (hkk kd hkd).2.2, fun h => by cases h⟩⟩ ?_ ?_ ?_
    · rintro m' σ G3 _ ⟨_, _, _, _, _, rfl, _, _, e, _⟩
      exact e
    · clear hkk pc pr er flp ffl fkp sG kG kvl fsm f2 s2 e1 e02 htp hsm hrow
      clear kvs kk
      rintro m' x σ Gx G3 hm' ⟨o9, o10, kvs, kk, bs, rfl, sG, kG, ftp, flp, er, pr, ffl, pc, fkp, kvl, fsm, pb, hkk⟩ ⟨rfl, hx2⟩
      have m2 : m' < 2 := hm'
      obtain ⟨kd, hkm, rfl⟩ : ∃ kd : Str, (["min", "low"] : List Str)[m']? = some kd ∧ x = .str kd := by
        have : m' = 0 ∨ m' = 1 := by omega
        rcases this with rfl | rfl
        · exact ⟨_, rfl, (Option.some.inj hx2).symm⟩
        · exact ⟨_, rfl, (Option.some.inj hx2).symm⟩
      have hkd : kd = "min" ∨ kd = "low" := by
        have := List.mem_of_getElem? hkm
        rcases List.mem_cons.mp this with h | h
        · exact .inl h
        · exact .inr (List.mem_singleton.mp h)
      have tk1 : (["min", "low"] : List Str).take (m' + 1) = (["min", "low"] : List Str).take m' ++ [kd] := by
        rw [List.take_add_one, hkm]
        rfl
      have kdn : kd ∉ (["min", "low"] : List Str).take m' := by
        have : m' = 0 ∨ m' = 1 := by omega
        rcases this with rfl | rfl
        · exact fun h => by cases h
        · cases Option.some.inj hkm
          decide
      obtain ⟨hKn, hBn, hBz, hRo, _⟩ := hkk kd hkd
      have ws9 : rs.length ≤ 1000 := by omega
      try dsimp only [gName]
      show tSeq (tAsg _ _) _ _ [some (.ref p), some (.int (m : Int)), some (.ref r), some (.ref fl), some (.ref kp), some (.str z.name), some (.str z.above), some (.ref t), some (.ref sm), some (.str kd), o10, none] G3
      have eIn := lcL (K := K) (H := G3) (σ := [some (.ref p), some (.int (m : Int)), some (.ref r), some (.ref fl), some (.ref kp), some (.str z.name), some (.str z.above), some (.ref t), some (.ref sm), some (.str kd), o10, none]) (tl := tVar 2) (te := tDGet (tVar 4) (tTup (tCons (tOp (rIxT K) (tVar 11) (tC (.int 0))) (tCons (tVar 9) tNil)))) (t := tTest (tOp rEq (tOp (rIxT K) (tVar 11) (tC (.int 1))) (tVar 5))) (j := 11) (vs := [11]) rs (fun y => decide (y.above = z.name)) (fun y : RowM => (valV kvs ([Sum.inr y.name, Sum.inr kd] : List Key)).getD .non) (ev_var rfl) (SqL.of er) wl' ws9 (fun _ => rfl) (fun j x y H4 e4 hx hy => by
        obtain ⟨y', h1, a, t, rfl, h2, _⟩ := paired_get pr hx
        rw [hy] at h1
        cases h1
        exact et_is (et_test (ev_op (ev_op (ev_var rfl) ev_c (rv_ixT (ex_t e4 h2) rfl)) (ev_var rfl) (rv_eq rfl))) (decide_eq_decide.mpr ⟨fun e => V.str.inj e, fun e => by rw [e]⟩)) (fun j x y H4 e4 hx hy hp => by
        obtain ⟨y', h1, a, t, rfl, h2, _⟩ := paired_get pr hx
        rw [hy] at h1
        cases h1
        have ym : y.name ∈ kidsOf rs (Sum.inr z.name) := by
          rw [← (of_decide_eq_true hp)]
          exact kid_of (List.mem_of_getElem? hy)
        obtain ⟨v, hv1, _⟩ := hKn _ (kid_done _ ym).1
        have : (valV kvs ([Sum.inr y.name, Sum.inr kd] : List Key)).getD .non = v := by rw [hv1]; rfl
        rw [this]
        exact ev_dgt (i := 4) rfl (e4 _ _ fkp) (ev_op (ev_var rfl) ev_c (rv_ixT (ex_t e4 h2) rfl)) (ev_var rfl) hv1)
      refine q_asgL eIn fun il G4 hil e4 fil => ?_
      have pk : Paired (AmtQ K G4) ((rs.filter fun y => decide (y.above = z.name)).map fun y : RowM => (valV kvs ([Sum.inr y.name, Sum.inr kd] : List Key)).getD .non) ((kidsOf rs (Sum.inr z.name)).map (kk kd)) := by
        rw [kids_flt, List.map_map]
        refine paired_maps fun y hy => ?_
        obtain ⟨hy1, hy2⟩ := List.mem_filter.mp hy
        have ym : y.name ∈ kidsOf rs (Sum.inr z.name) := by
          rw [← (of_decide_eq_true hy2)]
          exact kid_of hy1
        obtain ⟨v, hv1, hv2⟩ := hKn _ (kid_done _ ym).1
        rw [hv1]
        exact hv2.same e4
      have sms : InMS 2520 (10 ^ 13 * 10 ^ i * 9) (sumQ ((kidsOf rs (Sum.inr z.name)).map (kk kd))) := sumMS9 (fun x hx => hBn x (kid_done x hx).2) (klen _)
      have i9 : i < 9 := by omega
      have B1 : 10 ^ 13 * 10 ^ i ≤ 10 ^ 13 * 10 ^ 8 := Nat.mul_le_mul_left _ (Nat.pow_le_pow_right (by decide) (by omega))
      have B0 : 10 ^ 13 ≤ 10 ^ 13 * 10 ^ i := Nat.le_mul_of_pos_right _ (Nat.pow_pos (by decide))
      have B2 : 10 ^ 13 * 10 ^ (i + 1) = 10 ^ 13 * 10 ^ i * 10 := by rw [Nat.pow_succ (n := 10) (m := i), ← Nat.mul_assoc]
      try dsimp only [gName]
      show tSeq (sDPut _ _ _) _ _ [some (.ref p), some (.int (m : Int)), some (.ref r), some (.ref fl), some (.ref kp), some (.str z.name), some (.str z.above), some (.ref t), some (.ref sm), some (.str kd), some (.ref il), none] G4
      refine eq_lsumV (K := K) (M := 2520) (S := 10 ^ 13 * 10 ^ 8) (ev_var (i := 10) rfl) (SqL.of fil) pk (by decide) (by decide) (by decide) (by rw [List.length_map]; have := klen z.name; omega) (fun qv hqv => by
        obtain ⟨y, hy, rfl⟩ := List.mem_map.mp hqv
        exact (hBn y (kid_done y hy).2).up (Nat.dvd_refl _) B1) G4 (Ex.refl _) _ fun vs G5 e5 hvs => ?_
      have e35 := e4.trans e5
      have s5 := src_sameE e35 sG
      refine ⟨_, rfl, by show 2 ≤ sizeLine; decide, fun t0 ht0 => ?_⟩
      have s6 := Same.new (Same.refl G5) ht0 (.tup [.int 0, .int 1])
      have f6 : upd G5 t0 (.tup [.int 0, .int 1]) t0 = some (.tup [.int 0, .int 1]) := upd_same
      generalize upd G5 t0 (.tup [.int 0, .int 1]) = G6 at s6 f6 ⊢
      have sr6 := src_sameE s6 s5
      refine ⟨_, rfl, p, rfl, sr6, fun va qa G7 hqa hva s7 k7 => ⟨by show 2 ≤ sizeLine; decide, fun ul hul => ?_⟩⟩
      have t7 := src_tkE sr6 k7
      have s8 := Same.new (Same.refl G7) hul (.lst [.ref t0, va])
      have f8 : upd G7 ul (.lst [.ref t0, va]) ul = some (.lst [.ref t0, va]) := upd_same
      generalize upd G7 ul (.lst [.ref t0, va]) = G8 at s8 f8 ⊢
      have sr8 := src_sameE s8 s7
      refine ⟨p, ul, _, rfl, sr8, SqL.of f8, (src_ne s7 hul).symm, by simp, by show 2 ≤ 1000; decide, fun vx G9 hvx s9 k9 => ?_⟩
      have t9 := src_tkE sr8 k9
      have k39 : Kept p G3 G9 := ((Kept.of (e35.trans s6)).trans k7).trans ((Kept.of s8).trans k9)
      have t39 : TK G3 G9 := src_tkE sG k39
      have t59 : TK G5 G9 := ((TK.of s6).trans t7).trans ((TK.of s8).trans t9)
      obtain ⟨qx, hqx, hx⟩ : ∃ qx, Drawn qx ∧ AmtQ K G9 vx qx := by
        rcases List.mem_cons.mp hvx with rfl | hm
        · exact ⟨0, ⟨by decide +kernel, by decide +kernel, by decide +kernel⟩, (AmtQ.tk ((t7.trans (TK.of s8)).trans t9) (⟨t0, rfl, SqT.of f6⟩ : AmtQ K G6 (.ref t0) 0))⟩
        · rw [List.mem_singleton.mp hm]
          exact ⟨qa, hqa, ((hva.same s8).tk t9)⟩
      have zsum : InMS 2520 (10 ^ 13 * 10 ^ (i + 1)) (sumQ ((kidsOf rs (Sum.inr z.name)).map (kk kd)) + qx) := (InMS.add (by decide) sms hqx.ms).up (Nat.dvd_refl _) (by omega)
      refine ⟨vs, vx, _, qx, rfl, hvs.tk t59, hx, (sms.up (Nat.dvd_refl _) (Nat.mul_le_mul_right _ B1)).sz (m := 12) (s := 80) (by decide) (by decide) (by decide) (by decide), hqx.sz, sms.lo, hqx.1, trivial, fun vn GA sA hvn => ?_⟩
      have k3A : Kept p G3 GA := k39.trans (Kept.of sA)
      have t3A : TK G3 GA := t39.trans (TK.of sA)
      refine ⟨_, rfl, _, rfl, _, rfl, by show 2 ≤ sizeLine; decide, fun kt hkt => ?_⟩
      have sB := Same.new (Same.refl GA) hkt (.tup [.str z.name, .str kd])
      have fB : upd GA kt (.tup [.str z.name, .str kd]) kt = some (.tup ([Sum.inr z.name, Sum.inr kd].map kV)) := upd_same
      generalize upd GA kt (.tup [.str z.name, .str kd]) = GB at sB fB ⊢
      have k3B : Kept p G3 GB := k3A.trans (Kept.of sB)
      have srB : Src GB p := src_sameE (sA.trans sB) s9
      have fkB : GB kp = some (.dT kvs) := k3B _ _ npk.symm fkp
      refine ⟨kp, _, rfl, DPut.t fkB fB (small1000 (by omega)), ?_⟩
      have tC : TK GB (upd GB kp (.dT (putK kvs [Sum.inr z.name, Sum.inr kd] vn))) := TK.dt fkB _
      have fC : upd GB kp (.dT (putK kvs [Sum.inr z.name, Sum.inr kd] vn)) kp = some (.dT (putK kvs [Sum.inr z.name, Sum.inr kd] vn)) := upd_same
      have oC : ∀ {d : Addr} {o : HO}, d ≠ kp → GB d = some o → upd GB kp (.dT (putK kvs [Sum.inr z.name, Sum.inr kd] vn)) d = some o := fun h e => by rw [upd_ne h]; exact e
      have kHC : Kept p H (upd GB kp (.dT (putK kvs [Sum.inr z.name, Sum.inr kd] vn))) := kept_mut (kG.trans k3B) hkpH
      have srC : Src (upd GB kp (.dT (putK kvs [Sum.inr z.name, Sum.inr kd] vn))) p := by
        unfold Src at srB ⊢
        rw [upd_ne npk]
        exact srB
      have t3C : TK G3 (upd GB kp (.dT (putK kvs [Sum.inr z.name, Sum.inr kd] vn))) := (t3A.trans (TK.of sB)).trans tC
      have hvnC := (hvn.same sB).tk tC
      have flpC := oC nlk (k3B _ _ nlp flp)
      have erC := oC nrk (k3B _ _ npr.symm er)
      have fflC := oC nfk (k3B _ _ npf.symm ffl)
      have fsmC := oC nksm.symm (k3B _ _ npsm.symm fsm)
      generalize upd GB kp (.dT (putK kvs [Sum.inr z.name, Sum.inr kd] vn)) = GC at tC fC kHC srC t3C hvnC flpC erC fflC fsmC ⊢
      clear oC
      try dsimp only [gName]
      show tDrop (tBM K _ _ _ _) _ [some (.ref p), some (.int (m : Int)), some (.ref r), some (.ref fl), some (.ref kp), some (.str z.name), some (.str z.above), some (.ref t), some (.ref sm), some (.str kd), some (.ref il), none] GC
      have gv : valV (putK kvs ([Sum.inr z.name, Sum.inr kd] : List Key) vn) [Sum.inr z.name, Sum.inr kd] = some vn := by rw [valV_put, if_pos rfl]
      refine ⟨_, rfl, Or.inl ⟨rfl, _, sq_of fsmC⟩, _, rfl, ev_dgt (σ := [some (.ref p), some (.int (m : Int)), some (.ref r), some (.ref fl), some (.ref kp), some (.str z.name), some (.str z.above), some (.ref t), some (.ref sm), some (.str kd), some (.ref il), none]) (i := 4) rfl fC (ev_var (i := 5) rfl) (ev_var (i := 9) rfl) gv GC (Ex.refl _) _ fun GD eD => ⟨by show 2 ≤ sizeLine; decide, fun dt hdt => ?_⟩⟩
      have sE := Same.new (Same.refl GD) hdt (.tup [.str kd, vn])
      have fE : upd GD dt (.tup [.str kd, vn]) dt = some (.tup [.str kd, vn]) := upd_same
      generalize upd GD dt (.tup [.str kd, vn]) = GE at sE fE ⊢
      have eCE := eD.trans sE
      have fsmE := eCE _ _ fsmC
      have bl : bs.length ≤ 2 := by
        have h1 := Paired.length pb
        rw [List.length_take] at h1
        omega
      refine ⟨sm, _, .ref dt, rfl, rfl, fsmE, by rw [List.length_map]; exact small1000 (by omega), ?_⟩
      have tF : TK GE (upd GE sm (.lst (bs.map V.ref ++ [.ref dt]))) := TK.lst fsmE _
      have t3F : TK G3 (upd GE sm (.lst (bs.map V.ref ++ [.ref dt]))) := (t3C.trans (TK.of eCE)).trans tF
      have tCF : TK GC (upd GE sm (.lst (bs.map V.ref ++ [.ref dt]))) := (TK.of eCE).trans tF
      have srF : Src (upd GE sm (.lst (bs.map V.ref ++ [.ref dt]))) p := by
        have := src_sameE eCE srC
        unfold Src at this ⊢
        rw [upd_ne npsm]
        exact this
      have oF : ∀ {d : Addr} {o : HO}, d ≠ sm → GC d = some o → upd GE sm (.lst (bs.map V.ref ++ [.ref dt])) d = some o := fun h e => by rw [upd_ne h]; exact eCE _ _ e
      have gne : ∀ kd' : Str, ∀ n : Str, n ≠ z.name → (if kd' = kd ∧ n = z.name then sumQ ((kidsOf rs (Sum.inr z.name)).map (kk kd)) + qx else kk kd' n) = kk kd' n := fun kd' n h => if_neg fun e => h e.2
      have sumE : ∀ (kd' n : Str), (∀ x ∈ kidsOf rs (Sum.inr n), x ≠ z.name) → sumQ ((kidsOf rs (Sum.inr n)).map fun x => if kd' = kd ∧ x = z.name then sumQ ((kidsOf rs (Sum.inr z.name)).map (kk kd)) + qx else kk kd' x) = sumQ ((kidsOf rs (Sum.inr n)).map (kk kd')) := fun kd' n h => congrArg sumQ (List.map_congr_left fun x hx => gne kd' x (h x hx))
      have kidz : ∀ y ∈ rs.reverse.take i, ∀ x ∈ kidsOf rs (Sum.inr y.name), x ≠ z.name := fun y hy x hx e => by
        obtain ⟨j, hj, hl⟩ := done_ix y hy
        obtain ⟨j2, y2, hj2, e2, _, hl2⟩ := kid_ix rok hj hx
        have := row_inj (nms_nd rok) hj2 hz (e2.trans e)
        omega
      refine ⟨_, _, putK kvs [Sum.inr z.name, Sum.inr kd] vn, fun kd' n => if kd' = kd ∧ n = z.name then sumQ ((kidsOf rs (Sum.inr z.name)).map (kk kd)) + qx else kk kd' n, bs ++ [dt], rfl, srF, kept_mut (kHC.trans (Kept.of eCE)) hsmH, t3F.seqT ftp, oF nlsm flpC, oF nrsm erC, paired_monoM (fun _ y hy h => t3F.row (rows_due rok y hy) h) pr, oF nfsm fflC, ?_, oF nksm fC, ?_, by rw [upd_same, List.map_append]; rfl, ?_, fun kd' hkd' => ?_⟩
      · have em : (rs.reverse.take i).map (gU fun kd' n => if kd' = kd ∧ n = z.name then sumQ ((kidsOf rs (Sum.inr z.name)).map (kk kd)) + qx else kk kd' n) = (rs.reverse.take i).map (gU kk) := List.map_congr_left fun y hy => by
          unfold gU
          dsimp only
          rw [gne _ _ (done_ne y hy), gne _ _ (done_ne y hy)]
        rw [em]
        refine paired_monoM (fun _ y hy h => t3F.row ?_ h) pc
        obtain ⟨y0, hy0, rfl⟩ := List.mem_map.mp hy
        have h30 : ∀ w : Str, w = "min" ∨ w = "low" → ∀ n, InMS 2520 (10 ^ 30) (kk w n) := fun w hw n => by
          by_cases c : n = z.name
          · subst c
            exact ((hkk w hw).2.2.1).up (Nat.dvd_refl _) (up30 _ (by omega))
          · exact ((hkk w hw).2.1 n c).up (Nat.dvd_refl _) (up30 _ (by omega))
        exact dok h30 y0
      · have := length_putK kvs ([Sum.inr z.name, Sum.inr kd] : List Key) vn
        omega
      · rw [tk1]
        refine paired_snoc ⟨vn, tF.seqT (SqT.of fE), by
          dsimp only
          rw [if_pos ⟨rfl, rfl⟩]
          exact hvnC.tk tCF⟩ (paired_monoM (fun b w hw h => by
          obtain ⟨u, h1, h2⟩ := h
          refine ⟨u, t3F.seqT h1, ?_⟩
          have hne : w ≠ kd := fun e => kdn (e ▸ hw)
          dsimp only
          rw [if_neg fun e => hne e.1]
          exact h2.tk t3F) pb)
      · obtain ⟨a1, a2, a3, a4, a5⟩ := hkk kd' hkd'
        have keyne : ∀ n : Str, ¬ (n = z.name ∧ kd' = kd) → ([Sum.inr n, Sum.inr kd'] : List Key) ≠ [Sum.inr z.name, Sum.inr kd] := fun n h e => by
          simp only [List.cons.injEq, and_true] at e
          exact h ⟨Sum.inr.inj e.1, Sum.inr.inj e.2⟩
        refine ⟨fun n hn => ?_, fun n hn => ?_, ?_, fun y hy => ?_, fun hmem => ?_⟩
        · have hnz : n ≠ z.name := by
            obtain ⟨y, hy, rfl⟩ := List.mem_map.mp hn
            exact done_ne y hy
          obtain ⟨v, b1, b2⟩ := a1 n hn
          refine ⟨v, ?_, ?_⟩
          · rw [valV_put, if_neg (keyne n fun e => hnz e.1)]
            exact b1
          · dsimp only
            rw [gne _ _ hnz]
            exact b2.tk t3F
        · dsimp only
          rw [gne _ _ hn]
          exact a2 n hn
        · dsimp only
          by_cases c : kd' = kd
          · rw [if_pos ⟨c, rfl⟩]
            exact zsum
          · rw [if_neg fun e => c e.1]
            exact a3
        · dsimp only
          rw [sumE kd' y.name (kidz y hy), gne _ _ (done_ne y hy)]
          exact a4 y hy
        · rw [tk1] at hmem
          by_cases c : kd' = kd
          · subst c
            refine ⟨fun n hn => ?_, ?_⟩
            · rw [List.mem_singleton.mp hn]
              refine ⟨vn, gv, ?_⟩
              dsimp only
              rw [if_pos ⟨rfl, rfl⟩]
              exact hvnC.tk tCF
            · dsimp only
              rw [sumE kd' z.name (fun x hx => (kid_done x hx).2), if_pos ⟨rfl, rfl⟩]
              have := hqx.1
              grind
          · have hm2 : kd' ∈ (["min", "low"] : List Str).take m' := by
              rcases List.mem_append.mp hmem with h | h
              · exact h
              · exact absurd (List.mem_singleton.mp h) c
            obtain ⟨b1, b2⟩ := a5 hm2
            refine ⟨fun n hn => ?_, ?_⟩
            · obtain ⟨v, c1, c2⟩ := b1 n hn
              refine ⟨v, ?_, ?_⟩
              · rw [valV_put, if_neg (keyne n fun e => c e.2)]
                exact c1
              · dsimp only
                rw [if_neg fun e => c e.1]
                exact c2.tk t3F
            · dsimp only
              rw [sumE kd' z.name (fun x hx => (kid_done x hx).2), if_neg fun e => c e.1]
              exact b2
    · rintro σ G3 ⟨o9, o10, kvs2, kk2, bs, rfl, sG3, kG3, _, flp3, er3, pr3, ffl3, pc3, fkp3, kvl3, fsm3, pb3, hkk3⟩
      have hal : ∀ kd : Str, kd = "min" ∨ kd = "low" → kd ∈ (["min", "low"] : List Str).take ([.str "min", .str "low"] : List V).length := fun kd hkd => by
        rcases hkd with rfl | rfl
        · exact List.mem_cons_self
        · exact List.mem_cons_of_mem _ List.mem_cons_self
      have h30 : ∀ w : Str, w = "min" ∨ w = "low" → ∀ n, InMS 2520 (10 ^ 13 * 10 ^ (i + 1)) (kk2 w n) := fun w hw n => by
        by_cases c : n = z.name
        · subst c
          exact (hkk3 w hw).2.2.1
        · exact ((hkk3 w hw).2.1 n c).up (Nat.dvd_refl _) (Nat.mul_le_mul_left _ (Nat.pow_le_pow_right (by decide) (by omega)))
      have dk := dok fun w hw n => (h30 w hw n).up (Nat.dvd_refl _) (up30 _ (by omega))
      try dsimp only [gName]
      show tDrop (tBM K _ _ _ _) _ [some (.ref p), some (.int (m : Int)), some (.ref r), some (.ref fl), some (.ref kp), some (.str z.name), some (.str z.above), some (.ref t), some (.ref sm), o9, o10, none] G3
      refine ⟨_, rfl, Or.inl ⟨rfl, _, sq_of ffl3⟩, _, rfl, _, rfl, _, rfl, sm, _, rfl, SqL.of fsm3, fun tt o htt ho => ?_⟩
      have s4 := Same.new (Same.refl G3) htt (.frz o (.tup (bs.map V.ref)))
      have f4' : upd G3 tt (.frz o (.tup (bs.map V.ref))) tt = some (.frz o (.tup (bs.map V.ref))) := upd_same
      generalize upd G3 tt (.frz o (.tup (bs.map V.ref))) = G4 at s4 f4' ⊢
      refine ⟨by show 3 ≤ sizeLine; decide, fun rt hrt => ?_⟩
      have s5 := Same.new (Same.refl G4) hrt (.tup [.str z.name, .str z.above, .ref tt])
      have f5 : upd G4 rt (.tup [.str z.name, .str z.above, .ref tt]) rt = some (.tup [.str z.name, .str z.above, .ref tt]) := upd_same
      generalize upd G4 rt (.tup [.str z.name, .str z.above, .ref tt]) = G5 at s5 f5 ⊢
      have e35 : Ex G3 G5 := s4.trans s5
      have ffl5 := e35 _ _ ffl3
      have cl : cs.length ≤ 9 := by
        have h1 := Paired.length pc3
        rw [List.length_map, List.length_take] at h1
        omega
      refine ⟨fl, _, .ref rt, rfl, rfl, ffl5, small1000 (by omega), ?_⟩
      have tF : TK G5 (upd G5 fl (.lst (cs ++ [.ref rt]))) := TK.lst ffl5 _
      have t3F : TK G3 (upd G5 fl (.lst (cs ++ [.ref rt]))) := (TK.of e35).trans tF
      have oF : ∀ {d : Addr} {o : HO}, d ≠ fl → G3 d = some o → upd G5 fl (.lst (cs ++ [.ref rt])) d = some o := fun h e => by rw [upd_ne h]; exact e35 _ _ e
      have srF : Src (upd G5 fl (.lst (cs ++ [.ref rt]))) p := by
        have := src_sameE e35 sG3
        unfold Src at this ⊢
        rw [upd_ne npf]
        exact this
      have rowz : RowAt K G5 (.ref rt) (gU kk2 z) := by
        refine ⟨rt, tt, rfl, SqT.of f5, bs, ⟨o, ho, s5 _ _ f4'⟩, ?_⟩
        have : ∀ {as : List Addr} {xs : List Str}, Paired (PairN K (fun w => kk2 w z.name) G3) as xs → Paired (DueAt K G5) as (xs.map fun w => (w, amtD (kk2 w z.name))) := fun {as xs} h => by
          induction h with
          | nil => exact .nil
          | cons a b ih =>
            obtain ⟨u, h1, h2⟩ := a
            exact .cons ⟨u, ex_t e35 h1, dp_amt (h2.same e35)⟩ ih
        exact this pb3
      have kl2 : kvs2.length ≤ 2 * (i + 1) := by
        have h9 : kvs2.length ≤ 2 * i + 2 := kvl3
        omega
      refine ⟨_, _, _, _, _, _, cs ++ [.ref rt], kvs2, kk2, rfl, srF, kept_mut (kG3.trans (Kept.of e35)) hflH, nlp, nlf, nlk, oF nlf flp3, oF nrf er3, paired_monoM (fun _ y hy h => t3F.row (rows_due rok y hy) h) pr3, upd_same, ?_, oF nfk.symm fkp3, kl2, fun kd hkd => ?_⟩
      · rw [tki, List.map_append]
        refine paired_snoc (tF.row (dk z) rowz) (paired_monoM (fun _ y hy h => t3F.row ?_ h) pc3)
        obtain ⟨y0, hy0, rfl⟩ := List.mem_map.mp hy
        exact dk y0
      · obtain ⟨a1, a2, a3, a4, a5⟩ := hkk3 kd hkd
        obtain ⟨b1, b2⟩ := a5 (hal kd hkd)
        refine ⟨fun n hn => ?_, h30 kd hkd, fun y hy => ?_⟩
        · unfold nms at hn
          rw [tki, List.map_append] at hn
          rcases List.mem_append.mp hn with h | h
          · exact (a1.tk t3F) n h
          · exact (b1.tk t3F) n h
        · rw [tki] at hy
          rcases List.mem_append.mp hy with h | h
          · exact a4 y h
          · rw [List.mem_singleton.mp h]
            exact b2
  · rintro lp σ G ⟨o5, o6, o7, o8, o9, o10, cs, kvs, kk, rfl, sG, kG, nlp, nlf, nlk, flp, er, pr, ffl, pc, fkp, kvl, hkk⟩
    have tall : rs.reverse.take ws.reverse.length = rs.reverse := by
      rw [List.length_reverse, wl', ← List.length_reverse, List.take_length]
    rw [tall] at pc hkk
    have up30 : 10 ^ 13 * 10 ^ ws.reverse.length ≤ 10 ^ 30 := by
      rw [List.length_reverse, wl']
      exact Nat.le_trans (Nat.mul_le_mul_left _ (Nat.pow_le_pow_right (by decide) (by omega : rs.length ≤ 9))) (by decide)
    have hB : ∀ kd : Str, kd = "min" ∨ kd = "low" → ∀ n, InMS 2520 (10 ^ 30) (kk kd n) := fun kd hkd n => ((hkk kd hkd).2.1 n).up (Nat.dvd_refl _) up30
    have hU := fun n => (⟨hB "min" (.inl rfl) n, hB "low" (.inr rfl) n⟩ : _ ∧ _)
    have L := gU_like (rs := rs) hU
    refine ⟨_, rfl, fl, cs, rfl, sq_of ffl, fun rr hrr => ?_⟩
    have s9 := Same.new (Same.refl G) hrr (.lst cs.reverse)
    have f9 : upd G rr (.lst cs.reverse) rr = some (.lst cs.reverse) := upd_same
    generalize upd G rr (.lst cs.reverse) = G9 at s9 f9 ⊢
    have pc9 := rows_same s9 pc
    have pcr := paired_rev2 pc9
    rw [← List.map_reverse, List.reverse_reverse] at pcr
    exact q rr cs.reverse (rs.map (gU kk)) kk G9 ⟨src_sameE s9 sG, f9, src_ne sG hrr, pcr⟩ (kG.free (src_ne sG hrr).symm hrr) (kG.trans (Kept.of s9)) (L.rok rok) (by rw [List.length_map]; omega) fun kd hkd => ⟨gU_kind hkd, hB kd hkd, room_rows fun z hz => (hkk kd hkd).2.2 z (by simpa using hz)⟩
end
theorem sum_rev16 (qs : List Rat) : sumQ qs.reverse = sumQ qs := by
  induction qs with
  | nil => rfl
  | cons a b ih =>
    rw [List.reverse_cons, sum_snoc, sum_cons, ih]
    grind
theorem RcOk.rz {rs : List RowM} {top : Str} {u m l : Str → Rat} (O : RcOk rs top u m l) {A : Rat} (hA : 0 ≤ A) (hO : Of 2520 A) (hle : A ≤ (((10 ^ 14 : Nat)) : Rat)) : InMS 2520 (10 ^ 14) (rsQ rs top u m l A) := by
  have F0 : 0 ≤ f1Q rs top u m l := freeQ_nn fun n _ => (O.le n).2
  have G0 : 0 ≤ f2Q rs top u m l := freeQ_nn fun n _ => (O.le n).1
  unfold rsQ
  split
  · exact InMS.zero
  · rename_i c
    have a1 : 0 ≤ A - f1Q rs top u m l := by grind
    have h1 := goA_of (F := f2Q rs top u m l) (by decide) (O.fz.2.of (by decide)) (hO.sub (by decide) (O.fz.1.of (by decide)))
    exact ⟨of_den (by decide) h1, goA_nn a1, Rat.le_trans (goA_le G0 a1) (by grind)⟩
theorem RcOk.szst {rs : List RowM} {top : Str} {u m l : Str → Rat} (O : RcOk rs top u m l) {A : Rat} (hA : 0 ≤ A) (hO : Of 2520 A) (n : Str) : Sz (stQ rs top u m l A n) ∧ 0 ≤ stQ rs top u m l A n := ⟨(O.sz hA hO n).sz (m := 150) (s := 60) O.M0 O.hM (by decide) (by decide), (O.sz hA hO n).lo⟩
theorem sum_ms {qs : List Rat} (h : ∀ q ∈ qs, Drawn q) : InMS 2520 (10 ^ 13 * qs.length) (sumQ qs) := by
  induction qs with
  | nil => exact InMS.zero
  | cons a b ih =>
    rw [sum_cons, List.length_cons, Nat.mul_succ, Nat.add_comm]
    exact InMS.add (by decide) (h a List.mem_cons_self).ms (ih fun q hq => h q (List.mem_cons_of_mem _ hq))
def spAllT (K : PySem.W.Frag) (C : Addr) : Sp := fun vs H Q _ => ∃ (t du l : Addr) (top : Str) (rs : List RowM) (tk : List (Key × V)) (u mk lk : Str → Rat) (ws : List V) (qs : List Rat), vs = [.ref t, .ref du, .str top, .ref l] ∧ TreeAt K H C t rs false tk ∧ RcOk rs top u mk lk ∧ top ∈ ("" : Str) :: nms rs ∧ (top = "" ∨ kidsOf rs (Sum.inr top) ≠ []) ∧ UsesAt K H du rs (stQ rs top u mk lk 0) ∧ SqL K H l ws ∧ Paired (AmtQ K H) ws qs ∧
  0 < qs.length ∧ qs.length ≤ 3 ∧ (∀ q ∈ qs, Drawn q) ∧ ∀ r d ls v H', Same H H' → SqT K H' r [.ref d, v] → H' d = some (.dK ls) → MapR (AmR K (stQ rs top u mk lk (sumQ qs))) H' ls (leavesOf rs) → AmtQ K H' v (rsQ rs top u mk lk (sumQ qs)) → Q (.ref r) H'
/-- a list comprehension of draws -/
theorem lc_draw {K : PySem.W.Frag} {sp : Addr} {i j : Nat} {σ : L2.St} {H : Hp} {Q : VK} {E E2 : XK} (hi : σ[i]? = some (some (.ref sp))) (hs : Src H sp) (hw : ∀ x, wipe ((wipe σ [j]).set j (some x)) [j] = wipe σ [j]) (hiw : ∀ x : V, ((wipe σ [j]).set j (some x))[i]? = some (some (.ref sp)))
    (k : ∀ l ws qs G, H l = none → Src G sp → Kept sp H G → l ≠ sp → G l = some (.lst ws) → Paired (AmtQ K G) ws qs → 0 < qs.length → qs.length ≤ 3 → (∀ q ∈ qs, Drawn q) → Q (.ref l) G) :
    tLc (iRng1 (tCons (tOp (rI0 fun i j => V.int (i + j)) (tC (.int 2)) (tCall spNext [] E (tCons (tVar i) (tCons (tC (.int 2)) tNil)))) tNil)) (gName j) tYes (tCall (spAmount K) [] E2 (tCons (tVar i) tNil)) [j] σ H Q := by
  refine ⟨_, hi, sp, 2, rfl, hs, by decide, by decide, fun d H1 hd s1 k1 => ?_⟩
  refine ⟨_, _, rfl, rfl, ?_⟩
  have e2 : (2 : Int) + (d : Int) = ((2 + d : Nat) : Int) := by push_cast; rfl
  refine ⟨_, rfl, by omega, by omega, fun Dl hD => ?_⟩
  have en : ((2 : Int) + (d : Int)).toNat = 2 + d := by rw [e2]; exact Int.toNat_natCast _
  rw [en]
  have nD : Dl ≠ sp := (src_ne s1 hD).symm
  have hDH : H Dl = none := k1.free nD hD
  refine lc_it (walk_range (lo := 0) (n := 2 + d)) (fun n G => ∃ (ws : List V) (qs : List Rat), Src G sp ∧ Kept sp H G ∧ G Dl = some (.lst ws) ∧ Paired (AmtQ K G) ws qs ∧ qs.length = n ∧ ∀ q ∈ qs, Drawn q) ⟨[], [], src_new s1 hD, k1.new hD _, upd_same, .nil, rfl, fun q hq => by cases hq⟩ (fun _ _ _ _ => trivial) ?_ ?_
  · rintro n x G G' hn ⟨ws, qs, sG, kG, fG, pG, lG, dG⟩ ⟨rfl, rfl⟩
    refine ⟨hw _, ?_⟩
    unfold tYes
    refine iteT ⟨_, hiw _, sp, rfl, sG, fun v q G3 hq hv s3 k3 => ?_⟩
    have f3 := k3 _ _ nD fG
    have wl : ws.length ≤ 3 := by rw [Paired.length pG]; omega
    have t3 := src_tkE sG k3
    have tX : TK G3 (upd G3 Dl (.lst (ws ++ [v]))) := TK.lst f3 _
    refine ⟨ws, f3, small1000 (by omega), ws ++ [v], qs ++ [q], ?_, kept_mut (kG.trans k3) hDH, upd_same, paired_snoc (hv.tk tX) (paired_mono (fun _ _ z => (AmtQ.tk t3 z).tk tX) pG), by rw [List.length_append]; simp [lG], fun q' hq' => ?_⟩
    · unfold Src at s3 ⊢
      rw [upd_ne nD.symm]
      exact s3
    · rcases List.mem_append.mp hq' with h | h
      · exact dG q' h
      · rw [List.mem_singleton.mp h]
        exact hq
  · rintro G ⟨ws, qs, sG, kG, fG, pG, lG, dG⟩
    exact k Dl ws qs G hDH sG kG nD fG pG (by omega) (by omega) dG
theorem q_drawLc {K : PySem.W.Frag} {sp : Addr} {i j x : Nat} {σ : L2.St} {H : Hp} {E E2 : XK} {D : Ends} {tz : TS} (hi : σ[i]? = some (some (.ref sp))) (hs : Src H sp) (hw : ∀ x, wipe ((wipe σ [j]).set j (some x)) [j] = wipe σ [j]) (hiw : ∀ x : V, ((wipe σ [j]).set j (some x))[i]? = some (some (.ref sp)))
    (k : ∀ l ws qs G, H l = none → Src G sp → Kept sp H G → l ≠ sp → G l = some (.lst ws) → Paired (AmtQ K G) ws qs → 0 < qs.length → qs.length ≤ 3 → (∀ q ∈ qs, Drawn q) → tz D (σ.set x (some (.ref l))) G) :
    tSeq (tAsg (tLc (iRng1 (tCons (tOp (rI0 fun i j => V.int (i + j)) (tC (.int 2)) (tCall spNext [] E (tCons (tVar i) (tCons (tC (.int 2)) tNil)))) tNil)) (gName j) tYes (tCall (spAmount K) [] E2 (tCons (tVar i) tNil)) [j]) (gName x)) tz D σ H := by
  unfold tSeq tAsg
  exact lc_draw (Q := fun v H1 => gName x v σ H1 fun σ' H' => tz D σ' H') hi hs hw hiw k
section
variable {P : Program} {w : World} {K : PySem.W.Frag} {mg : Str → Option Value} {base : Heap} {C CN CW aL aK aZ : Addr} {left : List (Key × V)}
theorem ok_allt {f gRe gP : Addr} {fd dRe dP : FuncData} (F : Fun K "_law_all_taken" "_law_all_taken" sAllT f fd) (cRe : Cal P w K mg base "reclaimed" ["tree", "uses", "top", "amount"] 10 (spRecl K C) gRe dRe) (cP : Cal P w K mg base "_law_plus" ["_law_one_here", "_law_other"] 3 (spLPlus K) gP dP) : FnOk P w K mg base CX0 11 f fd ["_law_tree", "_law_spent", "_law_crown", "_law_parts"] (spAllT K C) := by
  refine F.ok scAllT (fun vs H Q E h => ?_) (fun cdv A outer s H vs Q E hr h => ?_)
  · obtain ⟨t, du, l, top, rs, tk, u, mk, lk, ws, qs, rfl, _⟩ := h
    rfl
  obtain ⟨t, du, l, top, rs, tk, u, mk, lk, ws, qs, rfl, ht, O, hc1, hc2, hu0, hl, hp, q0, q3, hq, q⟩ := h
  have hu := hu_of hr
  refine ⟨_, (pss_cons (ps_set (i := 4) scAllT.nd rfl (Or.inl rfl) (pe_tup (pa_cons pe_int (pa_cons pe_int pa_nil)))) (pss_cons (ps_for PassesOwn.never rfl (pi_list (pv 3)) (pg_name (i := 5) scAllT.nd rfl (Or.inl rfl)) (pss_cons (ps_asg (pe_call cRe.ok (hr.mono (by decide)) rfl cRe.mg cRe.kp cRe.bd .nil pass0 (pa_cons (pv 0) (pa_cons (pv 1) (pa_cons (pv 2) (pa_cons (pv 5) pa_nil))))) (pg_tup (by rfl) (pgs_cons (pg_name (i := 1) scAllT.nd rfl (Or.inl rfl)) (pgs_cons (pg_name (i := 6) scAllT.nd rfl (Or.inl rfl)) pgs_nil)))) (pss_one (ps_set (i := 4) scAllT.nd rfl (Or.inl rfl) (pe_call cP.ok (hr.mono (by decide)) rfl cP.mg cP.kp cP.bd .nil pass0 (pa_cons (pv 4) (pa_cons (pv 6) pa_nil))))))) (pss_one (ps_ret (pe_tup (pa_cons (pv 1) (pa_cons (pv 4) pa_nil))))))), ?_⟩
  have rok := O.rok
  have len : rs.length ≤ 200 := by have := O.len; omega
  have wl : ws.length = qs.length := Paired.length hp
  have tms : ∀ i, InMS 2520 (10 ^ 13 * 3) (sumQ (qs.take i)) := fun i => (sum_ms (qs := qs.take i) fun q hm => hq q (List.mem_of_mem_take hm)).up (Nat.dvd_refl _) (Nat.mul_le_mul_left _ (by rw [List.length_take]; omega))
  have t14 : ∀ i, sumQ (qs.take i) ≤ (((10 ^ 14 : Nat)) : Rat) := fun i => Rat.le_trans (tms i).hi (by exact_mod_cast (by decide : 10 ^ 13 * 3 ≤ 10 ^ 14))
  refine q_asgQ (K := K) (q := 0) eq_zero fun v4 H1 e1 h4 => ?_
  try dsimp only [gName]
  show tSeq (tFor _ _ _) _ _ [some (.ref t), some (.ref du), some (.str top), some (.ref l), some v4, none, none] H1
  refine q_forL (xs := ws) (ev_var (i := 3) rfl) (ex_l e1 hl) (fun i σ G => ∃ (d : Addr) (v : V) (o5 o6 : Option V), σ = [some (.ref t), some (.ref d), some (.str top), some (.ref l), some v, o5, o6] ∧ Ex H G ∧ UsesAt K G d rs (stQ rs top u mk lk (sumQ (qs.take i))) ∧ AmtQ K G v (rsQ rs top u mk lk (sumQ (qs.take i))) ∧ (0 < i → ∃ ls, G d = some (.dK ls) ∧ MapR (AmR K (stQ rs top u mk lk (sumQ (qs.take i)))) G ls (leavesOf rs)))
    (fun G e => ⟨du, v4, _, _, rfl, e1.trans e, hu0.same (e1.trans e), by rw [List.take_zero]; show AmtQ K G v4 (rsQ rs top u mk lk 0); rw [O.rs0]; exact h4.same e, fun h => absurd h (by omega)⟩) ?_ ?_ ?_
  · rintro i σ G _ ⟨_, _, _, _, rfl, e, _⟩
    exact ex_l e hl
  · rintro i x σ G hx ⟨d, v, o5, o6, rfl, eG, uG, hv, _⟩
    obtain ⟨qv, hqv, hxv⟩ := paired_get hp hx
    have hqm := hq qv (List.mem_of_getElem? hqv)
    have tki : sumQ (qs.take (i + 1)) = sumQ (qs.take i) + qv := by
      rw [List.take_add_one, hqv]
      exact sum_snoc _ _
    obtain ⟨κ, μ, o, eu, er⟩ := O.both (A := sumQ (qs.take i)) (b := qv) (tms i).lo ((tms i).of (by decide)) (hqm.ms.up (Nat.dvd_refl _) (by decide))
    rw [← tki] at eu er
    try dsimp only [gName]
    show tSeq (tAsg _ _) _ _ [some (.ref t), some (.ref d), some (.str top), some (.ref l), some v, some x, o6] G
    have E1 := res_is (er_recl (K := K) (C := C) (E := E0) (te := tVar 0) (tx := tVar 2) (tb := tVar 5) (j := 1) (σ := [some (.ref t), some (.ref d), some (.str top), some (.ref l), some v, some x, o6]) (tr_var rfl (ht.same eG rok) rok) rok len rfl uG (ev_var rfl) hc1 hc2 (eq_var rfl (hxv.same eG)) o) eu er
    refine E1 G (Ex.refl _) _ fun x1 d1 l1 v1 G2 _ _ e2 fx fd m1 hv1 => ?_
    refine ⟨x1, _, rfl, fx, rfl, _, _, rfl, _, _, rfl, rfl, ?_⟩
    try dsimp only [gName]
    show tAsg _ _ _ [some (.ref t), some (.ref d1), some (.str top), some (.ref l), some v, some x, some v1] G2
    have ra := O.rz (tms i).lo ((tms i).of (by decide)) (t14 i)
    have rb := O.rz (tms (i + 1)).lo ((tms (i + 1)).of (by decide)) (t14 (i + 1))
    have dnn : 0 ≤ rsQ rs top u mk lk (sumQ (qs.take (i + 1))) - rsQ rs top u mk lk (sumQ (qs.take i)) := by
      rw [← er]
      exact goA_nn (goA_nn hqm.1)
    have dz : InMS 2520 (10 ^ 14) (rsQ rs top u mk lk (sumQ (qs.take (i + 1))) - rsQ rs top u mk lk (sumQ (qs.take i))) := ⟨of_den (by decide) ((rb.of (by decide)).sub (by decide) (ra.of (by decide))), dnn, by have := rb.hi; have := ra.lo; grind⟩
    refine eq_lplusQ (K := K) (eq_var (i := 4) rfl (hv.same e2)) (eq_var (i := 6) rfl hv1) (ra.sz (m := 12) (s := 50) (by decide) (by decide) (by decide) (by decide)) (dz.sz (m := 12) (s := 50) (by decide) (by decide) (by decide) (by decide)) ra.lo dz.lo G2 (Ex.refl _) _ fun vn G3 e3 hvn => ?_
    have e23 := e2.trans e3
    have m3 : MapR (AmR K (stQ rs top u mk lk (sumQ (qs.take (i + 1))))) G3 l1 (leavesOf rs) := m1.mono fun _ _ z => AmtQ.same e3 z
    refine ⟨d1, vn, _, _, rfl, eG.trans e23, uses_all rok len (e3 _ _ fd) m3 fun n _ => O.szst (tms (i + 1)).lo ((tms (i + 1)).of (by decide)) n, ?_, fun _ => ⟨l1, e3 _ _ fd, m3⟩⟩
    have e : rsQ rs top u mk lk (sumQ (qs.take i)) + (rsQ rs top u mk lk (sumQ (qs.take (i + 1))) - rsQ rs top u mk lk (sumQ (qs.take i))) = rsQ rs top u mk lk (sumQ (qs.take (i + 1))) := by grind
    rwa [e] at hvn
  · rintro σ G ⟨d, v, o5, o6, rfl, eG, _, hv, hm⟩
    have ta : qs.take ws.length = qs := by rw [wl]; exact List.take_length
    rw [ta] at hv hm
    obtain ⟨ls, fd, m⟩ := hm (by omega)
    refine ⟨_, rfl, _, rfl, by show 2 ≤ sizeLine; decide, fun tp htp => ?_⟩
    have s5 := Same.new (Same.refl G) htp (.tup [.ref d, v])
    have f5 : upd G tp (.tup [.ref d, v]) tp = some (.tup [.ref d, v]) := upd_same
    generalize upd G tp (.tup [.ref d, v]) = G5 at s5 f5 ⊢
    exact q tp d ls v G5 (eG.trans s5) (SqT.of f5) (s5 _ _ fd) (m.mono fun _ _ z => AmtQ.same s5 z) (hv.same s5)
end
section
variable {K : PySem.W.Frag} {H : Hp} {σ : L2.St} {te ta tl : TE} {E : XK} {C : Addr}
theorem ev_neRV {i : Nat} {r d : Addr} {ls : List (Key × V)} {v : V} {f : Str → Rat} {ns : List Str} {q : Rat} (hi : σ[i]? = some (some (.ref r))) (fr : SqT K H r [.ref d, v]) (fd : H d = some (.dK ls)) (m : MapR (AmR K f) H ls ns) (hv : AmtQ K H v q) (nd : ns.Nodup)
    (h : ∀ H1, Ex H H1 → ∀ Q : VK, (∀ r2 d2 ls2 v2 H2, Ex H1 H2 → SqT K H2 r2 [.ref d2, v2] → H2 d2 = some (.dK ls2) → MapR (AmR K f) H2 ls2 ns → AmtQ K H2 v2 q → Q (.ref r2) H2) → te σ H1 Q) : Ev (tOp (rNeTF K) te (tVar i)) σ H (.bl false) := fun H1 e Q k =>
  h H1 e _ fun r2 d2 ls2 v2 H2 e2 fr2 fd2 m2 hv2 => by
    have e02 := e.trans e2
    exact ⟨_, hi, neTF_i r2 r _ _ H2 Q fr2 (ex_t e02 fr) (.cons ⟨1, by decide, eqF_dict fd2 (e02 _ _ fd) m2 (m.mono fun _ _ z => AmtQ.same e02 z) nd rfl fun n hn => ⟨hn, rfl⟩⟩ (.cons ⟨0, by decide, eqF_amt hv2 (hv.same e02)⟩ .nil)) (k H2 e2)⟩
theorem q_forRng2 {n i : Nat} {tb : TS} {D : Ends} {σ : L2.St} {H : Hp} (Pv : Nat → L2.St → Hp → Prop) (h0 : Pv 0 σ H) (h1 : ((n : Nat) : Int) < 2 ^ 62) (h2 : -(2 ^ 62) ≤ ((n : Nat) : Int))
    (hs : ∀ (j : Nat) σ G, j < n → Pv j σ G → ∀ D2 : Ends, (∀ σ2 G2, Pv (j + 1) σ2 G2 → D2.nx σ2 G2) → tb D2 (σ.set i (some (.int (0 + (j : Int))))) G) (hd : ∀ σ G, Pv n σ G → D.nx σ G) : tFor (iRng1 (tCons (tC (.int (n : Int))) tNil)) (gName i) tb D σ H :=
  ⟨_, rfl, h2, h1, for_range (n := n) Pv h0 (fun j σ G hj p => hs j σ G hj p _ fun _ _ h => h) hd⟩
end
section
variable {P : Program} {w : World} {K : PySem.W.Frag} {mg : Str → Option Value} {base : Heap} {C CN CW aL aK aZ : Addr} {left : List (Key × V)}
theorem ok_law {f e gS gU' gX gUs gT gM gRe gZ gA : Addr} {fd ed dS dU dX dUs dT dM dRe dZ dA : FuncData} (F : Fun K "law" "law" sLaw f fd) (T : TA mg) (Tn : TMX mg) (TCl : TC K mg C) (M : Mk K C e) (FI : FnOk P w K mg base CX0 7 e ed ["self", "rows", "handing"] (spInit K C)) (bI1 : Binds K ed ["self", "rows", "handing"] [.bool false])
    (cS : Cal P w K mg base "_law_source" ["_law_script", "_law_k"] 2 (spSource K) gS dS) (cU : Cal P w K mg base "_law_uncut" ["_law_source_here", "_law_many"] 5 (spUncut K) gU' dU) (cX : Cal P w K mg base "_law_next" ["_law_source_here", "_law_many"] 2 spNext gX dX) (cUs : Cal P w K mg base "_law_uses" ["_law_source_here", "_law_rows_here"] 4 (spLUses K) gUs dUs) (cT : Cal P w K mg base "_law_top" ["_law_source_here", "_law_rows_here"] 4 (spLTop K) gT dT)
    (cM : Cal P w K mg base "_law_amount" ["_law_source_here"] 3 (spAmount K) gM dM) (cRe : Cal P w K mg base "reclaimed" ["tree", "uses", "top", "amount"] 10 (spRecl K C) gRe dRe) (cZ : Cal P w K mg base "_law_sum" ["_law_amounts"] 4 (spLSum K) gZ dZ) (cAt : Cal P w K mg base "_law_all_taken" ["_law_tree", "_law_spent", "_law_crown", "_law_parts"] 11 (spAllT K C) gA dA) : FnOk P w K mg base CX0 12 f fd ["_law_script"] (spLaw K) := by
  refine F.ok scLaw (fun vs H Q E h => ?_) (fun cdv A outer s H vs Q E hr h => ?_)
  · obtain ⟨a, ns, rfl, _⟩ := h
    rfl
  obtain ⟨a, ns, rfl, hS, hlen, q⟩ := h
  have hu := hu_of hr
  refine ⟨_, (pss_cons (ps_for PassesOwn.never rfl (pi_range1 rfl T.z_range (pa_cons (pe_callB (call_max2 rfl) (by rfl) Tn.z_max (by decide +kernel) (pa_cons pe_int (pa_cons (pe_callB (call_min2 rfl) (by rfl) Tn.z_min (by decide +kernel) (pa_cons pe_int (pa_cons (pe_callB call_len_seq (by rfl) T.z_len PySem.boot_len (pa_cons (pv 0) pa_nil)) pa_nil))) pa_nil))) pa_nil)) (pg_name (i := 1) scLaw.nd rfl (Or.inl rfl)) (pss_cons (ps_set (i := 2) scLaw.nd rfl (Or.inr rfl) (pe_call cS.ok (hr.mono (by decide)) rfl cS.mg cS.kp cS.bd .nil pass0 (pa_cons (pv 0) (pa_cons (pv 1) pa_nil)))) (pss_cons (ps_set (i := 3) scLaw.nd rfl (Or.inl rfl) (pe_call cU.ok (hr.mono (by decide)) rfl cU.mg cU.kp cU.bd .nil pass0 (pa_cons (pv 2) (pa_cons (pe_op op_add pe_int (pe_call cX.ok (hr.mono (by decide)) rfl cX.mg cX.kp cX.bd .nil pass0 (pa_cons (pv 2) (pa_cons pe_int pa_nil)))) pa_nil)))) (pss_cons (ps_set (i := 4) scLaw.nd rfl (Or.inl rfl) (pe_make (dvs := [.bl false]) M FI (hr.mono (by decide)) rfl TCl.g_Tree bI1 (.cons rfl .nil) pass0 (pa_cons (pv 3) pa_nil))) (pss_one (ps_for PassesOwn.never rfl (pi_range1 rfl T.z_range (pa_cons pe_int pa_nil)) (pg_name (i := 5) scLaw.nd rfl (Or.inl rfl)) (pss_cons (ps_par (i := 6) (j := 7) (by rfl) scLaw.nd rfl rfl (by decide) rfl rfl (pa_cons (pe_call cUs.ok (hr.mono (by decide)) rfl cUs.mg cUs.kp cUs.bd .nil pass0 (pa_cons (pv 2) (pa_cons (pv 3) pa_nil))) (pa_cons (pe_call cT.ok (hr.mono (by decide)) rfl cT.mg cT.kp cT.bd .nil pass0 (pa_cons (pv 2) (pa_cons (pv 3) pa_nil))) pa_nil)) (by rfl)) (pss_cons (ps_setLc (i := 8) (own := [("_law_one_here", 10)]) (g := gName 10) (tt := tYes) (te := (tCall (spAmount K) [] E0 (tCons (tVar 2) tNil))) rfl scLaw.nd rfl rfl (sw_true rfl rfl rfl (by decide +kernel)) (pi_range1 rfl T.z_range (pa_cons (pe_op op_add pe_int (pe_call cX.ok (hr.mono (by decide)) rfl cX.mg cX.kp cX.bd .nil pass0 (pa_cons (pv 2) (pa_cons pe_int pa_nil)))) pa_nil)) (blkOk_by (own := [("_law_one_here", 10)]) (N := ["_law_script", "_law_k", "_law_source_here", "_law_rows_here", "_law_tree", "_law_turn", "_law_spent", "_law_crown", "_law_parts", "_law_due", "_law_one_here"]) (sc := defScope sLaw) (by decide +kernel)) (fun _ _ _ _ _ => (pg_name (i := 10) scLaw.nd rfl (Or.inl rfl))) (fun _ _ _ _ _ => pts_nil) (fun _ _ _ _ _ => (pe_call cM.ok (hr.mono (by decide)) rfl cM.mg cM.kp cM.bd .nil pass0 (pa_cons (pv 2) pa_nil)))) (pss_cons (ps_set (i := 9) scLaw.nd rfl (Or.inl rfl) (pe_call cRe.ok (hr.mono (by decide)) rfl cRe.mg cRe.kp cRe.bd .nil pass0 (pa_cons (pv 4) (pa_cons (pv 6) (pa_cons (pv 7) (pa_cons (pe_call cZ.ok (hr.mono (by decide)) rfl cZ.mg cZ.kp cZ.bd .nil pass0 (pa_cons (pv 8) pa_nil)) pa_nil)))))) (pss_cons (ps_if (pt_cmpR (op_neTF (hu100 hr)) (pe_call cAt.ok (hr.mono (by decide)) rfl cAt.mg cAt.kp cAt.bd .nil pass0 (pa_cons (pv 4) (pa_cons (pv 6) (pa_cons (pv 7) (pa_cons (pv 8) pa_nil))))) (pv 9) (nomark _)) (pss_one (ps_ret pe_bl)) pss_nil) (pss_one (ps_if (pt_cmpR (op_neTF (hu100 hr)) (pe_call cAt.ok (hr.mono (by decide)) rfl cAt.mg cAt.kp cAt.bd .nil pass0 (pa_cons (pv 4) (pa_cons (pv 6) (pa_cons (pv 7) (pa_cons (pe_revL (pv 8)) pa_nil))))) (pv 9) (nomark _)) (pss_one (ps_ret pe_bl)) pss_nil)))))))))))) (pss_one (ps_ret pe_bl))), ?_⟩
  refine ⟨_, rfl, a, _, rfl, .inl hS, _, _, rfl, _, _, rfl, _, rfl, ?_, ?_, for_range (fun i σ H' => ∃ o1 o2 o3 o4 o5 o6 o7 o8 o9 : Option V, σ = [some (.ref a), o1, o2, o3, o4, o5, o6, o7, o8, o9, none] ∧ Same H H') ⟨_, _, _, _, _, _, _, _, _, rfl, Same.refl H⟩ ?_ ?_⟩
  · split <;> split <;> omega
  · split <;> split <;> omega
  · rintro i σ H1 hi ⟨o1, o2, o3, o4, o5, o6, o7, o8, o9, rfl, s1⟩
    refine ⟨_, rfl, _, rfl, a, ns, i, by rw [Int.zero_add]; rfl, Same.seq s1 hS, fun sp H2 hsp s2 src2 => ?_⟩
    have hsp0 : H sp = none := Same.free s1 hsp
    have k2 : Kept sp H H2 := Kept.of (s1.trans s2)
    try dsimp only [gName]
    show tSeq (tAsg _ _) _ _ [some (.ref a), some (.int (0 + (i : Int))), some (.ref sp), o3, o4, o5, o6, o7, o8, o9, none] H2
    refine ⟨_, rfl, _, rfl, sp, 9, rfl, src2, by decide, by decide, fun d G1 hd s3 k3 => ?_⟩
    refine ⟨_, _, rfl, rfl, sp, 1 + d, congrArg (fun z => [V.ref sp, V.int z]) (by push_cast; rfl), s3, by omega, fun r ws rs kk G2 w2 hr0 k4 rok len hkk => ?_⟩
    have k02 := (k2.trans k3).trans k4
    obtain ⟨hKm, hzm, hRm⟩ := hkk "min" (.inl rfl)
    obtain ⟨hKl, hzl, hRl⟩ := hkk "low" (.inr rfl)
    try dsimp only [gName]
    show tSeq (tAsg _ _) _ _ [some (.ref a), some (.int (0 + (i : Int))), some (.ref sp), some (.ref r), o4, o5, o6, o7, o8, o9, none] G2
    refine q_asgT (K := K) (C := C) (eTree1 (i := 3) rfl w2 rok (by omega)) fun pt tk G3 e3 tree3 => ?_
    have w3 := w2.same e3
    have k03 := k02.trans (Kept.of e3)
    clear w2 k02 k2 k3 k4 s3 src2
    try dsimp only [gName]
    show tFor _ _ _ _ [some (.ref a), some (.int (0 + (i : Int))), some (.ref sp), some (.ref r), some (.ref pt), o5, o6, o7, o8, o9, none] G3
    refine q_forRng2 (n := 3) (fun j σ G => ∃ o5 o6 o7 o8 o9 : Option V, σ = [some (.ref a), some (.int (0 + (i : Int))), some (.ref sp), some (.ref r), some (.ref pt), o5, o6, o7, o8, o9, none] ∧ RD K G sp r ws rs ∧ TreeAt K G C pt rs false tk ∧ Kept sp H G) ⟨_, _, _, _, _, rfl, w3, tree3, k03⟩ (by decide) (by decide) ?_ ?_
    · rintro j σ G hj ⟨o5, o6, o7, o8, o9, rfl, wG, treeG, kG⟩ D2 hD
      try dsimp only [gName]
      show tSeq (tPar 6 7 _) _ _ [some (.ref a), some (.int (0 + (i : Int))), some (.ref sp), some (.ref r), some (.ref pt), some (.int (0 + (j : Int))), o6, o7, o8, o9, none] G
      refine e_uses (i := 2) (j := 3) rfl rfl wG rok (by omega) fun du G4 kvs us u ud sub hz hu0 w4 hdu k4 => ?_
      have tree4 := TreeAt.kept wG.src k4 rok treeG
      refine e_top (i := 2) (j := 3) rfl rfl w4 rok (by omega) fun top G5 htop w5 k5 => ?_
      refine ⟨_, _, rfl, ?_⟩
      obtain ⟨hc1, hc2⟩ := crown_ok htop
      have tree5 := TreeAt.kept w4.src k5 rok tree4
      have ud5 := ud.kept w4.src k5
      have O : RcOk rs top u (kk "min") (kk "low") := ⟨rok, by omega, fun n => (hu0 n).ms, hzm, hzl, hRm, hRl, hKm, hKl⟩
      have e0 : stQ rs top u (kk "min") (kk "low") 0 = u := funext O.st0
      have uat5 : UsesAt K G5 du rs (stQ rs top u (kk "min") (kk "low") 0) := by
        rw [e0]
        have ll := leaves_len (rows := rs)
        have sl := sub.length_le
        exact ⟨kvs, us, ud5.fd, ud5.m, (leaves_nd rok).sublist sub, by omega, fun n hn => ⟨sub.subset hn, (hu0 n).sz, (hu0 n).1⟩, fun n _ hno => hz n hno⟩
      have k05 := (kG.trans k4).trans k5
      try dsimp only [gName]
      show tSeq (tAsg _ _) _ _ [some (.ref a), some (.int (0 + (i : Int))), some (.ref sp), some (.ref r), some (.ref pt), some (.int (0 + (j : Int))), some (.ref du), some (.str top), o8, o9, none] G5
      refine q_drawLc (K := K) (i := 2) (j := 10) (σ := [some (.ref a), some (.int (0 + (i : Int))), some (.ref sp), some (.ref r), some (.ref pt), some (.int (0 + (j : Int))), some (.ref du), some (.str top), o8, o9, none]) rfl w5.src (fun _ => rfl) (fun _ => rfl) fun l ps qs G6 hl6 s6 k6 nl fl pp q0 q3 hq => ?_
      have t6 := src_tkE w5.src k6
      have w6 := w5.kept rok s6 k6
      have tree6 := TreeAt.kept w5.src k6 rok tree5
      have uat6 : UsesAt K G6 du rs (stQ rs top u (kk "min") (kk "low") 0) := by
        obtain ⟨kv, ns2, h1, h2, h3⟩ := uat5.ex
        exact ⟨kv, ns2, k6 _ _ ud.ne.symm h1, h2.mono fun _ _ z => AmtQ.tk t6 z, h3⟩
      have k06 := k05.trans k6
      have zS : InMS 2520 (10 ^ 13 * 3) (sumQ qs) := (sum_ms hq).up (Nat.dvd_refl _) (Nat.mul_le_mul_left _ q3)
      obtain ⟨κ, μ, o, eu, er⟩ := O.both (A := 0) (b := sumQ qs) Rat.le_refl of_zero (zS.up (Nat.dvd_refl _) (by decide))
      have z0 : (0 : Rat) + sumQ qs = sumQ qs := by grind
      rw [z0] at eu er
      have er' : endA rs top (stQ rs top u (kk "min") (kk "low") 0) κ μ (sumQ qs) = rsQ rs top u (kk "min") (kk "low") (sumQ qs) := by
        rw [er, O.rs0]
        grind
      have lnd := leaves_nd rok
      try dsimp only [gName]
      show tSeq (tAsg _ _) _ _ [some (.ref a), some (.int (0 + (i : Int))), some (.ref sp), some (.ref r), some (.ref pt), some (.int (0 + (j : Int))), some (.ref du), some (.str top), some (.ref l), o9, none] G6
      have E1 := res_is (er_recl (K := K) (C := C) (E := E0) (te := tVar 4) (tx := tVar 7) (tb := tCall (spLSum K) [] E0 (tCons (tVar 8) tNil)) (j := 6) (σ := [some (.ref a), some (.int (0 + (i : Int))), some (.ref sp), some (.ref r), some (.ref pt), some (.int (0 + (j : Int))), some (.ref du), some (.str top), some (.ref l), o9, none]) (tr_var rfl tree6 rok) rok (by omega) rfl uat6 (ev_var rfl) hc1 hc2 (eq_lsumV (M := 2520) (S := 10 ^ 13) (ev_var rfl) (SqL.of fl) pp (by decide) (by decide) (by decide) (by omega) fun q hm => (hq q hm).ms) o) eu er'
      refine E1 G6 (Ex.refl _) _ fun x1 d1 l1 v1 G7 _ _ e7 fx fd m1 hv1 => ?_
      have w7 := w6.same e7
      have tree7 := tree6.same e7 rok
      have uat7 := uat6.same e7
      have fl7 := e7 _ _ fl
      have pp7 := paired_mono (fun _ _ z => AmtQ.same e7 z) pp
      have k07 := k06.trans (Kept.of e7)
      try dsimp only [gName]
      show tSeq (tIfS _ _ _) _ _ [some (.ref a), some (.int (0 + (i : Int))), some (.ref sp), some (.ref r), some (.ref pt), some (.int (0 + (j : Int))), some (.ref du), some (.str top), some (.ref l), some (.ref x1), none] G7
      refine q_when (b := false) (et_test (ev_neRV (K := K) (i := 9) rfl fx fd m1 hv1 lnd fun Ga ea Q2 k2 => ⟨_, rfl, _, rfl, _, rfl, _, rfl, pt, du, l, top, rs, tk, u, kk "min", kk "low", ps, qs, rfl, tree7.same ea rok, O, hc1, hc2, uat7.same ea, ex_l ea (SqL.of fl7), paired_mono (fun _ _ z => AmtQ.same ea z) pp7, q0, q3, hq, fun r2 d2 ls2 v2 Gb sb h1 h2 h3 h4 => k2 r2 d2 ls2 v2 Gb sb h1 h2 h3 h4⟩)) (fun hb => by cases hb) fun _ G8 e8 => ?_
      have fx8 := ex_t e8 fx
      have fd8 := e8 _ _ fd
      have m8 : MapR (AmR K (stQ rs top u (kk "min") (kk "low") (sumQ qs))) G8 l1 (leavesOf rs) := m1.mono fun _ _ z => AmtQ.same e8 z
      have fl8 := e8 _ _ fl7
      have pp8 := paired_mono (fun _ _ z => AmtQ.same e8 z) pp7
      have esr := sum_rev16 qs
      try dsimp only [gName]
      show tIfS _ _ _ _ [some (.ref a), some (.int (0 + (i : Int))), some (.ref sp), some (.ref r), some (.ref pt), some (.int (0 + (j : Int))), some (.ref du), some (.str top), some (.ref l), some (.ref x1), none] G8
      have E2 := ev_neRV (K := K) (H := G8) (σ := [some (.ref a), some (.int (0 + (i : Int))), some (.ref sp), some (.ref r), some (.ref pt), some (.int (0 + (j : Int))), some (.ref du), some (.str top), some (.ref l), some (.ref x1), none]) (te := tCall (spAllT K C) [] E0 (tCons (tVar 4) (tCons (tVar 6) (tCons (tVar 7) (tCons (tRevL K (tVar 8)) tNil))))) (i := 9) rfl fx8 fd8 m8 (hv1.same e8) lnd fun Ga ea Q2 k2 => ⟨_, rfl, _, rfl, _, rfl, el_revV (K := K) (i := 8) rfl fl8 Ga ea _ fun rl Gr hrl er2 frl => ⟨pt, du, rl, top, rs, tk, u, kk "min", kk "low", ps.reverse, qs.reverse, rfl, ((tree7.same e8 rok).same ea rok).same er2 rok, O, hc1, hc2, ((uat7.same e8).same ea).same er2, SqL.of frl, paired_mono (fun _ _ z => AmtQ.same (ea.trans er2) z) (paired_rev2 pp8), by rw [List.length_reverse]; exact q0, by rw [List.length_reverse]; exact q3, fun q hm => hq q (List.mem_reverse.mp hm), fun r2 d2 ls2 v2 Gb sb h1 h2 h3 h4 => k2 r2 d2 ls2 v2 Gb (er2.trans sb) h1 h2 (by rw [esr] at h3; exact h3) (by rw [esr] at h4; exact h4)⟩⟩
      exact et_test E2 G8 (Ex.refl _) _ fun G9 e9 => iteF (hD _ _ ⟨_, _, _, _, _, rfl, (w7.same e8).same e9, (tree7.same e8 rok).same e9 rok, k07.trans (Kept.of (e8.trans e9))⟩)
    · rintro σ G ⟨o5, o6, o7, o8, o9, rfl, wG, treeG, kG⟩
      exact ⟨_, _, _, _, _, _, _, _, _, rfl, fun b o hb => kG b o (ne_of_none hb hsp0) hb⟩
  · rintro σ H1 ⟨o1, o2, o3, o4, o5, o6, o7, o8, o9, rfl, s1⟩
    exact q _
end
end Bd
end

section
namespace Bd
open PySem L2
/-- a def of the text as the top has written it -/
structure DK (K : PySem.W.Frag) (x : Str) (st : Stmt) (f : Addr) : Prop where
  at_ : PySem.W.nsIn K mainGlobals x = some (some (.ref f))
  fn : ∃ fd, Fun K x x st f fd
theorem dk_mk {K : PySem.W.Frag} {x : Str} {st : Stmt} {f : Addr} {oc : Value} {od an : Option Addr} {osl : Array (Option Value)} {kV doc pm cdv ct : Value} (a : PySem.W.nsIn K mainGlobals x = some (some (.ref f)))
    (l : K.lookup f = some ⟨oc, od, .func (PySem.W.fnOf x x (defArgs st) (defBody st) (defScope st) .none kV doc pm an cdv ct), osl⟩) (c : PySem.W.codeIn K cdv x = true) (k : PySem.W.keepIn K (.ref f) = true) : DK K x st f := ⟨a, _, fun_mk l c k⟩
/-- a method of the class -/
structure MK (K : PySem.W.Frag) (C : Addr) (m qual : Str) (st : Stmt) (f : Addr) : Prop where
  me : Meth K C m f
  fn : ∃ fd, Fun K m qual st f fd
theorem mk_mk {K : PySem.W.Frag} {C : Addr} {m qual : Str} {st : Stmt} {f : Addr} {oc : Value} {od an : Option Addr} {osl : Array (Option Value)} {kV doc pm cdv ct : Value} (a : PySem.W.findIn K (.ref C) m = some (some (.ref f))) (i : PySem.W.isFn K (.ref f) = true)
    (l : K.lookup f = some ⟨oc, od, .func (PySem.W.fnOf m qual (defArgs st) (defBody st) (defScope st) .none kV doc pm an cdv ct), osl⟩) (c : PySem.W.codeIn K cdv qual = true) (k : PySem.W.keepIn K (.ref f) = true) : MK K C m qual st f := ⟨⟨a, i, k⟩, _, fun_mk l c k⟩
/-- the maker, with its default -/
structure IK (K : PySem.W.Frag) (C f : Addr) : Prop where
  me : Meth K C "__init__" f
  fn : ∃ fd, FunD K "__init__" "Tree.__init__" (defArgs sInit) (defBody sInit) (defScope sInit) [.bl false] [] f fd
theorem ik_mk {K : PySem.W.Frag} {C f D : Addr} {oc dc : Value} {od an dd : Option Addr} {osl dsl : Array (Option Value)} {kV doc pm cdv ct : Value} {n : Nat} (a : PySem.W.findIn K (.ref C) "__init__" = some (some (.ref f))) (i : PySem.W.isFn K (.ref f) = true)
    (l : K.lookup f = some ⟨oc, od, .func (PySem.W.fnOf "__init__" "Tree.__init__" (defArgs sInit) (defBody sInit) (defScope sInit) (.ref D) kV doc pm an cdv ct), osl⟩) (c : PySem.W.codeIn K cdv "Tree.__init__" = true) (k : PySem.W.keepIn K (.ref f) = true)
    (d : K.lookup D = some ⟨dc, dd, .seq #[.bool false] n, dsl⟩) : IK K C f :=
  ⟨⟨a, i, k⟩, _, ⟨oc, od, .ref D, kV, doc, pm, an, cdv, ct, osl, rfl, l, c, .inr ⟨by simp, D, _, [.bool false], n, rfl, d, rfl, .cons rfl .nil⟩, .inl rfl⟩, k⟩
theorem init_binds2 {K : PySem.W.Frag} {f : Addr} {fd : FuncData} (F : FunD K "__init__" "Tree.__init__" (defArgs sInit) (defBody sInit) (defScope sInit) [.bl false] [] f fd) : Binds K fd ["self", "rows", "handing"] [] := by
  obtain ⟨ds, v, b⟩ := F.binds1 (ps := ["self", "rows", "handing"]) 3 1 (by simp) rfl fun T kV doc pm an cdv ct us its hl hi => match us, its, hl, hi with | [_, _, _], [_], _, _ => ⟨_, rfl, rfl⟩
  cases v
  exact b
theorem init_binds1 {K : PySem.W.Frag} {f : Addr} {fd : FuncData} (F : FunD K "__init__" "Tree.__init__" (defArgs sInit) (defBody sInit) (defScope sInit) [.bl false] [] f fd) : Binds K fd ["self", "rows", "handing"] [.bool false] := by
  obtain ⟨ds, v, b⟩ := F.binds1 (ps := ["self", "rows", "handing"]) 2 0 (by simp) rfl fun T kV doc pm an cdv ct us its hl hi => match us, its, hl, hi with | [_, _], [_], _, _ => ⟨_, rfl, rfl⟩
  cases v with
  | cons a r =>
    cases r
    cases a
    exact b
def leftOf (a1 a2 a3 : Addr) : List (Key × V) := [((Sum.inr "min" : Key), (.ref a1 : V)), ((Sum.inr "low" : Key), (.ref a2 : V)), ((Sum.inr "max" : Key), (.str "endless" : V)), ((Sum.inr "quota" : Key), (.str "endless" : V)), ((Sum.inr "burst" : Key), (.ref a3 : V)), ((Sum.inr "tops" : Key), (.str "endless" : V)), ((Sum.inr "sets" : Key), (.non : V)), ((Sum.inr "alone" : Key), (.int 0 : V))]
/-- the facts of the top -/
structure Tops (P : Program) (w : World) (K : PySem.W.Frag) (mg : Str → Option Value) (C aL aK aZ q0 q1 : Addr) (left : List (Key × V)) : Prop where
  tp : TP P w K mg aL left
  lv : ∀ H, Paired (PV K H) left leftD
  tc : TC K mg C
  ti : TI K C
  ta : TA mg
  tn : TMX mg
  tm : TMn mg
  td : TDd mg
  tk : TKd K mg aK aZ
  x0 : XN K mg "NoName" q0
  x1 : XN K mg "NoWord" q1
/-- what the top has written -/
theorem tops_mk {P : Program} {w : World} {K : PySem.W.Frag} {h : Heap} {mg : Str → Option Value} {C aL a1 a2 a3 aK aZ q0 q1 : Addr} (X : K.In h) (G : h.Ns mainGlobals mg)
    {tl te tg u3 u4 u6 u8 t1 t2 t3 t4 t5 t6 t7 t8 : Tok} {h1 h2 h3 h4 h5 h6 h7 h8 : Int} {ep n1 n2 n3 : Nat} {x1 x2 x3 : Option Addr} {y1 y2 y3 : Array (Option Value)} {p1 p2 p3 p4 p5 p6 : Tok} {xK xZ : Option Addr} {yK yZ : Array (Option Value)} {nK nZ : Nat} {pK1 pK2 pZ1 pZ2 : Tok}
    (cz_len : PySem.W.nsIn K mainGlobals "len" = some none)
    (cz_int : PySem.W.nsIn K mainGlobals "int" = some none)
    (cz_bool : PySem.W.nsIn K mainGlobals "bool" = some none)
    (cz_str : PySem.W.nsIn K mainGlobals "str" = some none)
    (cz_tuple : PySem.W.nsIn K mainGlobals "tuple" = some none)
    (cz_list : PySem.W.nsIn K mainGlobals "list" = some none)
    (cz_dict : PySem.W.nsIn K mainGlobals "dict" = some none)
    (cz_all : PySem.W.nsIn K mainGlobals "all" = some none)
    (cz_enumerate : PySem.W.nsIn K mainGlobals "enumerate" = some none)
    (cz_isinstance : PySem.W.nsIn K mainGlobals "isinstance" = some none)
    (cz_range : PySem.W.nsIn K mainGlobals "range" = some none)
    (cz_abs : PySem.W.nsIn K mainGlobals "abs" = some none)
    (cz_max : PySem.W.nsIn K mainGlobals "max" = some none)
    (cz_min : PySem.W.nsIn K mainGlobals "min" = some none)
    (cz_reversed : PySem.W.nsIn K mainGlobals "reversed" = some none)
    (cgK : PySem.W.nsIn K mainGlobals "KINDS" = some (some (.ref aK)))
    (cgZ : PySem.W.nsIn K mainGlobals "ZERO" = some (some (.ref aZ)))
    (clK : K.lookup aK = some ⟨.type "tuple", xK, .seq #[.str "min" pK1, .str "low" pK2] nK, yK⟩)
    (clZ : K.lookup aZ = some ⟨.type "tuple", xZ, .seq #[.int 0 pZ1, .int 1 pZ2] nZ, yZ⟩)
    (cgL : PySem.W.nsIn K mainGlobals "LONG" = some (some (.int 3000 tl)))
    (cgE : PySem.W.nsIn K mainGlobals "ENDLESS" = some (some (.str "endless" te)))
    (cgG : PySem.W.nsIn K mainGlobals "GREATEST_PROCESSOR" = some (some (.int 63 tg)))
    (cgO : PySem.W.nsIn K mainGlobals "LEFT_OUT" = some (some (.ref aL)))
    (ckO : K.lookup aL = some ⟨.type "dict", none, .dict #[⟨h1, .str "min" t1, .ref a1⟩, ⟨h2, .str "low" t2, .ref a2⟩, ⟨h3, .str "max" t3, .str "endless" u3⟩, ⟨h4, .str "quota" t4, .str "endless" u4⟩, ⟨h5, .str "burst" t5, .ref a3⟩, ⟨h6, .str "tops" t6, .str "endless" u6⟩, ⟨h7, .str "sets" t7, .none⟩, ⟨h8, .str "alone" t8, .int 0 u8⟩] ep, #[]⟩)
    (cl1 : K.lookup a1 = some ⟨.type "tuple", x1, .seq #[.int 0 p1, .int 1 p2] n1, y1⟩)
    (cl2 : K.lookup a2 = some ⟨.type "tuple", x2, .seq #[.int 0 p3, .int 1 p4] n2, y2⟩)
    (cl3 : K.lookup a3 = some ⟨.type "tuple", x3, .seq #[.int 0 p5, .int 1 p6] n3, y3⟩)
    (cgC : PySem.W.nsIn K mainGlobals "Tree" = some (some (.ref C)))
    (cpg : PySem.W.plainGet K C Str.empty = true)
    (chd : PySem.W.hasDictIn K C = true)
    (cpo : PySem.W.plainOver K C = true)
    (csa : PySem.W.findIn K (.ref C) "__setattr__" = some (some (.builtin "object.__setattr__")))
    (cnO : PySem.W.findIn K (.ref C) "order" = some none)
    (cnP : PySem.W.findIn K (.ref C) "parents" = some none)
    (cnK : PySem.W.findIn K (.ref C) "kids" = some none)
    (cnT : PySem.W.findIn K (.ref C) "table" = some none)
    (cnH : PySem.W.findIn K (.ref C) "hands" = some none)
    (ciA : PySem.W.findIn K (.ref C) "__class__" = some (some (.builtin "object.__class__")))
    (ciN : PySem.W.specialIn K (.builtin "object.__class__") "__get__" = some (some (.builtin "getset_descriptor.__get__")))
    (ciT : PySem.W.takesIn K (.builtin "object.__class__") = some true)
    (ciM : PySem.W.mroIn K C (.type "object") = some true)
    (ce0g : PySem.W.nsIn K mainGlobals "NoName" = some (some (.ref q0)))
    (ce0t : PySem.W.typeIn K (.ref q0) = some (.type "type"))
    (cx0k : PySem.W.keepIn K (.ref q0) = true)
    (cx0b : PySem.W.subIn K (.ref q0) (.type "BaseException") = some true)
    (ce1g : PySem.W.nsIn K mainGlobals "NoWord" = some (some (.ref q1)))
    (ce1t : PySem.W.typeIn K (.ref q1) = some (.type "type"))
    (cx1k : PySem.W.keepIn K (.ref q1) = true)
    (cx1b : PySem.W.subIn K (.ref q1) (.type "BaseException") = some true)
    (clo : (aL == sysModules) = false)
    (ch1 : h1 = hashStr w "min")
    (ch2 : h2 = hashStr w "low")
    (ch3 : h3 = hashStr w "max")
    (ch4 : h4 = hashStr w "quota")
    (ch5 : h5 = hashStr w "burst")
    (ch6 : h6 = hashStr w "tops")
    (ch7 : h7 = hashStr w "sets")
    (ch8 : h8 = hashStr w "alone")
    (cy0 : PySem.W.excIn K q0 [.type "ValueError", .type "Exception", .type "BaseException", .type "object"] "ValueError.__new__" = true)
    (cy1 : PySem.W.excIn K q1 [.type "ValueError", .type "Exception", .type "BaseException", .type "object"] "ValueError.__new__" = true)
    : Tops P w K mg C aL aK aZ q0 q1 (leftOf a1 a2 a3) := by
  have L : ∀ {a : Addr} {x : Option Addr} {n : Nat} {y : Array (Option Value)} {p q : Tok}, K.lookup a = some ⟨.type "tuple", x, .seq #[.int 0 p, .int 1 q] n, y⟩ → ∀ H, Dp K H (.ref a) (.tuple [.int 0, .int 1]) := fun e H =>
    .tup (xs := [V.int 0, V.int 1]) (.inr ⟨_, _, _, e, rfl, rfl, by show 2 ≤ sizeLine; decide, .cons ⟨_, rfl⟩ (.cons ⟨_, rfl⟩ .nil)⟩) (.cons (.int _) (.cons (.int _) .nil))
  refine ⟨⟨PySem.W.mg_none_of X G cz_len, PySem.W.mg_none_of X G cz_int, PySem.W.mg_none_of X G cz_bool, PySem.W.mg_none_of X G cz_str, PySem.W.mg_none_of X G cz_tuple, PySem.W.mg_none_of X G cz_list, PySem.W.mg_none_of X G cz_dict, PySem.W.mg_none_of X G cz_all, PySem.W.mg_none_of X G cz_enumerate, PySem.W.mg_none_of X G cz_isinstance, ⟨_, PySem.W.mg_of X G cgL⟩, ⟨_, PySem.W.mg_of X G cgE⟩, ⟨_, PySem.W.mg_of X G cgG⟩, PySem.W.mg_of X G cgO, ⟨clo, ?_, by show 8 ≤ 1000; decide⟩, rfl⟩, fun H => ?_,
    ⟨⟨cpg, chd, cpo, csa⟩, cnO, cnP, cnK, cnT, cnH, PySem.W.mg_of X G cgC⟩, ⟨ciA, ciN, ciT, ciM⟩, ⟨PySem.W.mg_none_of X G cz_len, PySem.W.mg_none_of X G cz_int, PySem.W.mg_none_of X G cz_range, PySem.W.mg_none_of X G cz_abs, PySem.W.mg_none_of X G cz_tuple, PySem.W.mg_none_of X G cz_list, PySem.W.mg_none_of X G cz_enumerate⟩, ⟨PySem.W.mg_none_of X G cz_max, PySem.W.mg_none_of X G cz_min⟩, ⟨PySem.W.mg_none_of X G cz_min⟩, ⟨PySem.W.mg_none_of X G cz_dict⟩, ⟨⟨PySem.W.mg_of X G cgK, fun H => .inr ⟨_, _, _, clK, rfl, rfl, by show 2 ≤ sizeLine; decide, .cons ⟨_, rfl⟩ (.cons ⟨_, rfl⟩ .nil)⟩, PySem.W.mg_none_of X G cz_reversed⟩, PySem.W.mg_of X G cgZ, fun H => .inr ⟨_, _, _, clZ, rfl, rfl, by show 2 ≤ sizeLine; decide, .cons ⟨_, rfl⟩ (.cons ⟨_, rfl⟩ .nil)⟩⟩, ⟨cy0, PySem.W.mg_of X G ce0g, cx0k, cx0b, ce0t⟩, ⟨cy1, PySem.W.mg_of X G ce1g, cx1k, cx1b, ce1t⟩⟩
  · refine ⟨[((Sum.inr "min" : Key), (.ref a1 : Value)), ((Sum.inr "low" : Key), (.ref a2 : Value)), ((Sum.inr "max" : Key), (.str "endless" u3 : Value)), ((Sum.inr "quota" : Key), (.str "endless" u4 : Value)), ((Sum.inr "burst" : Key), (.ref a3 : Value)), ((Sum.inr "tops" : Key), (.str "endless" u6 : Value)), ((Sum.inr "sets" : Key), (.none : Value)), ((Sum.inr "alone" : Key), (.int 0 u8 : Value))], .cons ⟨rfl, rfl⟩ (.cons ⟨rfl, rfl⟩ (.cons ⟨rfl, ⟨_, rfl⟩⟩ (.cons ⟨rfl, ⟨_, rfl⟩⟩ (.cons ⟨rfl, rfl⟩ (.cons ⟨rfl, ⟨_, rfl⟩⟩ (.cons ⟨rfl, rfl⟩ (.cons ⟨rfl, ⟨_, rfl⟩⟩ (.nil)))))))), fun h2 X2 => ⟨_, _, _, X2 _ _ ckO, ⟨rfl, rfl, rfl⟩, rfl, fun e he => ?_, .cons (by simp [mixKind, keyIs, Value.isStrOf]) rfl (.cons (by simp [mixKind, keyIs, Value.isStrOf]) rfl (.cons (by simp [mixKind, keyIs, Value.isStrOf]) rfl (.cons (by simp [mixKind, keyIs, Value.isStrOf]) rfl (.cons (by simp [mixKind, keyIs, Value.isStrOf]) rfl (.cons (by simp [mixKind, keyIs, Value.isStrOf]) rfl (.cons (by simp [mixKind, keyIs, Value.isStrOf]) rfl (.cons (by simp [mixKind, keyIs, Value.isStrOf]) rfl (.nil)))))))), ?_⟩⟩
    · simp only [List.mem_toArray, List.mem_cons, List.not_mem_nil, or_false] at he
      rcases he with rfl | rfl | rfl | rfl | rfl | rfl | rfl | rfl
      · exact ⟨Sum.inr "min", by simp [mixKind, keyIs, Value.isStrOf], ch1⟩
      · exact ⟨Sum.inr "low", by simp [mixKind, keyIs, Value.isStrOf], ch2⟩
      · exact ⟨Sum.inr "max", by simp [mixKind, keyIs, Value.isStrOf], ch3⟩
      · exact ⟨Sum.inr "quota", by simp [mixKind, keyIs, Value.isStrOf], ch4⟩
      · exact ⟨Sum.inr "burst", by simp [mixKind, keyIs, Value.isStrOf], ch5⟩
      · exact ⟨Sum.inr "tops", by simp [mixKind, keyIs, Value.isStrOf], ch6⟩
      · exact ⟨Sum.inr "sets", by simp [mixKind, keyIs, Value.isStrOf], ch7⟩
      · exact ⟨Sum.inr "alone", by simp [mixKind, keyIs, Value.isStrOf], ch8⟩
    · show ([Sum.inr "min", Sum.inr "low", Sum.inr "max", Sum.inr "quota", Sum.inr "burst", Sum.inr "tops", Sum.inr "sets", Sum.inr "alone"] : List Key).Nodup
      decide
  · exact .cons ⟨rfl, L cl1 H⟩ (.cons ⟨rfl, L cl2 H⟩ (.cons ⟨rfl, .str _⟩ (.cons ⟨rfl, .str _⟩ (.cons ⟨rfl, L cl3 H⟩ (.cons ⟨rfl, .str _⟩ (.cons ⟨rfl, .non⟩ (.cons ⟨rfl, .int _⟩ (.nil))))))))
theorem all_mk {P : Program} {w : World} {K : PySem.W.Frag} {h : Heap} {mg : Str → Option Value} {fa C aL aK aZ q0 q1 i : Addr} {left : List (Key × V)} {m0 m1 m2 m3 m4 m5 : Addr} {f0 f1 f2 f3 f4 f5 f6 f7 f8 f9 f10 f11 f12 f13 f14 f15 f16 f17 f18 f19 f20 f21 f22 f23 f24 f25 f26 f27 f28 f29 f30 f31 f32 f33 f34 f35 f36 f37 f38 f39 f40 f41 f42 f43 f44 f45 f46 f47 f48 f49 f50 f51 f52 : Addr} (X : K.In h) (G : h.Ns mainGlobals mg) (hfa : mg "law" = some (.ref fa)) (TT : Tops P w K mg C aL aK aZ q0 q1 left)
    (D0 : DK K "is_integer" sIsInteger f0)
    (D1 : DK K "is_amount" sIsAmount f1)
    (D2 : DK K "divisor" sDivisor f2)
    (D3 : DK K "total" sTotal f3)
    (D4 : DK K "cancelled" sCancelled f4)
    (D5 : DK K "plus" sPlus f5)
    (D6 : DK K "minus" sMinus f6)
    (D7 : DK K "times" sTimes f7)
    (D8 : DK K "over" sOver f8)
    (D9 : DK K "is_less" sIsLess f9)
    (D10 : DK K "lesser" sLesser f10)
    (D11 : DK K "is_name" sIsName f11)
    (D12 : DK K "is_word" sIsWord f12)
    (D13 : DK K "is_endless" sIsEndless f13)
    (D14 : DK K "is_set" sIsSet f14)
    (D15 : DK K "may_have" sMayHave f15)
    (D16 : DK K "is_due" sIsDue f16)
    (D17 : DK K "is_dues" sIsDues f17)
    (D18 : DK K "is_group_row" sIsGroupRow f18)
    (D19 : DK K "may_stand" sMayStand f19)
    (D20 : DK K "check_tree" sCTree f20)
    (D21 : DK K "check_group" sCheckGroup f21)
    (D22 : DK K "check_top" sCTop f22)
    (D23 : DK K "groups_below" sBelow f23)
    (D24 : DK K "is_from_leaves" sFrom f24)
    (D25 : DK K "told_uses" sTold f25)
    (D26 : DK K "with_groups" sWithG f26)
    (D27 : DK K "held" sHeld f27)
    (D28 : DK K "parted" sParted f28)
    (D29 : DK K "_law_cell_at" sCellAt f29)
    (D30 : DK K "_law_mixed" sMixed f30)
    (D31 : DK K "_law_source" sSource f31)
    (D32 : DK K "_law_next" sNext f32)
    (D33 : DK K "_law_common" sCommon f33)
    (D34 : DK K "_law_fraction" sFraction f34)
    (D35 : DK K "check_amount" sCAmt f35)
    (D36 : DK K "_law_one" sOne f36)
    (D37 : DK K "_law_plus" sLPlus f37)
    (D38 : DK K "_law_sum" sLSum f38)
    (D39 : DK K "_law_amount" sAmount f39)
    (D40 : DK K "_law_names" sNames2 f40)
    (D41 : DK K "_law_rows" sLRows f41)
    (D42 : DK K "_law_leaves" sLLeaves f42)
    (D43 : DK K "_law_uses" sLUses f43)
    (D44 : DK K "_law_top" sLTop f44)
    (D45 : DK K "greater" sGreater f45)
    (D46 : DK K "kept_by" sKept f46)
    (D47 : DK K "after_go" sGo f47)
    (D48 : DK K "after_both_goes" sBoth f48)
    (D49 : DK K "reclaimed" sRecl f49)
    (D50 : DK K "_law_uncut" sUncut f50)
    (D51 : DK K "_law_all_taken" sAllT f51)
    (D52 : DK K "law" sLaw f52)
    (M0 : MK K C "names" "Tree.names" sTNames m0)
    (M1 : MK K C "above" "Tree.above" sTAbove m1)
    (M2 : MK K C "children" "Tree.children" sTKids m2)
    (M3 : MK K C "leaves" "Tree.leaves" sTLeaves m3)
    (M4 : MK K C "due" "Tree.due" sTDue m4)
    (M5 : MK K C "handing" "Tree.handing" sTHanding m5)
    (DI : IK K C i) (mk : PySem.W.makesIn K C = true) (kc : PySem.W.keepIn K (.ref C) = true) :
    ∃ fd : FuncData, (∀ (s : Shared) (v : Value), BindsTo s fd ⟨[v], []⟩ [("_law_script", v)]) ∧ ∀ base : Heap, K.In base → base.Ns mainGlobals mg → FnOk P w K mg base CX0 12 fa fd ["_law_script"] (spLaw K) := by
  have e1 := hfa.symm.trans (PySem.W.mg_of X G D52.at_)
  cases e1
  obtain ⟨d0, F0⟩ := D0.fn
  obtain ⟨d1, F1⟩ := D1.fn
  obtain ⟨d2, F2⟩ := D2.fn
  obtain ⟨d3, F3⟩ := D3.fn
  obtain ⟨d4, F4⟩ := D4.fn
  obtain ⟨d5, F5⟩ := D5.fn
  obtain ⟨d6, F6⟩ := D6.fn
  obtain ⟨d7, F7⟩ := D7.fn
  obtain ⟨d8, F8⟩ := D8.fn
  obtain ⟨d9, F9⟩ := D9.fn
  obtain ⟨d10, F10⟩ := D10.fn
  obtain ⟨d11, F11⟩ := D11.fn
  obtain ⟨d12, F12⟩ := D12.fn
  obtain ⟨d13, F13⟩ := D13.fn
  obtain ⟨d14, F14⟩ := D14.fn
  obtain ⟨d15, F15⟩ := D15.fn
  obtain ⟨d16, F16⟩ := D16.fn
  obtain ⟨d17, F17⟩ := D17.fn
  obtain ⟨d18, F18⟩ := D18.fn
  obtain ⟨d19, F19⟩ := D19.fn
  obtain ⟨d20, F20⟩ := D20.fn
  obtain ⟨d21, F21⟩ := D21.fn
  obtain ⟨d22, F22⟩ := D22.fn
  obtain ⟨d23, F23⟩ := D23.fn
  obtain ⟨d24, F24⟩ := D24.fn
  obtain ⟨d25, F25⟩ := D25.fn
  obtain ⟨d26, F26⟩ := D26.fn
  obtain ⟨d27, F27⟩ := D27.fn
  obtain ⟨d28, F28⟩ := D28.fn
  obtain ⟨d29, F29⟩ := D29.fn
  obtain ⟨d30, F30⟩ := D30.fn
  obtain ⟨d31, F31⟩ := D31.fn
  obtain ⟨d32, F32⟩ := D32.fn
  obtain ⟨d33, F33⟩ := D33.fn
  obtain ⟨d34, F34⟩ := D34.fn
  obtain ⟨d35, F35⟩ := D35.fn
  obtain ⟨d36, F36⟩ := D36.fn
  obtain ⟨d37, F37⟩ := D37.fn
  obtain ⟨d38, F38⟩ := D38.fn
  obtain ⟨d39, F39⟩ := D39.fn
  obtain ⟨d40, F40⟩ := D40.fn
  obtain ⟨d41, F41⟩ := D41.fn
  obtain ⟨d42, F42⟩ := D42.fn
  obtain ⟨d43, F43⟩ := D43.fn
  obtain ⟨d44, F44⟩ := D44.fn
  obtain ⟨d45, F45⟩ := D45.fn
  obtain ⟨d46, F46⟩ := D46.fn
  obtain ⟨d47, F47⟩ := D47.fn
  obtain ⟨d48, F48⟩ := D48.fn
  obtain ⟨d49, F49⟩ := D49.fn
  obtain ⟨d50, F50⟩ := D50.fn
  obtain ⟨d51, F51⟩ := D51.fn
  obtain ⟨d52, F52⟩ := D52.fn
  obtain ⟨e0, E0⟩ := M0.fn
  obtain ⟨e1, E1⟩ := M1.fn
  obtain ⟨e2, E2⟩ := M2.fn
  obtain ⟨e3, E3⟩ := M3.fn
  obtain ⟨e4, E4⟩ := M4.fn
  obtain ⟨e5, E5⟩ := M5.fn
  obtain ⟨di, FIn⟩ := DI.fn
  have T := TT.tp
  have TCl := TT.tc
  have TA1 := TT.ta
  have b0 : Binds K d0 ["thing"] [] := F0.binds fun _ _ _ _ _ _ us hl => match us, hl with | [_], _ => rfl
  have b1 : Binds K d1 ["thing"] [] := F1.binds fun _ _ _ _ _ _ us hl => match us, hl with | [_], _ => rfl
  have b2 : Binds K d2 ["one", "other"] [] := F2.binds fun _ _ _ _ _ _ us hl => match us, hl with | [_, _], _ => rfl
  have b3 : Binds K d3 ["amounts"] [] := F3.binds fun _ _ _ _ _ _ us hl => match us, hl with | [_], _ => rfl
  have b4 : Binds K d4 ["top", "bottom", "common"] [] := F4.binds fun _ _ _ _ _ _ us hl => match us, hl with | [_, _, _], _ => rfl
  have b5 : Binds K d5 ["one", "other"] [] := F5.binds fun _ _ _ _ _ _ us hl => match us, hl with | [_, _], _ => rfl
  have b6 : Binds K d6 ["one", "other"] [] := F6.binds fun _ _ _ _ _ _ us hl => match us, hl with | [_, _], _ => rfl
  have b7 : Binds K d7 ["one", "other"] [] := F7.binds fun _ _ _ _ _ _ us hl => match us, hl with | [_, _], _ => rfl
  have b8 : Binds K d8 ["one", "other"] [] := F8.binds fun _ _ _ _ _ _ us hl => match us, hl with | [_, _], _ => rfl
  have b9 : Binds K d9 ["one", "other"] [] := F9.binds fun _ _ _ _ _ _ us hl => match us, hl with | [_, _], _ => rfl
  have b10 : Binds K d10 ["one", "other"] [] := F10.binds fun _ _ _ _ _ _ us hl => match us, hl with | [_, _], _ => rfl
  have b11 : Binds K d11 ["thing"] [] := F11.binds fun _ _ _ _ _ _ us hl => match us, hl with | [_], _ => rfl
  have b12 : Binds K d12 ["thing"] [] := F12.binds fun _ _ _ _ _ _ us hl => match us, hl with | [_], _ => rfl
  have b13 : Binds K d13 ["thing"] [] := F13.binds fun _ _ _ _ _ _ us hl => match us, hl with | [_], _ => rfl
  have b14 : Binds K d14 ["thing"] [] := F14.binds fun _ _ _ _ _ _ us hl => match us, hl with | [_], _ => rfl
  have b15 : Binds K d15 ["word", "value"] [] := F15.binds fun _ _ _ _ _ _ us hl => match us, hl with | [_, _], _ => rfl
  have b16 : Binds K d16 ["thing"] [] := F16.binds fun _ _ _ _ _ _ us hl => match us, hl with | [_], _ => rfl
  have b17 : Binds K d17 ["thing"] [] := F17.binds fun _ _ _ _ _ _ us hl => match us, hl with | [_], _ => rfl
  have b18 : Binds K d18 ["thing"] [] := F18.binds fun _ _ _ _ _ _ us hl => match us, hl with | [_], _ => rfl
  have b19 : Binds K d19 ["tree", "row"] [] := F19.binds fun _ _ _ _ _ _ us hl => match us, hl with | [_, _], _ => rfl
  have b20 : Binds K d20 ["thing"] [] := F20.binds fun _ _ _ _ _ _ us hl => match us, hl with | [_], _ => rfl
  have b21 : Binds K d21 ["tree", "name"] [] := F21.binds fun _ _ _ _ _ _ us hl => match us, hl with | [_, _], _ => rfl
  have b22 : Binds K d22 ["tree", "top"] [] := F22.binds fun _ _ _ _ _ _ us hl => match us, hl with | [_, _], _ => rfl
  have b23 : Binds K d23 ["tree", "top"] [] := F23.binds fun _ _ _ _ _ _ us hl => match us, hl with | [_, _], _ => rfl
  have b24 : Binds K d24 ["tree", "thing"] [] := F24.binds fun _ _ _ _ _ _ us hl => match us, hl with | [_, _], _ => rfl
  have b25 : Binds K d25 ["tree", "uses"] [] := F25.binds fun _ _ _ _ _ _ us hl => match us, hl with | [_, _], _ => rfl
  have b26 : Binds K d26 ["tree", "uses", "names"] [] := F26.binds fun _ _ _ _ _ _ us hl => match us, hl with | [_, _, _], _ => rfl
  have b27 : Binds K d27 ["tree", "uses", "top", "kind"] [] := F27.binds fun _ _ _ _ _ _ us hl => match us, hl with | [_, _, _, _], _ => rfl
  have b28 : Binds K d28 ["tree", "name", "part", "used", "claims"] [] := F28.binds fun _ _ _ _ _ _ us hl => match us, hl with | [_, _, _, _, _], _ => rfl
  have b29 : Binds K d29 ["_law_script", "_law_k"] [] := F29.binds fun _ _ _ _ _ _ us hl => match us, hl with | [_, _], _ => rfl
  have b30 : Binds K d30 ["_law_cell", "_law_k"] [] := F30.binds fun _ _ _ _ _ _ us hl => match us, hl with | [_, _], _ => rfl
  have b31 : Binds K d31 ["_law_script", "_law_k"] [] := F31.binds fun _ _ _ _ _ _ us hl => match us, hl with | [_, _], _ => rfl
  have b32 : Binds K d32 ["_law_source_here", "_law_many"] [] := F32.binds fun _ _ _ _ _ _ us hl => match us, hl with | [_, _], _ => rfl
  have b33 : Binds K d33 ["_law_one_here", "_law_other"] [] := F33.binds fun _ _ _ _ _ _ us hl => match us, hl with | [_, _], _ => rfl
  have b34 : Binds K d34 ["_law_top_here", "_law_bottom"] [] := F34.binds fun _ _ _ _ _ _ us hl => match us, hl with | [_, _], _ => rfl
  have b35 : Binds K d35 ["amount"] [] := F35.binds fun _ _ _ _ _ _ us hl => match us, hl with | [_], _ => rfl
  have b36 : Binds K d36 ["_law_source_here", "_law_things"] [] := F36.binds fun _ _ _ _ _ _ us hl => match us, hl with | [_, _], _ => rfl
  have b37 : Binds K d37 ["_law_one_here", "_law_other"] [] := F37.binds fun _ _ _ _ _ _ us hl => match us, hl with | [_, _], _ => rfl
  have b38 : Binds K d38 ["_law_amounts"] [] := F38.binds fun _ _ _ _ _ _ us hl => match us, hl with | [_], _ => rfl
  have b39 : Binds K d39 ["_law_source_here"] [] := F39.binds fun _ _ _ _ _ _ us hl => match us, hl with | [_], _ => rfl
  have b40 : Binds K d40 ["_law_source_here", "_law_many"] [] := F40.binds fun _ _ _ _ _ _ us hl => match us, hl with | [_, _], _ => rfl
  have b41 : Binds K d41 ["_law_source_here", "_law_many", "_law_words"] [] := F41.binds fun _ _ _ _ _ _ us hl => match us, hl with | [_, _, _], _ => rfl
  have b42 : Binds K d42 ["_law_rows_here"] [] := F42.binds fun _ _ _ _ _ _ us hl => match us, hl with | [_], _ => rfl
  have b43 : Binds K d43 ["_law_source_here", "_law_rows_here"] [] := F43.binds fun _ _ _ _ _ _ us hl => match us, hl with | [_, _], _ => rfl
  have b44 : Binds K d44 ["_law_source_here", "_law_rows_here"] [] := F44.binds fun _ _ _ _ _ _ us hl => match us, hl with | [_, _], _ => rfl
  have b45 : Binds K d45 ["one", "other"] [] := F45.binds fun _ _ _ _ _ _ us hl => match us, hl with | [_, _], _ => rfl
  have b46 : Binds K d46 ["tree", "uses", "top", "kinds"] [] := F46.binds fun _ _ _ _ _ _ us hl => match us, hl with | [_, _, _, _], _ => rfl
  have b47 : Binds K d47 ["tree", "uses", "top", "amount", "kinds"] [] := F47.binds fun _ _ _ _ _ _ us hl => match us, hl with | [_, _, _, _, _], _ => rfl
  have b48 : Binds K d48 ["tree", "uses", "top", "amount"] [] := F48.binds fun _ _ _ _ _ _ us hl => match us, hl with | [_, _, _, _], _ => rfl
  have b49 : Binds K d49 ["tree", "uses", "top", "amount"] [] := F49.binds fun _ _ _ _ _ _ us hl => match us, hl with | [_, _, _, _], _ => rfl
  have b50 : Binds K d50 ["_law_source_here", "_law_many"] [] := F50.binds fun _ _ _ _ _ _ us hl => match us, hl with | [_, _], _ => rfl
  have b51 : Binds K d51 ["_law_tree", "_law_spent", "_law_crown", "_law_parts"] [] := F51.binds fun _ _ _ _ _ _ us hl => match us, hl with | [_, _, _, _], _ => rfl
  have v0 : Binds K e0 ["self"] [] := E0.binds fun _ _ _ _ _ _ us hl => match us, hl with | [_], _ => rfl
  have v1 : Binds K e1 ["self", "name"] [] := E1.binds fun _ _ _ _ _ _ us hl => match us, hl with | [_, _], _ => rfl
  have v2 : Binds K e2 ["self", "name"] [] := E2.binds fun _ _ _ _ _ _ us hl => match us, hl with | [_, _], _ => rfl
  have v3 : Binds K e3 ["self"] [] := E3.binds fun _ _ _ _ _ _ us hl => match us, hl with | [_], _ => rfl
  have v4 : Binds K e4 ["self", "name", "word"] [] := E4.binds fun _ _ _ _ _ _ us hl => match us, hl with | [_, _, _], _ => rfl
  have v5 : Binds K e5 ["self"] [] := E5.binds fun _ _ _ _ _ _ us hl => match us, hl with | [_], _ => rfl
  obtain ⟨oc, od, kV, doc, pm, an, cdv, ct, osl, rfl, lk, hcd⟩ := id F52.ex
  refine ⟨PySem.W.fnOf "law" "law" (defArgs sLaw) (defBody sLaw) (defScope sLaw) .none kV doc pm an cdv ct, fun s v => .of_eq rfl, fun base _ _ => ?_⟩
  have c0 : Cal P w K mg base "is_integer" ["thing"] 1 spIsInteger f0 d0 := ⟨ok_isInteger F0 T, PySem.W.mg_of X G D0.at_, F0.kp, b0⟩
  have c2 : Cal P w K mg base "divisor" ["one", "other"] 1 spDivisor f2 d2 := ⟨ok_divisor F2 T, PySem.W.mg_of X G D2.at_, F2.kp, b2⟩
  have c1 : Cal P w K mg base "is_amount" ["thing"] 2 (spIsAmount K) f1 d1 := ⟨ok_isAmount F1 T c0 c2, PySem.W.mg_of X G D1.at_, F1.kp, b1⟩
  have c13 : Cal P w K mg base "is_endless" ["thing"] 1 (spIsEndless K) f13 d13 := ⟨ok_isEndless F13 T, PySem.W.mg_of X G D13.at_, F13.kp, b13⟩
  have c12 : Cal P w K mg base "is_word" ["thing"] 1 spIsWord f12 d12 := ⟨ok_isWord F12 T, PySem.W.mg_of X G D12.at_, F12.kp, b12⟩
  have z12 : Cal P w K mg base "is_word" ["thing"] 1 (spIsWord2 K) f12 d12 := ⟨ok_isWord2 F12 T, PySem.W.mg_of X G D12.at_, F12.kp, b12⟩
  have c14 : Cal P w K mg base "is_set" ["thing"] 2 (spIsSet K) f14 d14 := ⟨ok_isSet F14 T c0, PySem.W.mg_of X G D14.at_, F14.kp, b14⟩
  have c15 : Cal P w K mg base "may_have" ["word", "value"] 3 (spMayHave K) f15 d15 := ⟨ok_mayHave F15 T c1 c0 c14 c13, PySem.W.mg_of X G D15.at_, F15.kp, b15⟩
  have c16 : Cal P w K mg base "is_due" ["thing"] 4 (spIsDue K) f16 d16 := ⟨ok_isDue F16 T c12 c15, PySem.W.mg_of X G D16.at_, F16.kp, b16⟩
  have c11 : Cal P w K mg base "is_name" ["thing"] 1 spIsName f11 d11 := ⟨ok_isName F11 T, PySem.W.mg_of X G D11.at_, F11.kp, b11⟩
  have c17 : Cal P w K mg base "is_dues" ["thing"] 5 (spIsDues K) f17 d17 := ⟨ok_isDues F17 T c16, PySem.W.mg_of X G D17.at_, F17.kp, b17⟩
  have c18 : Cal P w K mg base "is_group_row" ["thing"] 6 (spIsGroupRow K) f18 d18 := ⟨ok_isGroupRow F18 T c11 c17, PySem.W.mg_of X G D18.at_, F18.kp, b18⟩
  have c19 : Cal P w K mg base "may_stand" ["tree", "row"] 2 (spMayStand K C) f19 d19 := ⟨ok_mayStand F19 T TCl c13, PySem.W.mg_of X G D19.at_, F19.kp, b19⟩
  have c21 : CalX P w K mg base "check_group" ["tree", "name"] 1 (spCG K C q0) f21 d21 := ⟨ok_checkGroup F21 T TCl TT.x0, PySem.W.mg_of X G D21.at_, F21.kp, b21⟩
  have w0 : FnOk P w K mg base CX0 1 m0 e0 ["self"] (spTNames K C) := ok_tnames E0 T TCl
  have w1 : FnOk P w K mg base (L2.CX P w) 2 m1 e1 ["self", "name"] (spTAbove K C q0) := ok_tabove E1 TCl c21
  have w2 : FnOk P w K mg base (L2.CX P w) 1 m2 e2 ["self", "name"] (spTKids K C q0) := ok_tkids E2 T TCl TT.x0
  have w3 : FnOk P w K mg base CX0 1 m3 e3 ["self"] (spTLeaves K C) := ok_tleaves E3 TCl
  have w4 : FnOk P w K mg base (L2.CX P w) 2 m4 e4 ["self", "name", "word"] (spTDue K C q0 q1) := ok_tdue E4 TCl TT.x1 c21 z12
  have w5 : FnOk P w K mg base CX0 1 m5 e5 ["self"] (spTHanding K C) := ok_thanding E5 TCl
  have FI : FnOk P w K mg base CX0 7 i di ["self", "rows", "handing"] (spInit K C) := ok_init FIn T TCl TT.lv c18 c19
  have c4 : Cal P w K mg base "cancelled" ["top", "bottom", "common"] 2 (spCanc K) f4 d4 := ⟨ok_canc F4 c2, PySem.W.mg_of X G D4.at_, F4.kp, b4⟩
  have c3 : Cal P w K mg base "total" ["amounts"] 3 (spTotal K) f3 d3 := ⟨ok_total F3 TT.tm c2 c4, PySem.W.mg_of X G D3.at_, F3.kp, b3⟩
  have c5 : Cal P w K mg base "plus" ["one", "other"] 4 (spPlus K) f5 d5 := ⟨ok_plus F5 c3, PySem.W.mg_of X G D5.at_, F5.kp, b5⟩
  have c6 : Cal P w K mg base "minus" ["one", "other"] 4 (spMinus K) f6 d6 := ⟨ok_minus F6 c3, PySem.W.mg_of X G D6.at_, F6.kp, b6⟩
  have c7 : Cal P w K mg base "times" ["one", "other"] 2 (spTimes K) f7 d7 := ⟨ok_times F7 c2, PySem.W.mg_of X G D7.at_, F7.kp, b7⟩
  have c8 : Cal P w K mg base "over" ["one", "other"] 3 (spOver K) f8 d8 := ⟨ok_over F8 c7, PySem.W.mg_of X G D8.at_, F8.kp, b8⟩
  have c9 : Cal P w K mg base "is_less" ["one", "other"] 1 (spLess K) f9 d9 := ⟨ok_less F9 , PySem.W.mg_of X G D9.at_, F9.kp, b9⟩
  have c10 : Cal P w K mg base "lesser" ["one", "other"] 2 (spLesser K) f10 d10 := ⟨ok_lesser F10 c9, PySem.W.mg_of X G D10.at_, F10.kp, b10⟩
  have c28 : Cal P w K mg base "parted" ["tree", "name", "part", "used", "claims"] 5 (spParted K C) f28 d28 := ⟨ok_parted F28 TCl M2.me w2 v2 M5.me w5 v5 c3 c9 c8 c7 c6 c5, PySem.W.mg_of X G D28.at_, F28.kp, b28⟩
  have c20 : Cal P w K mg base "check_tree" ["thing"] 1 (spCTree K C) f20 d20 := ⟨ok_ctree F20 T TCl TT.ti, PySem.W.mg_of X G D20.at_, F20.kp, b20⟩
  have c22 : Cal P w K mg base "check_top" ["tree", "top"] 1 (spCTop K C) f22 d22 := ⟨ok_ctop F22 T TCl, PySem.W.mg_of X G D22.at_, F22.kp, b22⟩
  have c23 : Cal P w K mg base "groups_below" ["tree", "top"] 3 (spBelow K C) f23 d23 := ⟨ok_below F23 T TCl M0.me w0 v0 M1.me w1 v1, PySem.W.mg_of X G D23.at_, F23.kp, b23⟩
  have c24 : Cal P w K mg base "is_from_leaves" ["tree", "thing"] 3 (spFrom K C) f24 d24 := ⟨ok_from F24 T TCl M3.me w3 v3 c1, PySem.W.mg_of X G D24.at_, F24.kp, b24⟩
  have c25 : Cal P w K mg base "told_uses" ["tree", "uses"] 4 (spTold K C) f25 d25 := ⟨ok_told F25 T TT.tk TCl M3.me w3 v3 c24, PySem.W.mg_of X G D25.at_, F25.kp, b25⟩
  have c26 : Cal P w K mg base "with_groups" ["tree", "uses", "names"] 4 (spWithG K C) f26 d26 := ⟨ok_withg F26 T TT.tk TCl M2.me w2 v2 c3, PySem.W.mg_of X G D26.at_, F26.kp, b26⟩
  have c27 : Cal P w K mg base "held" ["tree", "uses", "top", "kind"] 6 (spHeld K C) f27 d27 := ⟨ok_held F27 T TCl M2.me w2 v2 M4.me w4 v4 c23 c26 c10 c28, PySem.W.mg_of X G D27.at_, F27.kp, b27⟩
  have c35 : Cal P w K mg base "check_amount" ["amount"] 3 (spCAmt K) f35 d35 := ⟨ok_camt F35 c1, PySem.W.mg_of X G D35.at_, F35.kp, b35⟩
  have c29 : Cal P w K mg base "_law_cell_at" ["_law_script", "_law_k"] 1 (spCellAt K) f29 d29 := ⟨ok_cellAt F29 TA1, PySem.W.mg_of X G D29.at_, F29.kp, b29⟩
  have c30 : Cal P w K mg base "_law_mixed" ["_law_cell", "_law_k"] 1 spMixed f30 d30 := ⟨ok_mixed F30 TA1, PySem.W.mg_of X G D30.at_, F30.kp, b30⟩
  have c32 : Cal P w K mg base "_law_next" ["_law_source_here", "_law_many"] 2 spNext f32 d32 := ⟨ok_next F32 TA1 c30, PySem.W.mg_of X G D32.at_, F32.kp, b32⟩
  have c31 : Cal P w K mg base "_law_source" ["_law_script", "_law_k"] 2 (spSource K) f31 d31 := ⟨ok_source F31 TA1 c30 c29, PySem.W.mg_of X G D31.at_, F31.kp, b31⟩
  have c33 : Cal P w K mg base "_law_common" ["_law_one_here", "_law_other"] 1 spCommon f33 d33 := ⟨ok_common F33 TA1, PySem.W.mg_of X G D33.at_, F33.kp, b33⟩
  have c34 : Cal P w K mg base "_law_fraction" ["_law_top_here", "_law_bottom"] 2 spFraction f34 d34 := ⟨ok_fraction F34 TA1 c33, PySem.W.mg_of X G D34.at_, F34.kp, b34⟩
  have z34 : Cal P w K mg base "_law_fraction" ["_law_top_here", "_law_bottom"] 2 (spFrac2 K) f34 d34 := ⟨ok_frac2 F34 TA1 c33, PySem.W.mg_of X G D34.at_, F34.kp, b34⟩
  have c36 : Cal P w K mg base "_law_one" ["_law_source_here", "_law_things"] 3 (spOne K) f36 d36 := ⟨ok_one F36 TA1 c32, PySem.W.mg_of X G D36.at_, F36.kp, b36⟩
  have c37 : Cal P w K mg base "_law_plus" ["_law_one_here", "_law_other"] 3 (spLPlus K) f37 d37 := ⟨ok_lplus F37 z34, PySem.W.mg_of X G D37.at_, F37.kp, b37⟩
  have c38 : Cal P w K mg base "_law_sum" ["_law_amounts"] 4 (spLSum K) f38 d38 := ⟨ok_lsum F38 c37, PySem.W.mg_of X G D38.at_, F38.kp, b38⟩
  have c39 : Cal P w K mg base "_law_amount" ["_law_source_here"] 3 (spAmount K) f39 d39 := ⟨ok_amount F39 TA1 c32 c34, PySem.W.mg_of X G D39.at_, F39.kp, b39⟩
  have c40 : Cal P w K mg base "_law_names" ["_law_source_here", "_law_many"] 3 spNames2 f40 d40 := ⟨ok_names2 F40 TA1 c32, PySem.W.mg_of X G D40.at_, F40.kp, b40⟩
  have c41 : Cal P w K mg base "_law_rows" ["_law_source_here", "_law_many", "_law_words"] 4 (spLRows K) f41 d41 := ⟨ok_lrows F41 TA1 c40 c32 c39, PySem.W.mg_of X G D41.at_, F41.kp, b41⟩
  have c42 : Cal P w K mg base "_law_leaves" ["_law_rows_here"] 1 (spLLeaves K) f42 d42 := ⟨ok_lleaves F42 , PySem.W.mg_of X G D42.at_, F42.kp, b42⟩
  have c43 : Cal P w K mg base "_law_uses" ["_law_source_here", "_law_rows_here"] 4 (spLUses K) f43 d43 := ⟨ok_luses F43 TA1 TT.td c32 c39 c42, PySem.W.mg_of X G D43.at_, F43.kp, b43⟩
  have c44 : Cal P w K mg base "_law_top" ["_law_source_here", "_law_rows_here"] 4 (spLTop K) f44 d44 := ⟨ok_ltop F44 c36, PySem.W.mg_of X G D44.at_, F44.kp, b44⟩
  have y33 : Cal P w K mg base "_law_common" ["_law_one_here", "_law_other"] 1 spCommonI f33 d33 := ⟨ok_commonI F33 TA1, PySem.W.mg_of X G D33.at_, F33.kp, b33⟩
  have y34 : Cal P w K mg base "_law_fraction" ["_law_top_here", "_law_bottom"] 2 (spFracI K) f34 d34 := ⟨ok_fracI F34 TA1 y33, PySem.W.mg_of X G D34.at_, F34.kp, b34⟩
  have c45 : Cal P w K mg base "greater" ["one", "other"] 2 (spGreater K) f45 d45 := ⟨ok_greater F45 c9, PySem.W.mg_of X G D45.at_, F45.kp, b45⟩
  have c46 : Cal P w K mg base "kept_by" ["tree", "uses", "top", "kinds"] 7 (spKept K C) f46 d46 := ⟨ok_keptby F46 c27 c45, PySem.W.mg_of X G D46.at_, F46.kp, b46⟩
  have c47 : Cal P w K mg base "after_go" ["tree", "uses", "top", "amount", "kinds"] 8 (spGo K C) f47 d47 := ⟨ok_go F47 TT.td TT.tk c46 c6 c3 c9 c8 c7, PySem.W.mg_of X G D47.at_, F47.kp, b47⟩
  have c48 : Cal P w K mg base "after_both_goes" ["tree", "uses", "top", "amount"] 9 (spBoth K C) f48 d48 := ⟨ok_both F48 TT.tk c47, PySem.W.mg_of X G D48.at_, F48.kp, b48⟩
  have c49 : Cal P w K mg base "reclaimed" ["tree", "uses", "top", "amount"] 10 (spRecl K C) f49 d49 := ⟨ok_recl F49 c20 c25 c22 c35 c48, PySem.W.mg_of X G D49.at_, F49.kp, b49⟩
  have c50 : Cal P w K mg base "_law_uncut" ["_law_source_here", "_law_many"] 5 (spUncut K) f50 d50 := ⟨ok_uncut F50 TA1 c41 c37 c38 c36 c39, PySem.W.mg_of X G D50.at_, F50.kp, b50⟩
  have c51 : Cal P w K mg base "_law_all_taken" ["_law_tree", "_law_spent", "_law_crown", "_law_parts"] 11 (spAllT K C) f51 d51 := ⟨ok_allt F51 c49 c37, PySem.W.mg_of X G D51.at_, F51.kp, b51⟩
  exact ok_law F52 TA1 TT.tn TCl ⟨mk, DI.me.at_, DI.me.fn, kc⟩ FI (init_binds1 FIn) c31 c50 c32 c43 c44 c39 c49 c38 c51
theorem walk {l : PySem.W.OpenLaw} {q : Program} {loose : List Str} {XP : (Str → Option Value) → Heap → Prop} {YP : World → Heap → Prop} {d : DefRec} {K : Params → PySem.W.Frag} (hn : l.most = some 63) (hdf : d.params.defaults = [])
    (hY : ∀ (w : World) (h : Heap), YP w h → (K w.params).In h)
    (F : ∀ (w : World) (mg : Str → Option Value) (fa : Addr) (h : Heap), (K w.params).In h → h.Ns mainGlobals mg → mg d.name = some (.ref fa) →
      ∃ fd : FuncData, (∀ (s : Shared) (u : Value), BindsTo s fd ⟨[u], []⟩ [("_law_script", u)]) ∧ ∀ base : Heap, (K w.params).In base → base.Ns mainGlobals mg → FnOk l.prog w (K w.params) mg base CX0 12 fa fd ["_law_script"] (spLaw (K w.params))) :
    PySem.W.WalkO q loose XP YP l.row.toRowW d [] (fun f vs => PySem.call f vs) :=
  L2.walk_of (n := 63) (k := 12) (x := "_law_script") (CX := fun _ => CX0) (sp := fun w => spLaw (K w.params)) hn (by decide) hdf ⟨rfl, by decide, by decide⟩ hY F (fun _ _ a ns hl _ hS => ⟨a, ns, rfl, hS, hl, fun _ => rfl⟩) fun _ _ _ _ _ z => z
end Bd
end
open PySem PySem.W PyProof.Rows
set_option maxRecDepth 100000 in
set_option maxHeartbeats 0 in
theorem PySem.Challenge.cw_branchdues_k16_whole_in_parts_holds : PySem.Challenge.rw_branchdues_k16_whole_in_parts.Holds := by
  w_on; o_law; k_head; (case hw => w_witness2)
  k_fill
  refine Bd.walk (l := PySem.Challenge.rw_branchdues_k16_whole_in_parts) rfl rfl (fun w h Y => PySem.W.kIn_of Y) ?F
  case F =>
    intro w mg fa h KX G hmg
    refine' Bd.all_mk KX G hmg (Bd.tops_mk KX G ?zzcz_len ?zzcz_int ?zzcz_bool ?zzcz_str ?zzcz_tuple ?zzcz_list ?zzcz_dict ?zzcz_all ?zzcz_enumerate ?zzcz_isinstance ?zzcz_range ?zzcz_abs ?zzcz_max ?zzcz_min ?zzcz_reversed ?zzcgK ?zzcgZ ?zzclK ?zzclZ ?zzcgL ?zzcgE ?zzcgG ?zzcgO ?zzckO ?zzcl1 ?zzcl2 ?zzcl3 ?zzcgC ?zzcpg ?zzchd ?zzcpo ?zzcsa ?zzcnO ?zzcnP ?zzcnK ?zzcnT ?zzcnH ?zzciA ?zzciN ?zzciT ?zzciM ?zzce0g ?zzce0t ?zzcx0k ?zzcx0b ?zzce1g ?zzce1t ?zzcx1k ?zzcx1b ?zzclo ?zzch1 ?zzch2 ?zzch3 ?zzch4 ?zzch5 ?zzch6 ?zzch7 ?zzch8 ?zzcy0 ?zzcy1) (Bd.dk_mk ?zza0 ?zzb0 ?zzd0 ?zzg0) (Bd.dk_mk ?zza1 ?zzb1 ?zzd1 ?zzg1) (Bd.dk_mk ?zza2 ?zzb2 ?zzd2 ?zzg2) (Bd.dk_mk ?zza3 ?zzb3 ?zzd3 ?zzg3) (Bd.dk_mk ?zza4 ?zzb4 ?zzd4 ?zzg4) (Bd.dk_mk ?zza5 ?zzb5 ?zzd5 ?zzg5) (Bd.dk_mk ?zza6 ?zzb6 ?zzd6 ?zzg6) (Bd.dk_mk ?zza7 ?zzb7 ?zzd7 ?zzg7) (Bd.dk_mk ?zza8 ?zzb8 ?zzd8 ?zzg8) (Bd.dk_mk ?zza9 ?zzb9 ?zzd9 ?zzg9) (Bd.dk_mk ?zza10 ?zzb10 ?zzd10 ?zzg10) (Bd.dk_mk ?zza11 ?zzb11 ?zzd11 ?zzg11) (Bd.dk_mk ?zza12 ?zzb12 ?zzd12 ?zzg12) (Bd.dk_mk ?zza13 ?zzb13 ?zzd13 ?zzg13) (Bd.dk_mk ?zza14 ?zzb14 ?zzd14 ?zzg14) (Bd.dk_mk ?zza15 ?zzb15 ?zzd15 ?zzg15) (Bd.dk_mk ?zza16 ?zzb16 ?zzd16 ?zzg16) (Bd.dk_mk ?zza17 ?zzb17 ?zzd17 ?zzg17) (Bd.dk_mk ?zza18 ?zzb18 ?zzd18 ?zzg18) (Bd.dk_mk ?zza19 ?zzb19 ?zzd19 ?zzg19) (Bd.dk_mk ?zza20 ?zzb20 ?zzd20 ?zzg20) (Bd.dk_mk ?zza21 ?zzb21 ?zzd21 ?zzg21) (Bd.dk_mk ?zza22 ?zzb22 ?zzd22 ?zzg22) (Bd.dk_mk ?zza23 ?zzb23 ?zzd23 ?zzg23) (Bd.dk_mk ?zza24 ?zzb24 ?zzd24 ?zzg24) (Bd.dk_mk ?zza25 ?zzb25 ?zzd25 ?zzg25) (Bd.dk_mk ?zza26 ?zzb26 ?zzd26 ?zzg26) (Bd.dk_mk ?zza27 ?zzb27 ?zzd27 ?zzg27) (Bd.dk_mk ?zza28 ?zzb28 ?zzd28 ?zzg28) (Bd.dk_mk ?zza29 ?zzb29 ?zzd29 ?zzg29) (Bd.dk_mk ?zza30 ?zzb30 ?zzd30 ?zzg30) (Bd.dk_mk ?zza31 ?zzb31 ?zzd31 ?zzg31) (Bd.dk_mk ?zza32 ?zzb32 ?zzd32 ?zzg32) (Bd.dk_mk ?zza33 ?zzb33 ?zzd33 ?zzg33) (Bd.dk_mk ?zza34 ?zzb34 ?zzd34 ?zzg34) (Bd.dk_mk ?zza35 ?zzb35 ?zzd35 ?zzg35) (Bd.dk_mk ?zza36 ?zzb36 ?zzd36 ?zzg36) (Bd.dk_mk ?zza37 ?zzb37 ?zzd37 ?zzg37) (Bd.dk_mk ?zza38 ?zzb38 ?zzd38 ?zzg38) (Bd.dk_mk ?zza39 ?zzb39 ?zzd39 ?zzg39) (Bd.dk_mk ?zza40 ?zzb40 ?zzd40 ?zzg40) (Bd.dk_mk ?zza41 ?zzb41 ?zzd41 ?zzg41) (Bd.dk_mk ?zza42 ?zzb42 ?zzd42 ?zzg42) (Bd.dk_mk ?zza43 ?zzb43 ?zzd43 ?zzg43) (Bd.dk_mk ?zza44 ?zzb44 ?zzd44 ?zzg44) (Bd.dk_mk ?zza45 ?zzb45 ?zzd45 ?zzg45) (Bd.dk_mk ?zza46 ?zzb46 ?zzd46 ?zzg46) (Bd.dk_mk ?zza47 ?zzb47 ?zzd47 ?zzg47) (Bd.dk_mk ?zza48 ?zzb48 ?zzd48 ?zzg48) (Bd.dk_mk ?zza49 ?zzb49 ?zzd49 ?zzg49) (Bd.dk_mk ?zza50 ?zzb50 ?zzd50 ?zzg50) (Bd.dk_mk ?zza51 ?zzb51 ?zzd51 ?zzg51) (Bd.dk_mk ?zza52 ?zzb52 ?zzd52 ?zzg52) (Bd.mk_mk ?zzm0a ?zzm0b ?zzm0c ?zzm0d ?zzm0e) (Bd.mk_mk ?zzm1a ?zzm1b ?zzm1c ?zzm1d ?zzm1e) (Bd.mk_mk ?zzm2a ?zzm2b ?zzm2c ?zzm2d ?zzm2e) (Bd.mk_mk ?zzm3a ?zzm3b ?zzm3c ?zzm3d ?zzm3e) (Bd.mk_mk ?zzm4a ?zzm4b ?zzm4c ?zzm4d ?zzm4e) (Bd.mk_mk ?zzm5a ?zzm5b ?zzm5c ?zzm5d ?zzm5e) (Bd.ik_mk ?zzs1 ?zzs2 ?zzs3 ?zzs4 ?zzs5 ?zzs6) ?zzmk ?zzkc
    (case zzcz_len => k_is)
    (case zzcz_int => k_is)
    (case zzcz_bool => k_is)
    (case zzcz_str => k_is)
    (case zzcz_tuple => k_is)
    (case zzcz_list => k_is)
    (case zzcz_dict => k_is)
    (case zzcz_all => k_is)
    (case zzcz_enumerate => k_is)
    (case zzcz_isinstance => k_is)
    (case zzcz_range => k_is)
    (case zzcz_abs => k_is)
    (case zzcz_max => k_is)
    (case zzcz_min => k_is)
    (case zzcz_reversed => k_is)
    (case zzcgK => k_is)
    (case zzcgZ => k_is)
    (case zzclK => k_is)
    (case zzclZ => k_is)
    (case zzcgL => k_is)
    (case zzcgE => k_is)
    (case zzcgG => k_is)
    (case zzcgO => k_is)
    (case zzckO => k_is)
    (case zzcl1 => k_is)
    (case zzcl2 => k_is)
    (case zzcl3 => k_is)
    (case zzcgC => k_is)
    (case zzcpg => k_is)
    (case zzchd => k_is)
    (case zzcpo => k_is)
    (case zzcsa => k_is)
    (case zzcnO => k_is)
    (case zzcnP => k_is)
    (case zzcnK => k_is)
    (case zzcnT => k_is)
    (case zzcnH => k_is)
    (case zzciA => k_is)
    (case zzciN => k_is)
    (case zzciT => k_is)
    (case zzciM => k_is)
    (case zzce0g => k_is)
    (case zzce0t => k_is)
    (case zzcx0k => k_is)
    (case zzcx0b => k_is)
    (case zzce1g => k_is)
    (case zzce1t => k_is)
    (case zzcx1k => k_is)
    (case zzcx1b => k_is)
    (case zzclo => first | rfl | kernel_rfl | decide)
    (case zzch1 => first | rfl | kernel_rfl | decide)
    (case zzch2 => first | rfl | kernel_rfl | decide)
    (case zzch3 => first | rfl | kernel_rfl | decide)
    (case zzch4 => first | rfl | kernel_rfl | decide)
    (case zzch5 => first | rfl | kernel_rfl | decide)
    (case zzch6 => first | rfl | kernel_rfl | decide)
    (case zzch7 => first | rfl | kernel_rfl | decide)
    (case zzch8 => first | rfl | kernel_rfl | decide)
    (case zzcy0 => first | rfl | kernel_rfl | decide)
    (case zzcy1 => first | rfl | kernel_rfl | decide)
    (case zza0 => k_is)
    (case zzb0 => k_is)
    (case zzd0 => k_is)
    (case zzg0 => k_is)
    (case zza1 => k_is)
    (case zzb1 => k_is)
    (case zzd1 => k_is)
    (case zzg1 => k_is)
    (case zza2 => k_is)
    (case zzb2 => k_is)
    (case zzd2 => k_is)
    (case zzg2 => k_is)
    (case zza3 => k_is)
    (case zzb3 => k_is)
    (case zzd3 => k_is)
    (case zzg3 => k_is)
    (case zza4 => k_is)
    (case zzb4 => k_is)
    (case zzd4 => k_is)
    (case zzg4 => k_is)
    (case zza5 => k_is)
    (case zzb5 => k_is)
    (case zzd5 => k_is)
    (case zzg5 => k_is)
    (case zza6 => k_is)
    (case zzb6 => k_is)
    (case zzd6 => k_is)
    (case zzg6 => k_is)
    (case zza7 => k_is)
    (case zzb7 => k_is)
    (case zzd7 => k_is)
    (case zzg7 => k_is)
    (case zza8 => k_is)
    (case zzb8 => k_is)
    (case zzd8 => k_is)
    (case zzg8 => k_is)
    (case zza9 => k_is)
    (case zzb9 => k_is)
    (case zzd9 => k_is)
    (case zzg9 => k_is)
    (case zza10 => k_is)
    (case zzb10 => k_is)
    (case zzd10 => k_is)
    (case zzg10 => k_is)
    (case zza11 => k_is)
    (case zzb11 => k_is)
    (case zzd11 => k_is)
    (case zzg11 => k_is)
    (case zza12 => k_is)
    (case zzb12 => k_is)
    (case zzd12 => k_is)
    (case zzg12 => k_is)
    (case zza13 => k_is)
    (case zzb13 => k_is)
    (case zzd13 => k_is)
    (case zzg13 => k_is)
    (case zza14 => k_is)
    (case zzb14 => k_is)
    (case zzd14 => k_is)
    (case zzg14 => k_is)
    (case zza15 => k_is)
    (case zzb15 => k_is)
    (case zzd15 => k_is)
    (case zzg15 => k_is)
    (case zza16 => k_is)
    (case zzb16 => k_is)
    (case zzd16 => k_is)
    (case zzg16 => k_is)
    (case zza17 => k_is)
    (case zzb17 => k_is)
    (case zzd17 => k_is)
    (case zzg17 => k_is)
    (case zza18 => k_is)
    (case zzb18 => k_is)
    (case zzd18 => k_is)
    (case zzg18 => k_is)
    (case zza19 => k_is)
    (case zzb19 => k_is)
    (case zzd19 => k_is)
    (case zzg19 => k_is)
    (case zza20 => k_is)
    (case zzb20 => k_is)
    (case zzd20 => k_is)
    (case zzg20 => k_is)
    (case zza21 => k_is)
    (case zzb21 => k_is)
    (case zzd21 => k_is)
    (case zzg21 => k_is)
    (case zza22 => k_is)
    (case zzb22 => k_is)
    (case zzd22 => k_is)
    (case zzg22 => k_is)
    (case zza23 => k_is)
    (case zzb23 => k_is)
    (case zzd23 => k_is)
    (case zzg23 => k_is)
    (case zza24 => k_is)
    (case zzb24 => k_is)
    (case zzd24 => k_is)
    (case zzg24 => k_is)
    (case zza25 => k_is)
    (case zzb25 => k_is)
    (case zzd25 => k_is)
    (case zzg25 => k_is)
    (case zza26 => k_is)
    (case zzb26 => k_is)
    (case zzd26 => k_is)
    (case zzg26 => k_is)
    (case zza27 => k_is)
    (case zzb27 => k_is)
    (case zzd27 => k_is)
    (case zzg27 => k_is)
    (case zza28 => k_is)
    (case zzb28 => k_is)
    (case zzd28 => k_is)
    (case zzg28 => k_is)
    (case zza29 => k_is)
    (case zzb29 => k_is)
    (case zzd29 => k_is)
    (case zzg29 => k_is)
    (case zza30 => k_is)
    (case zzb30 => k_is)
    (case zzd30 => k_is)
    (case zzg30 => k_is)
    (case zza31 => k_is)
    (case zzb31 => k_is)
    (case zzd31 => k_is)
    (case zzg31 => k_is)
    (case zza32 => k_is)
    (case zzb32 => k_is)
    (case zzd32 => k_is)
    (case zzg32 => k_is)
    (case zza33 => k_is)
    (case zzb33 => k_is)
    (case zzd33 => k_is)
    (case zzg33 => k_is)
    (case zza34 => k_is)
    (case zzb34 => k_is)
    (case zzd34 => k_is)
    (case zzg34 => k_is)
    (case zza35 => k_is)
    (case zzb35 => k_is)
    (case zzd35 => k_is)
    (case zzg35 => k_is)
    (case zza36 => k_is)
    (case zzb36 => k_is)
    (case zzd36 => k_is)
    (case zzg36 => k_is)
    (case zza37 => k_is)
    (case zzb37 => k_is)
    (case zzd37 => k_is)
    (case zzg37 => k_is)
    (case zza38 => k_is)
    (case zzb38 => k_is)
    (case zzd38 => k_is)
    (case zzg38 => k_is)
    (case zza39 => k_is)
    (case zzb39 => k_is)
    (case zzd39 => k_is)
    (case zzg39 => k_is)
    (case zza40 => k_is)
    (case zzb40 => k_is)
    (case zzd40 => k_is)
    (case zzg40 => k_is)
    (case zza41 => k_is)
    (case zzb41 => k_is)
    (case zzd41 => k_is)
    (case zzg41 => k_is)
    (case zza42 => k_is)
    (case zzb42 => k_is)
    (case zzd42 => k_is)
    (case zzg42 => k_is)
    (case zza43 => k_is)
    (case zzb43 => k_is)
    (case zzd43 => k_is)
    (case zzg43 => k_is)
    (case zza44 => k_is)
    (case zzb44 => k_is)
    (case zzd44 => k_is)
    (case zzg44 => k_is)
    (case zza45 => k_is)
    (case zzb45 => k_is)
    (case zzd45 => k_is)
    (case zzg45 => k_is)
    (case zza46 => k_is)
    (case zzb46 => k_is)
    (case zzd46 => k_is)
    (case zzg46 => k_is)
    (case zza47 => k_is)
    (case zzb47 => k_is)
    (case zzd47 => k_is)
    (case zzg47 => k_is)
    (case zza48 => k_is)
    (case zzb48 => k_is)
    (case zzd48 => k_is)
    (case zzg48 => k_is)
    (case zza49 => k_is)
    (case zzb49 => k_is)
    (case zzd49 => k_is)
    (case zzg49 => k_is)
    (case zza50 => k_is)
    (case zzb50 => k_is)
    (case zzd50 => k_is)
    (case zzg50 => k_is)
    (case zza51 => k_is)
    (case zzb51 => k_is)
    (case zzd51 => k_is)
    (case zzg51 => k_is)
    (case zza52 => k_is)
    (case zzb52 => k_is)
    (case zzd52 => k_is)
    (case zzg52 => k_is)
    (case zzm0a => k_is)
    (case zzm0b => k_is)
    (case zzm0c => k_is)
    (case zzm0d => k_is)
    (case zzm0e => k_is)
    (case zzm1a => k_is)
    (case zzm1b => k_is)
    (case zzm1c => k_is)
    (case zzm1d => k_is)
    (case zzm1e => k_is)
    (case zzm2a => k_is)
    (case zzm2b => k_is)
    (case zzm2c => k_is)
    (case zzm2d => k_is)
    (case zzm2e => k_is)
    (case zzm3a => k_is)
    (case zzm3b => k_is)
    (case zzm3c => k_is)
    (case zzm3d => k_is)
    (case zzm3e => k_is)
    (case zzm4a => k_is)
    (case zzm4b => k_is)
    (case zzm4c => k_is)
    (case zzm4d => k_is)
    (case zzm4e => k_is)
    (case zzm5a => k_is)
    (case zzm5b => k_is)
    (case zzm5c => k_is)
    (case zzm5d => k_is)
    (case zzm5e => k_is)
    (case zzs1 => k_is)
    (case zzs2 => k_is)
    (case zzs3 => k_is)
    (case zzs4 => k_is)
    (case zzs5 => k_is)
    (case zzs6 => k_is)
    (case zzmk => k_is)
    (case zzkc => k_is)
