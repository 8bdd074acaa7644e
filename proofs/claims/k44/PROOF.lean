import PyProof.Rows.All
import Wide.All
import OpenK.AllK
import Wide.FinOn
import HandS.ForMost
import HandS.Codes
import HandS.Zip
import HandS.SortKw
import KE.GoesEnum
import KE.GoesZip
import KE.KDictZip
import KE.DataMinMax
import KE.SortData
import PyProof.ListStr
import PyProof.StrBlock2
import HandS.TupAny
import HandS.ExcInit
import HandS.ExcField
import HandS.ExcIs
import HandS.FStr
import HandS.HotCalls
import KE.KExcSuper
import KE.KExcIs
import HandS.IsInst
import HandS.Comp
import KE.KOwnIter
import HandS.MapObj
import HandS.Iter
import KE.KDictPairs
import HandS.Conv
import HandS.Dict
import HandS.Property
import HandS.Style
import PyProof.Rows.StrStep
import PyProof.AutoSeq1
import HandS.DictComp
import HandS.FStrTup
import PyProof.ReprHeads
import PyProof.ReprHeadsEmpty
import PyProof.ReprUnder
import PyProof.ReprNest
import HandS.Lambda
import HandS.Ends
import PyProof.ReprRoads
import HandS.OwnEq
import OpenK.KMeth
import HandS.Wide
import HandS.WideBits
import HandS.Gcd
import HandS.StrMore
import HandS.Walk
import HandS.Replace
import HandS.Deep
import HandS.More
import PyProof.StrLawsRepr
import HandS.Text
import HandS.TupLe
import PySem.Challenge.RW_rankedjoins_k44_shares
set_option Elab.async false
set_option linter.all false
section
namespace RJ
/-- neighbors of a row -/
def adjs (row : List Nat) : List (Nat × Nat) := row.zip row.tail
theorem adjs_cons2 (a b : Nat) (t : List Nat) : adjs (a :: b :: t) = (a, b) :: adjs (b :: t) := rfl
theorem adjs_one (a : Nat) : adjs [a] = [] := rfl
theorem adjs_nil : adjs [] = [] := rfl
/-- one pass from left to right -/
def pass (l r m : Nat) : List Nat → List Nat
  | [] => []
  | [a] => [a]
  | a :: b :: t => if a = l ∧ b = r then m :: pass l r m t else a :: pass l r m (b :: t)
theorem pass_id {l r m : Nat} : ∀ {row : List Nat}, (l, r) ∉ adjs row → pass l r m row = row
  | [], _ => rfl
  | [a], _ => rfl
  | a :: b :: t, h => by
    rw [adjs_cons2] at h
    have h1 : ¬ (a = l ∧ b = r) := fun q => h (by rw [q.1, q.2]; exact List.mem_cons_self ..)
    rw [pass, if_neg h1, pass_id (row := b :: t) fun q => h (List.mem_cons_of_mem _ q)]
theorem pass_head {l r m : Nat} : ∀ {a : Nat} {t : List Nat}, ∃ x rest, pass l r m (a :: t) = x :: rest ∧ (x = a ∨ x = m)
  | a, [] => ⟨a, [], rfl, .inl rfl⟩
  | a, b :: t => by
    rw [pass]
    split
    · exact ⟨m, _, rfl, .inr rfl⟩
    · exact ⟨a, _, rfl, .inl rfl⟩
theorem mem_adjs_cons {p : Nat × Nat} {a : Nat} {t : List Nat} (h : p ∈ adjs t) : p ∈ adjs (a :: t) := by
  cases t with
  | nil => rw [adjs_nil] at h; cases h
  | cons b t => rw [adjs_cons2]; exact List.mem_cons_of_mem _ h
theorem pass_adj {l r m : Nat} {p : Nat × Nat} : ∀ {row : List Nat}, p ∈ adjs (pass l r m row) → (p ∈ adjs row ∧ p ≠ (l, r)) ∨ p.1 = m ∨ p.2 = m
  | [], h => by cases h
  | [a], h => by cases h
  | a :: b :: t, h => by
    rw [pass] at h
    split at h
    · rename_i hab
      cases e : pass l r m t with
      | nil => rw [e] at h; cases h
      | cons x rest =>
        rw [e, adjs_cons2] at h
        rcases List.mem_cons.mp h with q | q
        · exact .inr (.inl (by rw [q]))
        · rw [← e] at q
          rcases pass_adj q with ⟨q1, q2⟩ | q
          · exact .inl ⟨mem_adjs_cons (mem_adjs_cons q1), q2⟩
          · exact .inr q
    · rename_i hab
      obtain ⟨x, rest, e, hx⟩ := pass_head (l := l) (r := r) (m := m) (a := b) (t := t)
      rw [e, adjs_cons2] at h
      rcases List.mem_cons.mp h with q | q
      · rcases hx with hx | hx
        · refine .inl ⟨?_, ?_⟩
          · rw [q, hx, adjs_cons2]; exact List.mem_cons_self ..
          · rw [q, hx]; intro z; exact hab ⟨(Prod.mk.inj z).1, (Prod.mk.inj z).2⟩
        · exact .inr (.inr (by rw [q]; exact hx))
      · rw [← e] at q
        rcases pass_adj q with ⟨q1, q2⟩ | q
        · exact .inl ⟨mem_adjs_cons q1, q2⟩
        · exact .inr q
theorem pass_len {l r m : Nat} : ∀ {row : List Nat}, (pass l r m row).length ≤ row.length
  | [] => Nat.le_refl _
  | [a] => Nat.le_refl _
  | a :: b :: t => by
    rw [pass]
    split
    · have := pass_len (l := l) (r := r) (m := m) (row := t)
      simp only [List.length_cons]; omega
    · have := pass_len (l := l) (r := r) (m := m) (row := b :: t)
      simp only [List.length_cons] at this ⊢; omega
theorem pass_lt {l r m : Nat} : ∀ {row : List Nat}, (l, r) ∈ adjs row → (pass l r m row).length < row.length
  | [], h => by cases h
  | [a], h => by cases h
  | a :: b :: t, h => by
    rw [pass]
    split
    · have := pass_len (l := l) (r := r) (m := m) (row := t)
      simp only [List.length_cons]; omega
    · rename_i hab
      rw [adjs_cons2] at h
      rcases List.mem_cons.mp h with q | q
      · exact absurd ⟨(Prod.mk.inj q).1.symm, (Prod.mk.inj q).2.symm⟩ hab
      · have := pass_lt (l := l) (r := r) (m := m) (row := b :: t) q
        simp only [List.length_cons] at this ⊢; omega
theorem pass_mem {l r m x : Nat} : ∀ {row : List Nat}, x ∈ pass l r m row → x ∈ row ∨ x = m
  | [], h => by cases h
  | [a], h => .inl h
  | a :: b :: t, h => by
    rw [pass] at h
    split at h
    · rcases List.mem_cons.mp h with q | q
      · exact .inr q
      · rcases pass_mem q with q | q
        · exact .inl (List.mem_cons_of_mem _ (List.mem_cons_of_mem _ q))
        · exact .inr q
    · rcases List.mem_cons.mp h with q | q
      · exact .inl (by rw [q]; exact List.mem_cons_self ..)
      · rcases pass_mem q with q | q
        · exact .inl (List.mem_cons_of_mem _ q)
        · exact .inr q
/-- the passes of these pairs, the first of which makes b + k -/
def run (b : Nat) : List (Nat × Nat) → Nat → List Nat → List Nat
  | [], _, row => row
  | p :: ps, k, row => run b ps (k + 1) (pass p.1 p.2 (b + k) row)
def cutL (b : Nat) (ps : List (Nat × Nat)) (row : List Nat) : List Nat := run b ps 0 row
theorem run_append (b : Nat) : ∀ (ps qs : List (Nat × Nat)) (k : Nat) (row : List Nat), run b (ps ++ qs) k row = run b qs (k + ps.length) (run b ps k row)
  | [], qs, k, row => rfl
  | p :: ps, qs, k, row => by
    show run b (ps ++ qs) (k + 1) _ = run b qs (k + (ps.length + 1)) (run b ps (k + 1) _)
    rw [run_append b ps qs, show k + 1 + ps.length = k + (ps.length + 1) by omega]
theorem run_none {b : Nat} : ∀ {ps : List (Nat × Nat)} {k : Nat} {row : List Nat}, (∀ p ∈ ps, p ∉ adjs row) → run b ps k row = row
  | [], _, _, _ => rfl
  | p :: ps, k, row, h => by
    show run b ps (k + 1) (pass p.1 p.2 (b + k) row) = row
    rw [pass_id (h p (List.mem_cons_self ..))]
    exact run_none fun q hq => h q (List.mem_cons_of_mem _ hq)
/-- the parts of a join are pieces ahead of it -/
def WF (b : Nat) (ps : List (Nat × Nat)) : Prop := ∀ i p, ps[i]? = some p → p.1 < b + i ∧ p.2 < b + i
theorem WF.take {b : Nat} {ps : List (Nat × Nat)} (h : WF b ps) (n : Nat) : WF b (ps.take n) := fun i p e => by
  rw [List.getElem?_take] at e
  split at e
  · exact h i p e
  · cases e
theorem take_succ_of {α : Type} {l : List α} {n : Nat} {x : α} (h : l[n]? = some x) : l.take (n + 1) = l.take n ++ [x] := by
  rw [List.take_add_one, h]; rfl
theorem take_len_of {α : Type} {l : List α} {n : Nat} {x : α} (h : l[n]? = some x) : (l.take n).length = n := by
  obtain ⟨h1, _⟩ := List.getElem?_eq_some_iff.mp h
  rw [List.length_take]; omega
theorem cutL_snoc (b : Nat) (ps : List (Nat × Nat)) (q : Nat × Nat) (row : List Nat) : cutL b (ps ++ [q]) row = pass q.1 q.2 (b + ps.length) (cutL b ps row) := by
  unfold cutL
  rw [run_append, Nat.zero_add]; rfl
theorem mem_take_get {α : Type} {l : List α} {n : Nat} {x : α} (h : x ∈ l.take n) : ∃ i, i < n ∧ l[i]? = some x := by
  obtain ⟨i, hi⟩ := List.mem_iff_getElem?.mp h
  rw [List.getElem?_take] at hi
  split at hi
  · exact ⟨i, by assumption, hi⟩
  · cases hi
theorem cut_clean_take {b : Nat} {ps : List (Nat × Nat)} (hw : WF b ps) (row : List Nat) : ∀ n, ∀ p ∈ ps.take n, p ∉ adjs (cutL b (ps.take n) row)
  | 0, p, hp => by rw [List.take_zero] at hp; cases hp
  | n + 1, p, hp => by
    cases e : ps[n]? with
    | none =>
      have hle : ps.length ≤ n := List.getElem?_eq_none_iff.mp e
      rw [List.take_of_length_le (by omega)] at hp ⊢
      have := cut_clean_take hw row n p (by rw [List.take_of_length_le hle]; exact hp)
      rw [List.take_of_length_le hle] at this
      exact this
    | some q =>
      rw [take_succ_of e] at hp ⊢
      rw [cutL_snoc, take_len_of e]
      have hq := hw n q e
      intro hm
      rcases pass_adj hm with ⟨h1, h2⟩ | h1
      · rcases List.mem_append.mp hp with z | z
        · exact cut_clean_take hw row n p z h1
        · exact h2 (List.mem_singleton.mp z)
      · have hlt : p.1 < b + n ∧ p.2 < b + n := by
          rcases List.mem_append.mp hp with z | z
          · obtain ⟨i, hi, ei⟩ := mem_take_get z
            have := hw i p ei
            omega
          · rw [List.mem_singleton.mp z]; exact hq
        omega
theorem cut_clean {b : Nat} {ps : List (Nat × Nat)} (hw : WF b ps) (row : List Nat) : ∀ p ∈ ps, p ∉ adjs (cutL b ps row) := by
  have h := cut_clean_take hw row ps.length
  rw [List.take_length] at h
  exact h
theorem split_at {α : Type} {l : List α} {n : Nat} {x : α} (h : l[n]? = some x) : l = l.take n ++ x :: l.drop (n + 1) := by
  obtain ⟨h1, h2⟩ := List.getElem?_eq_some_iff.mp h
  rw [← h2, ← List.drop_eq_getElem_cons h1, List.take_append_drop]
theorem cutL_at {b : Nat} {ps : List (Nat × Nat)} {r : Nat} {p : Nat × Nat} (h : ps[r]? = some p) (row : List Nat) (hno : ∀ j q, j < r → ps[j]? = some q → q ∉ adjs row) :
    cutL b ps row = run b (ps.drop (r + 1)) (r + 1) (pass p.1 p.2 (b + r) row) := by
  have e := split_at h
  have hl := take_len_of h
  unfold cutL
  rw [e, run_append, hl, Nat.zero_add]
  rw [← e]
  rw [run_none (ps := ps.take r) (row := row) fun q hq => by
    obtain ⟨j, hj, ej⟩ := mem_take_get hq
    exact hno j q hj ej]
  rfl
/-- the lowest rank that is there may be joined first -/
theorem cut_step {b : Nat} {ps : List (Nat × Nat)} (hw : WF b ps) {r : Nat} {p : Nat × Nat} (h : ps[r]? = some p) (row : List Nat) (hno : ∀ j q, j < r → ps[j]? = some q → q ∉ adjs row) :
    cutL b ps (pass p.1 p.2 (b + r) row) = cutL b ps row := by
  have hp := hw r p h
  have no2 : ∀ j q, j < r → ps[j]? = some q → q ∉ adjs (pass p.1 p.2 (b + r) row) := fun j q hj ej hm => by
    rcases pass_adj hm with ⟨z, _⟩ | z
    · exact hno j q hj ej z
    · have := hw j q ej; omega
  have no3 : (p.1, p.2) ∉ adjs (pass p.1 p.2 (b + r) row) := fun hm => by
    rcases pass_adj hm with ⟨_, z⟩ | z
    · exact z rfl
    · have z' : p.1 = b + r ∨ p.2 = b + r := z
      omega
  rw [cutL_at h row hno, cutL_at h _ no2, pass_id no3]
theorem cut_done {b : Nat} {ps : List (Nat × Nat)} {row : List Nat} (h : ∀ p ∈ ps, p ∉ adjs row) : cutL b ps row = row := run_none h
theorem adjs_append {u v : List Nat} {x : Nat} : adjs (u ++ x :: v) = adjs (u ++ [x]) ++ adjs (x :: v) := by
  induction u with
  | nil => rfl
  | cons a u ih =>
    cases u with
    | nil => rfl
    | cons c u =>
      show (a, c) :: adjs (c :: u ++ x :: v) = ((a, c) :: adjs (c :: u ++ [x])) ++ adjs (x :: v)
      exact congrArg (fun z => (a, c) :: z) ih
theorem pass_left {l r m : Nat} : ∀ {u v : List Nat}, (l, r) ∉ adjs (u ++ [l]) → pass l r m (u ++ l :: r :: v) = u ++ m :: pass l r m v
  | [], v, _ => by
    show pass l r m (l :: r :: v) = m :: pass l r m v
    rw [pass, if_pos ⟨rfl, rfl⟩]
  | [a], v, h => by
    have h1 : ¬ (a = l ∧ l = r) := fun q => h (by show (l, r) ∈ adjs [a, l]; rw [adjs_cons2, q.1, ← q.2]; exact List.mem_cons_self ..)
    show pass l r m (a :: l :: r :: v) = a :: m :: pass l r m v
    rw [pass, if_neg h1, pass, if_pos ⟨rfl, rfl⟩]
  | a :: c :: u, v, h => by
    have h1 : ¬ (a = l ∧ c = r) := fun q => h (by show (l, r) ∈ adjs (a :: c :: (u ++ [l])); rw [adjs_cons2, q.1, q.2]; exact List.mem_cons_self ..)
    have h2 : (l, r) ∉ adjs ((c :: u) ++ [l]) := fun q => h (by show (l, r) ∈ adjs (a :: c :: (u ++ [l])); exact mem_adjs_cons q)
    show pass l r m (a :: c :: (u ++ l :: r :: v)) = a :: (c :: u ++ m :: pass l r m v)
    rw [pass, if_neg h1]
    exact congrArg (a :: ·) (pass_left (u := c :: u) h2)
theorem pass_over {l r m : Nat} (h1 : m ≠ l) (h2 : m ≠ r) : ∀ {u v : List Nat}, (l, r) ∉ adjs u → pass l r m (u ++ m :: v) = u ++ m :: pass l r m v
  | [], v, _ => by
    cases v with
    | nil => rfl
    | cons c v =>
      show pass l r m (m :: c :: v) = m :: pass l r m (c :: v)
      rw [pass, if_neg fun q => h1 q.1]
  | [a], v, h => by
    show pass l r m (a :: m :: v) = a :: m :: pass l r m v
    rw [pass, if_neg fun q => h2 q.2]
    exact congrArg (a :: ·) (pass_over h1 h2 (u := []) (by rw [adjs_nil]; exact List.not_mem_nil))
  | a :: c :: u, v, h => by
    have hn : ¬ (a = l ∧ c = r) := fun q => h (by rw [adjs_cons2, q.1, q.2]; exact List.mem_cons_self ..)
    show pass l r m (a :: c :: (u ++ m :: v)) = a :: (c :: u ++ m :: pass l r m v)
    rw [pass, if_neg hn]
    exact congrArg (a :: ·) (pass_over h1 h2 (u := c :: u) fun q => h (mem_adjs_cons q))
theorem adjs_sub_left {u v : List Nat} {p : Nat × Nat} (h : p ∈ adjs u) : p ∈ adjs (u ++ v) := by
  induction u with
  | nil => cases h
  | cons a u ih =>
    cases u with
    | nil => cases h
    | cons c u =>
      rw [adjs_cons2] at h
      show p ∈ (a, c) :: adjs (c :: u ++ v)
      rcases List.mem_cons.mp h with q | q
      · rw [q]; exact List.mem_cons_self ..
      · exact List.mem_cons_of_mem _ (ih q)
theorem adjs_sub_right {u v : List Nat} {p : Nat × Nat} (h : p ∈ adjs v) : p ∈ adjs (u ++ v) := by
  induction u with
  | nil => exact h
  | cons a u ih => exact mem_adjs_cons ih
/-- the leftmost place of the lowest rank may be joined first -/
theorem cut_first {b : Nat} {ps : List (Nat × Nat)} (hw : WF b ps) {r : Nat} {p : Nat × Nat} (h : ps[r]? = some p) {u v : List Nat} (hu : p ∉ adjs (u ++ [p.1]))
    (hno : ∀ j q, j < r → ps[j]? = some q → q ∉ adjs (u ++ p.1 :: p.2 :: v)) : cutL b ps (u ++ (b + r) :: v) = cutL b ps (u ++ p.1 :: p.2 :: v) := by
  have hp := hw r p h
  have no2 : ∀ j q, j < r → ps[j]? = some q → q ∉ adjs (u ++ (b + r) :: v) := fun j q hj ej hm => by
    have hq := hw j q ej
    have key : q ∈ adjs u ∨ q ∈ adjs v ∨ q.1 = b + r ∨ q.2 = b + r := by
      rw [adjs_append] at hm
      rcases List.mem_append.mp hm with z | z
      · -- adjs (u ++ [b + r])
        clear hm
        revert z
        clear hu hno
        induction u with
        | nil => intro z; cases z
        | cons a u ih =>
          intro z
          cases u with
          | nil =>
            have z' : q ∈ [(a, b + r)] := z
            rw [List.mem_singleton.mp z']
            exact .inr (.inr (.inr rfl))
          | cons c u =>
            have z' : q ∈ (a, c) :: adjs (c :: u ++ [b + r]) := z
            rcases List.mem_cons.mp z' with w | w
            · refine .inl ?_
              rw [w, adjs_cons2]; exact List.mem_cons_self ..
            · rcases ih w with y | y
              · exact .inl (mem_adjs_cons y)
              · exact .inr y
      · cases v with
        | nil => cases z
        | cons c v =>
          rw [adjs_cons2] at z
          rcases List.mem_cons.mp z with w | w
          · rw [w]; exact .inr (.inr (.inl rfl))
          · exact .inr (.inl w)
    rcases key with z | z | z
    · exact hno j q hj ej (adjs_sub_left z)
    · exact hno j q hj ej (adjs_sub_right (mem_adjs_cons (mem_adjs_cons z)))
    · omega
  rw [cutL_at h _ hno, cutL_at h _ no2, pass_left hu, pass_over (by omega) (by omega) fun q => hu (adjs_sub_left q)]
end RJ
end

section
set_option maxRecDepth 100000
namespace RJ
/-- the row of the letters -/
def lets (al t : List Nat) : List Nat := t.map fun c => al.idxOf c
theorem snoc_ind {α : Type} {M : List α → Prop} (h0 : M []) (h1 : ∀ l a, M l → M (l ++ [a])) (l : List α) : M l := by
  have key : ∀ r : List α, M r.reverse := by
    intro r
    induction r with
    | nil => exact h0
    | cons a r ih => rw [List.reverse_cons]; exact h1 _ _ ih
  rw [← l.reverse_reverse]; exact key _
/-- the texts of the pieces -/
def textsOf (al : List Nat) (ps : List (Nat × Nat)) : List (List Nat) := ps.foldl (fun ts p => ts ++ [ts.getD p.1 [] ++ ts.getD p.2 []]) (al.map fun c => [c])
theorem textsOf_snoc (al : List Nat) (ps : List (Nat × Nat)) (p : Nat × Nat) : textsOf al (ps ++ [p]) = textsOf al ps ++ [(textsOf al ps).getD p.1 [] ++ (textsOf al ps).getD p.2 []] := by
  unfold textsOf
  rw [List.foldl_append]; rfl
theorem textsOf_len (al : List Nat) (ps : List (Nat × Nat)) : (textsOf al ps).length = al.length + ps.length := by
  induction ps using snoc_ind with
  | h0 => unfold textsOf; rw [List.foldl_nil, List.length_map]; rfl
  | h1 ps p ih => rw [textsOf_snoc, List.length_append, ih, List.length_append]; rfl
theorem getD_mem_or {ts : List (List Nat)} {i : Nat} : ts.getD i [] ∈ ts ∨ ts.getD i [] = [] := by
  rw [List.getD_eq_getElem?_getD]
  cases h : ts[i]? with
  | none => exact .inr rfl
  | some t => exact .inl (List.mem_of_getElem? h)
theorem textsOf_al {al : List Nat} {ps : List (Nat × Nat)} : ∀ t ∈ textsOf al ps, ∀ c ∈ t, c ∈ al := by
  induction ps using snoc_ind with
  | h0 =>
    intro t ht c hc
    unfold textsOf at ht
    rw [List.foldl_nil] at ht
    obtain ⟨d, hd, rfl⟩ := List.mem_map.mp ht
    rw [List.mem_singleton.mp hc]; exact hd
  | h1 ps p ih =>
    intro t ht c hc
    rw [textsOf_snoc] at ht
    rcases List.mem_append.mp ht with h | h
    · exact ih t h c hc
    · rw [List.mem_singleton.mp h] at hc
      have key : ∀ i, c ∈ (textsOf al ps).getD i [] → c ∈ al := fun i hi => by
        rcases getD_mem_or (ts := textsOf al ps) (i := i) with m | m
        · exact ih _ m c hi
        · rw [m] at hi; cases hi
      rcases List.mem_append.mp hc with z | z
      · exact key _ z
      · exact key _ z
/-- may the pair be the next join -/
def okP (al : List Nat) (ts : List (List Nat)) (ps : List (Nat × Nat)) (p : Nat × Nat) : Prop :=
  p.1 < ts.length ∧ p.2 < ts.length ∧ (ts.getD p.1 [] ++ ts.getD p.2 []).length ≤ 40 ∧ cutL al.length ps (lets al (ts.getD p.1 [] ++ ts.getD p.2 [])) = [p.1, p.2]
instance (al ts ps p) : Decidable (okP al ts ps p) := by unfold okP; infer_instance
def Proper (al : List Nat) (ps : List (Nat × Nat)) : Prop := ∀ i p, ps[i]? = some p → okP al (textsOf al (ps.take i)) (ps.take i) p
theorem Proper.wf {al : List Nat} {ps : List (Nat × Nat)} (h : Proper al ps) : WF al.length ps := fun i p e => by
  obtain ⟨h1, h2, _⟩ := h i p e
  rw [textsOf_len, take_len_of e] at h1 h2
  exact ⟨h1, h2⟩
theorem Proper.take {al : List Nat} {ps : List (Nat × Nat)} (h : Proper al ps) (n : Nat) : Proper al (ps.take n) := fun i p e => by
  rw [List.getElem?_take] at e
  split at e
  · have := h i p e
    rw [List.take_take, Nat.min_eq_left (by omega)]
    exact this
  · cases e
theorem Proper.nil (al : List Nat) : Proper al [] := fun i p e => by simp at e
theorem Proper.snoc {al : List Nat} {ps : List (Nat × Nat)} {p : Nat × Nat} (h : Proper al ps) (hp : okP al (textsOf al ps) ps p) : Proper al (ps ++ [p]) := fun i q e => by
  by_cases hi : i < ps.length
  · rw [List.getElem?_append_left hi] at e
    rw [List.take_append_of_le_length (by omega)]
    exact h i q e
  · rw [List.getElem?_append_right (by omega)] at e
    have hi0 : i - ps.length = 0 := by
      rcases Nat.eq_zero_or_pos (i - ps.length) with z | z
      · exact z
      · rw [List.getElem?_eq_none (by rw [List.length_singleton]; exact z)] at e; cases e
    rw [hi0] at e
    have e' : p = q := by simpa using e
    subst e'
    have hi' : i = ps.length := by omega
    rw [hi', List.take_left]
    exact hp
theorem Proper.front {al : List Nat} {ps : List (Nat × Nat)} {p : Nat × Nat} (h : Proper al (ps ++ [p])) : Proper al ps ∧ okP al (textsOf al ps) ps p := by
  refine ⟨?_, ?_⟩
  · have := h.take ps.length
    rw [List.take_left] at this; exact this
  · have := h ps.length p (by rw [List.getElem?_append_right (Nat.le_refl _), Nat.sub_self]; rfl)
    rw [List.take_left] at this; exact this
theorem Proper.short {al : List Nat} {ps : List (Nat × Nat)} (h : Proper al ps) : ∀ t ∈ textsOf al ps, t.length ≤ 40 := by
  induction ps using snoc_ind with
  | h0 =>
    intro t ht
    unfold textsOf at ht
    rw [List.foldl_nil] at ht
    obtain ⟨d, hd, rfl⟩ := List.mem_map.mp ht
    simp
  | h1 ps p ih =>
    intro t ht
    obtain ⟨h1, h2⟩ := h.front
    rw [textsOf_snoc] at ht
    rcases List.mem_append.mp ht with q | q
    · exact ih h1 t q
    · rw [List.mem_singleton.mp q]; exact h2.2.2.1
/-- the cut of a piece's text is this piece -/
theorem cut_piece {al : List Nat} (hal : al.Nodup) {ps : List (Nat × Nat)} (h : Proper al ps) : ∀ i t, (textsOf al ps)[i]? = some t → cutL al.length ps (lets al t) = [i] := by
  induction ps using snoc_ind with
  | h0 =>
    intro i t ht
    unfold textsOf at ht
    rw [List.foldl_nil, List.getElem?_map] at ht
    cases e : al[i]? with
    | none => rw [e] at ht; cases ht
    | some c =>
      rw [e] at ht
      have : t = [c] := (Option.some.inj ht).symm
      subst this
      obtain ⟨hi, hc⟩ := List.getElem?_eq_some_iff.mp e
      show [al.idxOf c] = [i]
      have h1 : al.idxOf c < al.length := List.idxOf_lt_length_iff.mpr (List.mem_of_getElem? e)
      have h2 : al[al.idxOf c] = al[i] := by rw [List.getElem_idxOf h1, hc]
      rw [(List.getElem_inj hal).mp h2]
  | h1 ps p ih =>
    intro i t ht
    obtain ⟨h1, h2⟩ := h.front
    rw [cutL_snoc]
    rw [textsOf_snoc] at ht
    by_cases hi : i < (textsOf al ps).length
    · rw [List.getElem?_append_left hi] at ht
      rw [ih h1 i t ht]; rfl
    · rw [List.getElem?_append_right (by omega)] at ht
      have hi0 : i - (textsOf al ps).length = 0 := by
        rcases Nat.eq_zero_or_pos (i - (textsOf al ps).length) with z | z
        · exact z
        · rw [List.getElem?_eq_none (by rw [List.length_singleton]; exact z)] at ht; cases ht
      rw [hi0] at ht
      have e' : (textsOf al ps).getD p.1 [] ++ (textsOf al ps).getD p.2 [] = t := by simpa using ht
      rw [← e', h2.2.2.2]
      have hi' : i = al.length + ps.length := by rw [textsOf_len] at hi0 hi; omega
      show pass p.1 p.2 (al.length + ps.length) [p.1, p.2] = [i]
      rw [pass, if_pos ⟨rfl, rfl⟩, hi']; rfl
theorem texts_inj {al : List Nat} (hal : al.Nodup) {ps : List (Nat × Nat)} (h : Proper al ps) {i j : Nat} {t : List Nat} (hi : (textsOf al ps)[i]? = some t) (hj : (textsOf al ps)[j]? = some t) : i = j := by
  have h1 := cut_piece hal h i t hi
  rw [cut_piece hal h j t hj] at h1
  injection h1 with h1; exact h1.symm
theorem texts_nodup {al : List Nat} (hal : al.Nodup) {ps : List (Nat × Nat)} (h : Proper al ps) : (textsOf al ps).Nodup := by
  refine List.pairwise_iff_getElem.mpr fun i j hi hj hij e => ?_
  have := texts_inj hal h (List.getElem?_eq_getElem hi) (by rw [List.getElem?_eq_getElem hj, ← e])
  omega
/-- the text of a row -/
def textR (ts : List (List Nat)) (row : List Nat) : List Nat := (row.map fun i => ts.getD i []).flatten
theorem getD_short {ts : List (List Nat)} (h : ∀ t ∈ ts, t.length ≤ 40) (i : Nat) : (ts.getD i []).length ≤ 40 := by
  rcases getD_mem_or (ts := ts) (i := i) with m | m
  · exact h _ m
  · rw [m]; exact Nat.zero_le _
theorem run_len (b : Nat) : ∀ (ps : List (Nat × Nat)) (k : Nat) (row : List Nat), (run b ps k row).length ≤ row.length
  | [], _, _ => Nat.le_refl _
  | p :: ps, k, row => Nat.le_trans (run_len b ps (k + 1) _) pass_len
theorem cutL_len (b : Nat) (ps : List (Nat × Nat)) (row : List Nat) : (cutL b ps row).length ≤ row.length := run_len b ps 0 row
theorem textR_cons (ts : List (List Nat)) (a : Nat) (row : List Nat) : textR ts (a :: row) = ts.getD a [] ++ textR ts row := rfl
theorem pass_text {ts : List (List Nat)} {l r m : Nat} (h : ts.getD m [] = ts.getD l [] ++ ts.getD r []) : ∀ row : List Nat, textR ts (pass l r m row) = textR ts row
  | [] => rfl
  | [a] => rfl
  | a :: b :: t => by
    rw [pass]
    split
    · rename_i c
      obtain ⟨rfl, rfl⟩ := c
      rw [textR_cons, textR_cons, textR_cons, pass_text h t, h, List.append_assoc]
    · rw [textR_cons, textR_cons ts a, pass_text h (b :: t)]
theorem run_text {ts : List (List Nat)} {b : Nat} : ∀ (qs : List (Nat × Nat)) (k : Nat) (row : List Nat), (∀ (i : Nat) (q : Nat × Nat), qs[i]? = some q → ts.getD (b + k + i) [] = ts.getD q.1 [] ++ ts.getD q.2 []) → textR ts (run b qs k row) = textR ts row
  | [], _, _, _ => rfl
  | q :: qs, k, row, h => by
    have h0 := h 0 q rfl
    show textR ts (run b qs (k + 1) (pass q.1 q.2 (b + k) row)) = _
    rw [run_text qs (k + 1) _ fun i p e => by
      have := h (i + 1) p e
      rw [show b + (k + 1) + i = b + k + (i + 1) by omega]; exact this]
    exact pass_text h0 row
theorem texts_at {al : List Nat} {ps : List (Nat × Nat)} (h : WF al.length ps) : ∀ (i : Nat) (p : Nat × Nat), ps[i]? = some p → (textsOf al ps).getD (al.length + i) [] = (textsOf al ps).getD p.1 [] ++ (textsOf al ps).getD p.2 [] := by
  induction ps using snoc_ind with
  | h0 => intro i p e; cases e
  | h1 ps q ih =>
    intro i p e
    have hw : WF al.length ps := by have := h.take ps.length; rw [List.take_left] at this; exact this
    have key : ∀ j, j < al.length + ps.length → (textsOf al (ps ++ [q])).getD j [] = (textsOf al ps).getD j [] := fun j hj => by
      rw [textsOf_snoc, List.getD_eq_getElem?_getD, List.getElem?_append_left (by rw [textsOf_len]; exact hj), ← List.getD_eq_getElem?_getD]
    have hp := h i p e
    by_cases c : i < ps.length
    · rw [List.getElem?_append_left c] at e
      rw [key _ (by omega), key _ (by omega), key _ (by omega)]
      exact ih hw i p e
    · have hi : i = ps.length := by
        have := (List.getElem?_eq_some_iff.mp e).1
        rw [List.length_append, List.length_singleton] at this
        omega
      subst hi
      rw [List.getElem?_append_right (Nat.le_refl _), Nat.sub_self] at e
      have e' : q = p := Option.some.inj e
      subst e'
      rw [key q.1 hp.1, key q.2 hp.2, textsOf_snoc, List.getD_eq_getElem?_getD, List.getElem?_append_right (by rw [textsOf_len]; exact Nat.le_refl _), textsOf_len, Nat.sub_self]; rfl
theorem texts_letter {al : List Nat} {ps : List (Nat × Nat)} {i c : Nat} (h : al[i]? = some c) : (textsOf al ps).getD i [] = [c] := by
  have hi := (List.getElem?_eq_some_iff.mp h).1
  induction ps using snoc_ind with
  | h0 =>
    unfold textsOf
    rw [List.foldl_nil, List.getD_eq_getElem?_getD, List.getElem?_map, h]; rfl
  | h1 ps q ih =>
    rw [textsOf_snoc, List.getD_eq_getElem?_getD, List.getElem?_append_left (by rw [textsOf_len]; omega), ← List.getD_eq_getElem?_getD]
    exact ih
theorem text_lets {al : List Nat} {ps : List (Nat × Nat)} {t : List Nat} (h : ∀ c ∈ t, c ∈ al) : textR (textsOf al ps) (lets al t) = t := by
  induction t with
  | nil => rfl
  | cons c t ih =>
    show (textsOf al ps).getD (al.idxOf c) [] ++ textR (textsOf al ps) (lets al t) = c :: t
    rw [ih fun d hd => h d (List.mem_cons_of_mem _ hd), texts_letter (by
      have hc := h c (List.mem_cons_self ..)
      rw [List.getElem?_eq_getElem (List.idxOf_lt_length_of_mem hc), List.getElem_idxOf])]
    rfl
theorem text_cut {al : List Nat} {ps : List (Nat × Nat)} (hw : WF al.length ps) {t : List Nat} (h : ∀ c ∈ t, c ∈ al) : textR (textsOf al ps) (cutL al.length ps (lets al t)) = t := by
  unfold cutL
  rw [run_text ps 0 _ fun i q e => by rw [Nat.add_zero]; exact texts_at hw i q e]
  exact text_lets h
theorem run_mem {b x : Nat} : ∀ (qs : List (Nat × Nat)) (k : Nat) (row : List Nat), x ∈ run b qs k row → x ∈ row ∨ (b + k ≤ x ∧ x < b + k + qs.length)
  | [], _, _, h => .inl h
  | q :: qs, k, row, h => by
    rcases run_mem qs (k + 1) _ h with z | z
    · rcases pass_mem z with y | y
      · exact .inl y
      · exact .inr ⟨by omega, by rw [List.length_cons]; omega⟩
    · exact .inr ⟨by omega, by rw [List.length_cons]; omega⟩
theorem lets_lt {al t : List Nat} (h : ∀ c ∈ t, c ∈ al) : ∀ i ∈ lets al t, i < al.length := fun i hi => by
  obtain ⟨c, hc, rfl⟩ := List.mem_map.mp hi
  exact List.idxOf_lt_length_of_mem (h c hc)
theorem cut_lt {al : List Nat} {ps : List (Nat × Nat)} {t : List Nat} (h : ∀ c ∈ t, c ∈ al) : ∀ i ∈ cutL al.length ps (lets al t), i < al.length + ps.length := fun i hi => by
  rcases run_mem ps 0 _ hi with z | z
  · have := lets_lt h i z; omega
  · omega
theorem cut_nil (b : Nat) (ps : List (Nat × Nat)) : cutL b ps [] = [] := List.eq_nil_of_length_eq_zero (Nat.le_zero.mp (cutL_len b ps []))
def apart (m l r : Nat) (row : List Nat) : List Nat := row.flatMap fun x => if x = m then [l, r] else [x]
theorem apart_nil (m l r : Nat) : apart m l r [] = [] := rfl
theorem apart_cons (m l r x : Nat) (t : List Nat) : apart m l r (x :: t) = (if x = m then [l, r] else [x]) ++ apart m l r t := rfl
theorem apart_app (m l r : Nat) (u v : List Nat) : apart m l r (u ++ v) = apart m l r u ++ apart m l r v := List.flatMap_append
theorem apart_pass {m l r : Nat} : ∀ {row : List Nat}, m ∉ row → apart m l r (pass l r m row) = row
  | [], _ => rfl
  | [a], h => by
    have : a ≠ m := fun e => h (by rw [e]; exact List.mem_cons_self ..)
    show (if a = m then [l, r] else [a]) ++ [] = [a]
    rw [if_neg this]; rfl
  | a :: b :: t, h => by
    have ha : a ≠ m := fun e => h (by rw [e]; exact List.mem_cons_self ..)
    have ht : m ∉ b :: t := fun z => h (List.mem_cons_of_mem _ z)
    rw [pass]
    split
    · rename_i c
      obtain ⟨rfl, rfl⟩ := c
      rw [apart_cons, if_pos rfl, apart_pass (fun z => ht (List.mem_cons_of_mem _ z))]; rfl
    · rw [apart_cons, if_neg ha, apart_pass ht]; rfl
def splitD (b : Nat) (ps : List (Nat × Nat)) (n : Nat) : Nat → List Nat → List Nat
  | 0, row => row
  | k + 1, row => if n ≤ k then splitD b ps n k (apart (b + k) (ps.getD k (0, 0)).1 (ps.getD k (0, 0)).2 row) else row
variable {b n : Nat} {ps : List (Nat × Nat)}
theorem splitD_le {k : Nat} (h : k ≤ n) (row : List Nat) : splitD b ps n k row = row := by
  cases k with
  | zero => rfl
  | succ k => rw [splitD, if_neg (by omega)]
theorem splitD_app : ∀ (k : Nat) (u v : List Nat), splitD b ps n k (u ++ v) = splitD b ps n k u ++ splitD b ps n k v
  | 0, _, _ => rfl
  | k + 1, u, v => by
    rw [splitD, splitD, splitD]
    split
    · rw [apart_app, splitD_app k]
    · rfl
theorem splitD_nil (k : Nat) : splitD b ps n k [] = [] := by
  induction k with
  | zero => rfl
  | succ k ih =>
    rw [splitD, apart_nil, ih]
    split <;> rfl
theorem apart_one {m l r x : Nat} (h : x ≠ m) : apart m l r [x] = [x] := by
  show (if x = m then [l, r] else [x]) ++ [] = [x]
  rw [if_neg h]; rfl
theorem splitD_low {j y : Nat} (hy : y < b + j) : ∀ {k : Nat}, j ≤ k → splitD b ps n k [y] = splitD b ps n j [y]
  | 0, h => by rw [Nat.le_zero.mp h]
  | k + 1, h => by
    by_cases c : j = k + 1
    · rw [c]
    · rw [splitD]
      split
      · rw [apart_one (by omega)]; exact splitD_low hy (by omega)
      · rw [splitD_le (by omega)]
theorem splitD_small {x : Nat} (hx : x < b + n) (k : Nat) : splitD b ps n k [x] = [x] := by
  by_cases h : n ≤ k
  · rw [splitD_low hx h, splitD_le (Nat.le_refl _)]
  · exact splitD_le (by omega) _
theorem splitD_big {j : Nat} {p : Nat × Nat} (hp : ps[j]? = some p) (hn : n ≤ j) (hw : p.1 < b + j ∧ p.2 < b + j) : ∀ {k : Nat}, j < k → splitD b ps n k [b + j] = splitD b ps n k [p.1, p.2]
  | 0, h => absurd h (Nat.not_lt_zero _)
  | k + 1, h => by
    have e1 : splitD b ps n (k + 1) [p.1, p.2] = splitD b ps n j [p.1] ++ splitD b ps n j [p.2] := by
      rw [show [p.1, p.2] = [p.1] ++ [p.2] from rfl, splitD_app, splitD_low hw.1 (by omega), splitD_low hw.2 (by omega)]
    by_cases c : j = k
    · subst c
      rw [e1, splitD, if_pos hn]
      have e : ps.getD j (0, 0) = p := by rw [List.getD_eq_getElem?_getD, hp]; rfl
      rw [e]
      show splitD b ps n j ((if b + j = b + j then [p.1, p.2] else [b + j]) ++ []) = _
      rw [if_pos rfl, ← splitD_app]; rfl
    · rw [e1, splitD, if_pos (by omega), apart_one (by omega), splitD_big hp hn hw (show j < k by omega)]
      rw [show [p.1, p.2] = [p.1] ++ [p.2] from rfl, splitD_app, splitD_low hw.1 (by omega), splitD_low hw.2 (by omega)]
theorem splitD_cut {row : List Nat} (hrow : ∀ x ∈ row, x < b) (hn : n ≤ ps.length) : ∀ k, k ≤ ps.length → n ≤ k → splitD b ps n k (cutL b (ps.take k) row) = cutL b (ps.take n) row
  | 0, _, h => by rw [Nat.le_zero.mp h]; rfl
  | k + 1, hk, h => by
    by_cases c : n = k + 1
    · rw [c, splitD_le (Nat.le_refl _)]
    · obtain ⟨p, hp⟩ : ∃ p, ps[k]? = some p := ⟨_, List.getElem?_eq_getElem (by omega)⟩
      have e : ps.getD k (0, 0) = p := by rw [List.getD_eq_getElem?_getD, hp]; rfl
      rw [splitD, if_pos (by omega), e, take_succ_of hp, cutL_snoc, take_len_of hp, apart_pass fun hm => ?_]
      · exact splitD_cut hrow hn k (by omega) (by omega)
      · rcases run_mem _ 0 _ hm with z | z
        · have := hrow _ z; omega
        · rw [take_len_of hp] at z; omega
theorem apart_text {ts : List (List Nat)} {m l r : Nat} (h : ts.getD m [] = ts.getD l [] ++ ts.getD r []) : ∀ row : List Nat, textR ts (apart m l r row) = textR ts row
  | [] => rfl
  | x :: t => by
    have app : ∀ u v : List Nat, textR ts (u ++ v) = textR ts u ++ textR ts v := fun u v => by unfold textR; rw [List.map_append, List.flatten_append]
    rw [apart_cons, app, apart_text h t, textR_cons ts x]
    split
    · rename_i e
      subst e
      rw [h]
      show (ts.getD l [] ++ (ts.getD r [] ++ [])) ++ _ = _
      rw [List.append_nil]
    · show (ts.getD x [] ++ []) ++ _ = _
      rw [List.append_nil]
theorem splitD_text {al : List Nat} (hw : WF al.length ps) : ∀ (k : Nat) (row : List Nat), k ≤ ps.length → textR (textsOf al ps) (splitD al.length ps n k row) = textR (textsOf al ps) row
  | 0, _, _ => rfl
  | k + 1, row, hk => by
    rw [splitD]
    split
    · obtain ⟨p, hp⟩ : ∃ p, ps[k]? = some p := ⟨_, List.getElem?_eq_getElem (by omega)⟩
      have e : ps.getD k (0, 0) = p := by rw [List.getD_eq_getElem?_getD, hp]; rfl
      rw [splitD_text hw k _ (by omega), e]
      exact apart_text (texts_at hw k p hp) row
    · rfl
theorem splitD_mem (hw : WF b ps) : ∀ (k : Nat) (row : List Nat), k ≤ ps.length → (∀ x ∈ row, x < b + ps.length) → ∀ x ∈ splitD b ps n k row, x < b + ps.length
  | 0, _, _, h => h
  | k + 1, row, hk, h => by
    rw [splitD]
    split
    · obtain ⟨p, hp⟩ : ∃ p, ps[k]? = some p := ⟨_, List.getElem?_eq_getElem (by omega)⟩
      have e : ps.getD k (0, 0) = p := by rw [List.getD_eq_getElem?_getD, hp]; rfl
      refine splitD_mem hw k _ (by omega) fun x hx => ?_
      rw [e] at hx
      obtain ⟨y, hy, hxy⟩ := List.mem_flatMap.mp hx
      have hwk := hw k p hp
      split at hxy
      · rcases List.mem_cons.mp hxy with z | z
        · omega
        · rw [List.mem_singleton.mp z]; omega
      · rw [List.mem_singleton.mp hxy]; exact h y hy
    · exact h
end RJ
end

section
set_option maxRecDepth 100000
namespace RJ
/-! ### spines, crossings and cuts -/
section
variable {b n : Nat} {ps : List (Nat × Nat)}
/-- a row taken back to stage n -/
def Dn (b : Nat) (ps : List (Nat × Nat)) (n : Nat) (row : List Nat) : List Nat := splitD b ps n ps.length row
theorem Dn_app (u v : List Nat) : Dn b ps n (u ++ v) = Dn b ps n u ++ Dn b ps n v := splitD_app _ _ _
theorem Dn_cons (x : Nat) (v : List Nat) : Dn b ps n (x :: v) = Dn b ps n [x] ++ Dn b ps n v := splitD_app _ [x] v
theorem Dn_nil : Dn b ps n [] = [] := splitD_nil _
theorem Dn_small {x : Nat} (hx : x < b + n) : Dn b ps n [x] = [x] := splitD_small hx _
theorem Dn_full (row : List Nat) : Dn b ps ps.length row = row := splitD_le (Nat.le_refl _) row
theorem Dn_big (hw : WF b ps) {j : Nat} {p : Nat × Nat} (hp : ps[j]? = some p) (hn : n ≤ j) : Dn b ps n [b + j] = Dn b ps n [p.1] ++ Dn b ps n [p.2] := by
  have hj := (List.getElem?_eq_some_iff.mp hp).1
  show splitD b ps n ps.length [b + j] = _
  rw [splitD_big hp hn (hw j p hp) hj, show [p.1, p.2] = [p.1] ++ [p.2] from rfl, splitD_app]; rfl
theorem Dn_cut {row : List Nat} (hrow : ∀ x ∈ row, x < b) (hn : n ≤ ps.length) : Dn b ps n (cutL b ps row) = cutL b (ps.take n) row := by
  have := splitD_cut (n := n) hrow hn ps.length (Nat.le_refl _) hn
  rw [List.take_length] at this
  exact this
theorem part_of {x : Nat} (h : x < b + ps.length) : x < b ∨ ∃ j p, x = b + j ∧ ps[j]? = some p := by
  by_cases c : x < b
  · exact .inl c
  · exact .inr ⟨x - b, _, by omega, List.getElem?_eq_getElem (by omega)⟩
theorem Dn_ne (hw : WF b ps) : ∀ (x : Nat), x < b + ps.length → ∃ y t, Dn b ps n [x] = y :: t := by
  intro x
  induction x using Nat.strongRecOn with
  | ind x ih =>
    intro hx
    by_cases c : x < b + n
    · exact ⟨x, [], Dn_small c⟩
    · rcases part_of hx with h | ⟨j, p, rfl, hp⟩
      · omega
      · have hj := hw j p hp
        obtain ⟨y, t, e⟩ := ih p.1 hj.1 (by omega)
        exact ⟨y, t ++ Dn b ps n [p.2], by rw [Dn_big hw hp (by omega), e]; rfl⟩
/-- lists in which each piece is the cut of its letters -/
structure Good (b : Nat) (ps : List (Nat × Nat)) : Prop where
  wf : WF b ps
  one : ∀ x, x < b + ps.length → cutL b ps (Dn b ps 0 [x]) = [x]
  low : ∀ x, x < b + ps.length → ∀ y ∈ Dn b ps 0 [x], y < b
theorem Good.st (G : Good b ps) {x : Nat} (hx : x < b + ps.length) (hn : n ≤ ps.length) : cutL b (ps.take n) (Dn b ps 0 [x]) = Dn b ps n [x] := by
  have := Dn_cut (G.low x hx) hn
  rw [G.one x hx] at this
  exact this.symm
theorem Good.lows (G : Good b ps) : ∀ {row : List Nat}, (∀ x ∈ row, x < b + ps.length) → ∀ y ∈ Dn b ps 0 row, y < b
  | [], _, y, h => by rw [Dn_nil] at h; cases h
  | x :: t, hx, y, h => by
    rw [Dn_cons] at h
    rcases List.mem_append.mp h with z | z
    · exact G.low x (hx x (List.mem_cons_self ..)) y z
    · exact G.lows (fun u hu => hx u (List.mem_cons_of_mem _ hu)) y z
theorem Good.next (G : Good b ps) {x : Nat} (hx : x < b + ps.length) {p : Nat × Nat} (hp : ps[n]? = some p) : pass p.1 p.2 (b + n) (Dn b ps n [x]) = Dn b ps (n + 1) [x] := by
  have hn := (List.getElem?_eq_some_iff.mp hp).1
  rw [← G.st hx (by omega), ← G.st hx (show n + 1 ≤ ps.length by omega), take_succ_of hp, cutL_snoc, take_len_of hp]
/-! passes over two rows -/
theorem last_cons {a : Nat} {l : List Nat} {x : Nat} (h : l.getLast? = some x) : (a :: l).getLast? = some x := by
  rw [List.getLast?_cons, h]; rfl
theorem pass_app {l r m : Nat} (v : List Nat) : ∀ (u : List Nat), ¬ ((pass l r m u).getLast? = some l ∧ v.head? = some r) → pass l r m (u ++ v) = pass l r m u ++ pass l r m v
  | [], _ => rfl
  | [a], h => by
    cases v with
    | nil => rfl
    | cons c t =>
      show pass l r m (a :: c :: t) = a :: pass l r m (c :: t)
      rw [pass, if_neg]
      rintro ⟨rfl, rfl⟩
      exact h ⟨rfl, rfl⟩
  | a :: c :: t, h => by
    show pass l r m (a :: c :: (t ++ v)) = pass l r m (a :: c :: t) ++ pass l r m v
    rw [pass] at h
    rw [pass, pass]
    by_cases q : a = l ∧ c = r
    · rw [if_pos q] at h
      rw [if_pos q, if_pos q, pass_app v t fun z => h ⟨last_cons z.1, z.2⟩]; rfl
    · rw [if_neg q] at h
      rw [if_neg q, if_neg q, show c :: (t ++ v) = (c :: t) ++ v from rfl, pass_app v (c :: t) fun z => h ⟨last_cons z.1, z.2⟩]; rfl
theorem last_cons_ne {m l : Nat} {x : List Nat} (hm : m ≠ l) (h : (m :: x).getLast? = some l) : x.getLast? = some l ∧ x ≠ [] := by
  cases x with
  | nil => exact absurd (Option.some.inj h) hm
  | cons y x =>
    rw [List.getLast?_cons_cons] at h
    exact ⟨h, List.cons_ne_nil _ _⟩
theorem pass_cross {l r m : Nat} (hm : m ≠ l) (t : List Nat) : ∀ (u : List Nat), (pass l r m u).getLast? = some l → pass l r m (u ++ r :: t) = (pass l r m u).dropLast ++ m :: pass l r m t
  | [], h => by cases h
  | [a], h => by
    have e : a = l := Option.some.inj h
    subst e
    show pass a r m (a :: r :: t) = m :: pass a r m t
    rw [pass, if_pos ⟨rfl, rfl⟩]
  | a :: c :: u, h => by
    show pass l r m (a :: c :: (u ++ r :: t)) = _
    rw [pass] at h
    rw [pass, pass]
    by_cases q : a = l ∧ c = r
    · rw [if_pos q] at h
      rw [if_pos q, if_pos q]
      obtain ⟨h1, h2⟩ := last_cons_ne hm h
      rw [pass_cross hm t u h1, List.dropLast_cons_of_ne_nil h2]; rfl
    · rw [if_neg q] at h
      rw [if_neg q, if_neg q]
      obtain ⟨y, s, e, _⟩ := pass_head (l := l) (r := r) (m := m) (a := c) (t := u)
      have h2 : pass l r m (c :: u) ≠ [] := by rw [e]; exact List.cons_ne_nil _ _
      have h1 : (pass l r m (c :: u)).getLast? = some l := by
        rw [e] at h ⊢
        rwa [List.getLast?_cons_cons] at h
      rw [show c :: (u ++ r :: t) = (c :: u) ++ r :: t from rfl, pass_cross hm t (c :: u) h1, List.dropLast_cons_of_ne_nil h2]; rfl
/-! spines -/
inductive Spn (b : Nat) (ps : List (Nat × Nat)) (sd : Nat × Nat → Nat) (x : Nat) : Nat → Option Nat → Prop
  | self : Spn b ps sd x x none
  | step {j : Nat} {p : Nat × Nat} {bd : Option Nat} : Spn b ps sd x (b + j) bd → ps[j]? = some p → Spn b ps sd x (sd p) (some j)
/-- n is not beyond the bound -/
def upTo (n : Nat) (bd : Option Nat) : Prop := ∀ k, bd = some k → n ≤ k
def Side (sd : Nat × Nat → Nat) : Prop := ∀ p, sd p = p.1 ∨ sd p = p.2
theorem side1 : Side Prod.fst := fun _ => .inl rfl
theorem side2 : Side Prod.snd := fun _ => .inr rfl
theorem Spn.lt {sd : Nat × Nat → Nat} (hs : Side sd) (hw : WF b ps) {x y k : Nat} (h : Spn b ps sd x y (some k)) : y < b + k ∧ k < ps.length := by
  cases h with
  | step h hp =>
    have := hw _ _ hp
    refine ⟨?_, (List.getElem?_eq_some_iff.mp hp).1⟩
    rcases hs ‹_› with e | e <;> rw [e] <;> omega
theorem Spn.mem {sd : Nat × Nat → Nat} (hs : Side sd) (hw : WF b ps) {x y : Nat} {bd : Option Nat} (hx : x < b + ps.length) (h : Spn b ps sd x y bd) : y < b + ps.length := by
  cases bd with
  | none => cases h; exact hx
  | some k => have := h.lt hs hw; omega
theorem Spn.ahead {sd : Nat × Nat → Nat} {j y : Nat} {p : Nat × Nat} {bd : Option Nat} (hp : ps[j]? = some p) (h : Spn b ps sd (sd p) y bd) : Spn b ps sd (b + j) y (some (bd.getD j)) := by
  induction h with
  | self => exact .step .self hp
  | step h hq ih => exact .step ih hq
theorem Spn.last (hw : WF b ps) {x y : Nat} {bd : Option Nat} (h : Spn b ps Prod.snd x y bd) : upTo n bd → ∃ pre, Dn b ps n [x] = pre ++ Dn b ps n [y] := by
  induction h with
  | self => exact fun _ => ⟨[], rfl⟩
  | step h hp ih =>
    rename_i j p bd
    intro hu
    have hj := hu j rfl
    obtain ⟨pre, e⟩ := ih fun k ek => by
      subst ek
      have := (h.lt side2 hw).1
      omega
    exact ⟨pre ++ Dn b ps n [p.1], by rw [e, Dn_big hw hp hj, List.append_assoc]⟩
theorem Spn.first (hw : WF b ps) {x y : Nat} {bd : Option Nat} (h : Spn b ps Prod.fst x y bd) : upTo n bd → ∃ post, Dn b ps n [x] = Dn b ps n [y] ++ post := by
  induction h with
  | self => exact fun _ => ⟨[], (List.append_nil _).symm⟩
  | step h hp ih =>
    rename_i j p bd
    intro hu
    have hj := hu j rfl
    obtain ⟨post, e⟩ := ih fun k ek => by
      subst ek
      have := (h.lt side1 hw).1
      omega
    exact ⟨Dn b ps n [p.2] ++ post, by rw [e, Dn_big hw hp hj, List.append_assoc]⟩
theorem getLast_app {u v : List Nat} {x : Nat} (h : v.getLast? = some x) : (u ++ v).getLast? = some x := by
  rw [List.getLast?_append, h]; rfl
theorem head_app {u v : List Nat} {x : Nat} (h : u.head? = some x) : (u ++ v).head? = some x := by
  cases u with
  | nil => cases h
  | cons a u => exact h
theorem last_ex (hw : WF b ps) : ∀ (x : Nat), x < b + ps.length → ∃ y bd, Spn b ps Prod.snd x y bd ∧ upTo n bd ∧ (Dn b ps n [x]).getLast? = some y := by
  intro x
  induction x using Nat.strongRecOn with
  | ind x ih =>
    intro hx
    by_cases c : x < b + n
    · exact ⟨x, none, .self, (fun k e => by cases e), by rw [Dn_small c]; rfl⟩
    · rcases part_of hx with h | ⟨j, p, rfl, hp⟩
      · omega
      · have hj := hw j p hp
        obtain ⟨y, bd, h1, h2, h3⟩ := ih p.2 hj.2 (by omega)
        refine ⟨y, _, h1.ahead hp, fun k e => ?_, ?_⟩
        · have e' : bd.getD j = k := Option.some.inj e
          cases bd with
          | none => have : j = k := e'; omega
          | some i => have : i = k := e'; have := h2 i rfl; omega
        · rw [Dn_big hw hp (by omega)]
          exact getLast_app h3
theorem first_ex (hw : WF b ps) : ∀ (x : Nat), x < b + ps.length → ∃ y bd, Spn b ps Prod.fst x y bd ∧ upTo n bd ∧ (Dn b ps n [x]).head? = some y := by
  intro x
  induction x using Nat.strongRecOn with
  | ind x ih =>
    intro hx
    by_cases c : x < b + n
    · exact ⟨x, none, .self, (fun k e => by cases e), by rw [Dn_small c]; rfl⟩
    · rcases part_of hx with h | ⟨j, p, rfl, hp⟩
      · omega
      · have hj := hw j p hp
        obtain ⟨y, bd, h1, h2, h3⟩ := ih p.1 hj.1 (by omega)
        refine ⟨y, _, h1.ahead hp, fun k e => ?_, ?_⟩
        · have e' : bd.getD j = k := Option.some.inj e
          cases bd with
          | none => have : j = k := e'; omega
          | some i => have : i = k := e'; have := h2 i rfl; omega
        · rw [Dn_big hw hp (by omega)]
          exact head_app h3
/-- the join of rank r puts letters of x and y together, where x stands ahead of y -/
def Cross (b : Nat) (ps : List (Nat × Nat)) (x y r : Nat) : Prop := ∃ (p : Nat × Nat) (bx by' : Option Nat), ps[r]? = some p ∧ Spn b ps Prod.snd x p.1 bx ∧ Spn b ps Prod.fst y p.2 by' ∧ upTo (r + 1) bx ∧ upTo r by'
theorem Cross.lt {x y r : Nat} (h : Cross b ps x y r) : r < ps.length := by
  obtain ⟨p, _, _, hp, _⟩ := h
  exact (List.getElem?_eq_some_iff.mp hp).1
theorem cross_iff (hw : WF b ps) {x y r : Nat} (hx : x < b + ps.length) (hy : y < b + ps.length) : Cross b ps x y r ↔ ∃ p, ps[r]? = some p ∧ (Dn b ps (r + 1) [x]).getLast? = some p.1 ∧ (Dn b ps r [y]).head? = some p.2 := by
  constructor
  · rintro ⟨p, bx, by', hp, h1, h2, u1, u2⟩
    have hpw := hw r p hp
    obtain ⟨pre, e1⟩ := h1.last hw u1
    obtain ⟨post, e2⟩ := h2.first hw u2
    refine ⟨p, hp, ?_, ?_⟩
    · rw [e1, Dn_small (by omega)]; exact getLast_app rfl
    · rw [e2, Dn_small (by omega)]; rfl
  · rintro ⟨p, hp, h1, h2⟩
    obtain ⟨u, bx, a1, a2, a3⟩ := last_ex (n := r + 1) hw x hx
    obtain ⟨v, by', b1, b2, b3⟩ := first_ex (n := r) hw y hy
    rw [h1] at a3
    rw [h2] at b3
    cases a3
    cases b3
    exact ⟨p, bx, by', hp, a1, b1, a2, b2⟩
/-- all adjacent pieces stay apart at rank n -/
def Still (b : Nat) (ps : List (Nat × Nat)) (n : Nat) (row : List Nat) : Prop := ∀ q ∈ adjs row, ¬ Cross b ps q.1 q.2 n
theorem Still.tail {x : Nat} {t : List Nat} (h : Still b ps n (x :: t)) : Still b ps n t := fun q hq => h q (mem_adjs_cons hq)
theorem Still.left {u v : List Nat} (h : Still b ps n (u ++ v)) : Still b ps n u := fun q hq => h q (adjs_sub_left hq)
theorem pass_row (G : Good b ps) {p : Nat × Nat} (hp : ps[n]? = some p) : ∀ {row : List Nat}, (∀ x ∈ row, x < b + ps.length) → Still b ps n row → pass p.1 p.2 (b + n) (Dn b ps n row) = Dn b ps (n + 1) row
  | [], _, _ => by rw [Dn_nil, Dn_nil]; rfl
  | [x], hx, _ => G.next (hx x (List.mem_cons_self ..)) hp
  | x :: y :: t, hx, hs => by
    have hx0 := hx x (List.mem_cons_self ..)
    have hy0 := hx y (List.mem_cons_of_mem _ (List.mem_cons_self ..))
    rw [Dn_cons, Dn_cons x (y :: t), pass_app, G.next hx0 hp, pass_row G hp (fun u hu => hx u (List.mem_cons_of_mem _ hu)) hs.tail]
    rw [G.next hx0 hp]
    rintro ⟨h1, h2⟩
    refine hs (x, y) (by rw [adjs_cons2]; exact List.mem_cons_self ..) ((cross_iff G.wf hx0 hy0).mpr ⟨p, hp, h1, ?_⟩)
    obtain ⟨z, s, e⟩ := Dn_ne (n := n) G.wf y hy0
    rw [Dn_cons, e] at h2
    rw [e]; exact h2
/-- as long as nothing crosses, each piece is staged by itself -/
theorem stage_row (G : Good b ps) {row : List Nat} (hx : ∀ x ∈ row, x < b + ps.length) : ∀ n, n ≤ ps.length → (∀ r, r < n → Still b ps r row) → cutL b (ps.take n) (Dn b ps 0 row) = Dn b ps n row
  | 0, _, _ => rfl
  | n + 1, hn, hs => by
    obtain ⟨p, hp⟩ : ∃ p, ps[n]? = some p := ⟨_, List.getElem?_eq_getElem (by omega)⟩
    rw [take_succ_of hp, cutL_snoc, take_len_of hp, stage_row G hx n (by omega) fun r hr => hs r (by omega), pass_row G hp hx (hs n (by omega))]
/-- the first pair of adjacent ones that is not still -/
theorem first_cross {row : List Nat} (h : ¬ Still b ps n row) : ∃ u x y v, row = u ++ x :: y :: v ∧ Cross b ps x y n ∧ Still b ps n (u ++ [x]) := by
  induction row with
  | nil => exact absurd (fun q hq => by cases hq) h
  | cons a t ih =>
    cases t with
    | nil => exact absurd (fun q hq => by cases hq) h
    | cons c t =>
      by_cases k : Cross b ps a c n
      · exact ⟨[], a, c, t, rfl, k, fun q hq => by cases hq⟩
      · have h2 : ¬ Still b ps n (c :: t) := fun hs => h fun q hq => by
          rw [adjs_cons2] at hq
          rcases List.mem_cons.mp hq with z | z
          · rw [z]; exact k
          · exact hs q z
        obtain ⟨u, x, y, v, e, h3, h4⟩ := ih h2
        refine ⟨a :: u, x, y, v, by rw [e]; rfl, h3, ?_⟩
        cases u with
        | nil =>
          injection e with e1 e2
          subst e1
          intro q hq
          have hq' : q ∈ [(a, c)] := hq
          rw [List.mem_singleton.mp hq']; exact k
        | cons d u =>
          injection e with e1 e2
          subst e1
          intro q hq
          have hq' : q ∈ (a, c) :: adjs (c :: u ++ [x]) := hq
          rcases List.mem_cons.mp hq' with z | z
          · rw [z]; exact k
          · exact h4 q z
/-- what the pass at a crossing makes -/
theorem pass_at_cross (G : Good b ps) {p : Nat × Nat} (hp : ps[n]? = some p) {u v : List Nat} {x y : Nat} (hx : ∀ z ∈ u ++ x :: y :: v, z < b + ps.length) (hc : Cross b ps x y n) (hs : Still b ps n (u ++ [x])) :
    ∃ t, (Dn b ps n (y :: v)) = p.2 :: t ∧ (Dn b ps (n + 1) (u ++ [x])).getLast? = some p.1 ∧ pass p.1 p.2 (b + n) (Dn b ps n (u ++ x :: y :: v)) = (Dn b ps (n + 1) (u ++ [x])).dropLast ++ (b + n) :: pass p.1 p.2 (b + n) t := by
  have hx0 : x < b + ps.length := hx x (by simp)
  have hy0 : y < b + ps.length := hx y (by simp)
  obtain ⟨p', hp', h1, h2⟩ := (cross_iff G.wf hx0 hy0).mp hc
  rw [hp] at hp'
  cases hp'
  obtain ⟨z, s, e⟩ := Dn_ne (n := n) G.wf y hy0
  rw [e] at h2
  have ez : z = p.2 := Option.some.inj h2
  subst ez
  have hl : (Dn b ps (n + 1) (u ++ [x])).getLast? = some p.1 := by rw [Dn_app]; exact getLast_app h1
  have hd : Dn b ps n (y :: v) = p.2 :: (s ++ Dn b ps n v) := by rw [Dn_cons, e]; rfl
  refine ⟨_, hd, hl, ?_⟩
  have hpass := pass_row G hp (row := u ++ [x]) (fun z hz => hx z (by
    rcases List.mem_append.mp hz with w | w
    · exact List.mem_append_left _ w
    · rw [List.mem_singleton.mp w]; simp)) hs
  have hm : b + n ≠ p.1 := by have := (G.wf n p hp).1; omega
  rw [show u ++ x :: y :: v = (u ++ [x]) ++ y :: v by simp, Dn_app, hd, pass_cross hm _ _ (by rw [hpass]; exact hl), hpass]
/-- a row of pieces is the cut of its letters if and only if no two neighbors cross -/
theorem cut_row_iff (G : Good b ps) {row : List Nat} (hx : ∀ x ∈ row, x < b + ps.length) : cutL b ps (Dn b ps 0 row) = row ↔ ∀ q ∈ adjs row, ∀ r, ¬ Cross b ps q.1 q.2 r := by
  constructor
  · intro h q hq r hc
    have hr := hc.lt
    obtain ⟨p, hp⟩ : ∃ p, ps[r]? = some p := ⟨_, List.getElem?_eq_getElem hr⟩
    have hns : ¬ Still b ps r row := fun hs => hs q hq hc
    obtain ⟨u, x, y, v, rfl, hc', hs'⟩ := first_cross hns
    obtain ⟨t, h1, h2, h3⟩ := pass_at_cross G hp hx hc' hs'
    have lows := G.lows hx
    have e1 := Dn_cut (n := r) (ps := ps) lows (by omega)
    have e2 := Dn_cut (n := r + 1) (ps := ps) lows (by omega)
    rw [h] at e1 e2
    rw [take_succ_of hp, cutL_snoc, take_len_of hp, ← e1, h3, show u ++ x :: y :: v = (u ++ [x]) ++ y :: v by simp, Dn_app] at e2
    obtain ⟨ys, ey⟩ := List.getLast?_eq_some_iff.mp h2
    rw [ey, List.dropLast_concat, List.append_assoc] at e2
    have e3 := List.append_cancel_left e2
    injection e3 with e4 e5
    have := (G.wf r p hp).1
    omega
  · intro h
    have := stage_row G hx ps.length (Nat.le_refl _) fun r _ q hq => h q hq r
    rwa [List.take_length, Dn_full] at this
/-- and at the first crossing there is no seam left -/
theorem cross_first (G : Good b ps) {x y c : Nat} (hx : x < b + ps.length) (hy : y < b + ps.length) (hc : Cross b ps x y c) (hno : ∀ r, r < c → ¬ Cross b ps x y r) :
    ∃ A B p, ps[c]? = some p ∧ Dn b ps (c + 1) [x] = A ++ [p.1] ∧ cutL b (ps.take (c + 1)) (Dn b ps 0 [x, y]) = A ++ (b + c) :: B := by
  have hcl := hc.lt
  obtain ⟨p, hp⟩ : ∃ p, ps[c]? = some p := ⟨_, List.getElem?_eq_getElem hcl⟩
  have hxy : ∀ z ∈ [x, y], z < b + ps.length := fun z hz => by
    rcases List.mem_cons.mp hz with w | w
    · rw [w]; exact hx
    · rw [List.mem_singleton.mp w]; exact hy
  obtain ⟨t, h1, h2, h3⟩ := pass_at_cross (u := []) (v := []) G hp hxy hc (fun q hq => by cases hq)
  obtain ⟨ys, ey⟩ := List.getLast?_eq_some_iff.mp h2
  refine ⟨ys, pass p.1 p.2 (b + c) t, p, hp, ey, ?_⟩
  rw [take_succ_of hp, cutL_snoc, take_len_of hp, stage_row G hxy c (by omega) fun r hr q hq => by
    have hq' : q ∈ [(x, y)] := hq
    rw [List.mem_singleton.mp hq']; exact hno r hr]
  rw [show [x, y] = [] ++ x :: y :: [] from rfl, h3, ey, List.dropLast_concat]
end
/-- proper lists are good ones -/
theorem Dn_text {al : List Nat} (hal : al.Nodup) {ps : List (Nat × Nat)} (h : Proper al ps) {x : Nat} (hx : x < al.length + ps.length) : Dn al.length ps 0 [x] = lets al ((textsOf al ps).getD x []) := by
  have ht : (textsOf al ps)[x]? = some ((textsOf al ps).getD x []) := by
    rw [List.getD_eq_getElem?_getD, List.getElem?_eq_getElem (by rw [textsOf_len]; exact hx)]; rfl
  have hm : ∀ c ∈ (textsOf al ps).getD x [], c ∈ al := textsOf_al _ (List.mem_of_getElem? ht)
  have := Dn_cut (n := 0) (ps := ps) (lets_lt hm) (Nat.zero_le _)
  rw [cut_piece hal h x _ ht] at this
  exact this
theorem lets_app (al u v : List Nat) : lets al (u ++ v) = lets al u ++ lets al v := List.map_append
theorem Dn_texts {al : List Nat} (hal : al.Nodup) {ps : List (Nat × Nat)} (h : Proper al ps) : ∀ {row : List Nat}, (∀ x ∈ row, x < al.length + ps.length) → Dn al.length ps 0 row = lets al (textR (textsOf al ps) row)
  | [], _ => Dn_nil
  | x :: t, hx => by
    rw [Dn_cons, Dn_text hal h (hx x (List.mem_cons_self ..)), Dn_texts hal h fun u hu => hx u (List.mem_cons_of_mem _ hu), textR_cons, lets_app]
theorem Proper.good {al : List Nat} (hal : al.Nodup) {ps : List (Nat × Nat)} (h : Proper al ps) : Good al.length ps where
  wf := h.wf
  one := fun x hx => by
    rw [Dn_text hal h hx]
    exact cut_piece hal h x _ (by rw [List.getD_eq_getElem?_getD, List.getElem?_eq_getElem (by rw [textsOf_len]; exact hx)]; rfl)
  low := fun x hx => by
    rw [Dn_text hal h hx]
    exact lets_lt (textsOf_al _ (List.mem_of_getElem? (i := x) (by rw [List.getD_eq_getElem?_getD, List.getElem?_eq_getElem (by rw [textsOf_len]; exact hx)]; rfl)))
section
variable {b : Nat} {ps : List (Nat × Nat)} {sd : Nat × Nat → Nat}
theorem Spn.zero {x y : Nat} {bd : Option Nat} (h : Spn b ps sd x y bd) (e : bd = none) : y = x := by
  cases h with
  | self => rfl
  | step h hp => cases e
theorem Spn.up {x y k : Nat} (h : Spn b ps sd x y (some k)) : b ≤ x := by
  have key : ∀ y bd, Spn b ps sd x y bd → bd = none ∨ b ≤ x := by
    intro y bd h
    induction h with
    | self => exact .inl rfl
    | step h hp ih =>
      rcases ih with e | e
      · have := h.zero e
        exact .inr (by omega)
      · exact .inr e
  rcases key _ _ h with e | e
  · cases e
  · exact e
theorem Spn.down {j y : Nat} {p : Nat × Nat} {bd : Option Nat} (hp : ps[j]? = some p) (h : Spn b ps sd (b + j) y bd) : bd = none ∨ (y = sd p ∧ bd = some j) ∨ ∃ k, bd = some k ∧ Spn b ps sd (sd p) y (some k) := by
  generalize e : b + j = x at h
  induction h with
  | self => exact .inl rfl
  | step h hq ih =>
    rename_i j' q bd0
    refine .inr ?_
    rcases ih with e1 | ⟨e1, e2⟩ | ⟨k, e1, e2⟩
    · have e0 := h.zero e1
      have ej : j = j' := by omega
      subst ej
      rw [hp] at hq
      cases hq
      exact .inl ⟨rfl, rfl⟩
    · refine .inr ⟨j', rfl, ?_⟩
      exact .step (by rw [e1]; exact .self) hq
    · exact .inr ⟨j', rfl, .step e2 hq⟩
/-- all of a spine -/
structure IsSpine (b : Nat) (ps : List (Nat × Nat)) (sd : Nat × Nat → Nat) (x : Nat) (es : List (Nat × Option Nat)) : Prop where
  ok : ∀ e ∈ es, Spn b ps sd x e.1 e.2
  all : ∀ y bd, Spn b ps sd x y bd → (y, bd) ∈ es
/-- the spine up to a last one -/
structure IsSpineTo (b : Nat) (ps : List (Nat × Nat)) (sd : Nat × Nat → Nat) (x : Nat) (es : List (Nat × Option Nat)) (last : Nat) : Prop where
  ok : ∀ e ∈ es, Spn b ps sd x e.1 e.2
  all : ∀ y bd, Spn b ps sd x y bd → (y, bd) ∈ es ∨ ∃ k, bd = some k ∧ Spn b ps sd last y (some k)
  at_ : ∃ bd, (last, bd) ∈ es
theorem IsSpineTo.start (x : Nat) : IsSpineTo b ps sd x [(x, none)] x where
  ok := fun e he => by rw [List.mem_singleton.mp he]; exact .self
  all := fun y bd h => by
    cases bd with
    | none => cases h; exact .inl (List.mem_cons_self ..)
    | some k => exact .inr ⟨k, rfl, h⟩
  at_ := ⟨none, List.mem_cons_self ..⟩
theorem IsSpineTo.next {x j : Nat} {p : Nat × Nat} {es : List (Nat × Option Nat)} (h : IsSpineTo b ps sd x es (b + j)) (hp : ps[j]? = some p) : IsSpineTo b ps sd x (es ++ [(sd p, some j)]) (sd p) where
  ok := fun e he => by
    rcases List.mem_append.mp he with z | z
    · exact h.ok e z
    · rw [List.mem_singleton.mp z]
      obtain ⟨bd, hb⟩ := h.at_
      exact .step (h.ok _ hb) hp
  all := fun y bd hy => by
    rcases h.all y bd hy with z | ⟨k, e, z⟩
    · exact .inl (List.mem_append_left _ z)
    · subst e
      rcases z.down hp with e1 | ⟨e1, e2⟩ | ⟨k', e1, e2⟩
      · cases e1
      · cases e2
        subst e1
        exact .inl (List.mem_append_right _ (List.mem_singleton.mpr rfl))
      · cases e1
        exact .inr ⟨k, rfl, e2⟩
  at_ := ⟨some j, List.mem_append_right _ (List.mem_singleton.mpr rfl)⟩
theorem IsSpineTo.done {x last : Nat} {es : List (Nat × Option Nat)} (h : IsSpineTo b ps sd x es last) (hl : last < b) : IsSpine b ps sd x es where
  ok := h.ok
  all := fun y bd hy => by
    rcases h.all y bd hy with z | ⟨k, e, z⟩
    · exact z
    · have := z.up; omega
/-- the first crossing, if any -/
def CrossIs (b : Nat) (ps : List (Nat × Nat)) (x y : Nat) : Option Nat → Prop
  | none => ∀ r, ¬ Cross b ps x y r
  | some c => Cross b ps x y c ∧ ∀ r, r < c → ¬ Cross b ps x y r
theorem CrossIs.uniq {x y : Nat} : ∀ {c d : Option Nat}, CrossIs b ps x y c → CrossIs b ps x y d → c = d
  | none, none, _, _ => rfl
  | none, some d, h, k => absurd k.1 (h d)
  | some c, none, h, k => absurd h.1 (k c)
  | some c, some d, h, k => by
    rcases Nat.lt_trichotomy c d with z | z | z
    · exact absurd h.1 (k.2 c z)
    · rw [z]
    · exact absurd k.1 (h.2 d z)
theorem least_ex {P : Nat → Prop} (h : ∃ n, P n) : ∃ n, P n ∧ ∀ m, m < n → ¬ P m := by
  obtain ⟨n, hn⟩ := h
  induction n using Nat.strongRecOn with
  | ind n ih =>
    by_cases c : ∃ m, m < n ∧ P m
    · obtain ⟨m, hm, hp⟩ := c
      exact ih m hm hp
    · exact ⟨n, hn, fun m hm hp => c ⟨m, hm, hp⟩⟩
theorem CrossIs.ex (b : Nat) (ps : List (Nat × Nat)) (x y : Nat) : ∃ c, CrossIs b ps x y c := by
  by_cases h : ∃ r, Cross b ps x y r
  · obtain ⟨c, h1, h2⟩ := least_ex h
    exact ⟨some c, h1, h2⟩
  · exact ⟨none, fun r hr => h ⟨r, hr⟩⟩
end
theorem Proper.fresh {al : List Nat} {ps : List (Nat × Nat)} (h : Proper al ps) {i : Nat} {p : Nat × Nat} (hp : ps[i]? = some p) : p ∉ ps.take i := fun hm => by
  obtain ⟨h1, h2, h3, h4⟩ := h i p hp
  have := cut_clean (h.take i).wf (lets al ((textsOf al (ps.take i)).getD p.1 [] ++ (textsOf al (ps.take i)).getD p.2 [])) _ hm
  rw [h4] at this
  exact this (by show (p.1, p.2) ∈ [(p.1, p.2)]; exact List.mem_cons_self ..)
theorem Proper.idx {al : List Nat} {ps : List (Nat × Nat)} (h : Proper al ps) {i : Nat} {p : Nat × Nat} (hp : ps[i]? = some p) : ps.idxOf p = i := by
  have hm : p ∈ ps := List.mem_of_getElem? hp
  have h1 : ps.idxOf p < ps.length := List.idxOf_lt_length_iff.mpr hm
  have h2 : ps[ps.idxOf p]? = some p := by rw [List.getElem?_eq_getElem h1, List.getElem_idxOf h1]
  rcases Nat.lt_trichotomy (ps.idxOf p) i with z | z | z
  · refine absurd ?_ (h.fresh hp)
    refine List.mem_of_getElem? (i := ps.idxOf p) ?_
    rw [List.getElem?_take, if_pos z]; exact h2
  · exact z
  · refine absurd ?_ (h.fresh h2)
    refine List.mem_of_getElem? (i := i) ?_
    rw [List.getElem?_take, if_pos z]; exact hp
/-! ### places behind pieces -/
def marks (ts : List (List Nat)) : Nat → List Nat → List Nat
  | _, [] => []
  | a, x :: t => (a + (ts.getD x []).length) :: marks ts (a + (ts.getD x []).length) t
def szR (ts : List (List Nat)) (row : List Nat) : Nat := (textR ts row).length
theorem szR_cons (ts : List (List Nat)) (x : Nat) (t : List Nat) : szR ts (x :: t) = (ts.getD x []).length + szR ts t := by
  unfold szR
  rw [textR_cons, List.length_append]
theorem textR_app (ts : List (List Nat)) (u v : List Nat) : textR ts (u ++ v) = textR ts u ++ textR ts v := by
  unfold textR; rw [List.map_append, List.flatten_append]
theorem szR_app (ts : List (List Nat)) (u v : List Nat) : szR ts (u ++ v) = szR ts u + szR ts v := by
  unfold szR; rw [textR_app, List.length_append]
theorem marks_app (ts : List (List Nat)) : ∀ (u v : List Nat) (a : Nat), marks ts a (u ++ v) = marks ts a u ++ marks ts (a + szR ts u) v
  | [], v, a => by show marks ts a v = marks ts (a + 0) v; rw [Nat.add_zero]
  | x :: u, v, a => by
    show (a + (ts.getD x []).length) :: marks ts (a + (ts.getD x []).length) (u ++ v) = (a + (ts.getD x []).length) :: (marks ts _ u ++ _)
    rw [marks_app ts u v, szR_cons, Nat.add_assoc]
theorem marks_le {ts : List (List Nat)} : ∀ {row : List Nat} {a n : Nat}, n ∈ marks ts a row → a ≤ n ∧ n ≤ a + szR ts row
  | [], _, _, h => by cases h
  | x :: t, a, n, h => by
    rw [szR_cons]
    rcases List.mem_cons.mp h with z | z
    · omega
    · have := marks_le z; omega
theorem marks_end {ts : List (List Nat)} : ∀ {row : List Nat} {a : Nat}, row ≠ [] → a + szR ts row ∈ marks ts a row
  | [], _, h => absurd rfl h
  | [x], a, _ => by
    rw [szR_cons]
    exact List.mem_cons_self ..
  | x :: y :: t, a, _ => by
    rw [szR_cons, ← Nat.add_assoc]
    exact List.mem_cons_of_mem _ (marks_end (row := y :: t) (List.cons_ne_nil _ _))
theorem marks_len (ts : List (List Nat)) : ∀ (row : List Nat) (a : Nat), (marks ts a row).length = row.length
  | [], _ => rfl
  | x :: t, a => congrArg (· + 1) (marks_len ts t _)
theorem texts_pos {al : List Nat} {ps : List (Nat × Nat)} (hw : WF al.length ps) : ∀ (x : Nat), x < al.length + ps.length → 0 < ((textsOf al ps).getD x []).length := by
  intro x
  induction x using Nat.strongRecOn with
  | ind x ih =>
    intro hx
    rcases part_of hx with h | ⟨j, p, rfl, hp⟩
    · rw [texts_letter (List.getElem?_eq_getElem h)]; exact Nat.one_pos
    · have hj := hw j p hp
      rw [texts_at hw j p hp, List.length_append]
      have := ih p.1 hj.1 (by omega)
      omega
theorem Dn_size {al : List Nat} {ps : List (Nat × Nat)} (hw : WF al.length ps) (n x : Nat) : szR (textsOf al ps) (Dn al.length ps n [x]) = ((textsOf al ps).getD x []).length := by
  unfold szR Dn
  rw [splitD_text hw _ _ (Nat.le_refl _)]
  show (((textsOf al ps).getD x []) ++ []).length = _
  rw [List.append_nil]
/-- as long as nothing crosses there is a seam -/
theorem seam_of_still {al : List Nat} {ps : List (Nat × Nat)} (hal : al.Nodup) (h : Proper al ps) {x y n : Nat} (hx : x < al.length + ps.length) (hy : y < al.length + ps.length) (hn : n ≤ ps.length) (hno : ∀ r, r < n → ¬ Cross al.length ps x y r) :
    ((textsOf al ps).getD x []).length ∈ marks (textsOf al ps) 0 (cutL al.length (ps.take n) (Dn al.length ps 0 [x, y])) := by
  rw [stage_row (h.good hal) (row := [x, y]) (fun z hz => by
    rcases List.mem_cons.mp hz with w | w
    · rw [w]; exact hx
    · rw [List.mem_singleton.mp w]; exact hy) n hn fun r hr q hq => by
    have hq' : q ∈ [(x, y)] := hq
    rw [List.mem_singleton.mp hq']; exact hno r hr]
  rw [Dn_cons, marks_app, ← Dn_size h.wf n x, ← Nat.zero_add (szR _ _)]
  refine List.mem_append_left _ (marks_end ?_)
  obtain ⟨z, s, e⟩ := Dn_ne (n := n) h.wf x hx
  rw [e]; exact List.cons_ne_nil _ _
/-- and at the first crossing there is none -/
theorem no_seam {al : List Nat} {ps : List (Nat × Nat)} (hal : al.Nodup) (h : Proper al ps) {x y c : Nat} (hx : x < al.length + ps.length) (hy : y < al.length + ps.length) (hc : Cross al.length ps x y c) (hno : ∀ r, r < c → ¬ Cross al.length ps x y r) :
    ((textsOf al ps).getD x []).length ∉ marks (textsOf al ps) 0 (cutL al.length (ps.take (c + 1)) (Dn al.length ps 0 [x, y])) := by
  obtain ⟨A, B, p, hp, e1, e2⟩ := cross_first (h.good hal) hx hy hc hno
  have hw := h.wf
  have hpw := hw c p hp
  have hcl := (List.getElem?_eq_some_iff.mp hp).1
  have hsz : ((textsOf al ps).getD x []).length = szR (textsOf al ps) A + ((textsOf al ps).getD p.1 []).length := by
    rw [← Dn_size hw (c + 1) x, e1, szR_app, szR_cons]; rfl
  have p1 := texts_pos hw p.1 (by omega)
  have p2 := texts_pos hw p.2 (by omega)
  intro hm
  rw [e2, marks_app] at hm
  rcases List.mem_append.mp hm with z | z
  · have := marks_le z; omega
  · have hlen : ((textsOf al ps).getD (al.length + c) []).length = ((textsOf al ps).getD p.1 []).length + ((textsOf al ps).getD p.2 []).length := by rw [texts_at hw c p hp, List.length_append]
    rcases List.mem_cons.mp z with w | w
    · omega
    · have := marks_le w; omega
/-- the cut of two pieces' text -/
theorem cut_pair_iff {al : List Nat} {ps : List (Nat × Nat)} (hal : al.Nodup) (h : Proper al ps) {x y : Nat} (hx : x < al.length + ps.length) (hy : y < al.length + ps.length) {c : Option Nat} (hc : CrossIs al.length ps x y c) :
    cutL al.length ps (lets al ((textsOf al ps).getD x [] ++ (textsOf al ps).getD y [])) = [x, y] ↔ c = none := by
  have hxy : ∀ z ∈ [x, y], z < al.length + ps.length := fun z hz => by
    rcases List.mem_cons.mp hz with w | w
    · rw [w]; exact hx
    · rw [List.mem_singleton.mp w]; exact hy
  have e : Dn al.length ps 0 [x, y] = lets al ((textsOf al ps).getD x [] ++ (textsOf al ps).getD y []) := by
    rw [Dn_texts hal h hxy, textR_cons, textR_cons]
    show lets al (_ ++ (_ ++ [])) = _
    rw [List.append_nil]
  rw [← e, cut_row_iff (h.good hal) hxy]
  constructor
  · intro hn
    cases c with
    | none => rfl
    | some c => exact absurd hc.1 (hn (x, y) (by show (x, y) ∈ [(x, y)]; exact List.mem_cons_self ..) c)
  · intro e q hq r
    subst e
    have hq' : q ∈ [(x, y)] := hq
    rw [List.mem_singleton.mp hq']; exact hc r
end RJ
end

section
set_option maxRecDepth 100000
namespace RJ
open PySem PySem.Spec PyProof.Rows L2
/-- what an iterator at it draws: n items, the i-th one PV i; G: what must stay tracked -/
structure DrawK (P : Program) (w : World) (K : PySem.W.Frag) (it : Addr) (n : Nat) (tnI : Nat → Heap → Prop) (G : Hp → Prop) (PV : Nat → V → Prop) : Prop where
  obj : ∀ i h, tnI i h → ∃ o, h.get? it = some o ∧ ∀ v, o.data ≠ .cell v
  keep : ∀ i h h', tnI i h → (∀ o, h.get? it = some o → h'.get? it = some o) → tnI i h'
  draws : ∀ (X : Cx), X.prog = P → X.w = w → X.K = K → X.calm = true → ∀ (i : Nat) (pins : List (Addr × Obj)) (s : Shared) (σ : L2.St) (H : Hp), Inv X pins σ H s → G H → H it = none → tnI i s.heap →
    ∃ (fp : List Addr) (PD : Nat → Value → Prop) (StD : Nat → Heap → Prop), Draws P w X.A.in1 it fp n PD StD ∧ StD i s.heap ∧ it ∈ fp ∧ (∀ b ∈ fp, b = it ∨ (∃ o, H b = some o)) ∧
      (∀ j h, StD j h → tnI j h) ∧ ∀ j v, PD j v → ∃ x, PV j x ∧ RelV x v
theorem drawK_str {P : Program} {w : World} {K : PySem.W.Frag} (it : Addr) (x : Str) (t : Tok) :
    DrawK P w K it x.cps.size (fun i h => h.IsStrIter it (strIterType x) x t i) (fun _ => True) (fun i v => ∃ c, x.cps[i]? = some c ∧ v = .str ⟨#[c]⟩) where
  obj := fun i h st => by
    obtain ⟨o, e, c, d⟩ := st
    exact ⟨o, e, fun v z => by rw [d] at z; cases z⟩
  keep := fun i h h' st k => let ⟨o, ho, r⟩ := st; ⟨o, k o ho, r⟩
  draws := fun X hP hw hK hc i pins s σ H I _ _ st => by
    subst hP hw hK
    exact ⟨[it], _, _, Draws.text (A := X.A.in1) (I.ok.hd hc) it x t, st, by simp, fun b hb => .inl (by simpa using hb), fun j h q => q, fun j v ⟨c, u, hx, e⟩ => ⟨_, ⟨c, hx, rfl⟩, by rw [e]; exact ⟨u, rfl⟩⟩⟩
theorem drawK_tup {P : Program} {w : World} {K : PySem.W.Frag} (it a : Addr) (xs : List V) :
    DrawK P w K it xs.length (fun i h => h.IsTupleIter it a i) (fun H => H a = some (.tup xs)) (fun i v => xs[i]? = some v) where
  obj := fun i h st => by
    obtain ⟨o, e, c, d⟩ := st
    exact ⟨o, e, fun v z => by rw [d] at z; cases z⟩
  keep := fun i h h' st k => st.at k
  draws := fun X hP hw hK hc i pins s σ H I hG hn st => by
    subst hP hw hK
    have hne : a ≠ it := ne_of_none hG hn
    obtain ⟨its, rv, p, _⟩ := I.tuple (SqT.of hG)
    have hl := rv.length
    have e : its.toArray.size = xs.length := by simp [hl]
    have D := Draws.tuple (prog := X.prog) (w := X.w) (A := X.A.in1) (I.ok.hd hc) it a hne its.toArray
    rw [e] at D
    refine ⟨[it, a], _, _, D, ⟨st, p⟩, by simp, fun b hb => ?_, fun j h q => q.1, fun j v q => ?_⟩
    · rcases List.mem_cons.mp hb with z | z
      · exact .inl z
      · exact .inr ⟨_, by rw [List.mem_singleton.mp z]; exact hG⟩
    · have q' : its[j]? = some v := by simpa using q
      have hj : j < xs.length := by
        have := (List.getElem?_eq_some_iff.mp q').1
        omega
      obtain ⟨u, hu, ru⟩ := rv.get (List.getElem?_eq_getElem hj)
      rw [q'] at hu
      cases hu
      exact ⟨_, List.getElem?_eq_getElem hj, ru⟩
theorem drawK_list {P : Program} {w : World} {K : PySem.W.Frag} (it a : Addr) (xs : List V) :
    DrawK P w K it xs.length (fun i h => h.IsListIter it a i) (fun H => H a = some (.lst xs)) (fun i v => xs[i]? = some v) where
  obj := fun i h st => by
    obtain ⟨o, e, c, d⟩ := st
    exact ⟨o, e, fun v z => by rw [d] at z; cases z⟩
  keep := fun i h h' st k => st.at k
  draws := fun X hP hw hK hc i pins s σ H I hG hn st => by
    subst hP hw hK
    have hne : a ≠ it := ne_of_none hG hn
    obtain ⟨its, rv, p, _⟩ := I.list (SqL.of hG)
    have hl := rv.length
    have e : its.toArray.size = xs.length := by simp [hl]
    have D := Draws.list (prog := X.prog) (w := X.w) (A := X.A.in1) (I.ok.hd hc) it a hne its.toArray
    rw [e] at D
    refine ⟨[it, a], _, _, D, ⟨st, p.isList⟩, by simp, fun b hb => ?_, fun j h q => q.1, fun j v q => ?_⟩
    · rcases List.mem_cons.mp hb with z | z
      · exact .inl z
      · exact .inr ⟨_, by rw [List.mem_singleton.mp z]; exact hG⟩
    · have q' : its[j]? = some v := by simpa using q
      have hj : j < xs.length := by
        have := (List.getElem?_eq_some_iff.mp q').1
        omega
      obtain ⟨u, hu, ru⟩ := rv.get (List.getElem?_eq_getElem hj)
      rw [q'] at hu
      cases hu
      exact ⟨_, List.getElem?_eq_getElem hj, ru⟩
/-- n turns, each with a new tuple of xs, PX i xs, while G stands -/
def ItG (n : Nat) (G : Hp → Prop) (PX : Nat → List V → Prop) : It :=
  ⟨fun i H => G H ∧ i < n, fun i H v H' => ∃ T xs, v = .ref T ∧ H T = none ∧ H' = upd H T (.tup xs) ∧ PX i xs, fun i H => G H ∧ n ≤ i⟩
theorem two {a b : Addr} {p : Addr → Prop} (h1 : p a) (h2 : p b) : ∀ c ∈ [a, b], p c := fun c hc => by
  simp only [List.mem_cons, List.not_mem_nil, or_false] at hc
  rcases hc with e | e <;> rw [e] <;> assumption
theorem out2 {a b c : Addr} (h : c ∉ [a, b]) : c ≠ a ∧ c ≠ b := by
  simp only [List.mem_cons, List.not_mem_nil, or_false, not_or] at h; exact h
/-- an enumerate between two turns -/
def EnumT (e it : Addr) (n : Nat) (tnI : Nat → Heap → Prop) (i : Nat) (h : Heap) : Prop := i ≤ n ∧ (∃ old, IsEnum h e it ((i : Nat) : Int) old) ∧ tnI i h ∧ e ≠ it
theorem turn_enumG {P : Program} {w : World} {K : PySem.W.Frag} {elts : List Expr} {kk : Nat} {tpos : Pos} {e it : Addr} {n : Nat} {tnI : Nat → Heap → Prop} {G : Hp → Prop} {PV : Nat → V → Prop} (D : DrawK P w K it n tnI G PV) :
    Turn P w K (.Tuple elts kk tpos) (ItG n G fun i xs => ∃ v, PV i v ∧ xs = [.int (i : Nat), v]) [e, it] e (EnumT e it n tnI) where
  mem := List.mem_cons_self ..
  obj := fun i h ⟨_, ⟨_, a⟩, b, _⟩ => two (p := fun c => ∃ o, h.get? c = some o ∧ _) ⟨_, a, fun _ q => nomatch q⟩ (D.obj i h b)
  keep := fun i h h' ⟨l, ⟨old, a⟩, b, n⟩ k => ⟨l, ⟨old, k e (by simp) _ a⟩, D.keep i h h' b fun o => k it (by simp) o, n⟩
  item := by
    rintro X hP hw hK hc i pins s σ H E I hf ⟨hle, ⟨old, he⟩, hit, hne⟩ ⟨hG, hlt⟩
    obtain ⟨fp, PD, StD, DD, c1, m1, q1, back, val⟩ := D.draws X hP hw hK hc i pins s σ H I hG (hf it (by simp)).1 hit
    subst hP hw hK
    have apart : e ∉ fp := fun z => by
      rcases q1 e z with q | ⟨o, q⟩
      · exact hne q
      · rw [(hf e (by simp)).1] at q; cases q
    have lt2 : ∀ c ∈ [e, it], c < s.heap.objs.size := by
      obtain ⟨_, q⟩ := DD.live _ _ c1
      exact two (Heap.lt_size he) (Heap.lt_size q)
    refine wpAny_pyNext_enum_itemC DD he c1 hlt hne apart fun u h' tk hu ho j1 hT _ hk => ⟨_, rfl, ?_⟩
    obtain ⟨x, hx, ru⟩ := val i u hu
    refine wpAny_letOwnedTupleGo_enum (s := { s with heap := h', toks := tk + 1 }) ho fun g zg sg => ?_
    have on : ∀ {c : Addr} {o : Obj}, c ≠ e → h'.get? c = some o → g.get? c = some o := fun n a => (sg.2 _ n).trans a
    have made : ObjOk X.prog X.w (upd H s.heap.objs.size (.tup [.int (i : Nat), x])) g s.heap.objs.size (.tup [.int (i : Nat), x]) := ⟨by show 2 ≤ sizeLine; decide, [.int i tk, u], .cons ⟨_, rfl⟩ (.cons ru .nil), ⟨_, on (Nat.ne_of_gt (lt2 e (by simp))) hT, rfl, _, rfl⟩⟩
    have J : Inv X pins σ (upd H s.heap.objs.size (.tup [.int (i : Nat), x])) { s with heap := g, toks := tk + 1 } := I.turnedNew (ch := [e, it]) (fun c o hb q => on (out2 hb).1 (hk c o (out2 hb).1 (out2 hb).2 q)) hf (Nat.le_refl _) made
    have next : IsEnum g e it ((i + 1 : Nat) : Int) u := by rw [show ((i + 1 : Nat) : Int) = (i : Int) + 1 by omega]; exact zg
    exact ⟨.ref s.heap.objs.size, _, J, rfl, ⟨_, _, rfl, I.hok.fresh (Nat.le_refl _), rfl, x, hx, rfl⟩, ⟨hlt, ⟨u, next⟩, D.keep _ _ _ (back _ _ j1) fun _ => on (Ne.symm hne), hne⟩, fun c hcm => (upd_ne (Nat.ne_of_lt (lt2 c hcm))).trans (hf c hcm).1⟩
  done := by
    rintro X hP hw hK hc i pins s σ H E I hf ⟨hle, ⟨old, he⟩, hit, hne⟩ ⟨hG, hge⟩
    obtain ⟨fp, PD, StD, DD, c1, m1, q1, back, val⟩ := D.draws X hP hw hK hc i pins s σ H I hG (hf it (by simp)).1 hit
    subst hP hw hK
    obtain rfl : i = n := Nat.le_antisymm hle hge
    exact wpAny_pyNext_enum_endD DD he c1 fun h' eb => ⟨rfl, I.turnedL (t' := s.toks) (ch := [e, it]) (fun c o hb q => eb c o (out2 hb).2 q) hf⟩
  self := fun A i s Q E st h => by
    obtain ⟨_, ⟨_, he⟩, _⟩ := st
    exact wpAny_pyIter_enum he h
end RJ
end

section
set_option maxRecDepth 100000
namespace PySem
abbrev enumNew (it : Addr) : Obj := { cls := .type "enumerate", data := .fields #[.none, .bool false, .ref it, rawInt 0, .none, .none] }
set_option maxHeartbeats 1000000 in
/-- enumerate(v): an iterator of v, and the enumerate behind it -/
theorem rj_enum_made {v : Value} {o : Obj} {H : Heap → Prop} (B : Begins v o H) : Meets (Builtin.«enumerate.__new__» ⟨[.type "enumerate", v], []⟩) (fun _ R s => H s.heap ∧ R (.ok (.ret (.ref (s.heap.push o).objs.size))) { s with heap := (s.heap.push o).push (enumNew s.heap.objs.size) }) :=
  .of_wp fun prog w A R s ⟨src, fin⟩ => by
    have sub := sub_enumerate
    have it : ∀ {A' : Around} {E Q : Value → Shared → Prop}, Q (.ref s.heap.objs.size) { s with heap := s.heap.push o } → wpAny (model prog w) A' (pyIter v) Q E s := fun q => B.iter prog w _ _ s _ src q
    wp_walk using it
    refine wpAny_stack_any fun _ => wpAny_pure ?_; split
    · rename_i c _ _ _ _ _
      cases (c == Value.type "enumerate") <;> (wp_walk using it; exact ⟨_, rfl, fin⟩)
    · wp_walk using it; exact ⟨_, rfl, fin⟩
theorem rj_enum_begins {prog : Program} {w : World} {A : Around} {E Q : Value → Shared → Prop} {s : Shared} {v : Value} {o : Obj} {H : Heap → Prop} (B : Begins v o H) (src : H s.heap)
    (fin : ∀ h', IsEnum h' (s.heap.objs.size + 1) s.heap.objs.size 0 .none → h'.get? s.heap.objs.size = some o → h'.objs.size = s.heap.objs.size + 2 → (∀ b u, s.heap.get? b = some u → h'.get? b = some u) → Q (.ref (s.heap.objs.size + 1)) { s with heap := h' }) :
    wpAny (model prog w) A (call (.type "enumerate") [v]) Q E s := by
  have one : (s.heap.push o).objs.size = s.heap.objs.size + 1 := Heap.size_push ..
  have at1 : IsEnum ((s.heap.push o).push (enumNew s.heap.objs.size)) (s.heap.push o).objs.size s.heap.objs.size 0 .none := Heap.get?_push_size _ rfl
  have at0 : ((s.heap.push o).push (enumNew s.heap.objs.size)).get? s.heap.objs.size = some o := Heap.get?_push_of_some _ (Heap.get?_push_size _ B.free)
  have all := callType_new (prog := prog) (w := w) (A := A) (E := E) (Q := Q) F.called_enumerate (by decide) (F.typeCall_enumerate_1 v) (F.newCall_enumerate_1 v) (fun obj => F.args_object_init_2 obj _) F.entry_enumerate_new (rj_enum_made B) (s := s)
  refine all ⟨src, ?_⟩; show _ ∧ _
  rw [one] at at1 ⊢
  exact ⟨⟨_, at1, rfl⟩, fin _ at1 at0 (by rw [Heap.size_push, one]) fun b u e => Heap.get?_push_of_some _ (Heap.get?_push_of_some _ e)⟩
end PySem
namespace RJ
open PySem PySem.Spec PyProof.Rows L2
/-- iter of v begins something that draws -/
structure BegK (X : Cx) (n : Nat) (G : Hp → Prop) (PV : Nat → V → Prop) (H : Hp) (s : Shared) (v : Value) : Prop where
  ex : ∃ (o : Obj) (HH : Heap → Prop), Begins v o HH ∧ HH s.heap ∧ G H ∧ ∀ it, ∃ tnI : Nat → Heap → Prop, DrawK X.prog X.w X.K it n tnI G PV ∧ ∀ h : Heap, h.get? it = some o → tnI 0 h
theorem begK_str {X : Cx} {H : Hp} {s : Shared} (x : Str) (t : Tok) : BegK X x.cps.size (fun _ => True) (fun i v => ∃ c, x.cps[i]? = some c ∧ v = .str ⟨#[c]⟩) H s (.str x t) :=
  ⟨_, _, begins_text x t, trivial, trivial, fun it => ⟨_, drawK_str it x t, fun h e => ⟨_, e, rfl, rfl⟩⟩⟩
theorem begK_tup {X : Cx} {pins : List (Addr × Obj)} {σ : L2.St} {H : Hp} {s : Shared} {a : Addr} {xs : List V} (I : Inv X pins σ H s) (ha : H a = some (.tup xs)) : BegK X xs.length (fun H => H a = some (.tup xs)) (fun i v => xs[i]? = some v) H s (.ref a) := by
  obtain ⟨its, rv, p, _⟩ := I.tuple (SqT.of ha)
  exact ⟨_, _, begins_tuple a its.toArray, p, ha, fun it => ⟨_, drawK_tup it a xs, fun h e => ⟨_, e, rfl, rfl⟩⟩⟩
theorem begK_list {X : Cx} {pins : List (Addr × Obj)} {σ : L2.St} {H : Hp} {s : Shared} {a : Addr} {xs : List V} (I : Inv X pins σ H s) (ha : H a = some (.lst xs)) : BegK X xs.length (fun H => H a = some (.lst xs)) (fun i v => xs[i]? = some v) H s (.ref a) := by
  obtain ⟨its, rv, p, _⟩ := I.list (SqL.of ha)
  exact ⟨_, _, begins_list a its.toArray, p.isList, ha, fun it => ⟨_, drawK_list it a xs, fun h e => ⟨_, e, rfl, rfl⟩⟩⟩
/-- what an iterable value draws -/
def SrcV (H : Hp) (v : V) (n : Nat) (G : Hp → Prop) (PV : Nat → V → Prop) : Prop :=
  (∃ x : Str, v = .str x ∧ n = x.cps.size ∧ G = (fun _ => True) ∧ PV = fun i v => ∃ c, x.cps[i]? = some c ∧ v = .str ⟨#[c]⟩) ∨
  (∃ (a : Addr) (xs : List V), v = .ref a ∧ H a = some (.tup xs) ∧ n = xs.length ∧ G = (fun H => H a = some (.tup xs)) ∧ PV = fun i v => xs[i]? = some v) ∨
  (∃ (a : Addr) (xs : List V), v = .ref a ∧ H a = some (.lst xs) ∧ n = xs.length ∧ G = (fun H => H a = some (.lst xs)) ∧ PV = fun i v => xs[i]? = some v)
theorem SrcV.beg {X : Cx} {pins : List (Addr × Obj)} {σ : L2.St} {H : Hp} {s : Shared} {v : V} {u : Value} {n : Nat} {G : Hp → Prop} {PV : Nat → V → Prop} (I : Inv X pins σ H s) (r : RelV v u) (h : SrcV H v n G PV) : BegK X n G PV H s u := by
  rcases h with ⟨x, rfl, rfl, rfl, rfl⟩ | ⟨a, xs, rfl, ha, rfl, rfl, rfl⟩ | ⟨a, xs, rfl, ha, rfl, rfl, rfl⟩
  · obtain ⟨t, rfl⟩ := r
    exact begK_str x t
  · cases r
    exact begK_tup I ha
  · cases r
    exact begK_list I ha
/-- enumerate(v), v a text, a tuple or a list -/
def iEnumG (ta : TA) : TI := fun σ H R => ta σ H fun vs H1 => ∃ v n G PV, vs = [v] ∧ SrcV H1 v n G PV ∧ R (ItG n G fun i xs => ∃ v, PV i v ∧ xs = [.int (i : Nat), v]) H1
theorem pi_enumG {X : Cx} {e : Expr} {ta : TA} {p pos tpos : Pos} {elts : List Expr} {kk : Nat} (hg : Gl X "enumerate") (hm : X.mg "enumerate" = none) (ha : PA X [e] ta) (hs : starEach [e] X.env = [(false, eval e X.env)] := by rfl) :
    PI X (.Tuple elts kk tpos) (.Call (.Name "enumerate" p) [e] [] pos) (iEnumG ta) := by
  refine ⟨fun pins s σ H R I h => ?_⟩
  refine Call_ (ld_blt I hg hm boot_enumerate (PyProof.Rows.callWith_type1 (thn (ha.run pos pins s σ H _ I h) fun us s1 ⟨vs, H1, I1, r1, q1⟩ => ?_) hs rfl))
  obtain ⟨v, n, G, PV, ex, hsrc, q⟩ := q1
  subst ex
  cases r1 with
  | cons r rr =>
    cases rr
    obtain ⟨o, HH, B, h1, hG, hd⟩ := (hsrc.beg I1 r).ex
    refine rj_enum_begins B h1 fun h' he hit hsz hk => wpAny_pyIter_enum he ?_
    have I2 : Inv X pins σ H1 { s1 with heap := h' } := I1.kept (t' := s1.toks) hk
    obtain ⟨tnI, D, hst⟩ := hd s1.heap.objs.size
    have ge2 : ∀ c ∈ [s1.heap.objs.size + 1, s1.heap.objs.size], s1.heap.objs.size ≤ c := two (p := fun c => s1.heap.objs.size ≤ c) (Nat.le_succ _) (Nat.le_refl _)
    exact ⟨s1.heap.objs.size + 1, [s1.heap.objs.size + 1, s1.heap.objs.size], _, _, H1, rfl, I2, turn_enumG D, ⟨Nat.zero_le _, ⟨.none, he⟩, hst _ hit, Nat.succ_ne_self _⟩, fun c hc => I1.fpOk (ge2 c hc) (I1.hok.fresh (ge2 c hc)), q⟩
/-- the walks of ItG as the loops of HandS take them -/
theorem walk_ItG {n : Nat} {G : Hp → Prop} {PX : Nat → List V → Prop} {g : TG} {tb : TS} {D : Ends} {σ : L2.St} {H : Hp} (Pv : Nat → L2.St → Hp → Prop) (h0 : Pv 0 σ H) (hG : ∀ i σ H, i ≤ n → Pv i σ H → G H)
    (hs : ∀ i xs T σ H, i < n → Pv i σ H → PX i xs → H T = none → g (.ref T) σ (upd H T (.tup xs)) fun σ2 H2 => tb { D with nx := Pv (i + 1), ct := Pv (i + 1), bk := D.nx } σ2 H2) (hd : ∀ σ H, Pv n σ H → D.nx σ H) :
    ∃ W : Nat → Nat → L2.St → Hp → Prop, (∃ m, W 0 m σ H) ∧ ∀ i m σ H, W i m σ H → ((ItG n G PX).stop i H ∧ D.nx σ H) ∨ ((ItG n G PX).go i H ∧ ∃ N : L2.St → Hp → Prop, (∀ σ' H', N σ' H' → ∃ m', m' < m ∧ W (i + 1) m' σ' H') ∧
      ∀ x H', (ItG n G PX).yld i H x H' → g x σ H' fun σ2 H2 => tb { D with nx := N, ct := N, bk := D.nx } σ2 H2) := by
  refine ⟨fun i m σ H => m = n - i ∧ i ≤ n ∧ Pv i σ H, ⟨n, rfl, Nat.zero_le _, h0⟩, ?_⟩
  rintro i m σ H ⟨rfl, hi, p⟩
  by_cases hlt : i < n
  · refine .inr ⟨⟨hG i σ H hi p, hlt⟩, Pv (i + 1), fun σ' H' p' => ⟨n - (i + 1), by omega, rfl, hlt, p'⟩, fun v H' y => ?_⟩
    obtain ⟨T, xs, rfl, hT, rfl, hx⟩ := y
    exact hs i xs T σ H hlt p hx hT
  · have e : i = n := by omega
    subst e
    exact .inl ⟨⟨hG _ σ H hi p, Nat.le_refl _⟩, hd σ H p⟩
end RJ
end

section
set_option maxRecDepth 100000
namespace RJ
open PySem PySem.Spec PyProof.Rows L2
theorem five {z TI TO i1 i2 : Addr} {p : Addr → Prop} (h1 : p z) (h2 : p TI) (h3 : p TO) (h4 : p i1) (h5 : p i2) : ∀ c ∈ [z, TI, TO, i1, i2], p c := fun c hc => by
  simp only [List.mem_cons, List.not_mem_nil, or_false] at hc
  rcases hc with e | e | e | e | e <;> rw [e] <;> assumption
theorem zip_cells {N : Nat} : ∀ c ∈ [N + 4, N + 2, N + 3, N, N + 1], N ≤ c := five (p := fun c => N ≤ c) (Nat.le_add_right N 4) (Nat.le_add_right N 2) (Nat.le_add_right N 3) (Nat.le_refl N) (Nat.le_add_right N 1)
/-- five cells apart -/
structure Ap5 (z TI TO i1 i2 : Addr) : Prop where
  TIz : TI ≠ z
  TOz : TO ≠ z
  TITO : TI ≠ TO
  TIi1 : TI ≠ i1
  TIi2 : TI ≠ i2
  TOi1 : TO ≠ i1
  TOi2 : TO ≠ i2
  zi1 : z ≠ i1
  zi2 : z ≠ i2
  i12 : i1 ≠ i2
theorem ap5 (N : Nat) : Ap5 (N + 4) (N + 2) (N + 3) N (N + 1) :=
  ⟨show (N + 2 : Nat) ≠ N + 4 by omega, show (N + 3 : Nat) ≠ N + 4 by omega, show (N + 2 : Nat) ≠ N + 3 by omega, show (N + 2 : Nat) ≠ N by omega, show (N + 2 : Nat) ≠ N + 1 by omega,
    show (N + 3 : Nat) ≠ N by omega, show (N + 3 : Nat) ≠ N + 1 by omega, show (N + 4 : Nat) ≠ N by omega, show (N + 4 : Nat) ≠ N + 1 by omega, show (N : Nat) ≠ N + 1 by omega⟩
theorem Ap5.sep {z TI TO i1 i2 : Addr} (D : Ap5 z TI TO i1 i2) {H : Hp} {fp1 fp2 : List Addr} (m1 : i1 ∈ fp1) (m2 : i2 ∈ fp2) (f1 : ∀ b ∈ fp1, b = i1 ∨ ∃ o, H b = some o) (f2 : ∀ b ∈ fp2, b = i2 ∨ ∃ o, H b = some o)
    (hz : H z = none) (hTO : H TO = none) (h1 : H i1 = none) (h2 : H i2 = none) : ZipSep2 z TI TO i1 i2 fp1 fp2 where
  TIz := D.TIz
  TOz := D.TOz
  TITO := D.TITO
  TIi1 := D.TIi1
  mem1 := m1
  zf1 := fun q => by
    rcases f1 _ q with e | ⟨o, e⟩
    · exact D.zi1 e
    · rw [hz] at e; cases e
  Tf1 := fun q => by
    rcases f1 _ q with e | ⟨o, e⟩
    · exact D.TOi1 e
    · rw [hTO] at e; cases e
  TIi2 := D.TIi2
  mem2 := m2
  zf2 := fun q => by
    rcases f2 _ q with e | ⟨o, e⟩
    · exact D.zi2 e
    · rw [hz] at e; cases e
  Tf2 := fun q => by
    rcases f2 _ q with e | ⟨o, e⟩
    · exact D.TOi2 e
    · rw [hTO] at e; cases e
  sep1_2 := fun q => by
    rcases f2 _ q with e | ⟨o, e⟩
    · exact D.i12 e
    · rw [h1] at e; cases e
  sep2_1 := fun q => by
    rcases f1 _ q with e | ⟨o, e⟩
    · exact D.i12 e.symm
    · rw [h2] at e; cases e
theorem out5 {z TI TO i1 i2 c : Addr} (h : c ∉ [z, TI, TO, i1, i2]) : c ≠ z ∧ c ≠ TI ∧ c ≠ TO ∧ c ≠ i1 ∧ c ≠ i2 := by
  simp only [List.mem_cons, List.not_mem_nil, or_false, not_or] at h; exact h
/-- a zip whose tuples are taken apart at once -/
def ZipTt (z TI TO i1 i2 : Addr) (n : Nat) (tn1 tn2 : Nat → Heap → Prop) (i : Nat) (h : Heap) : Prop := i ≤ n ∧ IsZip h z TI TO .none ∧ IsTupOf2 h TI (.ref i1) (.ref i2) ∧ (∃ x y, IsTupOf2 h TO x y) ∧ tn1 i h ∧ tn2 i h
section
variable {P : Program} {w : World} {K : PySem.W.Frag} {elts : List Expr} {kk : Nat} {tpos : Pos} {z TI TO i1 i2 : Addr} {n1 n2 : Nat} {tn1 tn2 : Nat → Heap → Prop} {G1 G2 : Hp → Prop} {PV1 PV2 : Nat → V → Prop}
theorem turn_zipG (A5 : Ap5 z TI TO i1 i2) (D1 : DrawK P w K i1 n1 tn1 G1 PV1) (D2 : DrawK P w K i2 n2 tn2 G2 PV2) :
    Turn P w K (.Tuple elts kk tpos) (ItG (min n1 n2) (fun H => G1 H ∧ G2 H) fun i xs => ∃ v1 v2, PV1 i v1 ∧ PV2 i v2 ∧ xs = [v1, v2]) [z, TI, TO, i1, i2] z (ZipTt z TI TO i1 i2 (min n1 n2) tn1 tn2) where
  mem := List.mem_cons_self ..
  obj := fun i h ⟨_, a, b, ⟨_, _, c⟩, d, e⟩ => five (p := fun c => ∃ o, h.get? c = some o ∧ _) ⟨_, a, fun _ q => nomatch q⟩ ⟨_, b, fun _ q => nomatch q⟩ ⟨_, c, fun _ q => nomatch q⟩ (D1.obj i h d) (D2.obj i h e)
  keep := fun i h h' ⟨l, a, b, ⟨_, _, c⟩, d, e⟩ k => ⟨l, k _ (by simp) _ a, k _ (by simp) _ b, ⟨_, _, k _ (by simp) _ c⟩, D1.keep _ _ _ d fun o => k i1 (by simp) o, D2.keep _ _ _ e fun o => k i2 (by simp) o⟩
  item := by
    rintro X hP hw hK hc i pins s σ H E I hf ⟨hl, hz, hTI, ⟨x0, y0, hTO⟩, h1, h2⟩ ⟨⟨hG1, hG2⟩, hlt⟩
    have none4 : H z = none ∧ H TO = none ∧ H i1 = none ∧ H i2 = none := ⟨(hf _ (by simp)).1, (hf _ (by simp)).1, (hf _ (by simp)).1, (hf _ (by simp)).1⟩
    obtain ⟨fp1, PD1, St1, DD1, c1, m1, q1, back1, val1⟩ := D1.draws X hP hw hK hc i pins s σ H I hG1 none4.2.2.1 h1
    obtain ⟨fp2, PD2, St2, DD2, c2, m2, q2, back2, val2⟩ := D2.draws X hP hw hK hc i pins s σ H I hG2 none4.2.2.2 h2
    subst hP hw hK
    have lt5 : ∀ c ∈ [z, TI, TO, i1, i2], c < s.heap.objs.size := by
      obtain ⟨_, e1⟩ := DD1.live _ _ c1
      obtain ⟨_, e2⟩ := DD2.live _ _ c2
      exact five (Heap.lt_size hz) (Heap.lt_size hTI) (Heap.lt_size hTO) (Heap.lt_size e1) (Heap.lt_size e2)
    refine wpAny_pyNext_zipD2_item (A5.sep m1 m2 q1 q2 none4.1 none4.2.1 none4.2.2.1 none4.2.2.2) DD1 DD2 hz hTI hTO c1 c2 (by omega) (by omega) fun u u2 h' tk p1 p2 z' TO' j1 j2 hT _ hk => ⟨_, rfl, ?_⟩
    obtain ⟨v, hv, rv⟩ := val1 i u p1
    obtain ⟨v2, hv2, rv2⟩ := val2 i u2 p2
    refine wpAny_letOwnedTupleGo_zip (s := { s with heap := h', toks := tk }) z' fun g zg sg => ?_
    have on : ∀ {c : Addr} {o : Obj}, c ≠ z → h'.get? c = some o → g.get? c = some o := fun n e => (sg.2 _ n).trans e
    have made : ObjOk X.prog X.w (upd H s.heap.objs.size (.tup [v, v2])) g s.heap.objs.size (.tup [v, v2]) := ⟨by show 2 ≤ sizeLine; decide, [u, u2], .cons rv (.cons rv2 .nil), ⟨_, on (Nat.ne_of_gt (lt5 z (by simp))) hT, rfl, _, rfl⟩⟩
    have J : Inv X pins σ (upd H s.heap.objs.size (.tup [v, v2])) { s with heap := g, toks := tk } := I.turnedNew (ch := [z, TI, TO, i1, i2]) (fun c o hb q => by
      obtain ⟨a, _, b, d, e⟩ := out5 hb
      exact on a (hk c o a b d e q)) hf (Nat.le_refl _) made
    exact ⟨.ref s.heap.objs.size, _, J, rfl, ⟨_, _, rfl, I.hok.fresh (Nat.le_refl _), rfl, v, v2, hv, hv2, rfl⟩, ⟨hlt, zg, on A5.TIz (hk _ _ A5.TIz A5.TITO A5.TIi1 A5.TIi2 hTI), ⟨u, u2, on A5.TOz TO'⟩, D1.keep _ _ _ (back1 _ _ j1) fun _ => on A5.zi1.symm, D2.keep _ _ _ (back2 _ _ j2) fun _ => on A5.zi2.symm⟩,
      fun c hcm => (upd_ne (Nat.ne_of_lt (lt5 c hcm))).trans (hf c hcm).1⟩
  done := by
    rintro X hP hw hK hc i pins s σ H E I hf ⟨hl, hz, hTI, ⟨x0, y0, hTO⟩, h1, h2⟩ ⟨⟨hG1, hG2⟩, hge⟩
    have none4 : H z = none ∧ H TO = none ∧ H i1 = none ∧ H i2 = none := ⟨(hf _ (by simp)).1, (hf _ (by simp)).1, (hf _ (by simp)).1, (hf _ (by simp)).1⟩
    obtain ⟨fp1, PD1, St1, DD1, c1, m1, q1, back1, val1⟩ := D1.draws X hP hw hK hc i pins s σ H I hG1 none4.2.2.1 h1
    obtain ⟨fp2, PD2, St2, DD2, c2, m2, q2, back2, val2⟩ := D2.draws X hP hw hK hc i pins s σ H I hG2 none4.2.2.2 h2
    subst hP hw hK
    exact wpAny_pyNext_zipD2_end (A5.sep m1 m2 q1 q2 none4.1 none4.2.1 none4.2.2.1 none4.2.2.2) DD1 DD2 hz hTI hTO c1 c2 (by omega) (by omega) (by omega) fun h' tk hk => ⟨rfl, I.turnedL (t' := tk) (ch := [z, TI, TO, i1, i2]) (fun c o hb q => by
      obtain ⟨a, _, b, d, e⟩ := out5 hb
      exact hk c o a b d e q) hf⟩
  self := fun A i s Q E st h => wpAny_pyIter_zip st.2.1 h
end
def iZipG (ta : TA) : TI := fun σ H R => ta σ H fun vs H1 => ∃ v1 v2 n1 n2 G1 G2 PV1 PV2, vs = [v1, v2] ∧ SrcV H1 v1 n1 G1 PV1 ∧ SrcV H1 v2 n2 G2 PV2 ∧ R (ItG (min n1 n2) (fun H => G1 H ∧ G2 H) fun i xs => ∃ v1 v2, PV1 i v1 ∧ PV2 i v2 ∧ xs = [v1, v2]) H1
theorem pi_zipGen {X : Cx} {tg e e2 : Expr} {ta : TA} {p pos : Pos} (hg : Gl X "zip") (hm : X.mg "zip" = none) (ha : PA X [e, e2] ta)
    (ht : ∀ {z TI TO i1 i2 : Addr} {n1 n2 : Nat} {tn1 tn2 : Nat → Heap → Prop} {G1 G2 : Hp → Prop} {PV1 PV2 : Nat → V → Prop} (A5 : Ap5 z TI TO i1 i2) (D1 : DrawK X.prog X.w X.K i1 n1 tn1 G1 PV1) (D2 : DrawK X.prog X.w X.K i2 n2 tn2 G2 PV2),
      ∃ tn : Nat → Heap → Prop, Turn X.prog X.w X.K tg (ItG (min n1 n2) (fun H => G1 H ∧ G2 H) fun i xs => ∃ v1 v2, PV1 i v1 ∧ PV2 i v2 ∧ xs = [v1, v2]) [z, TI, TO, i1, i2] z tn ∧
        ∀ h, IsZip h z TI TO .none → IsTupOf2 h TI (.ref i1) (.ref i2) → IsTupOf2 h TO .none .none → tn1 0 h → tn2 0 h → tn 0 h)
    (hs : starEach [e, e2] X.env = (false, eval e X.env) :: starEach [e2] X.env := by rfl) (hpl : (backTo pos (starEach [e2] X.env)).any (·.1) = false := by rfl) :
    PI X tg (.Call (.Name "zip" p) [e, e2] [] pos) (iZipG ta) := by
  refine ⟨fun pins s σ H R I h => ?_⟩
  refine Call_ (ld_blt I hg hm PyProof.Rows.boot_zip (PyProof.Rows.callWith_type1 (thn (ha.run pos pins s σ H _ I h) fun us s1 ⟨vs, H1, I1, r1, q1⟩ => ?_) hs hpl))
  obtain ⟨v1, v2, n1, n2, G1, G2, PV1, PV2, ex, hs1, hs2, q⟩ := q1
  subst ex
  cases r1 with
  | cons r rr =>
    cases rr with
    | cons r' rr =>
      cases rr
      obtain ⟨o1, HH1, B1, b1, hG1, hd1⟩ := (hs1.beg I1 r).ex
      obtain ⟨o2, HH2, B2, b2, hG2, hd2⟩ := (hs2.beg I1 r').ex
      refine zip_begins2 B1 B2 b1 b2 fun h' hz hTI hTO g1 g2 hsz hk => wpAny_pyIter_zip hz ?_
      have I2 : Inv X pins σ H1 { s1 with heap := h' } := I1.kept (t' := s1.toks) hk
      obtain ⟨tn1, D1, st1⟩ := hd1 s1.heap.objs.size
      obtain ⟨tn2, D2, st2⟩ := hd2 (s1.heap.objs.size + 1)
      obtain ⟨tn, T, h0⟩ := ht (ap5 s1.heap.objs.size) D1 D2
      exact ⟨s1.heap.objs.size + 4, [s1.heap.objs.size + 4, s1.heap.objs.size + 2, s1.heap.objs.size + 3, s1.heap.objs.size, s1.heap.objs.size + 1], tn, _, H1, rfl, I2, T, h0 _ hz hTI hTO (st1 _ g1) (st2 _ g2),
        fun c hcm => I1.fpOk (zip_cells c hcm) (I1.hok.fresh (zip_cells c hcm)), q⟩
/-- for a, b in zip(v1, v2): texts, tuples, lists -/
theorem pi_zipT2 {X : Cx} {e e2 : Expr} {ta : TA} {p pos tpos : Pos} {elts : List Expr} {kk : Nat} (hg : Gl X "zip") (hm : X.mg "zip" = none) (ha : PA X [e, e2] ta)
    (hs : starEach [e, e2] X.env = (false, eval e X.env) :: starEach [e2] X.env := by rfl) (hpl : (backTo pos (starEach [e2] X.env)).any (·.1) = false := by rfl) :
    PI X (.Tuple elts kk tpos) (.Call (.Name "zip" p) [e, e2] [] pos) (iZipG ta) :=
  pi_zipGen hg hm ha (fun A5 D1 D2 => ⟨_, turn_zipG A5 D1 D2, fun h hz hTI hTO h1 h2 => ⟨Nat.zero_le _, hz, hTI, ⟨_, _, hTO⟩, h1, h2⟩⟩) hs hpl
end RJ
end

section
set_option maxRecDepth 100000
namespace PySem
/-- nothing but these four cells has changed -/
def Beside (z TO i1 i2 : Addr) (h h' : Heap) : Prop := ∀ c o, c ≠ z → c ≠ TO → c ≠ i1 → c ≠ i2 → h.get? c = some o → h'.get? c = some o
/-- a zip, whatever tuple it holds to be out -/
abbrev RjZ (h : Heap) (z TI TO : Addr) (f0 : Value) (f1 : Bool) : Prop := h.get? z = some { cls := .type "zip", dict := none, data := .fields #[f0, .bool f1, .bool false, .ref TI, .ref TO], slots := #[] }
/-- .. between two turns -/
def ZipIdle (h : Heap) (z TI TO : Addr) : Prop := ∃ f0 f1, RjZ h z TI TO f0 f1 ∧ (f0 = .none ∨ ∃ T : Addr, f0 = rawInt T)
/-- the tuple it keeps -/
def KeepsPair (h : Heap) (TO : Addr) : Prop := ∃ x y, IsTupOf2 h TO x y
section
variable {prog : Program} {w : World} {A : Around} {E : Value → Shared → Prop} {s : Shared} {z TI TO i1 i2 : Addr} {fp1 fp2 : List Addr} {n1 n2 i : Nat} {P1 P2 : Nat → Value → Prop} {St1 St2 : Nat → Heap → Prop}
theorem rj_alive {a : Addr} {Q : Option Obj → Shared → Prop} (h : Q (s.heap.get? a) s) : wpAny (model prog w) A (loadIfAlive a) Q E s := fun _ _ _ => h
/-- is the tuple that went out free? both answers -/
theorem rj_isFree {f0 : Value} {f1 : Bool} {Q : Bool → Shared → Prop} (hz : RjZ s.heap z TI TO f0 f1) (hf : f0 = .none ∨ ∃ T : Addr, f0 = rawInt T) (yes : Q true s)
    (no : ∀ h', RjZ h' z TI TO f0 true → Heap.SameBut z s.heap h' → Q false { s with heap := h' }) : wpAny (model prog w) A (Builtin.SmallTypes.ownedTupleIsFree (.ref z)) Q E s := by
  have last : wpAny (model prog w) A (field (.ref z) 1) (fun v s' => v = .bool f1 ∧ s' = s) E s := wpAny_field hz rfl (x := .bool f1) rfl ⟨rfl, rfl⟩
  unfold Builtin.SmallTypes.ownedTupleIsFree; refine wpAny_bind (wpAny_field hz rfl (x := f0) rfl ?_)
  rcases hf with e | ⟨T, e⟩ <;> subst e
  · exact wpAny_pure yes
  show wpAny _ _ (loadIfAlive ((T : Int).toNat) >>= _) _ _ _
  refine wpAny_bind (rj_alive ?_)
  cases s.heap.get? ((T : Int).toNat)
  · simp only [Option.isNone_none, if_true]; exact wpAny_pure yes
  simp only [Option.isNone_some, Bool.false_eq_true, if_false]
  refine wpAny_bind (wpAny_mono last ?_ fun _ _ e => e); rintro _ _ ⟨rfl, rfl⟩
  cases f1
  · rw [if_pos (by rfl)]; exact wpAny_bind (wpAny_setField_rec hz (by simp) fun k hk sk => wpAny_pure (no k hk sk))
  · rw [if_neg (by decide)]; exact wpAny_pure (no _ hz (Heap.SameBut.refl _ _))
/-- one call of next: an item of each, or the end of one -/
theorem rj_next {Q : Value → Shared → Prop} (S : ZipSep2 z TI TO i1 i2 fp1 fp2) (D1 : Draws prog w A i1 fp1 n1 P1 St1) (D2 : Draws prog w A i2 fp2 n2 P2 St2) (hz : ZipIdle s.heap z TI TO)
    (hTI : IsTupOf2 s.heap TI (.ref i1) (.ref i2)) (hTO : KeepsPair s.heap TO) (st1 : St1 i s.heap) (st2 : St2 i s.heap) (le1 : i ≤ n1) (le2 : i ≤ n2)
    (got : ∀ x y h' tk, i < n1 → i < n2 → P1 i x → P2 i y → ZipIdle h' z TI TO → KeepsPair h' TO → St1 (i + 1) h' → St2 (i + 1) h' → IsTupOf2 h' s.heap.objs.size x y → Beside z TO i1 i2 s.heap h' → Q (.ref s.heap.objs.size) { s with heap := h', toks := tk })
    (out : ∀ h' tk e, i = n1 ∨ i = n2 → Beside z TO i1 i2 s.heap h' → (∃ o, h'.get? e = some o ∧ o.cls = .type "StopIteration") → E (.ref e) { s with heap := h', toks := tk }) :
    wpAny (model prog w) A (Builtin.«zip.__next__» ⟨[.ref z], []⟩) (fun fin s' => ∃ v, fin = .done (.ret v) ∧ Q v s') E s := by
  obtain ⟨f0, f1, zz, hf⟩ := hz
  obtain ⟨p, q, hTO⟩ := hTO
  obtain ⟨hp, g, d, k0, os⟩ := s
  have zl : z < hp.objs.size := Heap.lt_size zz
  show wpAny _ _ (field (.ref z) 2 >>= _) _ _ _; refine wpAny_bind (wpAny_field zz rfl (x := .bool false) rfl ?_)
  show wpAny _ _ (field (.ref z) 3 >>= _) _ _ _; refine wpAny_bind (wpAny_field zz rfl (x := .ref TI) rfl (wpAny_bind (wpAny_seqItems hTI rfl ?_)))
  show wpAny _ _ (Builtin.SmallTypes.ownedTupleIsFree (.ref z) >>= _) _ _ _; refine wpAny_bind (rj_isFree zz hf ?_ fun a za sa => ?_)
  · -- the kept tuple is filled anew
    simp only [if_true]; refine wpAny_bind (wpAny_rule (wpAny_bind (wpAny_field zz rfl (x := .ref TO) rfl (wpAny_bind (wpAny_setField_rec zz (by simp) fun a za sa => ?_)))))
    replace za : RjZ a z TI TO .ellipsis f1 := za
    replace sa : Heap.SameBut z hp a := sa
    have stop : ∀ (tk : Nat) (h h' : Heap) (e : Addr) (o : Obj), (i = n1 ∨ i = n2) → RjZ h z TI TO .ellipsis f1 → Beside z TO i1 i2 hp h → h.get? e = some o → o.cls = .type "StopIteration" → Heap.SameBut z h h' → E (.ref e) ⟨h', g, d, tk, os⟩ := fun tk h h' e o c zh b he ho sh =>
      out h' tk e c (fun c o cz cT c1 c2 x => sh.extBut _ _ cz (b c o cz cT c1 c2 x)) ⟨o, sh.extBut _ _ (fun x => by subst x; rw [zh] at he; cases he; simp at ho) he, ho⟩
    refine wpAny_bind ?_; simp only [List.zipIdx_cons, List.zipIdx_nil, List.forIn_cons, List.forIn_nil]; refine wpAny_bind (wpAny_bind (wpAny_onRaise ?_))
    show wpAny _ _ (Builtin.SmallTypes.nextOf (.ref i1) >>= _) _ _ ⟨a, g, d, k0, os⟩
    have ta := D1.over st1 sa S.zf1
    by_cases l1 : i < n1
    · refine wpAny_bind (D1.item i _ _ _ l1 ta fun x b k1 hx tb sb => wpAny_pure ?_)
      replace sb : Heap.SameBut i1 a b := sb
      have ub : IsTupOf2 b TO p q := sb.extBut _ _ S.Ti1 (sa.extBut _ _ S.TOz hTO)
      refine wpAny_bind (wpAny_seqItems (s := ⟨b, g, d, k1, os⟩) ub rfl (wpAny_bind (updateSeq_IsTupOf2 (s := ⟨b, g, d, k1, os⟩) ub fun c uc sc => wpAny_bind (wpAny_letGo (wpAny_pure ?_)))))
      replace uc : IsTupOf2 c TO x q := uc
      replace sc : Heap.SameBut TO b c := sc
      have zc : RjZ c z TI TO .ellipsis f1 := sc.extBut _ _ S.TOz.symm (sb.extBut _ _ S.zi1 za)
      have bc : Beside z TO i1 i2 hp c := fun c o cz cT c1 c2 e => sc.extBut _ _ cT (sb.extBut _ _ c1 (sa.extBut _ _ cz e))
      have tc := D2.over (D2.over (D2.over st2 sa S.zf2) sb S.sep1_2) sc S.Tf2
      refine wpAny_bind (wpAny_bind (wpAny_onRaise ?_)); show wpAny _ _ (Builtin.SmallTypes.nextOf (.ref i2) >>= _) _ _ ⟨c, g, d, k1, os⟩
      by_cases l2 : i < n2
      · refine wpAny_bind (D2.item i _ _ _ l2 tc fun y e k2 hy te se => wpAny_pure ?_)
        replace se : Heap.SameBut i2 c e := se
        have ue : IsTupOf2 e TO x q := se.extBut _ _ S.Ti2 uc
        refine wpAny_bind (wpAny_seqItems (s := ⟨e, g, d, k2, os⟩) ue rfl (wpAny_bind (updateSeq_IsTupOf2 (s := ⟨e, g, d, k2, os⟩) ue fun r ur sr => wpAny_bind (wpAny_letGo (wpAny_pure (wpAny_pure ?_))))))
        replace ur : IsTupOf2 r TO x y := ur
        replace sr : Heap.SameBut TO e r := sr
        have zr : RjZ r z TI TO .ellipsis f1 := sr.extBut _ _ S.TOz.symm (se.extBut _ _ S.zi2 zc)
        have size : r.objs.size = hp.objs.size := by rw [sr.1, se.1, sc.1, sb.1, sa.1]
        have j1 : St1 (i + 1) r := D1.over (D1.over (D1.over tb sc S.Tf1) se S.sep2_1) sr S.Tf1
        have j2 : St2 (i + 1) r := D2.over te sr S.Tf2
        refine wpAny_bind (wpAny_seqItems (s := ⟨r, g, d, k2, os⟩) ur rfl (wpAny_bind (wpAny_newTuple ?_)))
        show wpAny _ _ (Builtin.SmallTypes.ownedTupleHandOut (.ref z) (.ref r.objs.size) >>= _) _ _ ⟨r.push { cls := .type "tuple", data := .seq #[x, y] }, g, d, k2, os⟩
        generalize hv : r.push { cls := .type "tuple", data := .seq #[x, y] } = v
        have up : ∀ c o, r.get? c = some o → v.get? c = some o := fun c o e => hv ▸ Heap.get?_push_of_some _ e
        have tv : IsTupOf2 v r.objs.size x y := hv ▸ Heap.get?_push_size _ rfl
        unfold Builtin.SmallTypes.ownedTupleHandOut; refine wpAny_bind ?_
        refine wpAny_bind (wpAny_setField_rec (s := ⟨v, g, d, k2, os⟩) (up _ _ zr) (by simp) fun m zm sm => wpAny_setField_rec (s := ⟨m, g, d, k2, os⟩) zm (by simp) fun t zt stt => ?_)
        replace zt : RjZ t z TI TO (rawInt r.objs.size) false := zt
        replace sm : Heap.SameBut z v m := sm
        replace stt : Heap.SameBut z m t := stt
        have on : ∀ c o, c ≠ z → r.get? c = some o → t.get? c = some o := fun c o n e => stt.extBut _ _ n (sm.extBut _ _ n (up _ _ e))
        refine wpAny_pure ⟨_, rfl, ?_⟩
        show Q (.ref r.objs.size) ⟨t, g, d, k2, os⟩; rw [size]
        refine got x y t k2 l1 l2 hx hy ⟨_, _, zt, .inr ⟨_, rfl⟩⟩ ⟨_, _, on _ _ S.TOz ur⟩ (D1.frame _ _ _ j1 fun b hb o e => on b o (fun q => S.zf1 (q ▸ hb)) e) (D2.frame _ _ _ j2 fun b hb o e => on b o (fun q => S.zf2 (q ▸ hb)) e) ?_
          fun c o cz cT c1 c2 e => on c o cz (sr.extBut _ _ cT (se.extBut _ _ c2 (bc c o cz cT c1 c2 e)))
        have away : r.objs.size ≠ z := by rw [size]; exact Nat.ne_of_gt zl
        have := stt.extBut _ _ away (sm.extBut _ _ away tv); rwa [size] at this
      · have c2 : i = n2 := by omega
        refine wpAny_bind (D2.done ⟨c, g, d, k1, os⟩ _ _ (c2 ▸ tc) fun e x he hx => ?_); obtain ⟨o, ho, oc⟩ := hx
        have ze : RjZ e z TI TO .ellipsis f1 := he _ _ S.zi2 zc
        exact wpAny_setField_rec (s := ⟨e, g, d, k1, os⟩) ze (by simp) fun e' _ se => stop k1 e e' x o (.inr c2) ze (fun c o cz cT c1 c2 y => he _ _ c2 (bc c o cz cT c1 c2 y)) ho oc se
    · have c1 : i = n1 := by omega
      refine wpAny_bind (D1.done ⟨a, g, d, k0, os⟩ _ _ (c1 ▸ ta) fun e x he hx => ?_); obtain ⟨o, ho, oc⟩ := hx
      have ze : RjZ e z TI TO .ellipsis f1 := he _ _ S.zi1 za
      exact wpAny_setField_rec (s := ⟨e, g, d, k0, os⟩) ze (by simp) fun e' _ se => stop k0 e e' x o (.inl c1) ze (fun c o cz cT c1 c2 y => he _ _ c1 (sa.extBut _ _ cz y)) ho oc se
  · -- a tuple of its own
    replace za : RjZ a z TI TO f0 true := za
    replace sa : Heap.SameBut z hp a := sa
    have ta := D1.over st1 sa S.zf1
    simp only [Bool.false_eq_true, if_false]; refine wpAny_bind ?_; rw [← Array.forIn_toList]; simp only [List.forIn_cons, List.forIn_nil]; refine wpAny_bind (wpAny_bind (wpAny_holding ?_))
    show wpAny _ _ (Builtin.SmallTypes.nextOf (.ref i1) >>= _) _ _ ⟨a, g, d, k0, os⟩
    by_cases l1 : i < n1
    · refine wpAny_bind (D1.item i _ _ _ l1 ta fun x b k1 hx tb sb => wpAny_pure (wpAny_pure (wpAny_bind (wpAny_bind (wpAny_holding ?_)))))
      replace sb : Heap.SameBut i1 a b := sb
      have bb : Beside z TO i1 i2 hp b := fun c o cz _ c1 _ e => sb.extBut _ _ c1 (sa.extBut _ _ cz e)
      have tc := D2.over (D2.over st2 sa S.zf2) sb S.sep1_2
      show wpAny _ _ (Builtin.SmallTypes.nextOf (.ref i2) >>= _) _ _ ⟨b, g, d, k1, os⟩
      by_cases l2 : i < n2
      · refine wpAny_bind (D2.item i _ _ _ l2 tc fun y e k2 hy te se => wpAny_pure (wpAny_pure (wpAny_pure ?_)))
        replace se : Heap.SameBut i2 b e := se
        have size : e.objs.size = hp.objs.size := by rw [se.1, sb.1, sa.1]
        have ze : RjZ e z TI TO f0 true := se.extBut _ _ S.zi2 (sb.extBut _ _ S.zi1 za)
        have ue : IsTupOf2 e TO p q := se.extBut _ _ S.Ti2 (sb.extBut _ _ S.Ti1 (sa.extBut _ _ S.TOz hTO))
        have j1 : St1 (i + 1) e := D1.over tb se S.sep2_1
        show wpAny _ _ (newTuple [x, y] >>= _) _ _ ⟨e, g, d, k2, os⟩; refine wpAny_bind (wpAny_newTuple (wpAny_pure ⟨_, rfl, ?_⟩))
        show Q (.ref e.objs.size) ⟨e.push { cls := .type "tuple", data := .seq #[x, y] }, g, d, k2, os⟩
        have tv : IsTupOf2 (e.push { cls := .type "tuple", data := .seq #[x, y] }) e.objs.size x y := Heap.get?_push_size _ rfl
        rw [size] at tv ⊢
        exact got x y _ k2 l1 l2 hx hy ⟨_, _, Heap.get?_push_of_some _ ze, hf⟩ ⟨_, _, Heap.get?_push_of_some _ ue⟩ (D1.frame _ _ _ j1 fun _ _ _ e => Heap.get?_push_of_some _ e) (D2.frame _ _ _ te fun _ _ _ e => Heap.get?_push_of_some _ e) tv
          fun c o cz cT c1 c2 e => Heap.get?_push_of_some _ (se.extBut _ _ c2 (bb c o cz cT c1 c2 e))
      · have c2 : i = n2 := by omega
        exact wpAny_bind (D2.done ⟨b, g, d, k1, os⟩ _ _ (c2 ▸ tc) fun e x he hx => out e k1 x (.inr c2) (fun c o cz cT c1 c2 y => he _ _ c2 (bb c o cz cT c1 c2 y)) hx)
    · have c1 : i = n1 := by omega
      exact wpAny_bind (D1.done ⟨a, g, d, k0, os⟩ _ _ (c1 ▸ ta) fun e x he hx => out e k0 x (.inl c1) (fun c o cz _ c1 _ y => he _ _ c1 (sa.extBut _ _ cz y)) hx)
theorem rj_pyNext {Q : Option Value → Shared → Prop} (S : ZipSep2 z TI TO i1 i2 fp1 fp2) (D1 : Draws prog w A.in1 i1 fp1 n1 P1 St1) (D2 : Draws prog w A.in1 i2 fp2 n2 P2 St2) (hz : ZipIdle s.heap z TI TO)
    (hTI : IsTupOf2 s.heap TI (.ref i1) (.ref i2)) (hTO : KeepsPair s.heap TO) (st1 : St1 i s.heap) (st2 : St2 i s.heap) (le1 : i ≤ n1) (le2 : i ≤ n2)
    (got : ∀ x y h' tk, i < n1 → i < n2 → P1 i x → P2 i y → ZipIdle h' z TI TO → KeepsPair h' TO → St1 (i + 1) h' → St2 (i + 1) h' → IsTupOf2 h' s.heap.objs.size x y → Beside z TO i1 i2 s.heap h' → Q (some (.ref s.heap.objs.size)) { s with heap := h', toks := tk })
    (out : ∀ h' tk, i = n1 ∨ i = n2 → Beside z TO i1 i2 s.heap h' → Q none { s with heap := h', toks := tk }) : wpAny (model prog w) A (pyNext (.ref z)) Q E s := by
  have ty : s.TypeIs (.ref z) "zip" := by obtain ⟨_, _, e, _⟩ := hz; exact ⟨_, e, rfl⟩
  unfold pyNext; refine wpAny_bind (wpAny_attempt (wpAny_callSpecial?_slot (name := Str.ofString "__next__") ty F.slot_zip_next (wpAny_call_entry F.slot_zip_next ty F.entry_zip_next ?_ (F.args_zip_next_1 _))))
  refine rj_next S D1 D2 hz hTI hTO st1 st2 le1 le2 (fun x y h' tk a b c e f g j k l m => wpAny_pure (got x y h' tk a b c e f g j k l m)) fun h' tk e c b he => ?_
  obtain ⟨o, ho, hc⟩ := he
  exact wpAny_bind (wpAny_isInstance (T := "StopIteration") (b := true) ⟨o, ho, hc⟩ isSubtype_stop (wpAny_pure (out _ _ c b)))
end
end PySem
namespace RJ
open PySem PySem.Spec PyProof.Rows L2
theorem Beside.out {z TI TO i1 i2 : Addr} {h h' : Heap} (b : Beside z TO i1 i2 h h') {c : Addr} {o : Obj} (hc : c ∉ [z, TI, TO, i1, i2]) : h.get? c = some o → h'.get? c = some o := by
  simp only [List.mem_cons, List.not_mem_nil, or_false, not_or] at hc
  exact b c o hc.1 hc.2.2.1 hc.2.2.2.1 hc.2.2.2.2
section
variable {P : Program} {w : World} {K : PySem.W.Frag} {x : Str} {tpos : Pos} {z TI TO i1 i2 : Addr} {n1 n2 : Nat} {tn1 tn2 : Nat → Heap → Prop} {G1 G2 : Hp → Prop} {PV1 PV2 : Nat → V → Prop}
/-- a zip whose tuples go out under a name -/
def ZipTn (z TI TO i1 i2 : Addr) (n : Nat) (tn1 tn2 : Nat → Heap → Prop) (i : Nat) (h : Heap) : Prop := i ≤ n ∧ ZipIdle h z TI TO ∧ IsTupOf2 h TI (.ref i1) (.ref i2) ∧ KeepsPair h TO ∧ tn1 i h ∧ tn2 i h
theorem turn_zipN (A5 : Ap5 z TI TO i1 i2) (D1 : DrawK P w K i1 n1 tn1 G1 PV1) (D2 : DrawK P w K i2 n2 tn2 G2 PV2) :
    Turn P w K (.Name x tpos) (ItG (min n1 n2) (fun H => G1 H ∧ G2 H) fun i xs => ∃ v1 v2, PV1 i v1 ∧ PV2 i v2 ∧ xs = [v1, v2]) [z, TI, TO, i1, i2] z (ZipTn z TI TO i1 i2 (min n1 n2) tn1 tn2) where
  mem := List.mem_cons_self ..
  obj := fun i h ⟨_, ⟨_, _, a, _⟩, b, ⟨_, _, c⟩, d, e⟩ => five (p := fun c => ∃ o, h.get? c = some o ∧ _) ⟨_, a, fun _ q => nomatch q⟩ ⟨_, b, fun _ q => nomatch q⟩ ⟨_, c, fun _ q => nomatch q⟩ (D1.obj i h d) (D2.obj i h e)
  keep := fun i h h' ⟨l, ⟨_, _, a, f⟩, b, ⟨_, _, c⟩, d, e⟩ k => ⟨l, ⟨_, _, k _ (by simp) _ a, f⟩, k _ (by simp) _ b, ⟨_, _, k _ (by simp) _ c⟩, D1.keep _ _ _ d fun o => k i1 (by simp) o, D2.keep _ _ _ e fun o => k i2 (by simp) o⟩
  item := by
    rintro X hP hw hK hc i pins s σ H E I hf ⟨hl, hz, hTI, hTO, h1, h2⟩ ⟨⟨hG1, hG2⟩, hlt⟩
    have none5 : H z = none ∧ H TI = none ∧ H TO = none ∧ H i1 = none ∧ H i2 = none := ⟨(hf _ (by simp)).1, (hf _ (by simp)).1, (hf _ (by simp)).1, (hf _ (by simp)).1, (hf _ (by simp)).1⟩
    obtain ⟨fp1, PD1, St1, DD1, c1, m1, q1, back1, val1⟩ := D1.draws X hP hw hK hc i pins s σ H I hG1 none5.2.2.2.1 h1
    obtain ⟨fp2, PD2, St2, DD2, c2, m2, q2, back2, val2⟩ := D2.draws X hP hw hK hc i pins s σ H I hG2 none5.2.2.2.2 h2
    subst hP hw hK
    refine rj_pyNext (A5.sep m1 m2 q1 q2 none5.1 none5.2.2.1 none5.2.2.2.1 none5.2.2.2.2) DD1 DD2 hz hTI hTO c1 c2 (by omega) (by omega) (fun u u2 h' tk _ _ p1 p2 z' TO' j1 j2 hT hk => ?_) fun h' tk e => absurd e (by omega)
    obtain ⟨v, hv, rv⟩ := val1 i u p1
    obtain ⟨v2, hv2, rv2⟩ := val2 i u2 p2
    have made : ObjOk X.prog X.w (upd H s.heap.objs.size (.tup [v, v2])) h' s.heap.objs.size (.tup [v, v2]) := ⟨by show 2 ≤ sizeLine; decide, [u, u2], .cons rv (.cons rv2 .nil), ⟨_, hT, rfl, _, rfl⟩⟩
    have J : Inv X pins σ (upd H s.heap.objs.size (.tup [v, v2])) { s with heap := h', toks := tk } := I.turnedNew (ch := [z, TI, TO, i1, i2]) (fun c o hb q => Beside.out hk hb q) hf (Nat.le_refl _) made
    have lt5 : ∀ c ∈ [z, TI, TO, i1, i2], c < s.heap.objs.size := by
      obtain ⟨_, _, a, _⟩ := hz
      obtain ⟨_, _, b⟩ := hTO
      obtain ⟨_, e1⟩ := DD1.live _ _ c1
      obtain ⟨_, e2⟩ := DD2.live _ _ c2
      exact five (Heap.lt_size a) (Heap.lt_size hTI) (Heap.lt_size b) (Heap.lt_size e1) (Heap.lt_size e2)
    exact ⟨_, rfl, wpAny_pure ⟨.ref s.heap.objs.size, _, J, rfl, ⟨_, _, rfl, I.hok.fresh (Nat.le_refl _), rfl, v, v2, hv, hv2, rfl⟩, ⟨hlt, z', hk _ _ A5.TIz A5.TITO A5.TIi1 A5.TIi2 hTI, TO', back1 _ _ j1, back2 _ _ j2⟩,
      fun c hcm => (upd_ne (Nat.ne_of_lt (lt5 c hcm))).trans (hf c hcm).1⟩⟩
  done := by
    rintro X hP hw hK hc i pins s σ H E I hf ⟨hl, hz, hTI, hTO, h1, h2⟩ ⟨⟨hG1, hG2⟩, hge⟩
    have none5 : H z = none ∧ H TO = none ∧ H i1 = none ∧ H i2 = none := ⟨(hf _ (by simp)).1, (hf _ (by simp)).1, (hf _ (by simp)).1, (hf _ (by simp)).1⟩
    obtain ⟨fp1, PD1, St1, DD1, c1, m1, q1, back1, val1⟩ := D1.draws X hP hw hK hc i pins s σ H I hG1 none5.2.2.1 h1
    obtain ⟨fp2, PD2, St2, DD2, c2, m2, q2, back2, val2⟩ := D2.draws X hP hw hK hc i pins s σ H I hG2 none5.2.2.2 h2
    subst hP hw hK
    exact rj_pyNext (A5.sep m1 m2 q1 q2 none5.1 none5.2.1 none5.2.2.1 none5.2.2.2) DD1 DD2 hz hTI hTO c1 c2 (by omega) (by omega) (fun _ _ _ _ a b => absurd a (by omega)) fun h' tk _ hk => ⟨rfl, I.turnedL (t' := tk) (ch := [z, TI, TO, i1, i2]) (fun c o hb q => Beside.out hk hb q) hf⟩
  self := fun A i s Q E st h => by
    obtain ⟨_, ⟨_, _, a, _⟩, _⟩ := st
    exact wpAny_pyIter_slot ⟨_, a, rfl⟩ F.slot_zip_iter (wpAny_call_entry F.slot_zip_iter ⟨_, a, rfl⟩ F.entry_zip_iter (show wpAny _ _ (ret (.ref z)) _ _ s from wpAny_pure ⟨_, rfl, "zip", _, ⟨_, a, rfl⟩, F.slot_zip_next.lookup, h⟩) (F.args_zip_iter_1 _))
end
/-- for p in zip(v1, v2) -/
theorem pi_zipN {X : Cx} {x : Str} {e e2 : Expr} {ta : TA} {p pos tpos : Pos} (hg : Gl X "zip") (hm : X.mg "zip" = none) (ha : PA X [e, e2] ta)
    (hs : starEach [e, e2] X.env = (false, eval e X.env) :: starEach [e2] X.env := by rfl) (hpl : (backTo pos (starEach [e2] X.env)).any (·.1) = false := by rfl) :
    PI X (.Name x tpos) (.Call (.Name "zip" p) [e, e2] [] pos) (iZipG ta) :=
  pi_zipGen hg hm ha (fun A5 D1 D2 => ⟨_, turn_zipN A5 D1 D2, fun h hz hTI hTO h1 h2 => ⟨Nat.zero_le _, ⟨_, _, hz, .inl rfl⟩, hTI, ⟨_, _, hTO⟩, h1, h2⟩⟩) hs hpl
end RJ
end

section
set_option maxRecDepth 100000
namespace RJ
open PySem PySem.Spec PyProof.Rows L2
open PySem.W (minD AlikeAll alike alikeAll dataLt)
theorem minD_mem : ∀ (ys : List PyData) (y : PyData), minD y ys ∈ y :: ys
  | [], y => List.mem_cons_self ..
  | z :: zs, y => by
    show zs.foldl _ (if dataLt z y = true then z else y) ∈ y :: z :: zs
    have h := minD_mem zs (if dataLt z y = true then z else y)
    have h' : minD (if dataLt z y = true then z else y) zs ∈ (if dataLt z y = true then z else y) :: zs := h
    rcases List.mem_cons.mp h' with e | e
    · show minD (if dataLt z y = true then z else y) zs ∈ _
      rw [e]
      by_cases c : dataLt z y = true
      · rw [if_pos c]; exact List.mem_cons_of_mem _ (List.mem_cons_self ..)
      · rw [if_neg c]; exact List.mem_cons_self ..
    · exact List.mem_cons_of_mem _ (List.mem_cons_of_mem _ e)
/-- a measure that < respects falls to its least value -/
theorem minD_le {rk : PyData → Int} {Ok : PyData → Prop} (h1 : ∀ x y, Ok x → Ok y → dataLt x y = true → rk x ≤ rk y) (h2 : ∀ x y, Ok x → Ok y → dataLt x y = false → rk y ≤ rk x) :
    ∀ (ys : List PyData) (y : PyData), (∀ z ∈ y :: ys, Ok z) → ∀ z ∈ y :: ys, rk (minD y ys) ≤ rk z
  | [], y, _, z, hz => by
    rw [List.mem_singleton.mp hz]; exact Int.le_refl _
  | w :: ws, y, hok, z, hz => by
    have oky := hok y (List.mem_cons_self ..)
    have okw := hok w (List.mem_cons_of_mem _ (List.mem_cons_self ..))
    have step : rk (if dataLt w y = true then w else y) ≤ rk y ∧ rk (if dataLt w y = true then w else y) ≤ rk w := by
      cases c : dataLt w y with
      | true => exact ⟨h1 w y okw oky c, Int.le_refl _⟩
      | false => exact ⟨Int.le_refl _, h2 w y okw oky c⟩
    have ih := minD_le h1 h2 ws (if dataLt w y = true then w else y) (fun v hv => by
      rcases List.mem_cons.mp hv with e | e
      · rw [e]; split
        · exact okw
        · exact oky
      · exact hok v (List.mem_cons_of_mem _ (List.mem_cons_of_mem _ e)))
    show rk (minD (if dataLt w y = true then w else y) ws) ≤ rk z
    rcases List.mem_cons.mp hz with e | e
    · rw [e]; exact Int.le_trans (ih _ (List.mem_cons_self ..)) step.1
    · rcases List.mem_cons.mp e with e | e
      · rw [e]; exact Int.le_trans (ih _ (List.mem_cons_self ..)) step.2
      · exact ih z (List.mem_cons_of_mem _ e)
/-- min(l, default=None) of alike data -/
def rMinD (K : PySem.W.Frag) : List V → List V → Hp → VK → Prop := fun vs zs H Q => ∃ (a : Addr) (xs : List V) (ds : List PyData), vs = [V.ref a] ∧ zs = [V.non] ∧ H a = some (.lst xs) ∧ DpAll K H xs ds ∧ AlikeAll ds ∧ PyData.depthAll ds ≤ 60 ∧
  (ds = [] → Q .non H) ∧ ∀ (d : PyData) (ds' : List PyData) (i : Nat) (x : V), ds = d :: ds' → xs[i]? = some x → ds[i]? = some (minD d ds') → Q x H
theorem readsAll_ix {h : Heap} : ∀ {us : List Value} {ds : List PyData} {as : List Addr} {i : Nat} {u : Value}, ReadsAll h us ds as → us[i]? = some u → ∃ d bs, ds[i]? = some d ∧ Reads h u d bs
  | _, _, _, 0, u, .cons (d := d) (as := as) r _, e => by
    cases e
    exact ⟨d, as, rfl, r⟩
  | _, _, _, i + 1, u, .cons _ t, e => by
    obtain ⟨d, bs, h1, h2⟩ := readsAll_ix (i := i) t e
    exact ⟨d, bs, h1, h2⟩
theorem cr_minD {X : Cx} (hc : X.calm = true) (hu : X.A.units + 64 < cLine) : CallRK X (.builtin "min") [Str.ofString "default"] (rMinD X.K) := by
  intro pins s σ H xs0 zs us ws Q I r rz h
  obtain ⟨a, xs, ds, rfl, rfl, ha, hd, hal, hdep, q0, q1⟩ := h
  obtain ⟨its, rv, hl, _⟩ := I.list (SqL.of ha)
  rw [Vals.ref1 r]
  obtain ⟨u, rfl, ru⟩ := vals1 rz
  cases ru
  obtain ⟨as, hr⟩ := Dp.readsAll I ds xs its hd rv
  show wpAny _ _ (call (.builtin "min") [.ref a] [(Str.ofString "default", Value.none)]) _ _ s
  refine PySem.W.min_list_default (I.ok.hd hc) hl.isList hr hal (by omega) (fun e h' tk hk => ⟨.non, H, I.kept hk, rfl, q0 e⟩) fun y ys i v h' tk bs e hv hrd hk => ?_
  have hv' : its[i]? = some v := by simpa using hv
  have hl2 := rv.length
  have hi : i < xs.length := by
    have := (List.getElem?_eq_some_iff.mp hv').1
    omega
  obtain ⟨u2, hu2, ru2⟩ := rv.get (List.getElem?_eq_getElem hi)
  rw [hv'] at hu2
  cases hu2
  obtain ⟨d2, bs2, hd2, hr2⟩ := readsAll_ix hr hv'
  have heq : d2 = minD y ys := ((PyProof.Rows.reads_det (h := s.heap) (h' := h') (fun b o e _ => hk b o e) hr2 hrd).1).symm
  exact ⟨xs[i], H, I.kept hk, ru2, q1 y ys i _ e (List.getElem?_eq_getElem hi) (by rw [hd2, heq])⟩
end RJ
end

section
set_option maxRecDepth 100000
namespace RJ
open PySem PySem.Spec PyProof.Rows L2
/-- the signs of a text, each a text -/
def signsV (x : Str) : List V := x.cps.toList.map fun c => V.str ⟨#[c]⟩
theorem call_list_text {X : Cx} (hc : X.calm = true) : CallR X (.type "list") (fun xs H Q => ∃ x : Str, xs = [.str x] ∧ x.cps.size ≤ sizeLine ∧ ∀ l, H l = none → Q (.ref l) (upd H l (.lst (signsV x)))) := by
  intro pins s σ H xs us Q I r h
  obtain ⟨x, rfl, hz, q⟩ := h
  obtain ⟨u, rfl, rx⟩ := vals1 r
  obtain ⟨t, rfl⟩ := rx
  refine PySem.call_list_str (I.ok.hd hc) x t (hn := hz) fun h' tk acc c' hk hS hacc => ?_
  have hv : Vals (signsV x) acc.toList := by
    have hl : (signsV x).length = acc.toList.length := by
      rw [signsV, List.length_map, Array.length_toList, Array.length_toList]; exact hacc.1.symm
    have key : ∀ j u, acc.toList[j]? = some u → ∃ v, (signsV x)[j]? = some v ∧ RelV v u := fun j u hu => by
      obtain ⟨c, t', hcx, rfl⟩ := hacc.2 j u (by rw [← Array.getElem?_toList]; exact hu)
      exact ⟨.str ⟨#[c]⟩, by rw [signsV, List.getElem?_map]; simp [hcx], ⟨t', rfl⟩⟩
    clear hacc hS hk
    revert hl key
    generalize signsV x = vs
    generalize acc.toList = ws
    intro hl key
    induction vs generalizing ws with
    | nil =>
      cases ws with
      | nil => exact .nil
      | cons _ _ => cases hl
    | cons v vs ih =>
      cases ws with
      | nil => cases hl
      | cons w ws =>
        obtain ⟨v', e, r⟩ := key 0 w rfl
        cases e
        exact .cons r (ih ws (Nat.succ.inj hl) fun j u hu => key (j + 1) u hu)
  refine ⟨.ref s.heap.objs.size, _, I.laid (t' := tk) hk (Nat.le_refl _) (show ObjOk X.prog X.w _ h' _ (.lst (signsV x)) from ⟨?_, acc.toList, c', hv, by simpa using hS⟩), rfl, q _ (I.hok.fresh (Nat.le_refl _))⟩
  rw [signsV, List.length_map, Array.length_toList]; exact hz
theorem op_mul_text {X : Cx} : OpR X (binaryOp .Mult) (fun x y H Q => ∃ (a : Str) (n : Int), x = .str a ∧ y = .int n ∧ MulOk a n ∧ Q (.str (Txt.mul a n)) H) := by
  intro pins s σ H x y v u Q I rx ry h
  obtain ⟨a, n, rfl, rfl, hok, q⟩ := h
  obtain ⟨t, rfl⟩ := rx
  obtain ⟨t2, rfl⟩ := ry
  exact PySem.SB.mul hok fun t' k => ⟨.str _, H, I.kept (t' := k) fun _ _ z => z, ⟨_, rfl⟩, q⟩
end RJ
end

section
set_option maxRecDepth 100000
namespace RJ
open PySem PySem.Spec PyProof.Rows L2
/-! ### rules that name the written part: within a comprehension it can't be found -/
section
variable {X : Cx} {K : PySem.W.Frag}
theorem ix_listK (h : X.K = K) : IxR X (rIxL K) := h ▸ ix_list
theorem ix_tupK (h : X.K = K) : IxR X (rIxT K) := h ▸ ix_tup
theorem sl_listK (h : X.K = K) : SlR X (rSlL K) := h ▸ sl_list
theorem sl_tupAK (h : X.K = K) : SlR X (rSlA K) := h ▸ sl_tupA
theorem call_len_seqK (h : X.K = K) : CallR X (.builtin "len") (fun xs H Q => ∃ p ys, xs = [V.ref p] ∧ (SqL K H p ys ∨ SqT K H p ys) ∧ Q (.int (ys.length : Int)) H) := by subst h; exact call_len_seq
theorem call_list_ofK (h : X.K = K) : CallR X (.type "list") (fun xs H Q => ∃ p ys, xs = [V.ref p] ∧ (SqL K H p ys ∨ SqT K H p ys) ∧ ∀ l, H l = none → Q (.ref l) (upd H l (.lst ys))) := by subst h; exact call_list_of
theorem op_in_seqK (h : X.K = K) : OpR X (compareOp .In) (rIn K false) := h ▸ op_in_seq
theorem op_notIn_seqK (h : X.K = K) : OpR X (compareOp .NotIn) (rIn K true) := h ▸ op_notIn_seq
theorem pe_fldK {e : Expr} {f : Str} {pos : Pos} {ta : TE} (h : X.K = K) (he : PE X e ta) (hb : attributeBase e f X.env (eval e X.env) = eval e X.env) : PE X (.Attribute e f pos) (tFld K ta f) := by subst h; exact pe_fld he hb
theorem pe_bmK {T id : String} {name : Str} {r : V → List V → Hp → VK → Prop} {o e : Expr} {es : List Expr} {apos cpos : Pos} {to : TE} {t : TA} (h : X.K = K) (pa : PlainAttrs T) (slot : Slot T name id) (hty : typeOf (.builtin id) = pure (.type "method_descriptor")) (hm : MtR X id r) (ho : PE X o to) (ha : PA X (e :: es) t)
    (hbase : attributeBase o name X.env (eval o X.env) = eval o X.env := by rfl)
    (hfew : ((backTo cpos (starEach (e :: es) X.env)).all (fun x => !x.1) && (backToKw cpos (keywordEach [] X.env)).all (fun x => x.1.isSome)
      && decide ((e :: es).length + ([] : List Keyword).length + (if ([] : List Keyword).isEmpty then 0 else 1) < 30)) = true := by rfl)
    (hline : (apos.endLine == cpos.line) = true := by rfl) (hs : starEach (e :: es) X.env = (false, eval e X.env) :: starEach es X.env := by rfl) (hplain : (backTo cpos (starEach es X.env)).any (·.1) = false := by rfl) :
    PE X (.Call (.Attribute o name apos) (e :: es) [] cpos) (tBM K T r to t) := by subst h; exact pe_bm pa slot hty hm ho ha hbase hfew hline hs hplain
end
end RJ
end

section
set_option maxRecDepth 100000
set_option maxHeartbeats 2000000
namespace RJ
open PySem PySem.Spec PyProof.Rows L2

/-- an error's own __init__, that calls the one above it by super() -/
structure SupF (P : Program) (K : PySem.W.Frag) (C : Addr) (qual : Str) (st : Stmt) (f : Addr) (fd : FuncData) : Prop where
  ex : ∃ (oc : Value) (od : Option Addr) (dV kV doc pm : Value) (an : Option Addr) (cda : Addr) (ct : Value) (osl : Array (Option Value)) (cc : Addr),
    fd = PySem.W.ksFn "__init__" qual (C8.fnArgs st) (C8.fnBody st) (C8.fnScope st) dV kV doc pm an (.ref cda) ct cc ∧ K.lookup f = some ⟨oc, od, .func fd, osl⟩ ∧ PySem.W.codeIn K (.ref cda) qual = true ∧
    (∃ (ccl : Value) (cdd : Option Addr) (vs : Array Value) (ccs : Array (Option Value)) (file : Str) (tf : Tok), K.lookup cda = some ⟨ccl, cdd, .fields vs, ccs⟩ ∧ vs[2]? = some (.str file tf) ∧ ((P.main.file : Str) == file) = true) ∧
    ∃ (cl : Value) (cld : Option Addr) (csl : Array (Option Value)), K.lookup cc = some ⟨cl, cld, .cell (some (.ref C)), csl⟩
  top : (P.main.scope.names.lookup ("super" : Str)).isSome = false
  sup : PySem.W.ks_superIn K C C "__init__" = some (some (.builtin "ValueError.__init__"))
  sub : PySem.W.subIn K (.ref C) (.type "ValueError") = some true
  mro : PySem.W.mroIn K C (.ref C) = some true
  opq : PySem.W.nsIn K PySem.cStatics "thirdparty.any" = some none
  oex : OexC K C

/-- a look at the names of such a def -/
def supB (N ps : List Str) (sc : Scope) : Bool :=
  decide (sc.kind = .function) && (!sc.isCoroutine && (!sc.isGenerator && (decide N.Nodup && (decide (N.take ps.length = ps) && (ps.all (fun x => decide (sc.names.lookup x = some .local)) && (sc.names.all (fun y => !decide (y.2 = .cell)) &&
    (sc.names.all (fun y => !decide (y.2 = .free) || decide (y.1 = "__class__")) && (decide (sc.names.lookup ("__class__" : Str) = some .free) && decide (sc.names.lookup ("super" : Str) = some .globalImplicit)))))))))
structure SupS (N ps : List Str) (sc : Scope) : Prop where
  kind : sc.kind = .function
  co : sc.isCoroutine = false
  gen : sc.isGenerator = false
  nd : N.Nodup
  pre : N.take ps.length = ps
  par : ∀ x ∈ ps, sc.names.lookup x = some .local
  nocell : ∀ y ∈ sc.names, y.2 ≠ .cell
  only : ∀ y ∈ sc.names, y.2 = .free → y.1 = "__class__"
  cls : sc.names.lookup ("__class__" : Str) = some .free
  sup : sc.names.lookup ("super" : Str) = some .globalImplicit
theorem supS_of {N ps : List Str} {sc : Scope} (h : supB N ps sc = true) : SupS N ps sc := by
  unfold supB at h
  simp only [Bool.and_eq_true, Bool.not_eq_true', decide_eq_true_eq, List.all_eq_true, Bool.or_eq_true, decide_eq_false_iff_not] at h
  obtain ⟨h1, h2, h3, h4, h5, h6, h7, h8, h9, h10⟩ := h
  exact ⟨h1, h2, h3, h4, h5, h6, h7, fun y hy e => (h8 y hy).elim (fun z => absurd e z) id, h9, h10⟩

theorem lookup_one {y : Str} {u : Value} : ∀ {l : List (Str × Value)}, (y, u) ∈ l → (∀ u', (y, u') ∈ l → u' = u) → l.lookup y = some u
  | [], h, _ => absurd h (by simp)
  | (a, b) :: l, h, hu => by
    by_cases e : y = a
    · subst e
      have := hu b (by simp)
      subst this
      simp [List.lookup]
    · have hb : (y == a) = false := by simpa using e
      have h' : (y, u) ∈ l := by
        rcases List.mem_cons.mp h with z | z
        · exact absurd (congrArg Prod.fst z) e
        · exact z
      show (match y == a with | true => some b | false => l.lookup y) = some u
      rw [hb]
      exact lookup_one h' fun u' z => hu u' (List.mem_cons_of_mem _ z)
theorem zip_lookup {ps : List Str} {us : List Value} {i : Nat} {y : Str} {u : Value} (nd : ps.Nodup) (h1 : ps[i]? = some y) (h2 : us[i]? = some u) : (ps.zip us).reverse.lookup y = some u := by
  refine lookup_one ?_ fun u' z => ?_
  · rw [List.mem_reverse]
    have : (ps.zip us)[i]? = some (y, u) := by rw [List.getElem?_zip_eq_some]; exact ⟨h1, h2⟩
    exact List.mem_of_getElem? this
  · rw [List.mem_reverse] at z
    obtain ⟨j, hj⟩ := List.mem_iff_getElem?.mp z
    rw [List.getElem?_zip_eq_some] at hj
    have e := nodup_ix nd h1 hj.1
    subst e
    exact Option.some.inj (hj.2.symm.trans h2)

/-- the body's context -/
def cxS (P : Program) (w : World) (K : PySem.W.Frag) (mg : Str → Option Value) (base : Heap) (N : List Str) (qual : Str) (sc : Scope) (f cda cc : Addr) (A : Around) (outer : List Env) (s : Shared) (H : Hp) : Cx where
  prog := P
  w := w
  K := K
  mg := mg
  base := base
  A := A.deeper (PySem.W.ksEnv qual sc s.heap.objs.size f (.ref cda) cc)
  N := N
  s_0 := s
  H_0 := H
  env := PySem.W.ksEnv qual sc s.heap.objs.size f (.ref cda) cc
  outer := outer
  stack := PySem.W.ksEnv qual sc s.heap.objs.size f (.ref cda) cc :: outer
  ex := []
  calm := true
  fn := fun _ => false
  pn := []
  xe := fun _ _ => False

section
variable {P : Program} {w : World} {K : PySem.W.Frag} {mg : Str → Option Value} {base : Heap} {N ps : List Str} {qual : Str} {sc : Scope} {f cda cc : Addr} {A : Around} {outer : List Env} {s : Shared} {H : Hp} {us : List Value} {vs : List V}
theorem inv_startS {cv : Value} (S : SupS N ps sc) (hd : A.handled = none) (e0 : Env0 P w K mg base A outer s H) (hl : vs.length = ps.length) (r : Vals vs us) {h1 : Heap} {tk : Nat}
    (hns : h1.Ns s.heap.objs.size fun x => (ps.zip us).reverse.lookup x) (hk : ∀ b o, s.heap.get? b = some o → h1.get? b = some o) (hcc : base.IsCell cc (some cv)) :
    Inv (cxS P w K mg base N qual sc f cda cc A outer s H) [] (L2.start N vs) H { s with heap := h1, toks := tk } := by
  have hpl : ps.length ≤ N.length := by have := congrArg List.length S.pre; rw [List.length_take] at this; omega
  have noA : ∀ b : Addr, b ∉ (cxS P w K mg base N qual sc f cda cc A outer s H).ex := fun b z => absurd (show b ∈ ([] : List Addr) from z) (by simp)
  obtain ⟨oc, hoc, hdc⟩ := hcc
  have cl : ∀ (y : Str) (c : Addr), (cxS P w K mg base N qual sc f cda cc A outer s H).env.cells.lookup y = some c → c = cc ∧ y = "__class__" := fun y c h => by
    have h' : ([("__class__", cc)] : List (Str × Addr)).lookup y = some c := h
    by_cases e : y = "__class__"
    · subst e; exact ⟨(Option.some.inj h').symm, rfl⟩
    · have hb : (y == ("__class__" : Str)) = false := by simpa using e
      have : (match y == ("__class__" : Str) with | true => some cc | false => none) = some c := h'
      rw [hb] at this; cases this
  refine ⟨⟨e0.mod, S.kind, rfl, rfl, Nat.le_refl _, fun y z c p q => (cl y c p).2.trans (cl z c q).2.symm, fun y hy => ?_, fun y c z _ => Bool.noConfusion (show false = true from z), fun _ => hd, Around.frames_deeper e0.frames, .inr ⟨rfl, rfl⟩,
    fun b z => absurd z (noA b), e0.bs, e0.bsz, fun b _ _ => noA b, fun b z => absurd z (noA b), e0.funs, e0.frf⟩, rfl, e0.bare, Un.kept hk, ⟨_, hns, fun i y v p q z => ?_⟩, fun y c p => ?_, e0.hok.fresh (Nat.le_refl _), fun y c p => ?_,
    fun p hp => absurd (show p ∈ ([] : List (Addr × Obj)) from hp) (by simp), e0.hok.kept hk, ?_⟩
  · have hy : sc.names.lookup y = some .cell ∨ sc.names.lookup y = some .free := hy
    rcases hy with hy | hy
    · exact absurd rfl (S.nocell _ (PySem.mem_of_lookup hy))
    · have := S.only _ (PySem.mem_of_lookup hy) rfl
      subst this
      exact ⟨cc, rfl⟩
  · have hi : i < vs.length := by
      unfold L2.start at q
      by_cases hi : i < vs.length
      · exact hi
      · rw [List.getElem?_append_right (by simpa using hi), List.getElem?_replicate] at q
        split at q <;> cases q
    have ha : vs[i]? = some v := by
      unfold L2.start at q
      rw [List.getElem?_append_left (by simpa using hi), List.getElem?_map] at q
      cases e : vs[i]? with
      | none => rw [e] at q; cases q
      | some a => rw [e] at q; cases q; rfl
    obtain ⟨u, hu, rv⟩ := r.get ha
    have hp : ps[i]? = some y := by rw [← S.pre, List.getElem?_take_of_lt (by omega)]; exact p
    exact ⟨u, rv, .inl ⟨S.par y (List.mem_of_getElem? hp), zip_lookup (by rw [← S.pre]; exact S.nd.sublist (List.take_sublist _ _)) hp hu⟩⟩
  · obtain ⟨rfl, _⟩ := cl y c p
    exact ⟨some cv, oc, hk _ _ (e0.bs _ _ hoc).1, hdc⟩
  · obtain ⟨rfl, _⟩ := cl y c p
    exact (e0.bs _ _ hoc).2
  · unfold L2.start
    show _ = N.length
    rw [List.length_append, List.length_map, List.length_replicate]
    omega
end

section
variable {X : Cx} {pins : List (Addr × Obj)} {σ : L2.St} {H : Hp} {s : Shared} {a C u : Addr} {us : List Value} {Q : Value → Shared → Prop} {E : Value → Shared → Prop} {A : Around}
/-- the bound __init__ of ValueError called: what it lays down is not told -/
theorem call_mw (T : OexC X.K C) (I : Inv X pins σ H s) (e : H a = some (exo a C none)) (hu : s.heap.get? u = some (PySem.W.kxs_mw "ValueError.__init__" a)) (hl : us.length ≤ sizeLine) (h : ∀ s', Inv X pins σ H s' → Q .none s') :
    wpAny (model X.prog X.w) A (call (.ref u) us) Q E s := by
  obtain ⟨nm, q, N, bs, bm, sn, sub, ab, col, dd, k0, k1, k2, k3, k5, hC, hbm⟩ := T.cls
  obtain ⟨t1, ho⟩ := exo_at I.hok e
  have hCs := I.kIn _ _ hC
  obtain ⟨hp, g, d, t, os⟩ := s
  refine wpAny_call (codeAny_of_tree ?_)
  show wpAny _ A.in1 (callAny (.ref u) _) _ _ _
  unfold callAny
  refine wpAny_bind (wpAny_load hu ?_)
  simp only [PySem.W.kxs_mw, (by decide : (Value.type "method-wrapper" == Value.type "method" || Value.type "method-wrapper" == Value.type "builtin_function_or_method" || Value.type "method-wrapper" == Value.type "method-wrapper") = true), if_true]
  refine PySem.W.KFB.if_so (by decide) (wpAny_bind (PySem.W.check_bound_init F.excBase_ValueError.toExcCallFacts hCs ho rfl (wpAny_bind (wpAny_pure (wpAny_pure ⟨plainId_quiet F.excBase_ValueError.init.plain _, codeAny_builtin F.excBase_ValueError.initEntry ?_⟩)))))
  refine PySem.W.exc_init_tree (cls := .ref C) (t0 := t1) (dv := none) (c2 := .none) (c3 := .none) (b4 := .bool false) ho hl fun h' k hx _ => ?_
  have J := I.write (t' := t) (x := a) (e := a) (o := exo a C none) (by rw [e]; exact True.intro) (.inl rfl) k ⟨_, hx⟩ (exo_ok hx)
  have eu : upd H a (exo a C none) = H := funext fun b => by
    by_cases hb : b = a
    · subst hb; rw [upd_same, e]
    · rw [upd_ne hb]
  rw [eu] at J
  exact h _ J
end

section
variable {X : Cx} {σ : L2.St} {H : Hp} {s : Shared} {a C f cda cc : Addr} {qual : Str} {st : Stmt} {fd : FuncData} {e : Expr} {ta : TA} {p0 p1 p2 p3 p4 : Pos} {ar : Arg} {body : List Stmt} {pl : Sem Bool}
/-- super().__init__(e), where C is the class around the def and the object's own -/
theorem super_expr (F : SupF X.prog X.K C qual st f fd) (hm : X.mg "super" = none) (hc1 : X.env.kindOf "super" = some .globalImplicit) (hc2 : X.env.kindOf "__class__" = some .free) (hc3 : X.env.kindOf ar.arg = some .local) (hfu : X.env.func = some f)
    (hcl : ∀ cc', (∃ cl cld csl, X.K.lookup cc' = some ⟨cl, cld, .cell (some (.ref C)), csl⟩) → cc' = cc → X.env.cells.lookup ("__class__" : Str) = some cc') (hcc : ∃ (cl : Value) (cld : Option Addr) (csl : Array (Option Value)), X.K.lookup cc = some ⟨cl, cld, .cell (some (.ref C)), csl⟩) (hco : X.env.code = .ref cda)
    (hcd : ∃ (ccl : Value) (cdd : Option Addr) (vs : Array Value) (ccs : Array (Option Value)) (file : Str) (tf : Tok), X.K.lookup cda = some ⟨ccl, cdd, .fields vs, ccs⟩ ∧ vs[2]? = some (.str file tf) ∧ ((X.prog.main.file : Str) == file) = true)
    (hp : (fd.params.posonlyargs ++ fd.params.args).head? = some ar) (hi : interactive X.env = false) (hs : swapsWith (.Call (.Attribute (.Call (.Name "super" p0) [] [] p1) "__init__" p2) [e] [] p3) none p4.line X.env = pure false)
    (hev : eval (.Call (.Attribute (.Call (.Name "super" p0) [] [] p1) "__init__" p2) [e] [] p3) X.env = (do
      let ov ← attributeBase (.Call (.Name "super" p0) [] [] p1) "__init__" X.env (eval (.Call (.Name "super" p0) [] [] p1) X.env)
      standAt p2.atName
      let (g, first) ← holding [ov] (getMethod ov "__init__" pl)
      callWith p3 g first (backTo p3 (starEach [e] X.env)) []))
    (hst : starEach [e] X.env = (false, eval e X.env) :: starEach [] X.env) (hN : X.N[0]? = some ar.arg) (hσ : σ[0]? = some (some (.ref a))) (I : Inv X [] σ H s) (ea : H a = some (exo a C none)) (hta : PA X [e] ta) (q : ta σ H fun xs H1 => H1 = H ∧ xs.length ≤ 1000) :
    _root_.PySem.wpAt (model X.prog X.w) X.A (.func body X.env) (exec (.Expr (.Call (.Attribute (.Call (.Name "super" p0) [] [] p1) "__init__" p2) [e] [] p3) p4) X.env) (fun fl s' => fl = .next ∧ Inv X [] σ H s') X.xe s := by
  obtain ⟨oc, od, dV, kV, doc, pm, an, cda', ct, osl, cc', hfd, lk, -⟩ := F.ex
  obtain ⟨ccl, cdd, vc, ccs, file, tf, hcode, hvc, hfile⟩ := hcd
  obtain ⟨cl, cld, csl, hcell⟩ := hcc
  obtain ⟨mb, hb1, hb2⟩ := I.mod.blt
  obtain ⟨m, hns, hlk⟩ := id I.loc
  obtain ⟨u, ru, hu⟩ := hlk 0 ar.arg (.ref a) hN hσ (.inl hc3)
  obtain rfl : u = Value.ref a := ru
  have hma : m ar.arg = some (.ref a) := by
    rcases hu with ⟨_, z⟩ | ⟨z, _⟩
    · exact z
    · rcases z with z | z <;> (rw [hc3] at z; cases z)
  obtain ⟨nm, qn, N0, bs, bm, sn, sub, ab, col, dd, k0, k1, k2, k3, k5, hC, hbm⟩ := F.oex.cls
  obtain ⟨t1, ho⟩ := exo_at I.hok ea
  have KX := I.kIn
  have hCs := KX _ _ hC
  have hsc : ∃ cd, PySem.W.clsIn X.K C = some cd := by unfold PySem.W.clsIn; rw [hC]; exact ⟨_, rfl⟩
  obtain ⟨cdC, hcdC⟩ := hsc
  have hal : PySem.W.alongIn X.K "__init__" ((cdC.mro.dropWhile (· != .ref C)).drop 1) = some (some (.builtin "ValueError.__init__")) := by
    have z := F.sup
    unfold PySem.W.ks_superIn at z
    rw [hcdC] at z
    exact z
  have hxC : a ≠ C := fun z => by
    rw [z, hCs] at ho
    cases ho
  refine ks_wpAt_Expr_any (ks_wpAt_MethodCall (pl := pl) (ks_wpAt_super_base (of := ⟨oc, od, .func fd, osl⟩) hc1 hc2 (by decide) hfu (KX _ _ lk) rfl hp hco (KX _ _ hcode) rfl hvc hfile F.top ?_) hev) hi hs
  · refine PySem.W.ks_loadName_global I.ok.kind hc1 (Calls.loadGlobal_builtin (by rw [I.ok.glob]; exact I.mod.glob.keeps I.bk) hm (by rw [I.ok.blt]; exact hb1.keeps I.bk) ((hb2 "super" (by decide)).trans (by decide +kernel : bootBuiltins "super" = some (.type "super"))) ⟨rfl, ?_⟩)
    refine wpAny_loadName_free I.ok.kind hc2 (hcl cc ⟨_, _, _, hcell⟩ rfl) ⟨_, KX _ _ hcell, rfl⟩ (wpAny_loadName_local I.ok.kind hc3 hns hma (ks_wpAny_isType_cls hCs rfl ⟨rfl, ?_⟩))
    obtain ⟨hp, g, d, t, os⟩ := s
    refine ks_wpAny_call_super hCs rfl ho rfl (fun c z => by cases z) (PySem.W.looks_mroIn KX F.mro) fun h' e1 k => ?_
    have I1 : Inv X [] σ H ⟨h', g, d, t, os⟩ := I.kept (t' := t) k
    have I2 : W.InstAt h' a { cls := .ref C, dict := none, data := .fields #[.ref t1, .none, .none, .none, .bool false, .none] } C none := ⟨k _ _ ho, rfl, rfl, trivial⟩
    have hmr : W.Looks (model X.prog X.w) h' (mroOf (.ref C)) cdC.mro := (W.looks_clsIn I1.kIn hcdC).andThen .now
    refine PySem.W.kxs_getMethod PySem.W.kxs_ValueError e1 (PySem.W.looks_opaque I1.kIn F.opq) hmr rfl I1.kIn hal (I2.type.andThen (PySem.W.looks_subIn I1.kIn F.sub)) hxC (by decide) ?_
    have I3 : Inv X [] σ H ⟨h'.push (PySem.W.kxs_mw "ValueError.__init__" a), g, d, t + 1, os⟩ := I1.kept (t' := t + 1) fun b o z => Heap.get?_push_of_some _ z
    have hu3 : (h'.push (PySem.W.kxs_mw "ValueError.__init__" a)).get? h'.objs.size = some (PySem.W.kxs_mw "ValueError.__init__" a) := Heap.get?_push_at rfl rfl
    have I4 : Inv X [(h'.objs.size, PySem.W.kxs_mw "ValueError.__init__" a)] σ H ⟨h'.push (PySem.W.kxs_mw "ValueError.__init__" a), g, d, t + 1, os⟩ := I3.pins_of fun p hp => by
      obtain rfl : p = (h'.objs.size, PySem.W.kxs_mw "ValueError.__init__" a) := by simpa using hp
      exact ⟨hu3, I1.hok.fresh (Nat.le_refl _), Nat.ne_of_gt I1.lt, I1.nofs (Nat.le_refl _), fun v z => by cases z⟩
    show wpAny _ _ (callWith p3 (.ref h'.objs.size) [] (backTo p3 (starEach [e] X.env)) []) _ _ _
    have hrun := hta.run p3 [(h'.objs.size, PySem.W.kxs_mw "ValueError.__init__" a)] _ σ H _ I4 q
    rw [hst] at hrun ⊢
    refine PySem.W.kxs_callWith (i := "ValueError.__init__") (x := a) rfl (Calls.evalArgs_plain (thn hrun fun us s1 hh => ?_))
    obtain ⟨vs, H1, I5, r5, e5, hl5⟩ := hh
    subst e5
    have hlu : us.length ≤ sizeLine := by
      rw [← Paired.length r5, sizeLine_eq]
      omega
    refine ⟨(I5.pin (h'.objs.size, PySem.W.kxs_mw "ValueError.__init__" a) (List.mem_append_right _ List.mem_cons_self)).1, ?_⟩
    exact call_mw F.oex I5 ea (I5.pin (h'.objs.size, PySem.W.kxs_mw "ValueError.__init__" a) (List.mem_append_right _ List.mem_cons_self)).1 hlu fun s' J => ⟨rfl, J.pins_of fun p hp => absurd hp (by simp)⟩
end

section
variable {P : Program} {w : World} {K : PySem.W.Frag} {mg : Str → Option Value} {base : Heap}
/-- the def by its body: super().__init__(e), then the fields -/
theorem fn_super {C : Addr} {qual : Str} {st : Stmt} {f : Addr} {fd : FuncData} {N ps : List Str} {k : Nat} {sp : Sp} {e : Expr} {rest : List Stmt} {p0 p1 p2 p3 p4 : Pos} {ar : Arg} {p' : List Str} (F : SupF P K C qual st f fd) (hm : mg "super" = none)
    (S : SupS N ps (C8.fnScope st)) (hb : C8.fnBody st = .Expr (.Call (.Attribute (.Call (.Name "super" p0) [] [] p1) "__init__" p2) [e] [] p3) p4 :: rest) (hp : ((C8.fnArgs st).posonlyargs ++ (C8.fnArgs st).args).head? = some ar) (hps : ps = ar.arg :: p')
    (len : ∀ vs H Q E, sp vs H Q E → vs.length = ps.length) (self0 : ∀ vs H Q E, sp vs H Q E → ∃ a vs', vs = .ref a :: vs' ∧ H a = some (exo a C none))
    {pl : Env → Sem Bool} (hev : ∀ env : Env, eval (.Call (.Attribute (.Call (.Name "super" p0) [] [] p1) "__init__" p2) [e] [] p3) env = (do
      let ov ← attributeBase (.Call (.Name "super" p0) [] [] p1) "__init__" env (eval (.Call (.Name "super" p0) [] [] p1) env)
      standAt p2.atName
      let (g, first) ← holding [ov] (getMethod ov "__init__" (pl env))
      callWith p3 g first (backTo p3 (starEach [e] env)) []))
    (he : ∀ env : Env, starEach [e] env = (false, eval e env) :: starEach [] env) (hs : ∀ (env : Env) o, swapsWith (.Call (.Attribute (.Call (.Name "super" p0) [] [] p1) "__init__" p2) [e] [] p3) none o env = pure false)
    (hbody : ∀ (cda cc : Addr) (A : Around) (outer : List Env) (s : Shared) (H : Hp) (vs : List V) (Q : VK) (E : XK), Room k (A.deeper (PySem.W.ksEnv qual (C8.fnScope st) s.heap.objs.size f (.ref cda) cc)) → sp vs H Q E →
      ∃ ta t, PA (cxS P w K mg base N qual (C8.fnScope st) f cda cc A outer s H) [e] ta ∧ PSs (cxS P w K mg base N qual (C8.fnScope st) f cda cc A outer s H) rest t ∧
        (ta (L2.start N vs) H fun xs H1 => H1 = H ∧ xs.length ≤ 1000) ∧ t { nx := fun _ H' => Q .non H', rt := Q } (L2.start N vs) H) : FnOk P w K mg base C8.CX0 (k + 1) f fd ps sp := by
  refine ⟨len, fun A outer s H args us vs Q E hr e0 hbd r hsp => ?_⟩
  have hl := len _ _ _ _ hsp
  obtain ⟨a, vs', rfl, ea⟩ := self0 _ _ _ _ hsp
  obtain ⟨oc, od, dV, kV, doc, pm, an, cda, ct, osl, cc, rfl, lk, hcd, ⟨ccl, cdd, vc, ccs, file, tf, hcode, hvc, hfile⟩, cl, cld, csl, hcell⟩ := F.ex
  have KX : K.In s.heap := e0.mod.kin.keeps fun b o e => (e0.bs b o e).1
  have lim : s.heap.NoLimit := e0.mod.nolimit.keeps fun b o e => (e0.bs b o e).1
  refine PySem.ks_codeAny_call_defAt (body := C8.fnBody st) hr.depth (KX _ _ lk) rfl lim (PySem.W.codeRec_of KX hcd) rfl hbd S.nocell (fun y hy => S.par _ (List.of_mem_zip (a := y.1) (b := y.2) hy).1) (fun h1 hns hk => ?_) S.co S.gen S.kind
  have I : Inv (cxS P w K mg base N qual (C8.fnScope st) f cda cc A outer s H) [] (L2.start N (.ref a :: vs')) H { s with heap := h1, toks := s.toks + (ps.zip us).length } := inv_startS (cv := .ref C) S hr.hd e0 hl r hns hk ⟨_, e0.mod.kin _ _ hcell, rfl⟩
  obtain ⟨ta, t, hta, ht, hq, hq2⟩ := hbody cda cc A outer s H _ Q E (hr.deeper _) hsp
  rw [hb]
  have hN0 : N[0]? = some ar.arg := by
    have : (N.take ps.length)[0]? = some ar.arg := by rw [S.pre, hps]; rfl
    rwa [List.getElem?_take_of_lt (by rw [hps]; simp)] at this
  refine ks_wpAt_execs_cons (ks_wpAt_mono (super_expr (X := cxS P w K mg base N qual (C8.fnScope st) f cda cc A outer s H) (cc := cc) (cda := cda) (ar := ar) F hm S.sup S.cls (S.par _ (by rw [hps]; simp)) rfl (fun cc' _ z => by rw [z]; rfl) ⟨cl, cld, csl, hcell⟩ rfl ⟨ccl, cdd, vc, ccs, file, tf, hcode, hvc, hfile⟩ hp (by show (decide _ && _) = false; first | rfl | simp [cxS, S.kind]) (hs _ _) (hev _) (he _) hN0 rfl I ea hta hq) (fun fl s' hh => ?_) fun _ _ z => z.elim)
  obtain ⟨rfl, J⟩ := hh
  refine wpAt_of_wpAny (wpAny_mono (ht.run [] s' (L2.start N (.ref a :: vs')) H _ J hq2) (fun fl s2 h2 => ?_) fun _ _ z => z.elim)
  have fin : ∀ {σ' : L2.St} {H' : Hp} {v : V} {u : Value}, L2.Inv (cxS P w K mg base N qual (C8.fnScope st) f cda cc A outer s H) [] σ' H' s2 → L2.RelV v u → Q v H' → CE outer P w H s Q u s2 := fun {σ' H' v u} J rv q => ⟨v, H', J.os, J.bare, J.base, J.hok, rv, q⟩
  cases fl with
  | next =>
    obtain ⟨_, _, J2, q2⟩ := h2
    exact fin (v := V.non) J2 rfl q2
  | ret u =>
    obtain ⟨_, _, _, J2, rv, q2⟩ := h2
    exact fin J2 rv q2
  | brk => exact h2.elim fun _ z => z.elim fun _ y => y.2.elim
  | cont => exact h2.elim fun _ z => z.elim fun _ y => y.2.elim
end
end RJ
end

section
set_option maxRecDepth 100000
set_option maxHeartbeats 2000000
namespace RJ
open PySem PySem.Spec PyProof.Rows L2

/-! ### defs that may raise -/
/-- what lets errors out -/
abbrev CXN (P : Program) (w : World) : CXT := L2N.CX P w
structure CalX (P : Program) (w : World) (K : PySem.W.Frag) (mg : Str → Option Value) (base : Heap) (k : Nat) (x : Str) (sp : Sp) : Prop where
  ex : ∃ (f : Addr) (fd : FuncData) (ps : List Str), FnOk P w K mg base (CXN P w) k f fd ps sp ∧ mg x = some (.ref f) ∧ PySem.W.keepIn K (.ref f) = true ∧ Binds K fd ps []
structure MetX (P : Program) (w : World) (K : PySem.W.Frag) (mg : Str → Option Value) (base : Heap) (k : Nat) (C : Addr) (m : Str) (sp : Sp) : Prop where
  ex : ∃ (f : Addr) (fd : FuncData) (ps : List Str), Cls K C ∧ Meth K C m f ∧ FnOk P w K mg base (CXN P w) k f fd ps sp ∧ Binds K fd ps []
section
variable {P : Program} {w : World} {K : PySem.W.Frag} {mg : Str → Option Value} {base : Heap}
theorem fnX {x qual : Str} {st : Stmt} {f : Addr} {fd : FuncData} {N ps : List Str} {k : Nat} {sp : Sp} (F : C8.Fun K x qual st f fd) (S : FnScope N ps (C8.fnScope st)) (len : ∀ vs H Q E, sp vs H Q E → vs.length = ps.length)
    (hb : ∀ (cdv : Value) (A : Around) (outer : List Env) (s : Shared) (H : Hp) (vs : List V) (Q : VK) (E : XK), Room k (A.deeper (envOfC qual (C8.fnScope st) s.heap.objs.size f cdv)) → sp vs H Q E →
      L2N.Takes (cxOf (CXN P w) P w K mg base N qual (C8.fnScope st) f cdv A outer s H E) (fun cls d _ H' => E cls d H') →
      ∃ t, PSs (cxOf (CXN P w) P w K mg base N qual (C8.fnScope st) f cdv A outer s H E) (C8.fnBody st) t ∧ t { nx := fun _ H' => Q .non H', rt := Q } (start N vs) H) : FnOk P w K mg base (CXN P w) (k + 1) f fd ps sp := by
  obtain ⟨oc, od, dV, kV, doc, pm, an, cdv, ct, osl, rfl, lk, hcd⟩ := F.ex
  exact fn_of lk hcd S len fun A outer s H vs Q E hr hsp => hb cdv A outer s H vs Q E hr hsp (L2N.takes_of rfl rfl rfl rfl)
end
section
variable {X : Cx} {k j : Nat} {C : Addr} {x m : Str} {sp : Sp} {p pos apos : Pos} {e o : Expr} {es : List Expr} {ta : TE} {t : TA} {W : WX}
theorem pe_cx (c : CalX X.prog X.w X.K X.mg X.base k x sp) (hr : Room j X.A) (hk : k ≤ j) (tk : L2N.Takes X W) (hg : Gl X x) (ha : PA X (e :: es) t)
    (hdb : (x == ("__debug__" : Str)) = false := by decide) (he : starEach (e :: es) X.env = (false, eval e X.env) :: starEach es X.env := by rfl) (hpl : (backTo pos (starEach es X.env)).any (·.1) = false := by rfl) :
    PE X (.Call (.Name x p) (e :: es) [] pos) (tCallS sp (WE W) t) := by
  obtain ⟨f, fd, ps, F, hm, kp, b⟩ := c.ex
  exact pe_callS F (hr.mono hk) hg hm kp b (L2N.passAt tk) ha hdb he hpl
/-- an error's class, whose __init__ keeps sp -/
structure ErrC (P : Program) (w : World) (K : PySem.W.Frag) (mg : Str → Option Value) (base : Heap) (x : Str) (C : Addr) (sp : Sp) : Prop where
  oex : OexC K C
  mgc : mg x = some (.ref C)
  ini : ∃ (f : Addr) (fd : FuncData) (ps : List Str), PySem.W.findIn K (.ref C) "__init__" = some (some (.ref f)) ∧ PySem.W.typeIn K (.ref f) = some (.type "function") ∧ FnOk P w K mg base C8.CX0 1 f fd ps sp ∧ Binds K fd ps []
/-- C(e, ..), an error over ValueError -/
theorem pmk_err {e : Expr} {es : List Expr} {ta : TA} (T : ErrC X.prog X.w X.K X.mg X.base x C sp) (hr : Room j X.A) (hj : 2 ≤ j) (hg : Gl X x) (ha : PA X (e :: es) ta)
    (hdb : (x == ("__debug__" : Str)) = false := by decide) (he : starEach (e :: es) X.env = (false, eval e X.env) :: starEach es X.env := by rfl) (hpl : (backTo pos (starEach es X.env)).any (·.1) = false := by rfl) :
    L2N.PMk X (.Call (.Name x p) (e :: es) [] pos) (tMkO C sp [] ta) := by
  intro pins s σ H Q I h
  obtain ⟨fI, fd, ps, iC, tI, F1, hb⟩ := T.ini
  obtain ⟨nm, q, N, bs, bm, sn, sub, ab, col, dd, k0, k1, k2, k3, k5, hC, hbm⟩ := T.oex.cls
  refine wpAny_Call_Name_kw (ld_glob I hg T.mgc (PySem.W.callWith_K (h₀ := X.base) I.ok.mod.kin T.oex.kC (thn (ha.run pos pins s σ H _ I h) fun us s1 hh => ?_) he hpl) hdb)
  obtain ⟨vs, H1, I1, r1, hz, q1⟩ := hh
  refine ⟨I1.kIn, (show wpAny _ _ (call (.ref C) us) _ _ _ from ?_)⟩
  obtain ⟨hp, g, dr, tk, os⟩ := s1
  have hsz : hp.objs.size ≤ hp.objs.size + 1 := by omega
  have hq := q1 _ (I1.hok.fresh hsz)
  have kk : ∀ b o, hp.get? b = some o → ((hp.push (PySem.W.kdv_tup us)).push (PySem.HandSPX.excO C hp.objs.size)).get? b = some o := fun b o z => Heap.get?_push_of_some _ (Heap.get?_push_of_some _ z)
  have hnew : ((hp.push (PySem.W.kdv_tup us)).push (PySem.HandSPX.excO C hp.objs.size)).get? (hp.objs.size + 1) = some (PySem.HandSPX.excO C hp.objs.size) := by heap_get
  have I2 : Inv X pins σ (upd H1 (hp.objs.size + 1) (exo (hp.objs.size + 1) C none)) ⟨_, g, dr, tk, os⟩ := I1.laid (t' := tk) (a := hp.objs.size + 1) (o := exo (hp.objs.size + 1) C none) (h' := (hp.push (PySem.W.kdv_tup us)).push (PySem.HandSPX.excO C hp.objs.size)) kk hsz (exo_ok hnew)
  have r2 : Vals (V.ref (hp.objs.size + 1) :: (vs ++ [])) (Value.ref (hp.objs.size + 1) :: us) := by rw [List.append_nil]; exact .cons rfl r1
  have hl : (Value.ref (hp.objs.size + 1) :: us).length = ps.length := by rw [← r2.length]; exact F1.len _ _ _ _ hq
  have hbb := hb _ (Value.ref (hp.objs.size + 1) :: us) I2.kIn (by rw [List.append_nil]; exact hl)
  rw [List.append_nil] at hbb
  have hus : us.length ≤ sizeLine := by rw [← Paired.length r1, sizeLine_eq]; omega
  have hr2 : Room (1 + 1) X.A := hr.mono hj
  refine wpAny_call (PySem.HandSPX.call_own F.excBase_ValueError (fun Y => PySem.HandSPX.refsVE_contains Y bm hbm) (I1.kIn _ _ hC) (PySem.W.looks_findIn I1.kIn iC) (fun self => PySem.W.bind_fn I1.kIn self tI) hus
    (codeAny_mono (F1.run _ X.stack _ _ ⟨Value.ref (hp.objs.size + 1) :: us, []⟩ (Value.ref (hp.objs.size + 1) :: us) _ _ (fun _ _ _ => False) (hr2.make C us []) (I2.env0.make C us []) hbb r2 hq) fun r s' hq' => ?_))
  cases r with
  | error er => exact hq'.elim
  | ok fl =>
    cases fl with
    | next => exact hq'.elim
    | brk => exact hq'.elim
    | cont => exact hq'.elim
    | ret u =>
      obtain ⟨v, H2, os2, bare2, un2, hok2, rv, ev, d, fs, ea, ed, hd1, q2⟩ := hq'
      subst ev
      obtain ⟨h2, g2, d2, t2, os'⟩ := s'
      obtain ⟨t0, G, J, kG, ge, hoe, na⟩ := mk_end0 (d2 := d2) (t2 := t2) I1 hsz kk un2 hok2 os2 bare2 ea ed hd1
      exact ⟨rv, _, _, _, ⟨G, g2, d2, t2, os'⟩, _, .ref C, some d, rfl, J, kG, ge, hoe, ⟨rfl, rfl, fun vs' z => by cases z; rfl⟩, rfl, rfl, na, rfl, bare2, raises_own T.oex.exC T.oex.tyC, q2⟩
theorem takes0 : L2N.Takes X (fun _ _ _ _ => False) := fun u s' ⟨_, _, _, _, _, _, _, _, _, _, _, _, _, _, _, _, z⟩ => z.elim
end

/-! ### isinstance of the caught error, its fields -/
/-- what an error's class must say -/
structure ErrI (K : PySem.W.Frag) (D : Addr) : Prop where
  cl : (PySem.W.clsIn K D).isSome = true
  hg : PySem.W.findIn K (.ref D) "__getattribute__" = some (some (.builtin "BaseException.__getattribute__"))
  hk : PySem.W.findIn K (.ref D) "__getattr__" = some none
  hs : PySem.W.subIn K (.ref D) (.type "BaseException") = some true
  ha : PySem.W.findIn K (.ref D) "__class__" = some (some (.builtin "object.__class__"))
  hn : PySem.W.specialIn K (.builtin "object.__class__") "__get__" = some (some (.builtin "getset_descriptor.__get__"))
  ht : PySem.W.takesIn K (.builtin "object.__class__") = some true
  hm : PySem.W.mroIn K D (.type "object") = some true
  hd : PySem.W.hasDictIn K D = true
theorem ErrI.xf {K : PySem.W.Frag} {D : Addr} (h : ErrI K D) : XfC K D := ⟨h.hg, h.hk, h.hs, h.hd⟩
def rIsD (K : PySem.W.Frag) (a : Addr) (cls : Value) (d : Option Addr) : List V → Hp → VK → Prop := fun xs H Q => ∃ (D dd : Addr) (fs : List (Str × V)) (c : V) (cv : Value) (b : Bool), cls = .ref D ∧ d = some dd ∧ ErrI K D ∧ H dd = some (.xd fs) ∧ xs = [.ref a, c] ∧ (∀ u, RelV c u → u = cv) ∧ PySem.W.kitOne K (.ref D) cv = some b ∧ Q (.bl b) H
theorem call_isD {X : Cx} {a : Addr} {oe : Obj} {cls : Value} {d : Option Addr} {pn : List (Addr × Obj)} (hz : Zc cls d oe) (hf : ∃ vs, oe.data = .fields vs) : CallR (X.suite a ((a, oe) :: pn)) (.builtin "isinstance") (rIsD X.K a cls d) := by
  intro pins s σ H xs us Q I r h
  obtain ⟨D, dd, fs, c, cv, b, rfl, rfl, T, ed, rfl, hcv, e, q⟩ := h
  cases r with
  | cons rx rr =>
    cases rr with
    | cons rt rr =>
      cases rr
      cases rx
      have ec := hcv _ rt
      subst ec
      obtain ⟨hget, _⟩ := I.pin (a, oe) (List.mem_append.mpr (.inl List.mem_cons_self))
      obtain ⟨vs, hv⟩ := hf
      have hx : ObjOk X.prog X.w H s.heap dd (.xd fs) := I.hok dd _ ed
      obtain ⟨mA, hns, _⟩ := hx
      obtain ⟨od, ho, _⟩ := lookIn_ns hns
      have J : PySem.W.InstAt s.heap a oe D (some od) := ⟨hget, hz.1, by unfold PySem.W.notCls; rw [hv] <;> rfl, by rw [hz.2]; exact ho⟩
      exact PySem.W.kia_one (PySem.W.kitx_exc T.cl T.hg T.hk T.hs T.ha T.hn T.ht T.hm) I.kIn J e (fun z => nomatch z) fun tk => ⟨.bl b, H, I.kept (t' := tk) fun _ _ z => z, rfl, q⟩
/-- .. both for a class of the program and a built-in one -/
theorem rel_ref {a : Addr} : ∀ u, RelV (.ref a) u → u = .ref a := fun _ h => h
theorem rel_ty {n : String} : ∀ u, RelV (.ty n) u → u = .type n := fun _ h => h

/-! ### defs called where an error is handled -/
structure CalH (P : Program) (w : World) (K : PySem.W.Frag) (mg : Str → Option Value) (base : Heap) (k : Nat) (x : Str) (sp : Sp) : Prop where
  ex : ∃ (f : Addr) (fd : FuncData) (ps : List Str), L2H.FnH P w K mg base C8.CX0 k f fd ps sp ∧ mg x = some (.ref f) ∧ PySem.W.keepIn K (.ref f) = true ∧ Binds K fd ps []
section
variable {P : Program} {w : World} {K : PySem.W.Frag} {mg : Str → Option Value} {base : Heap}
theorem fnH0 {x qual : Str} {st : Stmt} {f : Addr} {fd : FuncData} {N ps : List Str} {k : Nat} {sp : Sp} (F : C8.Fun K x qual st f fd) (S : FnScope N ps (C8.fnScope st)) (len : ∀ vs H Q E, sp vs H Q E → vs.length = ps.length)
    (hb : ∀ (cdv : Value) (A : Around) (outer : List Env) (s : Shared) (H : Hp) (vs : List V) (Q : VK) (E : XK) (p : Addr × Obj), L2H.RoomH k (A.deeper (envOfC qual (C8.fnScope st) s.heap.objs.size f cdv)) → sp vs H Q E →
      L2H.HotC (L2H.cxH C8.CX0 P w K mg base N qual (C8.fnScope st) f cdv A outer s H E p).nox →
      ∃ t, PSs (L2H.cxH C8.CX0 P w K mg base N qual (C8.fnScope st) f cdv A outer s H E p).nox (C8.fnBody st) t ∧ t { nx := fun _ H' => Q .non H', rt := Q } (start N vs) H) : L2H.FnH P w K mg base C8.CX0 (k + 1) f fd ps sp := by
  obtain ⟨oc, od, dV, kV, doc, pm, an, cdv, ct, osl, rfl, lk, hcd⟩ := F.ex
  refine L2H.fn_ofH lk hcd S len fun A outer s H vs Q E p hot hr hsp => ?_
  obtain ⟨t, h, q⟩ := hb cdv A outer s H vs Q E p hr hsp ⟨p, hot, List.mem_singleton.mpr rfl⟩
  exact ⟨t, h.nox, q⟩
end
section
variable {X : Cx} {k j : Nat} {x : Str} {sp : Sp} {p pos : Pos} {e : Expr} {es : List Expr} {t : TA}
theorem pe_ch (c : CalH X.prog X.w X.K X.mg X.base k x sp) (hr : L2H.RoomH j X.A) (hk : k ≤ j) (hc : L2H.HotC X) (hg : Gl X x) (ha : PA X (e :: es) t)
    (hdb : (x == ("__debug__" : Str)) = false := by decide) (he : starEach (e :: es) X.env = (false, eval e X.env) :: starEach es X.env := by rfl) (hpl : (backTo pos (starEach es X.env)).any (·.1) = false := by rfl) :
    PE X (.Call (.Name x p) (e :: es) [] pos) (tCallS sp (fun _ => C8.E0) t) := by
  obtain ⟨f, fd, ps, F, hm, kp, b⟩ := c.ex
  exact L2H.pe_callH F (hr.mono hk) hc hg hm kp b (fun σ pins H s e s' I z => z.elim) ha hdb he hpl
theorem hotS {a : Addr} {oe : Obj} {cls : Value} {d : Option Addr} {pn : List (Addr × Obj)} (hz : L2N.Zn cls d oe) (hf : ∃ vs, oe.data = .fields vs) : L2H.HotC (X.suite a ((a, oe) :: pn)) := by
  obtain ⟨vs, hv⟩ := hf
  exact ⟨(a, oe), ⟨rfl, vs, hv, hz.2.2 vs hv⟩, List.mem_cons_self⟩
theorem roomS {a : Addr} {pn : List (Addr × Obj)} (hr : Room j X.A) : L2H.RoomH j (X.suite a pn).A := ⟨hr.dp, hr.un⟩
end
end RJ
end

section
set_option maxRecDepth 100000
set_option maxHeartbeats 2000000
namespace RJ
open PySem PySem.Spec PyProof.Rows L2
section
variable {P : Program} {w : World} {K : PySem.W.Frag} {mg : Str → Option Value} {base : Heap} {CX : CXT} {k : Nat} {f : Addr} {fd : FuncData} {ps : List Str} {sp sp' : Sp}
/-- a def that raises nothing, where errors are let out -/
theorem FnOk.lift (F : FnOk P w K mg base C8.CX0 k f fd ps sp) : FnOk P w K mg base CX k f fd ps sp :=
  ⟨F.len, fun A outer s H args us vs Q E hr e0 hb r h => codeAny_mono (F.run A outer s H args us vs Q E hr e0 hb r h) fun r s' hq => by
    cases r with
    | error e => exact hq.elim
    | ok fl => cases fl <;> exact hq⟩
/-- two promises of one def -/
theorem FnOk.or (F : FnOk P w K mg base CX k f fd ps sp) (G : FnOk P w K mg base CX k f fd ps sp') : FnOk P w K mg base CX k f fd ps (fun vs H Q E => sp vs H Q E ∨ sp' vs H Q E) :=
  ⟨fun vs H Q E h => h.elim (F.len vs H Q E) (G.len vs H Q E), fun A outer s H args us vs Q E hr e0 hb r h => h.elim (F.run A outer s H args us vs Q E hr e0 hb r) (G.run A outer s H args us vs Q E hr e0 hb r)⟩
end
/-- a class that is made by its name, whose __init__ may raise -/
structure MakX (P : Program) (w : World) (K : PySem.W.Frag) (mg : Str → Option Value) (base : Heap) (k : Nat) (x : Str) (C : Addr) (sp : Sp) : Prop where
  ex : ∃ (f : Addr) (fd : FuncData) (ps : List Str), Mk K C f ∧ FnOk P w K mg base (CXN P w) k f fd ps sp ∧ mg x = some (.ref C) ∧ Binds K fd ps []
section
variable {X : Cx} {k j : Nat} {C f : Addr} {fd : FuncData} {ps : List Str} {x : Str} {sp : Sp} {p pos : Pos} {e : Expr} {es : List Expr} {t : TA} {W : WX}
def tMakeS (C : Addr) (sp : Sp) (E : L2.St → XK) (t : TA) : TE := fun σ H Q => t σ H fun vs H1 => ∀ x dx, H1 x = none → H1 dx = none → dx ≠ x → sp (.ref x :: vs) (upd (upd H1 dx (.own x)) x (.ins C dx [])) (fun v H2 => v = .non ∧ Q (.ref x) H2) (E σ)
theorem run_makeS {pins : List (Addr × Obj)} {σ : L2.St} {H : Hp} {s : Shared} {Q : VK} {us : List Value} {vs : List V} {E : L2.St → XK} (M : Mk X.K C f) (F : FnOk X.prog X.w X.K X.mg X.base (CXN X.prog X.w) k f fd ps sp) (hr : Room (k + 1) X.A) (hb : Binds X.K fd ps [])
    (hx : PassesAt (CXN X.prog X.w) X σ (E σ)) (I : Inv X pins σ H s) (r : Vals vs us)
    (h : ∀ x dx, H x = none → H dx = none → dx ≠ x → sp (.ref x :: vs) (upd (upd H dx (.own x)) x (.ins C dx [])) (fun v H2 => v = .non ∧ Q (.ref x) H2) (E σ)) :
    wpAny (model X.prog X.w) X.A (call (.ref C) us) (EP X pins σ Q) X.xe s := by
  have hq := h (s.heap.objs.size + 1) s.heap.objs.size (I.hok.fresh (Nat.le_succ _)) (I.hok.fresh (Nat.le_refl _)) (Nat.ne_of_lt (Nat.lt_succ_self _))
  have I2 := Inv.made (C := C) I
  have r2 : Vals (V.ref (s.heap.objs.size + 1) :: vs) (Value.ref (s.heap.objs.size + 1) :: us) := .cons rfl r
  have hl : (Value.ref (s.heap.objs.size + 1) :: us).length = ps.length := by rw [← r2.length]; exact F.len _ _ _ _ hq
  have hbb := hb _ (Value.ref (s.heap.objs.size + 1) :: us) I2.kIn (by rw [List.append_nil]; exact hl)
  rw [List.append_nil] at hbb
  refine wpAny_call (make_map (f := f) I.kIn M.makes M.init (beq_iff_eq.mp M.fn) (codeAny_mono (F.run _ X.stack _ _ ⟨Value.ref (s.heap.objs.size + 1) :: us, []⟩ (Value.ref (s.heap.objs.size + 1) :: us) _ _ (E σ) (hr.make C us []) (I2.env0.make C us []) hbb r2 hq) fun r s' hq' => ?_))
  cases r with
  | error e => exact hx pins _ _ e s' I2 hq'
  | ok fl =>
    cases fl with
    | next => exact hq'.elim
    | brk => exact hq'.elim
    | cont => exact hq'.elim
    | ret u =>
      obtain ⟨v, H', I3, rv, ev, q3⟩ := I2.after hq'
      subst ev
      exact ⟨rv, ⟨V.ref (s.heap.objs.size + 1), H', I3, rfl, q3⟩⟩
theorem pe_makeS (c : MakX X.prog X.w X.K X.mg X.base k x C sp) (hr : Room j X.A) (hk : k + 1 ≤ j) (tk : L2N.Takes X W) (hg : Gl X x) (ha : PA X (e :: es) t)
    (hdb : (x == ("__debug__" : Str)) = false := by decide) (he : starEach (e :: es) X.env = (false, eval e X.env) :: starEach es X.env := by rfl) (hpl : (backTo pos (starEach es X.env)).any (·.1) = false := by rfl) :
    PE X (.Call (.Name x p) (e :: es) [] pos) (tMakeS C sp (WE W) t) := by
  obtain ⟨f, fd, ps, M, F, hm, b⟩ := c.ex
  refine ⟨fun pins s σ H Q I h => wpAny_Call_Name_kw (ld_glob I hg hm (PySem.W.callWith_K (h₀ := X.base) I.ok.mod.kin M.kp (thn (ha.run pos pins s σ H _ I h) fun us s1 hh => ?_) he hpl) hdb)⟩
  obtain ⟨vs, H1, I1, r, q⟩ := hh
  exact ⟨I1.kIn, run_makeS M F (hr.mono hk) b (L2N.passAt tk σ) I1 r q⟩
end
/-- isinstance of the caught error against a tuple of classes -/
def rIsDT (K : PySem.W.Frag) (a : Addr) (cls : Value) (d : Option Addr) : List V → Hp → VK → Prop := fun xs H Q => ∃ (D dd tp : Addr) (fs : List (Str × V)) (cs : List V) (ws : List Value) (b : Bool), cls = .ref D ∧ d = some dd ∧ ErrI K D ∧ H dd = some (.xd fs) ∧ xs = [.ref a, .ref tp] ∧ H tp = some (.tup cs) ∧ (∀ us, Vals cs us → us = ws) ∧ PySem.W.kitAny K (.ref D) ws = some b ∧ Q (.bl b) H
theorem call_isDT {X : Cx} {a : Addr} {oe : Obj} {cls : Value} {d : Option Addr} {pn : List (Addr × Obj)} (hz : Zc cls d oe) (hf : ∃ vs, oe.data = .fields vs) : CallR (X.suite a ((a, oe) :: pn)) (.builtin "isinstance") (rIsDT X.K a cls d) := by
  intro pins s σ H xs us Q I r h
  obtain ⟨D, dd, tp, fs, cs, ws, b, rfl, rfl, T, ed, rfl, htp, hws, e, q⟩ := h
  obtain ⟨u1, u2, rfl, r1, r2⟩ := vals2 r
  cases (show u1 = Value.ref a from r1)
  cases (show u2 = Value.ref tp from r2)
  obtain ⟨hget, _⟩ := I.pin (a, oe) (List.mem_append.mpr (.inl List.mem_cons_self))
  obtain ⟨vs, hv⟩ := hf
  have hx : ObjOk X.prog X.w H s.heap dd (.xd fs) := I.hok dd _ ed
  obtain ⟨mA, hns, _⟩ := hx
  obtain ⟨od, ho, _⟩ := lookIn_ns hns
  have J : PySem.W.InstAt s.heap a oe D (some od) := ⟨hget, hz.1, by unfold PySem.W.notCls; rw [hv] <;> rfl, by rw [hz.2]; exact ho⟩
  have hT : ObjOk X.prog X.w H s.heap tp (.tup cs) := I.hok tp _ htp
  obtain ⟨_, its, rv, o, g1, g2, n, g3⟩ := hT
  have e3 := hws its rv
  subst e3
  obtain ⟨oc, od2, dt, sl⟩ := o
  simp only at g2 g3
  subst g2 g3
  exact PySem.W.kia_tup (PySem.W.kitx_exc T.cl T.hg T.hk T.hs T.ha T.hn T.ht T.hm) I.kIn J g1 e (fun z => nomatch z) fun tk => ⟨.bl b, H, I.kept (t' := tk) fun _ _ z => z, rfl, q⟩
theorem vals_refs : ∀ {as : List Addr} {us : List Value}, Vals (as.map V.ref) us → us = as.map Value.ref
  | [], _, .nil => rfl
  | a :: as, _, .cons r t => by rw [vals_refs t, show _ = Value.ref a from r]; rfl
end RJ
end

section
set_option maxRecDepth 100000
set_option maxHeartbeats 2000000
namespace RJ
open PySem PySem.Spec PyProof.Rows L2
/-! ### methods that may raise -/
def tMethX (C : Addr) (m : Str) (sp : Sp) (E : L2.St → XK) (ta : TE) (t : TA) : TE := fun σ H Q => ta σ H fun x H1 => ∃ a dx fs, x = .ref a ∧ H1 a = some (.ins C dx fs) ∧ fs.lookup m = none ∧ t σ H1 fun vs H2 => sp (x :: vs) H2 Q (E σ)
section
variable {X : Cx} {k j : Nat} {C : Addr} {m : Str} {sp : Sp} {p pos apos : Pos} {e o : Expr} {es : List Expr} {ta : TE} {t : TA} {W : WX}
theorem pe_mx {pl : Sem Bool} (c : MetX X.prog X.w X.K X.mg X.base k C m sp) (hr : Room j X.A) (hk : k ≤ j) (tk : L2N.Takes X W) (he : PE X o ta) (ha : PA X (e :: es) t)
    (hst : starEach (e :: es) X.env = (false, eval e X.env) :: starEach es X.env := by rfl) (hpl : (backTo pos (starEach es X.env)).any (·.1) = false := by rfl)
    (ht : eval (.Call (.Attribute o m apos) (e :: es) [] pos) X.env = (do
      let ov ← eval o X.env
      standAt apos.atName
      let (f, first) ← holding [ov] (getMethod ov m pl)
      callWith pos f first (backTo pos (starEach (e :: es) X.env)) (backToKw pos (keywordEach [] X.env))) := by rfl) :
    PE X (.Call (.Attribute o m apos) (e :: es) [] pos) (tMethX C m sp (WE W) ta t) := by
  obtain ⟨f, fd, ps, hc, hm, F, b⟩ := c.ex
  refine ⟨fun pins s σ H Q I h => ?_⟩
  refine PySem.W.methodCall_KW (pl := pl) (thn (he.run pins s σ H _ I h) fun u s1 ⟨x, H1, I1, rx, a, dx, fs, ex, ea, l, q⟩ => ?_) ht
  subst ex
  obtain rfl : u = Value.ref a := rx
  refine getmeth_ok I1 ea hc hm l ?_
  refine PySem.W.callWith_K (first := [.ref a]) (h₀ := X.base) I.ok.mod.kin hm.kp (thn (ha.run pos pins s1 σ H1 _ I1 q) fun us s2 ⟨vs, H2, I2, r, q2⟩ => ⟨I2.kIn, ?_⟩) hst hpl
  exact run_fnS (us := .ref a :: us) (vs := .ref a :: vs) F (hr.mono hk) b (L2N.passAt tk σ) I2 (.cons rfl r) q2
end
end RJ
end

section
set_option maxRecDepth 100000
set_option maxHeartbeats 2000000
namespace RJ
open PySem PySem.Spec PyProof.Rows L2
/-! ### comprehensions whose elements may raise -/
/-- what is due when the block of a comprehension with the frame ce has run -/
def postX (M : Model) (A : Around) (E : Value → Shared → Prop) (use : Option (Value → Sem Unit)) (Q : Value → Shared → Prop) (acc : Value) (ce : Env) (r : Result) (s' : Shared) : Prop :=
  match r with
  | .ok f => compPost M A E use Q acc ce.locals (.ok f) s'
  | .error x => ∃ m, s'.heap.Ns ce.locals m ∧ ∀ h', Heap.SameBut ce.locals s'.heap h' → wpAny M A (passOn "comprehension.variables-let-go" x ce : Sem Value) (fun _ _ => False) E { s' with heap := h' }
theorem noteFrame_eq {x : Value} {e1 e2 : Env} (h : e1.frame = e2.frame) : noteFrame x e1 = noteFrame x e2 := by
  unfold noteFrame PySem.frameOf
  rw [h]
theorem passOn_eq {α : Type} {w : String} {x : Value} {e1 e2 : Env} (h : e1.frame = e2.frame) : (passOn w x e1 : Sem α) = passOn w x e2 := by
  unfold PySem.passOn
  rw [h]
section
variable {M : Model} {A : Around} {E : Value → Shared → Prop} {s : Shared} {env : Env}
theorem comp_run {e : Expr} {scope : Scope} {pos : Pos} {newAcc first : Sem Value} {g : Comprehension} {gs : List Comprehension} {cl : List (Str × Addr)} {use : Option (Value → Sem Unit)} {Q : Value → Shared → Prop}
    (hcl : clausesOf e = g :: gs) (hs : ∀ x, foldedSetIterable g.iter env x = pure x) (hclos : closureFor scope env = pure cl) (hkind : scope.kind = .function)
    (hnames : ∀ x ∈ scope.names, x.2 = .local → scope.names.lookup x.1 = some .local)
    (h : wpAny M A first (fun x s₁ => wpAny M A (pyIter x) (fun it s₂ => wpAny M A newAcc (fun acc s₃ =>
      wpAny M A (newFunctionEnv scope env.globals cl [] env.qual none .none (some env)) (fun cenv s₄ =>
        codeAny M A (.compStart e 0 it acc { cenv with scope := relabel scope env }) (postX M A E use Q acc { cenv with scope := relabel scope env }) s₄) E s₃) E s₂) E s₁) E s) :
    wpAny M A (comprehension e scope env pos newAcc false first use) Q E s := by
  have err : ∀ {α : Type} {t : Sem α} {P P' : α → Shared → Prop} {s : Shared}, wpAny M A t P E s → (∀ a s, P a s → P' a s) → wpAny M A t P' E s := fun x y => wpAny_mono x y fun _ _ z => z
  unfold comprehension
  rw [hclos, hcl]
  refine wpAny_bind (err h fun x s₁ h₁ => wpAny_bind (wpAny_standAt (wpAny_bind (wpAny_of_eq (hs x) (wpAny_bind (wpAny_holding (err h₁ fun it s₂ h₂ => ?_)))))))
  refine wpAny_standIf (wpAny_bind (err h₂ fun acc s₃ h₃ => wpAny_bind (wpAny_pure (wpAny_bind (err h₃ fun cenv s₄ h₄ => ?_)))))
  dsimp only
  have loc : ∀ x ∈ (scope.names.filter fun x => (x.2 == .local || x.2 == .cell) && x.1 != (".0" : Str)).reverse, x.2 = .local →
      Env.kindOf { cenv with scope := relabel scope env } x.1 = some .local := fun x hx hl => lookup_relabel_local (hnames x (List.mem_filter.mp (List.mem_reverse.mp hx)).1 hl)
  have loc' : ∀ x ∈ (scope.names.filter fun x => (x.2 == .local || x.2 == .cell) && x.1 != (".0" : Str)).reverse.drop 1 ++ (scope.names.filter fun x => (x.2 == .local || x.2 == .cell) && x.1 != (".0" : Str)).reverse.take 1,
      x.2 = .local → Env.kindOf { cenv with scope := relabel scope env } x.1 = some .local := fun x hx => (List.mem_append.mp hx).elim (fun z => loc x (List.mem_of_mem_drop z)) fun z => loc x (List.mem_of_mem_take z)
  refine wpAny_holding (wpAny_bind (wpAny_attempt (wpAny_holding (wpAny_run (codeAny_mono h₄ fun r s' hr => ?_)))))
  cases r with
  | error x =>
    obtain ⟨m, hn, k⟩ := hr
    exact wpAny_bind (wpAny_holding (wpAny_comp_letGo (cenv := { cenv with scope := relabel scope env }) hkind _ s' m loc hn fun h' _ _ sb => err (k h' sb) fun _ _ z => z.elim))
  | ok f =>
    cases use with
    | none =>
      obtain ⟨m, hn, k⟩ := hr
      exact wpAny_bind (wpAny_holding (wpAny_comp_letGo (cenv := { cenv with scope := relabel scope env }) hkind _ s' m loc hn fun h' _ _ sb => wpAny_pure (k h' sb)))
    | some u =>
      refine wpAny_bind (wpAny_rule (wpAny_bind (wpAny_holding (err hr fun _ s'' hr' => ?_))))
      obtain ⟨m, hn, k⟩ := hr'
      exact wpAny_bind (wpAny_comp_letGo (cenv := { cenv with scope := relabel scope env }) hkind _ s'' m loc' hn fun h' _ _ sb => wpAny_pure (k h' sb))
end

/-! ### an object of the block is let go -/
theorem hide_ne {h : Heap} {C b : Addr} {o : Obj} (e : (PySem.W.hideAll h [C]).get? b = some o) : b ≠ C ∧ h.get? b = some o := by
  refine ⟨fun z => ?_, PySem.W.of_hideAll _ e⟩
  rw [PySem.W.hideAll_none [C] (by simp [z])] at e
  cases e
theorem hide_get {h : Heap} {C b : Addr} {o : Obj} (e : h.get? b = some o) (n : b ≠ C) : (PySem.W.hideAll h [C]).get? b = some o := PySem.W.hideAll_get _ e (by simpa using n)
theorem hide_non {h : Heap} {C b : Addr} (e : h.get? b = none) : (PySem.W.hideAll h [C]).get? b = none := by
  cases q : (PySem.W.hideAll h [C]).get? b with
  | none => rfl
  | some o => rw [(hide_ne q).2] at e; cases e
theorem frames_hide {B h h' : Heap} {C : Addr} (k : ∀ b o, b ≠ C → h.get? b = some o → h'.get? b = some o) : ∀ {l : List Env}, h.FunFrames B l → C ∉ frs l → h'.FunFrames (PySem.W.hideAll B [C]) l
  | [], _, _ => trivial
  | env :: l, x, n => by
    obtain ⟨hk, ⟨L, o, hf, hn, ho, hd⟩, hr⟩ := x
    have m : ∀ b, b ∈ frs l → b ∈ frs (env :: l) := fun b hb => by
      obtain ⟨e, he, q⟩ := List.mem_filterMap.mp hb
      exact List.mem_filterMap.mpr ⟨e, List.mem_cons_of_mem _ he, q⟩
    exact ⟨hk, ⟨L, o, hf, hide_non hn, k L o (fun z => n (z ▸ List.mem_filterMap.mpr ⟨env, List.mem_cons_self, hf⟩)) ho, hd⟩, frames_hide k hr fun z => n (m C z)⟩
theorem held_hide {B h h' : Heap} {l : List Env} {a C L : Addr} {Z : Obj → Prop} {oC : Obj} (x : PySem.HandSPX.HeldZ B l a Z L h) (hC : B.get? C = some oC) (nC : C ∉ frs l) (k : ∀ b o, b ≠ C → h.get? b = some o → h'.get? b = some o) :
    PySem.HandSPX.HeldZ (PySem.W.hideAll B [C]) l a Z L h' := by
  obtain ⟨st, na, ff, oe, vs, T, oT, ts, he, hz, hd, h1, hnT, hTe, hT, hdT, h3⟩ := x
  have ne : ∀ {b : Addr}, B.get? b = none → b ≠ C := fun {b} e z => by rw [z, hC] at e; cases e
  exact ⟨fun b o e => k b o (hide_ne e).1 (st b o (hide_ne e).2), hide_non na, frames_hide k ff nC, oe, vs, T, oT, ts, k a oe (ne na) he, hz, hd, h1, hide_non hnT, hTe, k T oT (ne hnT) hT, hdT, h3⟩
theorem held_pass {M : Model} {A : Around} {E : Value → Shared → Prop} {s : Shared} {B : Heap} {l : List Env} {a L : Addr} {Z : Obj → Prop} {env : Env} {w : String} {Q : Value → Shared → Prop} (x : PySem.HandSPX.HeldZ B l a Z L s.heap) (hf : env.frame = some L)
    (hE : ∀ h', PySem.HandSPX.HeldZ B l a Z L h' → s.heap.UpToSlots h' → E (.ref a) { s with heap := h' }) : wpAny M A (passOn w (.ref a) env : Sem Value) Q E s := by
  obtain ⟨oe, vs, T, oT, ts, he, hz, hd, h1, hnT, hTe, hT, hdT, h3⟩ := x.2.2.2
  unfold PySem.passOn
  refine wpAny_bind (wpAny_field he hd h1 ?_)
  rw [if_neg (show ¬ ((Value.ref T == Value.none) = true) from by simp)]
  rw [hf]
  exact wpAny_bind (PySem.HandSPX.setFlight_onZ x fun h' hh up => wpAny_throw (hE h' hh up))
section
variable {X : Cx} {pins : List (Addr × Obj)} {σ : L2.St} {H : Hp} {s s' : Shared} {W : WX}
/-- an exception over a ground that keeps what is tracked is in our air -/
theorem xe_over (I : Inv X pins σ H s) {a : Addr} {B : Heap} {H' : Hp} {cls : Value} {d : Option Addr} (st : B.StaysIn s'.heap) (sk : L2.Sky B X.stack a (L2N.Zn cls d) X.env.locals s'.heap) (hok : HOk X.prog X.w H' B)
    (ub : UB (frs X.stack) H H' s.heap B s'.heap) (na : H' a = none) (os : s'.os = s.os) (ag : AllBare s'.gens) (w : W cls d σ H') : L2N.XE X W (.ref a) s' := by
  obtain ⟨G, g1, g2⟩ := restrict s'.heap fun b => (B.get? b).isSome || decide (b ∈ frs X.stack)
  have inB : ∀ b o, B.get? b = some o → G.get? b = some o := fun b o e => (g1 b (by simp [e])).trans (st b o e)
  have inF : ∀ b, b ∈ frs X.stack → G.get? b = s'.heap.get? b := fun b hb => g1 b (by simp [hb])
  have out : ∀ b o, G.get? b = some o → s'.heap.get? b = some o ∧ (b ∉ frs X.stack → B.get? b = some o) := fun b o e => by
    by_cases q : ((B.get? b).isSome || decide (b ∈ frs X.stack)) = true
    · rw [g1 b q] at e
      refine ⟨e, fun hb => ?_⟩
      have z : (B.get? b).isSome = true := by simpa [hb] using q
      obtain ⟨o', q'⟩ := Option.isSome_iff_exists.mp z
      rw [st b o' q'] at e
      cases e
      exact q'
    · rw [g2 b (by simpa using q)] at e
      cases e
  have slot : ∀ b o, s.heap.get? b = some o → b ∈ frs X.stack → ∃ sl, G.get? b = some { o with slots := sl } := fun b o e hb => by
    obtain ⟨sl, q⟩ := ub.slot b o e hb
    exact ⟨sl, (inF b hb).trans q⟩
  have J : Inv X pins σ H' { s with heap := G, gens := s'.gens, drawn := s'.drawn, toks := s'.toks } := I.call (ch := []) ⟨fun b o e n hb _ => inB b o (ub.keep b o e n hb), fun b o e _ hb _ => slot b o e hb, fun b o e n _ => ub.free b o e n, fun b o e _ => by
    by_cases hb : b ∈ frs X.stack
    · obtain ⟨sl, q⟩ := slot b o e hb
      exact ⟨_, q⟩
    · obtain ⟨o', q⟩ := ub.there b o e hb
      exact ⟨o', inB b o' q⟩, ub.tups, ub.frzs, ub.tbls⟩ (hok.kept inB) ag (fun _ z => nomatch z)
  exact ⟨a, B, _, pins, σ, H', cls, d, rfl, J, fun b o e hb => (out b o e).2 hb, Heap.UpToSlots.of_keeps fun b o e => (out b o e).1, sk, na, os, ag, w⟩
end
section
variable {X : Cx} {pins : List (Addr × Obj)} {σ : L2.St} {H3 : Hp} {s3 : Shared} {E : XK}
/-- what a call within a comprehension's block lets out goes out of the comprehension -/
theorem blk_out {scope : Scope} {ce : Env} {fp : List Addr} {xe : Value → Shared → Prop} {use : Option (Value → Sem Unit)} {Qf : Value → Shared → Prop} {acc : Value} (hs : X.stack = X.env :: X.outer) (hf : X.env.frame = some X.env.locals)
    (cf : ce.frame = X.env.frame) (cL : ce.locals = s3.heap.objs.size) (I3 : Inv X pins σ H3 s3) (ffp : ∀ b ∈ fp, FpOk X pins H3 b) (tk : L2N.Takes X (fun cls d _ H => E cls d H))
    (hxe : xe = notedBy (model X.prog X.w) X.A ce (fun e s' => postX (model X.prog X.w) X.A X.xe use Qf acc ce (.error e) s')) : ∀ σB : L2.St, PassesAt (CXN X.prog X.w) ((X.blk s3 H3 scope ce fp).tr [] xe) σB E := by
  intro σB pinsB H s u s' IB c
  obtain ⟨a, B, H', cls, d, rfl, fl, hok, ub, na, os, ag, hE⟩ := c
  obtain ⟨m, ⟨oC, es, ep, hoC, rC⟩, _⟩ := IB.loc
  have hoC : s.heap.get? ce.locals = some oC := hoC
  have nC : H ce.locals = none := IB.free
  have hfr : X.A.frames = some (X.env :: X.outer) := by rw [I3.ok.frames, hs]
  have nF : ce.locals ∉ frs X.stack := fun hm => by
    have z := I3.stkSub _ hm
    rw [cL] at z
    rcases List.mem_cons.mp z with z | z
    · exact absurd I3.lt (by rw [← z]; exact Nat.lt_irrefl _)
    · exact I3.nofs (Nat.le_refl _) z
  have kB : B.get? ce.locals = some oC := ub.keep _ oC hoC nC nF
  have nC' : H' ce.locals = none := ub.free _ oC hoC nC
  have J : Inv X pins σ H s := I3.call' (ch := fp) IB.os IB.base IB.hok IB.bare fun b hb => ⟨(ffp b hb).2.2.2.1, (ffp b hb).2.1, (ffp b hb).2.2.2.2.1, (ffp b hb).2.2.2.2.2⟩
  have fC : FpOk X pins H ce.locals := I3.fpOk (by rw [cL]; exact Nat.le_refl _) nC
  have JX : Inv X pins σ H { s with heap := PySem.W.hideAll s.heap [ce.locals] } := J.turned (t' := s.toks) (fun b o hb e => hide_get e hb) fC.1 fC.2.1 fC.2.2.2.1 fC.2.2.2.2.1 fC.2.2.2.2.2
  have flX : PySem.HandSPX.FlyingZ B (X.env :: X.outer) a (L2N.Zn cls d) s'.heap := by
    have z : PySem.HandSPX.FlyingZ B X.stack a (L2N.Zn cls d) s'.heap := fl
    rw [hs] at z
    exact z
  show xe (.ref a) s'
  rw [hxe]
  show wpAny (model X.prog X.w) X.A (noteFrame (.ref a) ce) _ _ s'
  rw [noteFrame_eq cf]
  refine PXN.looks_onZ L2N.Zn.steady hfr hf flX fun h1 hh1 up1 => ?_
  refine ⟨m, ⟨oC, es, ep, hh1.1 _ oC kB, rC⟩, fun h2 sb => ?_⟩
  have k12 : ∀ b o, b ≠ ce.locals → h1.get? b = some o → h2.get? b = some o := fun b o hb e => (sb.2 b hb).trans e
  have nF1 : ce.locals ∉ frs (X.env :: X.outer) := by rw [← hs]; exact nF
  refine held_pass (held_hide hh1 kB nF1 k12) (cf.trans hf) fun h3 hh3 up3 => ?_
  refine tk _ _ (xe_over JX (B := PySem.W.hideAll B [ce.locals]) hh3.1 (.inr (.inr (by rw [hs]; exact hh3))) (fun b u e => (hok b u e).stay (fun c v hc q => hide_get q fun z => ?_) (fun _ q => q) fun _ _ q => q)
    ⟨fun b o e n hb => hide_get (ub.keep b o (hide_ne e).2 n hb) (hide_ne e).1, fun b o e hb => ?_, fun b o e n => ub.free b o (hide_ne e).2 n, fun b o e hb => ?_, ub.tups, ub.frzs, ub.tbls⟩ na os ag hE)
  · rcases hc with hc | hc
    · rw [← hc, z, nC'] at e; cases e
    · rw [z, nC'] at hc; cases hc
  · obtain ⟨_, o₀, e₀, hnf⟩ := J.stack.mem hb
    rw [(hide_ne e).2] at e₀
    cases e₀
    obtain ⟨sl1, q1⟩ := ub.slot b o (hide_ne e).2 hb
    obtain ⟨sl2, q2⟩ := up1 b _ q1 hnf
    obtain ⟨sl3, q3⟩ := up3 b _ (k12 b _ (hide_ne e).1 q2) hnf
    exact ⟨sl3, q3⟩
  · obtain ⟨o', q⟩ := ub.there b o (hide_ne e).2 hb
    exact ⟨o', hide_get q (hide_ne e).1⟩
end
section
variable {X : Cx} {E : XK} {elt tg iter : Expr} {ifs : List Expr} {scope : Scope} {own : List (Str × Nat)} {pos pos' : Pos} {wi : TI} {g : TG} {tt : TT} {te : TE}
/-- a block whose iterator's objects have moved and whose locals are as before -/
structure Turns (X : Cx) (s3 : Shared) (H3 : Hp) (scope : Scope) (ce : Env) (fp : List Addr) (xe : Value → Shared → Prop) (τ : L2.St) (tn : Nat → Heap → Prop) (W : Nat → Nat → Hp → Prop) (n i : Nat) (H : Hp) (s : Shared) : Prop where
  inv : Inv ((X.blk s3 H3 scope ce fp).tr [] xe) [] τ H s
  at_ : tn i s.heap
  non : ∀ b ∈ fp, H b = none
  has : W i n H
theorem lc_coreX {pins : List (Addr × Obj)} {s : Shared} {σ : L2.St} {H : Hp} {Q : VK} {use : Option (Value → Sem Unit)} {Qf : Value → Shared → Prop} (hst : X.stack = X.env :: X.outer) (hf : X.env.frame = some X.env.locals) (tk : L2N.Takes X (fun cls d _ H => E cls d H))
    (hc : X.calm = true) (hN : X.N.Nodup) (I : Inv X pins σ H s) (hi : PI X tg iter wi) (ok : BlkOk X.N X.env.scope scope own)
    (hg : ∀ (s : Shared) (H : Hp) (C : Addr) (cl : List (Str × Addr)) (fp : List Addr) (xe : Value → Shared → Prop), PG ((X.blk s H scope (compEnvC scope cl C X.env) fp).tr [] xe) tg g)
    (ht : ∀ (s : Shared) (H : Hp) (C : Addr) (cl : List (Str × Addr)) (fp : List Addr) (xe : Value → Shared → Prop), (∀ σ : L2.St, PassesAt (CXN X.prog X.w) ((X.blk s H scope (compEnvC scope cl C X.env) fp).tr [] xe) σ E) →
      PTs ((X.blk s H scope (compEnvC scope cl C X.env) fp).tr [] xe) ifs tt)
    (he : ∀ (s : Shared) (H : Hp) (C : Addr) (cl : List (Str × Addr)) (fp : List Addr) (xe : Value → Shared → Prop), (∀ σ : L2.St, PassesAt (CXN X.prog X.w) ((X.blk s H scope (compEnvC scope cl C X.env) fp).tr [] xe) σ E) →
      PE ((X.blk s H scope (compEnvC scope cl C X.env) fp).tr [] xe) elt te)
    (hs : ∀ x, foldedSetIterable iter X.env x = pure x) (h : tLc wi g tt te (own.map (·.2)) σ H Q)
    (hRR : ∀ D C s' m H', Inv X pins σ H' s' → Q (.ref D) H' → s'.heap.Ns C m → FpOk X pins H' C → compPost (model X.prog X.w) X.A X.xe use Qf (.ref D) C (.ok .next) s') :
    wpAny (model X.prog X.w) X.A (comprehension (.ListComp elt [⟨tg, iter, ifs, 0⟩] scope pos) scope X.env pos' (newList []) false (eval iter X.env) use) Qf X.xe s := by
  have hfree : ∀ y ∈ scope.names, y.2 = .free → ∃ c, X.env.cells.lookup y.1 = some c := fun y hy e => I.ok.has _ (ok.free y hy e)
  refine comp_run (use := use) rfl hs (closure_ok hfree) ok.kind (fun y hy e => by rw [ok.uniq y hy, e]) (thn (hi.run pins s σ H _ I h) fun xv s1 hx => thn hx fun itv s2 h2 => ?_)
  obtain ⟨it, fp, tn, J, H2, e, I2, T, st2, f2, q⟩ := h2
  subst e
  refine wpAny_newObj_type (newEnv_comp ?_) (by show 0 ≤ sizeLine; decide)
  generalize hD : s2.heap.objs.size = D
  obtain ⟨W, ⟨m0, w0⟩, turn⟩ := q D (I2.hok.fresh (Nat.le_of_eq hD))
  generalize hs3 : ({ s2 with heap := s2.heap.push { cls := .type "list", data := .seq ([] : List Value).toArray } } : Shared) = s3
  have h3 : s3.heap = s2.heap.push { cls := .type "list", data := .seq ([] : List Value).toArray } := by rw [← hs3]
  have k23 : ∀ b o, s2.heap.get? b = some o → s3.heap.get? b = some o := fun b o e => by rw [h3]; exact Heap.get?_push_of_some _ e
  have I3 : Inv X pins σ (upd H2 D (.lst [])) s3 := by
    rw [← hs3]
    refine I2.laid (t' := s2.toks) (fun b o e => Heap.get?_push_of_some _ e) (Nat.le_of_eq hD) ⟨Nat.zero_le _, [], 0, .nil, ?_⟩
    rw [← hD]
    exact Heap.get?_push_size _ rfl
  have f3 : ∀ b ∈ fp, FpOk X pins (upd H2 D (.lst [])) b ∧ b < s3.heap.objs.size := fun b hb => by
    obtain ⟨o, e, _⟩ := T.obj _ _ st2 b hb
    have lt := Heap.lt_size e
    refine ⟨⟨?_, (f2 b hb).2⟩, Heap.lt_size (k23 b o e)⟩
    rw [upd_ne (by rw [← hD]; exact Nat.ne_of_lt lt)]
    exact (f2 b hb).1
  generalize hce : compEnvC scope (cellsFrom (s3.heap.objs.size + 1) scope.names (cloFrom X.env.cells scope.names [])) s3.heap.objs.size X.env = ce
  have cL : ce.locals = s3.heap.objs.size := by subst hce; rfl
  have cf : ce.frame = X.env.frame := by subst hce; rfl
  have I4 := block_start I3 ok hN f3
  rw [hce] at I4
  show codeAny _ _ (.compStart (.ListComp elt [⟨tg, iter, ifs, 0⟩] scope pos) 0 (.ref it) (.ref D) (compEnvC scope (cellsFrom (s3.heap.objs.size + 1) scope.names (cloFrom X.env.cells scope.names [])) s3.heap.objs.size X.env))
    (postX (model X.prog X.w) X.A X.xe use Qf (.ref D) (compEnvC scope (cellsFrom (s3.heap.objs.size + 1) scope.names (cloFrom X.env.cells scope.names [])) s3.heap.objs.size X.env)) { s3 with heap := pushCells (s3.heap.push { cls := .type "dict", data := .dict #[] }) scope.names }
  rw [hce]
  generalize hxe : notedBy (model X.prog X.w) X.A ce (fun e s' => postX (model X.prog X.w) X.A X.xe use Qf (.ref D) ce (.error e) s') = xe
  generalize hH3 : upd H2 D (.lst []) = H3 at I3 I4 w0 f3
  have pass := blk_out (scope := scope) (ce := ce) (fp := fp) (use := use) (Qf := Qf) (acc := .ref D) hst hf cf cL I3 (fun b hb => (f3 b hb).1) tk hxe.symm
  have pg := hg s3 H3 s3.heap.objs.size (cellsFrom (s3.heap.objs.size + 1) scope.names (cloFrom X.env.cells scope.names [])) fp xe
  have pt := ht s3 H3 s3.heap.objs.size (cellsFrom (s3.heap.objs.size + 1) scope.names (cloFrom X.env.cells scope.names [])) fp xe
  have pe := he s3 H3 s3.heap.objs.size (cellsFrom (s3.heap.objs.size + 1) scope.names (cloFrom X.env.cells scope.names [])) fp xe
  rw [hce] at pg pt pe
  have pe := pe pass
  have pt := pt pass
  have I5 : Inv ((X.blk s3 H3 scope ce fp).tr [] xe) [] (wipe σ (own.map (·.2))) H3 { s3 with heap := pushCells (s3.heap.push { cls := .type "dict", data := .dict #[] }) scope.names } := I4.toTry xe
  have st5 : tn 0 (pushCells (s3.heap.push { cls := .type "dict", data := .dict #[] }) scope.names) := T.keep _ _ _ st2 fun b _ o e => pushCells_keeps _ _ _ _ (Heap.get?_push_of_some _ (k23 b o e))
  have fps : ∀ {σ' : L2.St} {H' : Hp} {s' : Shared}, Inv ((X.blk s3 H3 scope ce fp).tr [] xe) [] σ' H' s' → (∀ b ∈ fp, H' b = none) → ∀ b ∈ fp, FpOk ((X.blk s3 H3 scope ce fp).tr [] xe) [] H' b := fun {σ' H' s'} I' hn b hb =>
    ⟨hn b hb, (I'.ok.exf b hb).1, I'.ok.exfs b hb, .inl hb, (I'.ok.exf b hb).2, fun p hp => absurd (show p ∈ ([] : List (Addr × Obj)) ++ [] from hp) (by simp)⟩
  have loop : codeAny (model X.prog X.w) X.A (.compLoop (.ListComp elt [⟨tg, iter, ifs, 0⟩] scope pos) 0 (.ref it) (.ref D) ce) (postX (model X.prog X.w) X.A X.xe use Qf (.ref D) ce)
      { s3 with heap := pushCells (s3.heap.push { cls := .type "dict", data := .dict #[] }) scope.names } := by
    refine compLoop_any (fun n s' => ∃ i H', Turns X s3 H3 scope ce fp xe (wipe σ (own.map (·.2))) tn W n i H' s') ?_ m0 ⟨0, H3, I5, st5, fun b hb => (f3 b hb).1.1, w0⟩
    rw [hxe]
    rintro n s6 ⟨i, H6, t6⟩
    rcases turn i n H6 t6.has with ⟨stop, qq⟩ | ⟨go, Nx, hNx, step⟩
    · refine thn (T.done ((X.blk s3 H3 scope ce fp).tr [] xe) rfl rfl rfl hc i [] s6 _ H6 xe t6.inv (fps t6.inv t6.non) t6.at_ stop) fun r s7 ⟨hr, I7⟩ => ?_
      subst hr
      have back : Inv X pins σ H6 s7 := I3.call' (ch := fp) I7.os I7.base I7.hok I7.bare fun b hb => ⟨(f3 b hb).1.2.2.2.1, (f3 b hb).1.2.1, (f3 b hb).1.2.2.2.2.1, (f3 b hb).1.2.2.2.2.2⟩
      obtain ⟨m, hn, _⟩ := I7.loc
      exact hRR D ce.locals s7 m H6 back qq hn (I3.fpOk (by rw [cL]; exact Nat.le_refl _) I7.free)
    · refine thn (T.item ((X.blk s3 H3 scope ce fp).tr [] xe) rfl rfl rfl hc i [] s6 _ H6 xe t6.inv (fps t6.inv t6.non) t6.at_ go) fun r s7 ⟨u, hr, h7⟩ => ?_
      subst hr
      refine thn h7 fun _ s8 ⟨x, H8, I8, r8, y8, st8, n8⟩ => ?_
      have I8' := I8.pinned (fps I8 n8) (T.obj _ _ st8)
      refine thn (pg.run _ s8 _ H8 x u _ I8' r8 (step x H8 y8)) fun _ s9 ⟨σ9, H9, I9, hw, q9⟩ => ?_
      refine thn (pt.run _ s9 σ9 H9 _ I9 q9) fun b s10 ⟨H10, I10, q10⟩ => ?_
      have next : ∀ {s' : Shared} {H' : Hp}, Inv ((X.blk s3 H3 scope ce fp).tr [] xe) ([] ++ pinsAt fp s8.heap) σ9 H' s' → Nx H' → ∃ m, m < n ∧ ∃ i H', Turns X s3 H3 scope ce fp xe (wipe σ (own.map (·.2))) tn W m i H' s' := fun {s' H'} I' nx => by
        obtain ⟨m', hm, w'⟩ := hNx H' nx
        have kept : ∀ b ∈ fp, ∀ o, s8.heap.get? b = some o → s'.heap.get? b = some o ∧ H' b = none := fun b hb o e =>
          have z := I'.pin (b, o) (List.mem_append_right _ (List.mem_append_right _ (mem_pinsAt hb e)))
          ⟨z.1, z.2.1⟩
        refine ⟨m', hm, i + 1, H', (I'.unpinned (pins := [])).weak (by rw [← hw, wipe_length]) (fun j v e => (wipe_some (by rw [hw]; exact e)).1), T.keep _ _ _ st8 fun b hb o e => (kept b hb o e).1, fun b hb => ?_, w'⟩
        obtain ⟨o, e, _⟩ := T.obj _ _ st8 b hb
        exact (kept b hb o e).2
      cases b with
      | false =>
        simp only [Bool.false_eq_true, if_false] at q10 ⊢
        exact next I10 q10
      | true =>
        simp only [if_true] at q10 ⊢
        refine thn (pe.run _ s10 σ9 H10 _ I10 q10) fun z s11 ⟨yv, H11, I11, r11, acc, hD11, hz, nx⟩ => ?_
        exact app_ok (X := (X.blk s3 H3 scope ce fp).tr [] xe) I11 hD11 hz r11 fun s12 I12 => next I12 nx
  exact codeAny_compStart_list loop (T.self X.A 0 _ _ _ st5 loop)
theorem pe_lcX (hst : X.stack = X.env :: X.outer) (hf : X.env.frame = some X.env.locals) (tk : L2N.Takes X (fun cls d _ H => E cls d H)) (hc : X.calm = true) (hN : X.N.Nodup) (hi : PI X tg iter wi) (ok : BlkOk X.N X.env.scope scope own)
    (hg : ∀ (s : Shared) (H : Hp) (C : Addr) (cl : List (Str × Addr)) (fp : List Addr) (xe : Value → Shared → Prop), PG ((X.blk s H scope (compEnvC scope cl C X.env) fp).tr [] xe) tg g)
    (ht : ∀ (s : Shared) (H : Hp) (C : Addr) (cl : List (Str × Addr)) (fp : List Addr) (xe : Value → Shared → Prop), (∀ σ : L2.St, PassesAt (CXN X.prog X.w) ((X.blk s H scope (compEnvC scope cl C X.env) fp).tr [] xe) σ E) →
      PTs ((X.blk s H scope (compEnvC scope cl C X.env) fp).tr [] xe) ifs tt)
    (he : ∀ (s : Shared) (H : Hp) (C : Addr) (cl : List (Str × Addr)) (fp : List Addr) (xe : Value → Shared → Prop), (∀ σ : L2.St, PassesAt (CXN X.prog X.w) ((X.blk s H scope (compEnvC scope cl C X.env) fp).tr [] xe) σ E) →
      PE ((X.blk s H scope (compEnvC scope cl C X.env) fp).tr [] xe) elt te)
    (hs : ∀ x, foldedSetIterable iter X.env x = pure x := by intro _; rfl) : PE X (.ListComp elt [⟨tg, iter, ifs, 0⟩] scope pos) (tLc wi g tt te (own.map (·.2))) := by
  refine ⟨fun pins s σ H Q I h => ?_⟩
  rw [eval_ListComp]
  refine lc_coreX hst hf tk hc hN I hi ok hg ht he hs h fun D C s' m H' J q hn f => ⟨m, hn, fun h' sb => ?_⟩
  exact ⟨.ref D, H', J.turned (t' := s'.toks) (fun b o hb e => (sb.2 b hb).trans e) f.1 f.2.1 f.2.2.2.1 f.2.2.2.2.1 f.2.2.2.2.2, rfl, q⟩
/-- name = [..] on one line, the name a local -/
theorem ps_setLcX {i : Nat} {y : Str} {py spos : Pos} (hst : X.stack = X.env :: X.outer) (hf : X.env.frame = some X.env.locals) (tk : L2N.Takes X (fun cls d _ H => E cls d H)) (hc : X.calm = true) (hN : X.N.Nodup) (hy : X.N[i]? = some y) (hyl : X.env.scope.names.lookup y = some .local)
    (hsw : swapsWith (.ListComp elt [⟨tg, iter, ifs, 0⟩] scope pos) (some (.Name y py)) spos.line X.env = pure true) (hi : PI X tg iter wi) (ok : BlkOk X.N X.env.scope scope own)
    (hg : ∀ (s : Shared) (H : Hp) (C : Addr) (cl : List (Str × Addr)) (fp : List Addr) (xe : Value → Shared → Prop), PG ((X.blk s H scope (compEnvC scope cl C X.env) fp).tr [] xe) tg g)
    (ht : ∀ (s : Shared) (H : Hp) (C : Addr) (cl : List (Str × Addr)) (fp : List Addr) (xe : Value → Shared → Prop), (∀ σ : L2.St, PassesAt (CXN X.prog X.w) ((X.blk s H scope (compEnvC scope cl C X.env) fp).tr [] xe) σ E) →
      PTs ((X.blk s H scope (compEnvC scope cl C X.env) fp).tr [] xe) ifs tt)
    (he : ∀ (s : Shared) (H : Hp) (C : Addr) (cl : List (Str × Addr)) (fp : List Addr) (xe : Value → Shared → Prop), (∀ σ : L2.St, PassesAt (CXN X.prog X.w) ((X.blk s H scope (compEnvC scope cl C X.env) fp).tr [] xe) σ E) →
      PE ((X.blk s H scope (compEnvC scope cl C X.env) fp).tr [] xe) elt te)
    (hs : ∀ x, foldedSetIterable iter X.env x = pure x := by intro _; rfl) : PS X (.Assign [.Name y py] (.ListComp elt [⟨tg, iter, ifs, 0⟩] scope pos) spos) (tAsg (tLc wi g tt te (own.map (·.2))) (gName i)) := by
  refine ⟨fun pins s σ H D I h => ?_⟩
  rw [exec_Assign_Name_used _ _ _ _ hsw]
  refine wpAny_bind (wpAny_standAt (wpAny_bind ?_))
  show wpAny _ X.A (do let _ ← comprehension (.ListComp elt [⟨tg, iter, ifs, 0⟩] scope pos) scope X.env (firstIterPos [⟨tg, iter, ifs, 0⟩] pos) (newList []) false (eval iter X.env) (some (assign (.Name y py) X.env))) _ _ s
  have h : tLc wi g tt te (own.map (·.2)) σ H (fun x H1 => gName i x σ H1 D.nx) := h
  refine wpAny_bind (thn (lc_coreX (Qf := fun _ s' => SP X pins D .next s') hst hf tk hc hN I hi ok hg ht he hs h fun L C s' m H' J q hn f => ?_) fun _ _ hq => wpAny_pure (wpAny_pure hq))
  show wpAny _ _ (assign (.Name y py) X.env (.ref L)) _ _ _
  refine wpAny_assign_Name (store_ok2 (v := V.ref L) J hN hy (.inl hyl) rfl (fun s2 J2 ⟨a, sb, ha⟩ => ?_) (.inr hyl))
  have away : C ≠ a := ha.elim (fun z => z ▸ f.2.1) fun z e => f.2.2.2.2.1 y a z e.symm
  exact ⟨m, hn.sameBut sb away, fun h' sb' => ⟨_, H', J2.turned (t' := s2.toks) (fun b o hb e => (sb'.2 b hb).trans e) f.1 f.2.1 f.2.2.2.1 f.2.2.2.2.1 f.2.2.2.2.2, q⟩⟩
end
/-! ### calls within such a block -/
section
variable {X : Cx} {E : XK} {k j : Nat} {C : Addr} {x m : Str} {sp : Sp} {p pos apos : Pos} {e o : Expr} {es : List Expr} {ta : TE} {t : TA}
theorem pe_cxB (c : CalX X.prog X.w X.K X.mg X.base k x sp) (hr : Room j X.A) (hk : k ≤ j) (hx : ∀ σ : L2.St, PassesAt (CXN X.prog X.w) X σ E) (hg : Gl X x) (ha : PA X (e :: es) t)
    (hdb : (x == ("__debug__" : Str)) = false := by decide) (he : starEach (e :: es) X.env = (false, eval e X.env) :: starEach es X.env := by rfl) (hpl : (backTo pos (starEach es X.env)).any (·.1) = false := by rfl) :
    PE X (.Call (.Name x p) (e :: es) [] pos) (tCallS sp (fun _ => E) t) := by
  obtain ⟨f, fd, ps, F, hm, kp, b⟩ := c.ex
  exact pe_callS F (hr.mono hk) hg hm kp b hx ha hdb he hpl
end
end RJ
end

section
set_option maxRecDepth 100000
set_option maxHeartbeats 2000000
namespace RJ
open PySem PySem.Spec PyProof.Rows L2
section
variable {X : Cx} {E : XK} {k j : Nat} {C : Addr} {m : Str} {sp : Sp} {p pos apos : Pos} {e o : Expr} {es : List Expr} {ta : TE} {t : TA}
/-- a method that may raise, within a comprehension's block -/
theorem pe_mxB {pl : Sem Bool} (c : MetX X.prog X.w X.K X.mg X.base k C m sp) (hr : Room j X.A) (hk : k ≤ j) (hx : ∀ σ : L2.St, PassesAt (CXN X.prog X.w) X σ E) (he : PE X o ta) (ha : PA X (e :: es) t)
    (hst : starEach (e :: es) X.env = (false, eval e X.env) :: starEach es X.env := by rfl) (hpl : (backTo pos (starEach es X.env)).any (·.1) = false := by rfl)
    (ht : eval (.Call (.Attribute o m apos) (e :: es) [] pos) X.env = (do
      let ov ← eval o X.env
      standAt apos.atName
      let (f, first) ← holding [ov] (getMethod ov m pl)
      callWith pos f first (backTo pos (starEach (e :: es) X.env)) (backToKw pos (keywordEach [] X.env))) := by rfl) :
    PE X (.Call (.Attribute o m apos) (e :: es) [] pos) (tMethX C m sp (fun _ => E) ta t) := by
  obtain ⟨f, fd, ps, hc, hm, F, b⟩ := c.ex
  refine ⟨fun pins s σ H Q I h => ?_⟩
  refine PySem.W.methodCall_KW (pl := pl) (thn (he.run pins s σ H _ I h) fun u s1 ⟨x, H1, I1, rx, a, dx, fs, ex, ea, l, q⟩ => ?_) ht
  subst ex
  obtain rfl : u = Value.ref a := rx
  refine getmeth_ok I1 ea hc hm l ?_
  refine PySem.W.callWith_K (first := [.ref a]) (h₀ := X.base) I.ok.mod.kin hm.kp (thn (ha.run pos pins s1 σ H1 _ I1 q) fun us s2 ⟨vs, H2, I2, r, q2⟩ => ⟨I2.kIn, ?_⟩) hst hpl
  exact run_fnS (E := fun _ => E) (us := .ref a :: us) (vs := .ref a :: vs) F (hr.mono hk) b (hx σ) I2 (.cons rfl r) q2
end
end RJ
end

section
set_option maxRecDepth 100000
set_option maxHeartbeats 4000000
namespace PySem
/-- enumerate(v), whatever the iterator of v is -/
theorem rj_new_en {prog : Program} {w : World} (v : Value) : MeetsIn prog w (Builtin.«enumerate.__new__» ⟨[.type "enumerate", v], []⟩)
    (fun A R s => wpAny (model prog w) A.in1 (pyIter v) (fun itv s1 => R (.ok (.ret (.ref s1.heap.objs.size))) { s1 with heap := s1.heap.push { cls := .type "enumerate", data := .fields #[.none, .bool false, itv, rawInt 0, .none, .none] } }) (fun e s1 => R (.error e) s1) s) :=
  .of_wp fun A R s h => by
    have sub := sub_enumerate
    have it : ∀ {Q : Value → Shared → Prop}, (∀ itv s1, R (.ok (.ret (.ref s1.heap.objs.size))) { s1 with heap := s1.heap.push { cls := .type "enumerate", data := .fields #[.none, .bool false, itv, rawInt 0, .none, .none] } } → Q itv s1) → wpAny (model prog w) A.in1 (pyIter v) Q (fun e s1 => R (.error e) s1) s := fun q => wpAny_mono h q fun _ _ z => z
    wp_walk using it
    refine wpAny_stack_any fun _ => wpAny_pure ?_
    split
    · rename_i c _ _ _ _ _
      cases (c == Value.type "enumerate") <;> (wp_walk using it; intro itv s1 hR; wp_walk; exact ⟨_, rfl, hR⟩)
    · wp_walk using it
      intro itv s1 hR
      wp_walk
      exact ⟨_, rfl, hR⟩
end PySem
namespace PySem
section
variable {prog : Program} {w : World} {A : Around} {E : Value → Shared → Prop} {s : Shared}
theorem rj_call_en {v : Value} {Q : Value → Shared → Prop}
    (hx : wpAny (model prog w) A.in1.in1 (pyIter v) (fun itv s1 => ∀ h', h'.get? s1.heap.objs.size = some { cls := .type "enumerate", data := .fields #[.none, .bool false, itv, rawInt 0, .none, .none] } → h'.objs.size = s1.heap.objs.size + 1 →
      (∀ c o, s1.heap.get? c = some o → h'.get? c = some o) → Q (.ref s1.heap.objs.size) { s1 with heap := h' }) E s) : wpAny (model prog w) A (call (.type "enumerate") [v]) Q E s := by
  refine callType_newIn F.called_enumerate (by decide) (F.typeCall_enumerate_1 v) (F.newCall_enumerate_1 v) (fun obj => F.args_object_init_2 obj _) F.entry_enumerate_new (rj_new_en v) ?_
  show wpAny (model prog w) A.in1.in1 (pyIter v) _ _ _
  refine wpAny_mono hx (fun itv s1 h => ?_) fun _ _ z => z
  have gm : (s1.heap.push { cls := .type "enumerate", data := .fields #[.none, .bool false, itv, rawInt 0, .none, .none] }).get? s1.heap.objs.size = some { cls := .type "enumerate", data := .fields #[.none, .bool false, itv, rawInt 0, .none, .none] } := Heap.get?_push_size _ rfl
  show _ ∧ _
  exact ⟨⟨_, gm, rfl⟩, h _ gm (Heap.size_push ..) fun c o e => Heap.get?_push_of_some _ e⟩
/-- a tuple's iterator that has ended -/
def EndedT (h : Heap) (a : Addr) (i : Nat) : Prop := ∃ o, h.get? a = some o ∧ o.cls = .type "tuple_iterator" ∧ o.data = .fields #[.none, .int i 0]
theorem rj_tuple_end {it t : Addr} {i : Nat} {items : Array Value} {Q : Value → Shared → Prop} (hh : A.handled = none) (hit : s.heap.IsTupleIter it t i) (ht : s.heap.IsTuple t items) (hx : items[i]? = none)
    (hE : ∀ h' e, Heap.ExtBut it s.heap h' → EndedT h' it i → (∃ o, h'.get? e = some o ∧ o.cls = .type "StopIteration") → E (.ref e) { s with heap := h' }) : wpAny (model prog w) A (Builtin.SmallTypes.nextOf (.ref it)) Q E s := by
  obtain ⟨o, ho, hc, hd⟩ := id hit
  obtain ⟨ol, hol, _, nl, hdl⟩ := ht
  unfold Builtin.SmallTypes.nextOf
  refine wpAny_bind (wpAny_callSpecial?_slot (name := Str.ofString "__next__") hit.typeIs F.slot_tuple_iterator_next
    (wpAny_call_entry F.slot_tuple_iterator_next hit.typeIs F.entry_tuple_iterator_next ?_ (F.args_tuple_iterator_next_1 _)))
  show wpAny _ _ (field (.ref it) 0 >>= _) _ _ s
  refine wpAny_bind (wpAny_field ho hd (x := .ref t) rfl ?_)
  show wpAny _ _ (if (Value.ref t == Value.none) = true then _ else _) _ _ s
  rw [if_neg (show ¬ ((Value.ref t == Value.none) = true) from Bool.false_ne_true)]
  show wpAny _ _ (field (.ref it) 1 >>= _) _ _ s
  refine wpAny_bind (wpAny_field ho hd (x := .int i 0) rfl ?_)
  show wpAny _ _ (seqItems? (.ref t) >>= _) _ _ s
  refine wpAny_bind (wpAny_seqItems hol hdl ?_)
  simp only [Int.toNat_natCast, hx]
  refine wpAny_bind (wpAny_rule (wpAny_bind (wpAny_setField ho hd (by simp) ?_)))
  show wpAny _ _ (newExc (.type "StopIteration") [] >>= _) _ _ _
  refine wpAny_bind ?_
  simp only [newExc, newTuple]
  refine wpAny_bind (wpAny_newObj_type ?_ (by size_fits))
  refine wpAny_bind (m := firstArgMember _ _) (wpAny_of_eq (a := Value.none) (by first | rfl | (simp only [firstArgMember]; rfl)) ?_)
  refine wpAny_newObj_type ?_ (by size_fits)
  simp only [raiseNew]
  refine wpAny_bind (wpAny_handled ?_)
  first | rw [show A.in1.handled = none from hh] | rw [hh]
  refine wpAny_bind (wpAny_pure (wpAny_throw ?_))
  exact hE _ _ (((Heap.SameBut.update ..).extBut.push _).push _) ⟨_, Heap.get?_push_of_some _ (Heap.get?_push_of_some _ (Heap.get?_update_self _ ho (Obj.isFreed_of_fields (Obj.data_mapFields hd _)))), (Obj.cls_mapFields ..).trans hc, by
    rw [Obj.data_mapFields hd]; simp⟩ ⟨_, Heap.get?_push_size _ rfl, rfl⟩
theorem rj_tuple_ended {it : Addr} {i : Nat} {Q : Value → Shared → Prop} (hh : A.handled = none) (hit : EndedT s.heap it i)
    (hE : ∀ h' e, (∀ b o, s.heap.get? b = some o → h'.get? b = some o) → (∃ o, h'.get? e = some o ∧ o.cls = .type "StopIteration") → E (.ref e) { s with heap := h' }) : wpAny (model prog w) A (Builtin.SmallTypes.nextOf (.ref it)) Q E s := by
  obtain ⟨o, ho, hc, hd⟩ := id hit
  have hT : s.TypeIs (.ref it) "tuple_iterator" := ⟨o, ho, hc⟩
  unfold Builtin.SmallTypes.nextOf
  refine wpAny_bind (wpAny_callSpecial?_slot (name := Str.ofString "__next__") hT F.slot_tuple_iterator_next
    (wpAny_call_entry F.slot_tuple_iterator_next hT F.entry_tuple_iterator_next ?_ (F.args_tuple_iterator_next_1 _)))
  show wpAny _ _ (field (.ref it) 0 >>= _) _ _ s
  refine wpAny_bind (wpAny_field ho hd (x := .none) rfl ?_)
  show wpAny _ _ (if (Value.none == Value.none) = true then _ else _) _ _ s
  rw [if_pos (show ((Value.none == Value.none) = true) from rfl)]
  refine wpAny_bind (wpAny_rule (wpAny_bind ?_))
  show wpAny _ _ (newExc (.type "StopIteration") [] >>= _) _ _ _
  refine wpAny_bind ?_
  simp only [newExc, newTuple]
  refine wpAny_bind (wpAny_newObj_type ?_ (by size_fits))
  refine wpAny_bind (m := firstArgMember _ _) (wpAny_of_eq (a := Value.none) (by first | rfl | (simp only [firstArgMember]; rfl)) ?_)
  refine wpAny_newObj_type ?_ (by size_fits)
  simp only [raiseNew]
  refine wpAny_bind (wpAny_handled ?_)
  first | rw [show A.in1.handled = none from hh] | rw [hh]
  refine wpAny_bind (wpAny_pure (wpAny_throw ?_))
  exact hE _ _ (fun b o e => Heap.get?_push_of_some _ (Heap.get?_push_of_some _ e)) ⟨_, Heap.get?_push_size _ rfl, rfl⟩
theorem rj_enum_end {e it : Addr} {i : Int} {old : Value} {G : Heap → Prop} {Q : Option Value → Shared → Prop} (he : IsEnum s.heap e it i old)
    (hn : ∀ (Q E : Value → Shared → Prop), (∀ h' x, G h' → (∃ o, h'.get? x = some o ∧ o.cls = .type "StopIteration") → E (.ref x) { s with heap := h' }) → wpAny (model prog w) A.in1 (Builtin.SmallTypes.nextOf (.ref it)) Q E s)
    (hQ : ∀ h', G h' → Q none { s with heap := h' }) : wpAny (model prog w) A (pyNext (.ref e)) Q E s := by
  have hT : s.TypeIs (.ref e) "enumerate" := ⟨_, he, rfl⟩
  unfold pyNext
  refine wpAny_bind (wpAny_attempt (wpAny_callSpecial?_slot (name := Str.ofString "__next__") hT F.slot_enumerate_next
    (wpAny_call_entry F.slot_enumerate_next hT F.entry_enumerate_next ?_ (F.args_enumerate_next_1 _))))
  show wpAny _ _ (field (.ref e) 2 >>= _) _ _ _
  refine wpAny_bind (wpAny_field he rfl (x := .ref it) rfl ?_)
  refine wpAny_bind (hn _ _ fun h' x he' hx' => ?_)
  obtain ⟨o, ho, hc⟩ := hx'
  refine wpAny_bind (wpAny_isInstance (T := "StopIteration") (b := true) ⟨o, ho, hc⟩ isSubtype_stop ?_)
  exact wpAny_pure (hQ _ he')
end
end PySem
namespace PySem
section
variable {prog : Program} {w : World} {A : Around} {E : Value → Shared → Prop} {s : Shared}
theorem rj_call_iterT {l : Addr} {items : Array Value} {Q : Value → Shared → Prop} (hl : s.heap.IsTuple l items) (h : Q (.ref s.heap.objs.size) { s with heap := s.heap.push { cls := .type "tuple_iterator", data := .fields #[.ref l, .int 0 0] } }) : wpAny (model prog w) A (call (.builtin "iter") [.ref l]) Q E s := by
  refine Calls.call_function_entry (by decide +kernel) (by decide +kernel) PySem.W.kdk_entry_iter (PySem.W.kdk_args_iter _) ?_
  unfold Builtin.«iter»
  refine wpAny_bind (m := someArgs "iter" 1 2 _) (wpAny_of_eq (a := [Value.ref l]) (by first | rfl | kernel_rfl!) ?_)
  show wpAny _ _ (pyIter (.ref l) >>= _) _ _ _
  refine wpAny_bind (wpAny_pyIter_tuple hl ?_)
  exact wpAny_pure ⟨_, rfl, h⟩
end
end PySem
namespace RJ
open PySem PySem.Spec PyProof.Rows L2
/-! ### the walk over an own object that gives a tuple's iterator, by enumerate -/
/-- an iterator of the tuple at t, of n items, that has given i -/
def TupI (it t : Addr) (n i : Nat) : HO := .ext fun h => h.IsTupleIter it t i ∨ (n ≤ i ∧ EndedT h it i)
theorem tupI_ok {P : Program} {w : World} {H : Hp} {h : Heap} {it t : Addr} {n i : Nat} (e : h.IsTupleIter it t i ∨ (n ≤ i ∧ EndedT h it i)) : ObjOk P w H h it (TupI it t n i) := by
  refine ⟨e, ?_, fun h1 h2 q k => ?_⟩
  · rcases e with ⟨o, ho, _⟩ | ⟨_, o, ho, _⟩
    · exact ⟨o, ho⟩
    · exact ⟨o, ho⟩
  · rcases q with ⟨o, ho, r⟩ | ⟨l, o, ho, r⟩
    · exact .inl ⟨o, k _ ho, r⟩
    · exact .inr ⟨l, o, k _ ho, r⟩
/-- iter(t), t a tuple -/
def rIterT : List V → Hp → VK → Prop := fun xs H Q => ∃ (l : Addr) (zs : List V), xs = [.ref l] ∧ H l = some (.tup zs) ∧ ∀ it, H it = none → Q (.ref it) (upd H it (TupI it l zs.length 0))
theorem call_iterT {X : Cx} : CallR X (.builtin "iter") rIterT := by
  intro pins s σ H xs us Q I r h
  obtain ⟨l, zs, rfl, hq, q⟩ := h
  obtain rfl := Vals.ref1 r
  obtain ⟨its, rv, pl, hz⟩ := I.tuple (SqT.of hq)
  refine rj_call_iterT pl ?_
  exact ⟨.ref s.heap.objs.size, _, I.laid (t' := s.toks) (fun b u e => Heap.get?_push_of_some _ e) (Nat.le_refl _) (tupI_ok (.inl ⟨_, Heap.get?_push_size _ rfl, rfl, rfl⟩)), rfl, q _ (I.hok.fresh (Nat.le_refl _))⟩
/-- each turn gives a new tuple (its number, the item) -/
def ItEO (it0 pa : Addr) (xs : List V) : It :=
  ⟨fun i H => H pa = some (.tup xs) ∧ H it0 = some (TupI it0 pa xs.length i) ∧ i < xs.length,
   fun i H v H' => ∃ T x, v = .ref T ∧ H T = none ∧ xs[i]? = some x ∧ H' = upd (upd H it0 (TupI it0 pa xs.length (i + 1))) T (.tup [.int (i : Nat), x]),
   fun i H => H pa = some (.tup xs) ∧ H it0 = some (TupI it0 pa xs.length i) ∧ i = xs.length⟩
def EnumO (e it0 : Addr) (i : Nat) (h : Heap) : Prop := (∃ old, IsEnum h e it0 ((i : Nat) : Int) old) ∧ e ≠ it0
theorem turn_enumO {P : Program} {w : World} {K : PySem.W.Frag} {elts : List Expr} {kk : Nat} {tpos : Pos} {e it0 pa : Addr} {xs : List V} : Turn P w K (.Tuple elts kk tpos) (ItEO it0 pa xs) [e] e (EnumO e it0) where
  mem := List.mem_cons_self ..
  obj := fun i h ⟨⟨_, a⟩, _⟩ b hb => by rw [List.mem_singleton.mp hb]; exact ⟨_, a, fun _ q => nomatch q⟩
  keep := fun i h h' ⟨⟨old, a⟩, n⟩ k => ⟨⟨old, k e (by simp) _ a⟩, n⟩
  item := by
    rintro X hP hw hK hc i pins s σ H E I hf ⟨⟨old, he⟩, hne⟩ ⟨hpa, hit, hlt⟩
    subst hP hw hK
    have hfe := hf e (by simp)
    have hne2 : pa ≠ it0 := fun z => by rw [z, hit] at hpa; cases hpa
    obtain ⟨its, rv, p, _⟩ := I.tuple (SqT.of hpa)
    have hl := rv.length
    have esz : its.toArray.size = xs.length := by simp [hl]
    have DD := Draws.tuple (prog := X.prog) (w := X.w) (A := X.A.in1) (I.ok.hd hc) it0 pa hne2 its.toArray
    rw [esz] at DD
    have hex : s.heap.IsTupleIter it0 pa i := by
      rcases (I.hok it0 _ hit).1 with q | ⟨q, _⟩
      · exact q
      · omega
    have apart : e ∉ [it0, pa] := fun z => by
      rcases List.mem_cons.mp z with z | z
      · exact hne z
      · rw [← List.mem_singleton.mp z, hfe.1] at hpa; cases hpa
    refine wpAny_pyNext_enum_itemC DD he ⟨hex, p⟩ hlt hne apart fun u h' tk hu ho j1 hT _ hk => ⟨_, rfl, ?_⟩
    obtain ⟨x, hx, ru⟩ : ∃ x, xs[i]? = some x ∧ RelV x u := by
      have q' : its[i]? = some u := by simpa using hu
      obtain ⟨u', hu', ru⟩ := rv.get (List.getElem?_eq_getElem hlt)
      rw [q'] at hu'
      cases hu'
      exact ⟨_, List.getElem?_eq_getElem hlt, ru⟩
    refine wpAny_letOwnedTupleGo_enum (s := { s with heap := h', toks := tk + 1 }) ho fun g zg sg => ?_
    have on : ∀ {c : Addr} {o : Obj}, c ≠ e → h'.get? c = some o → g.get? c = some o := fun n a => (sg.2 _ n).trans a
    have elt : e < s.heap.objs.size := Heap.lt_size he
    have ilt : it0 < s.heap.objs.size := by obtain ⟨o, ho, _⟩ := hex; exact Heap.lt_size ho
    have hgT := on (Nat.ne_of_gt elt) hT
    have hgi : g.IsTupleIter it0 pa (i + 1) := by
      obtain ⟨o, ho, r⟩ := j1.1
      exact ⟨o, on (Ne.symm hne) ho, r⟩
    have next : IsEnum g e it0 ((i + 1 : Nat) : Int) u := by rw [show ((i + 1 : Nat) : Int) = (i : Int) + 1 by omega]; exact zg
    have fT : H s.heap.objs.size = none := I.hok.fresh (Nat.le_refl _)
    have kk : ∀ b o, b ≠ e → b ≠ it0 → s.heap.get? b = some o → g.get? b = some o := fun b o h1 h2 q => on h1 (hk b o h1 h2 q)
    generalize hT0 : s.heap.objs.size = T at hgT fT
    have nT : ∀ b o, s.heap.get? b = some o → b ≠ T := fun b o q => by rw [← hT0]; exact Nat.ne_of_lt (Heap.lt_size q)
    obtain ⟨H2, hH2⟩ : ∃ H2, H2 = upd (upd H it0 (TupI it0 pa xs.length (i + 1))) T (.tup [.int (i : Nat), x]) := ⟨_, rfl⟩
    have h2T : H2 T = some (.tup [.int (i : Nat), x]) := by rw [hH2]; exact upd_same
    have h2i : H2 it0 = some (TupI it0 pa xs.length (i + 1)) := by rw [hH2, upd_ne (fun z => by rw [z, fT] at hit; cases hit)]; exact upd_same
    have h2o : ∀ b, b ≠ it0 → b ≠ T → H2 b = H b := fun b h1 h2 => by rw [hH2, upd_ne h2, upd_ne h1]
    have nob : ∀ b u, H b = some u → b ≠ T := fun b u q z => by rw [z, fT] at q; cases q
    have J : Inv X pins σ H2 { s with heap := g, gens := s.gens, drawn := s.drawn, toks := tk + 1 } := by
      refine I.call (ch := [e]) ⟨fun b o q n hb hc => ?_, fun b o q n hb hc => ?_, fun b o q n hc => ?_, fun b o q hc => ?_, fun b ys q => ?_, fun b o u q => ?_, fun b ps q => ?_⟩ (fun b u q => ?_) I.bare (fun b hb => ?_)
      · exact kk b o (fun z => hc (by simp [z])) (fun z => by rw [z, hit] at n; cases n) q
      · exact ⟨o.slots, kk b o (fun z => hc (by simp [z])) (fun z => by rw [z, hit] at n; cases n) q⟩
      · rw [h2o b (fun z => by rw [z, hit] at n; cases n) (nT b o q)]; exact n
      · by_cases z : b = it0
        · obtain ⟨o', q', _⟩ := hgi
          exact ⟨o', by rw [z]; exact q'⟩
        · exact ⟨o, kk b o (fun z => hc (by simp [z])) z q⟩
      · rw [h2o b (fun z => by rw [z, hit] at q; cases q) (nob b _ q)]; exact q
      · rw [h2o b (fun z => by rw [z, hit] at q; cases q) (nob b _ q)]; exact q
      · exact ⟨#[], by rw [h2o b (fun z => by rw [z, hit] at q; cases q) (nob b _ q), q]; simp⟩
      · by_cases z1 : b = T
        · subst z1
          rw [h2T] at q
          cases q
          exact ⟨by show 2 ≤ sizeLine; decide, [.int i tk, u], .cons ⟨_, rfl⟩ (.cons ru .nil), ⟨_, hgT, rfl, _, rfl⟩⟩
        · by_cases z2 : b = it0
          · subst z2
            rw [h2i] at q
            cases q
            exact tupI_ok (.inl hgi)
          · rw [h2o b z2 z1] at q
            refine (I.hok b u q).stay (fun c v hc q' => ?_) (fun c q' => ?_) fun c ys q' => ?_
            · rcases hc with hc | hc
              · subst hc
                exact kk c v (fun z => by rw [z, hfe.1] at q; cases q) z2 q'
              · exact kk c v (fun z => by rw [z, hfe.1] at hc; cases hc) (fun z => by rw [z, hit] at hc; cases hc) q'
            · rw [h2o c (fun z => by rw [z, hit] at q'; cases q') (nob c _ q')]; exact q'
            · rw [h2o c (fun z => by rw [z, hit] at q'; cases q') (nob c _ q')]; exact q'
      · rw [List.mem_singleton.mp hb]
        exact ⟨hfe.2.2.2.1, hfe.2.1, hfe.2.2.2.2.1, hfe.2.2.2.2.2⟩
    have hH3 : H2 e = none := by rw [h2o e hne (nT e _ he)]; exact hfe.1
    rw [hH2] at J hH3
    exact ⟨.ref T, _, J, rfl, ⟨T, x, rfl, fT, hx, rfl⟩, ⟨⟨u, next⟩, hne⟩, fun c hcm => by rw [List.mem_singleton.mp hcm]; exact hH3⟩
  done := by
    rintro X hP hw hK hc i pins s σ H E I hf ⟨⟨old, he⟩, hne⟩ ⟨hpa, hit, hge⟩
    subst hP hw hK
    have hfe := hf e (by simp)
    have hne2 : pa ≠ it0 := fun z => by rw [z, hit] at hpa; cases hpa
    obtain ⟨its, rv, p, _⟩ := I.tuple (SqT.of hpa)
    have hl := rv.length
    have back : ∀ h' : Heap, (∀ b o, b ≠ it0 → s.heap.get? b = some o → h'.get? b = some o) → EndedT h' it0 i → Inv X pins σ H { s with heap := h', gens := s.gens, drawn := s.drawn, toks := s.toks } := by
      intro h' kk en
      refine I.call (ch := []) ⟨fun b o q n hb _ => kk b o (fun z => by rw [z, hit] at n; cases n) q, fun b o q n hb _ => ⟨o.slots, kk b o (fun z => by rw [z, hit] at n; cases n) q⟩, fun b o q n _ => n, fun b o q _ => ?_, fun b ys q => q, fun b o u q => q, fun b ps q => ⟨#[], by rw [q]; simp⟩⟩ (fun b u q => ?_) I.bare (fun b hb => nomatch hb)
      · by_cases z : b = it0
        · obtain ⟨o', q', _⟩ := en
          exact ⟨o', by rw [z]; exact q'⟩
        · exact ⟨o, kk b o z q⟩
      · by_cases z2 : b = it0
        · subst z2
          rw [hit] at q
          cases q
          exact tupI_ok (.inr ⟨Nat.le_of_eq hge.symm, en⟩)
        · refine (I.hok b u q).stay (fun c v hc q' => ?_) (fun c q' => q') fun c ys q' => q'
          rcases hc with hc | hc
          · subst hc; exact kk c v z2 q'
          · exact kk c v (fun z => by rw [z, hit] at hc; cases hc) q'
    refine rj_enum_end (G := fun h' => (∀ b o, b ≠ it0 → s.heap.get? b = some o → h'.get? b = some o) ∧ EndedT h' it0 i) he (fun Q E hE => ?_) fun h' ⟨g1, g2⟩ => ⟨rfl, back h' g1 g2⟩
    rcases (I.hok it0 _ hit).1 with q | ⟨_, q⟩
    · exact rj_tuple_end (A := X.A.in1) (I.ok.hd hc) q p (by rw [List.getElem?_toArray]; exact List.getElem?_eq_none (by omega)) fun h' x eb en st => hE h' x ⟨fun b o nb qq => eb b o nb qq, en⟩ st
    · refine rj_tuple_ended (A := X.A.in1) (I.ok.hd hc) q fun h' x kk st => hE h' x ⟨fun b o _ qq => kk b o qq, ?_⟩ st
      obtain ⟨o, ho, r⟩ := q
      exact ⟨o, kk _ _ ho, r⟩
  self := fun A i s Q E st h => by
    obtain ⟨⟨_, he⟩, _⟩ := st
    exact wpAny_pyIter_enum he h
/-- enumerate(o), o an instance whose __iter__ gives a tuple's iterator -/
def iEnumO (C : Addr) (sp : Sp) (ta : TA) : TI := fun σ H R => ta σ H fun vs H1 => ∃ a dx fs, vs = [.ref a] ∧ H1 a = some (.ins C dx fs) ∧ sp [.ref a] H1 (fun v H2 => ∃ it0 pa xs, v = .ref it0 ∧ H2 it0 = some (TupI it0 pa xs.length 0) ∧ R (ItEO it0 pa xs) H2) C8.E0
theorem pi_enumO {X : Cx} {e : Expr} {ta : TA} {p pos tpos : Pos} {elts : List Expr} {kk k j : Nat} {C : Addr} {sp : Sp} (hg : Gl X "enumerate") (hm : X.mg "enumerate" = none) (c : C8.Met X.prog X.w X.K X.mg X.base k C "__iter__" sp []) (hr : Room j X.A) (hk : k + 2 ≤ j) (ha : PA X [e] ta) (hs : starEach [e] X.env = [(false, eval e X.env)] := by rfl) :
    PI X (.Tuple elts kk tpos) (.Call (.Name "enumerate" p) [e] [] pos) (iEnumO C sp ta) := by
  obtain ⟨f, fd, ps, ds, hc, hmt, F, b, d⟩ := c.ex
  cases d
  refine ⟨fun pins s σ H R I h => ?_⟩
  refine Call_ (ld_blt I hg hm boot_enumerate (PyProof.Rows.callWith_type1 (thn (ha.run pos pins s σ H _ I h) fun us s1 ⟨vs, H1, I1, r1, q1⟩ => ?_) hs rfl))
  obtain ⟨a, dx, fs, ex, ea, q⟩ := q1
  subst ex
  obtain rfl := Vals.ref1 r1
  refine rj_call_en ?_
  obtain ⟨mA, J, _⟩ := ins_get I1.hok ea
  obtain ⟨od, J, _⟩ := J.look
  obtain ⟨m, hF⟩ := I1.fr
  refine PySem.W.owit_iter hF I1.ok.mod.kin J hmt.at_ hmt.fn ?_
  have rm : Room k X.A.in1.in1 := (hr.mono hk).in1.in1
  have e0 : Env0 X.prog X.w X.K X.mg X.base X.A.in1.in1 X.stack s1 H1 := by
    have e := I1.env0
    exact ⟨e.frames, e.mod, e.bs, e.bsz, e.funs, e.frf, e.hok, e.bare⟩
  have hl := F.len _ _ _ _ q
  have r2 : Vals [V.ref a] [Value.ref a] := .cons rfl .nil
  refine wpAny_call (codeAny_mono (F.run X.A.in1.in1 X.stack s1 H1 ⟨[.ref a], []⟩ [.ref a] [.ref a] _ C8.E0 rm e0 (by
    have := b s1 [.ref a] I1.kIn (by simpa using hl)
    simpa using this) r2 q) fun r s' hq' => ?_)
  cases r with
  | error e => exact hq'.elim
  | ok fl =>
    cases fl with
    | next => exact False.elim hq'
    | brk => exact False.elim hq'
    | cont => exact False.elim hq'
    | ret u =>
      obtain ⟨v, H2, I2, rv, it0, pa, xs, ev, ei, hR⟩ := I1.after hq'
      subst ev
      cases rv
      have hT : s'.TypeIs (.ref it0) "tuple_iterator" := by
        rcases (I2.hok it0 _ ei).1 with ⟨o, ho, hc, _⟩ | ⟨_, o, ho, hc, _⟩
        · exact ⟨o, ho, hc⟩
        · exact ⟨o, ho, hc⟩
      unfold PySem.W.OwitIt
      refine wpAny_specialOf (name := Str.ofString "__next__") hT PySem.F.slot_tuple_iterator_next.lookup ?_
      intro h' he hsz hk'
      have he' : IsEnum h' s'.heap.objs.size it0 0 .none := he
      refine wpAny_pyIter_enum (s := { s' with heap := h' }) he' ?_
      have I3 : Inv X pins σ H2 { s' with heap := h' } := I2.kept (t' := s'.toks) hk'
      have ilt : it0 < s'.heap.objs.size := by obtain ⟨o, ho, _⟩ := hT; exact Heap.lt_size ho
      refine ⟨s'.heap.objs.size, [s'.heap.objs.size], _, _, H2, rfl, I3, turn_enumO, ⟨⟨.none, he'⟩, Nat.ne_of_gt ilt⟩, fun c hc => ?_, hR⟩
      rw [List.mem_singleton.mp hc]
      exact I2.fpOk (Nat.le_refl _) (I2.hok.fresh (Nat.le_refl _))
end RJ
end

section
set_option maxRecDepth 100000
set_option maxHeartbeats 4000000
namespace RJ
open PySem PySem.Spec PyProof.Rows L2
/-! ### a tuple whose object is known, and the dict of its pairs -/
def kTupF (K : PySem.W.Frag) (x : V) (H : Hp) (Q : VK) : Prop := ∃ p xs, x = .ref p ∧ SqL K H p xs ∧ ∀ (q : Addr) (o : Obj), H q = none → o.dict = none → Q (.ref q) (upd H q (.frz o (.tup xs)))
section
variable {X : Cx}
theorem rl_tupleF (pins : List (Addr × Obj)) (s : Shared) (σ : L2.St) (H : Hp) (x : V) (v : Value) (Q : VK) (I : Inv X pins σ H s) (r : RelV x v) (h : kTupF X.K x H Q) :
    wpAny (model X.prog X.w) X.A (call (.type "tuple") [v]) (EP X pins σ Q) X.xe s := by
  obtain ⟨p, xs, rfl, hs, q⟩ := h
  obtain rfl : v = .ref p := r
  obtain ⟨its, rv, pl, hz⟩ := I.list hs
  refine call_tuple_list pl.isList (fun h' hk => ?_) (by rw [List.size_toArray, ← rv.length]; exact hz)
  have I1 : Inv X pins σ H { s with heap := h' } := I.kept (t' := s.toks) hk
  have e0 : (h'.push { cls := .type "tuple", data := .seq its.toArray }).get? h'.objs.size = some { cls := .type "tuple", data := .seq its.toArray } := Heap.get?_push_size _ rfl
  have I2 : Inv X pins σ (upd H h'.objs.size (.frz { cls := .type "tuple", data := .seq its.toArray } (.tup xs))) { s with heap := h'.push { cls := .type "tuple", data := .seq its.toArray } } :=
    I1.laid (t' := s.toks) (fun b o e => Heap.get?_push_of_some _ e) (Nat.le_refl _) (show ObjOk X.prog X.w _ _ _ (.frz _ (.tup xs)) from ⟨e0, hz, its, rv, IsTup.new _ _⟩)
  exact ⟨.ref h'.objs.size, _, I2, rfl, q _ _ (I1.hok.fresh (Nat.le_refl _)) rfl⟩
theorem pe_tupleOfF {a : Expr} {ta : TE} {p pos : Pos} (hg : Gl X "tuple") (hm : X.mg "tuple" = none) (ha : PE X a ta) (na : starEach [a] X.env = (false, eval a X.env) :: starEach [] X.env := by rfl) :
    PE X (.Call (.Name "tuple" p) [a] [] pos) (tThen ta (kTupF X.K)) := by
  refine ⟨fun pins s σ H Q I h => ?_⟩
  exact Call_ (ld_blt I hg hm boot_tuple (PyProof.Rows.callWith_type1 (one_arg ha I h (fun v s2 x H2 I2 r q => rl_tupleF pins s2 σ H2 x v Q I2 r q) na) na))
theorem pairs_vals {pins : List (Addr × Obj)} {σ : L2.St} {H : Hp} {s : Shared} (I : Inv X pins σ H s) : ∀ {ps : List Addr} {kvs : List (Key × V)}, Paired (fun p kv => SqT X.K H p [kV kv.1, kv.2]) ps kvs →
    ∃ (prs : List (Key × Value)) (vps : List (Value × Value)), KV kvs prs ∧ prs.length = ps.length ∧ vps.length = ps.length ∧ ∀ (j : Nat) (q : Key × Value), prs[j]? = some q → ∃ (b : Addr) (u : Value), ps[j]? = some b ∧ vps[j]? = some (u, q.2) ∧ IsTup s.heap b #[u, q.2] ∧ (mixKind X.prog X.w).is q.1 u = true
  | _, _, .nil => ⟨[], [], .nil, rfl, rfl, fun j q e => by simp at e⟩
  | _, _, .cons (a := p) (b := kv) h t => by
    obtain ⟨prs, vps, r, hl, hl2, hp⟩ := pairs_vals I t
    obtain ⟨its, rv, ht, _⟩ := I.tuple h
    obtain ⟨u, y, ei, ru, ry⟩ := vals2 rv
    subst ei
    refine ⟨(kv.1, y) :: prs, (u, y) :: vps, .cons ⟨rfl, ry⟩ r, by rw [List.length_cons, List.length_cons, hl], by rw [List.length_cons, List.length_cons, hl2], fun j q e => ?_⟩
    cases j with
    | zero =>
      have e' : (kv.1, y) = q := Option.some.inj e
      subst e'
      exact ⟨p, u, rfl, rfl, ht, kV_is (P := X.prog) (w := X.w) ru⟩
    | succ j =>
      obtain ⟨b, u', e1, e2, e3, e4⟩ := hp j q (by simpa using e)
      exact ⟨b, u', by simpa using e1, by simpa using e2, e3, e4⟩
/-- dict(t), t a known tuple of pairs -/
def rDictT (K : PySem.W.Frag) : List V → Hp → VK → Prop := fun xs H Q => ∃ (a : Addr) (o : Obj) (ps : List Addr) (kvs : List (Key × V)), xs = [.ref a] ∧ H a = some (.frz o (.tup (ps.map V.ref))) ∧ o.dict = none ∧ Paired (fun p kv => SqT K H p [kV kv.1, kv.2]) ps kvs ∧
  ∀ p, H p = none → Q (.ref p) (upd H p (.dK (mergeK [] kvs)))
theorem call_dictT (hcalm : X.calm = true) : CallR X (.type "dict") (rDictT X.K) := by
  intro pins s σ H xs us Q I r q
  obtain ⟨a, o, ps, kvs, ex, ha, hd, hp, q⟩ := q
  subst ex
  obtain ⟨u, eu, rx⟩ := vals1 r
  subst eu
  cases rx
  obtain ⟨he, hz, its, rv, o', ho', hc, n, hdat⟩ : s.heap.get? a = some o ∧ ObjOk X.prog X.w H s.heap a (.tup (ps.map V.ref)) := I.hok a _ ha
  rw [he] at ho'
  cases ho'
  have ei := refs_at rv
  subst ei
  rw [List.length_map] at hz
  obtain ⟨prs, vps, rel, hl, hl2, hpr⟩ := pairs_vals I hp
  have hitem : ∀ j k v, vps[j]? = some (k, v) → ∃ q : Key × Value, prs[j]? = some q ∧ q.2 = v ∧ (mixKind X.prog X.w).is q.1 k = true ∧ ∃ b, ps[j]? = some b ∧ IsTup s.heap b #[k, v] := fun j k v e => by
    have hj : j < prs.length := by rw [hl, ← hl2]; exact (List.getElem?_eq_some_iff.mp e).1
    obtain ⟨b, u, e1, e2, e3, e4⟩ := hpr j prs[j] (List.getElem?_eq_getElem hj)
    rw [e] at e2
    obtain ⟨rfl, rfl⟩ := Prod.mk.inj (Option.some.inj e2)
    exact ⟨_, List.getElem?_eq_getElem hj, rfl, e4, b, e1, e3⟩
  refine PySem.call_dict_pairs (knd := mixKind X.prog X.w) (kvs := prs) (PairArg.tuple a (ps.map Value.ref).toArray (fun j => (ps[j]?).getD 0) vps) (I.ok.hd hcalm) ⟨⟨o, n, he, hc, hd, hdat⟩, by simp [hl2], fun j k v e => ?_⟩ ⟨by rw [hl, hl2], fun i key v e => ?_⟩ (by rw [hl2]; exact hz) fun h' tk hd' k => ?_
  · obtain ⟨_, _, _, _, b, eb, et⟩ := hitem j k v e
    exact ⟨by simp [eb], .inl (by have et' : s.heap.IsTuple b #[k, v] := et; simpa [eb] using et')⟩
  · obtain ⟨q', e1, e2, e3, _⟩ := hitem i key v e
    exact ⟨q'.1, by rw [e1, ← e2], e3⟩
  · have hm : (s.heap.objs.size == sysModules) = false := beq_eq_false_iff_ne.mpr (Nat.ne_of_gt I.big)
    have hlen : (mergeK [] kvs).length ≤ sizeLine := by
      refine Nat.le_trans (length_mergeK kvs []) ?_
      rw [List.length_nil, Nat.zero_add, rel.length, hl]
      exact hz
    exact ⟨.ref s.heap.objs.size, upd H s.heap.objs.size (.dK (mergeK [] kvs)), I.laid (t' := tk) (fun b o e => k b o (by simp) e) (Nat.le_refl _) (show ObjOk X.prog X.w _ _ _ (.dK (mergeK [] kvs)) from ⟨hlen, hm, merged [] prs, KV.merge rel .nil, hd'⟩), rfl, q _ (I.hok.fresh (Nat.le_refl _))⟩
end
end RJ
namespace RJ
open PySem PySem.Spec PyProof.Rows L2
/-! ### a property -/
structure PrpC (P : Program) (w : World) (K : PySem.W.Frag) (mg : Str → Option Value) (base : Heap) (k : Nat) (C : Addr) (m : Str) (sp : Sp) : Prop where
  ex : ∃ (p g : Addr) (fd : FuncData) (ps : List Str), Cls K C ∧ PropOf K C m p g ∧ FnOk P w K mg base C8.CX0 k g fd ps sp ∧ Binds K fd ps []
theorem pe_prp {X : Cx} {k j : Nat} {C : Addr} {m : Str} {sp : Sp} {e : Expr} {ta : TE} {pos : Pos} (c : PrpC X.prog X.w X.K X.mg X.base k C m sp) (hr : Room j X.A) (hk : k + 1 ≤ j) (he : PE X e ta)
    (hab : attributeBase e m X.env (eval e X.env) = eval e X.env := by rfl) : PE X (.Attribute e m pos) (tProp C sp [] C8.E0 ta) := by
  obtain ⟨p, g, fd, ps, hc, hp, F, b⟩ := c.ex
  exact pe_prop he hc hp F (hr.mono hk) b .nil C8.pass0 hab
end RJ
namespace RJ
open PySem PySem.Spec PyProof.Rows L2
theorem call_dictTK {X : Cx} {K : PySem.W.Frag} (h : X.K = K) (hc : X.calm = true) : CallR X (.type "dict") (rDictT K) := h ▸ call_dictT hc
/-- an item of a list, ahead of a store -/
def rGetL : V → V → Hp → VK → Prop := fun x y H Q => ∃ (p : Addr) (xs : List V) (k : Nat) (v : V), x = .ref p ∧ y = .int (k : Int) ∧ H p = some (.lst xs) ∧ xs[k]? = some v ∧ Q v H
theorem get_listN {X : Cx} : PGet X rGetL := by
  intro pins s σ H o i ov iv Q I ro ri h
  obtain ⟨p, xs, k, z, rfl, rfl, hp, he, q⟩ := h
  cases ro
  obtain ⟨t, rfl⟩ := ri
  obtain ⟨its, r, pl, hz⟩ := I.list (SqL.of hp)
  obtain ⟨w, ew, rw'⟩ := r.get he
  have hl := r.length
  have hn := line63
  have hk : k < xs.length := (List.getElem?_eq_some_iff.mp he).1
  exact wpAny_getItem_list pl.isList (Int.natCast_nonneg _) (by omega) (by rw [Int.toNat_natCast]; simpa using ew) ⟨z, H, I, rw', q⟩
end RJ
end

section
set_option maxRecDepth 100000
set_option maxHeartbeats 4000000
namespace PySem
open HotX
section
variable {prog : Program} {w : World} {A : Around} {E : Value → Shared → Prop} {s : Shared}
/-- a list's iterator ends where an exception is handled -/
theorem rj_list_end_hot {it l x1 : Addr} {i : Nat} {items : Array Value} {Q : Option Value → Shared → Prop} (hot : HotAt A x1 s.heap) (nx : x1 ≠ it)
    (hit : s.heap.IsListIter it l i) (hl : s.heap.IsList l items) (hx : items[i]? = none)
    (hQ : ∀ h', Heap.ExtBut it s.heap h' → Q none { s with heap := h' }) : wpAny (model prog w) A (pyNext (.ref it)) Q E s := by
  obtain ⟨o, ho, hc, hd⟩ := id hit
  obtain ⟨ol, hol, _, nl, hdl⟩ := hl
  obtain ⟨hh, o1, vs1, h1, d1, c1⟩ := hot
  unfold pyNext
  refine wpAny_bind (wpAny_attempt (wpAny_callSpecial?_slot (name := Str.ofString "__next__") hit.typeIs slot_listiter_next
    (wpAny_call_entry slot_listiter_next hit.typeIs entry_listiter_next ?_ (args_listiter_next _))))
  show wpAny _ _ (field (.ref it) 0 >>= _) _ _ s
  refine wpAny_bind (wpAny_field ho hd (x := .ref l) rfl ?_)
  show wpAny _ _ (if (Value.ref l == Value.none) = true then _ else _) _ _ s
  rw [if_neg (show ¬ ((Value.ref l == Value.none) = true) from Bool.false_ne_true)]
  show wpAny _ _ (field (.ref it) 1 >>= _) _ _ s
  refine wpAny_bind (wpAny_field ho hd (x := .int i 0) rfl ?_)
  show wpAny _ _ (seqItems? (.ref l) >>= _) _ _ s
  refine wpAny_bind (wpAny_seqItems hol hdl ?_)
  simp only [Int.toNat_natCast, hx]
  refine wpAny_bind (wpAny_rule (wpAny_bind (wpAny_setField ho hd (by simp) ?_)))
  have h1' : (s.heap.update it (Obj.mapFields fun x => x.setIfInBounds 0 Value.none)).get? x1 = some o1 := (Heap.get?_update_other _ _ (Ne.symm nx)).trans h1
  have ext : Heap.ExtBut it s.heap (s.heap.update it (Obj.mapFields fun x => x.setIfInBounds 0 Value.none)) := (Heap.SameBut.update ..).extBut
  generalize s.heap.update it (Obj.mapFields fun x => x.setIfInBounds 0 Value.none) = h2 at h1' ext
  show wpAny _ _ (newExc (.type "StopIteration") [] >>= _) _ _ _
  refine wpAny_bind ?_
  simp only [newExc, newTuple]
  refine wpAny_bind (wpAny_newObj_type ?_ (by size_fits))
  refine wpAny_bind (m := firstArgMember _ _) (wpAny_of_eq (a := Value.none) (by first | rfl | (simp only [firstArgMember]; rfl)) ?_)
  refine wpAny_newObj_type ?_ (by size_fits)
  refine raiseNew_hot ⟨hh, o1, vs1, Heap.get?_push_of_some _ (Heap.get?_push_of_some _ h1'), d1, c1⟩ (Nat.ne_of_lt (Heap.lt_size (Heap.get?_push_of_some _ h1'))) (Heap.get?_push_size _ rfl) rfl (by first | (simp; done) | (simp; omega) | (simp only [Array.size_append]; simp; omega)) ?_
  refine wpAny_bind (wpAny_isInstance (T := "StopIteration") (b := true) ⟨_, Heap.get?_update_self _ (Heap.get?_push_size _ rfl) rfl, rfl⟩ isSubtype_stop ?_)
  refine wpAny_pure (hQ _ fun b o' nb e => ?_)
  have e' := ext b o' nb e
  rw [Heap.get?_update_other _ _ (Nat.ne_of_gt (Heap.lt_size (Heap.get?_push_of_some _ e')))]
  exact Heap.get?_push_of_some _ (Heap.get?_push_of_some _ e')
end
end PySem
namespace RJ
open PySem PySem.Spec PyProof.Rows L2 HotX
/-! ### a comprehension where an exception is handled -/
structure TurnHL (P : Program) (w : World) (K : PySem.W.Frag) (tg : Expr) (J : It) (fp : List Addr) (it : Addr) (tn : Nat → Heap → Prop) : Prop where
  mem : it ∈ fp
  obj : ∀ i h, tn i h → ∀ b ∈ fp, ∃ o, h.get? b = some o ∧ ∀ v, o.data ≠ .cell v
  keep : ∀ i h h', tn i h → (∀ b ∈ fp, ∀ o, h.get? b = some o → h'.get? b = some o) → tn i h'
  item : ∀ (X : Cx), X.prog = P → X.w = w → X.K = K → ∀ (i : Nat) (pins : List (Addr × Obj)) (s : Shared) (σ : L2.St) (H : Hp) (E : Value → Shared → Prop), Inv X pins σ H s → (∀ b ∈ fp, FpOk X pins H b) → tn i s.heap → J.go i H →
    wpAny (model P w) X.A (pyNext (.ref it)) (fun r s1 => ∃ u, r = some u ∧
      wpAny (model P w) X.A (letOwnedTupleGo tg (.ref it) u) (fun _ s2 => ∃ x H', Inv X pins σ H' s2 ∧ RelV x u ∧ J.yld i H x H' ∧ tn (i + 1) s2.heap ∧ ∀ b ∈ fp, H' b = none) E s1) E s
  done : ∀ (X : Cx), X.prog = P → X.w = w → X.K = K → ∀ (i : Nat) (pins : List (Addr × Obj)) (s : Shared) (σ : L2.St) (H : Hp) (E : Value → Shared → Prop), Inv X pins σ H s → (∃ x1, HotAt X.A x1 s.heap ∧ ∀ b ∈ fp, x1 ≠ b) → (∀ b ∈ fp, FpOk X pins H b) → tn i s.heap → J.stop i H →
    wpAny (model P w) X.A (pyNext (.ref it)) (fun r s1 => r = none ∧ Inv X pins σ H s1) E s
  self : ∀ (A : Around) (i : Nat) (s : Shared) (Q : Value → Shared → Prop) (E : Value → Shared → Prop), tn i s.heap → Q (.ref it) s → wpAny (model P w) A (pyIter (.ref it)) Q E s
def PIEHL (X : Cx) (pins : List (Addr × Obj)) (σ : L2.St) (tg : Expr) (R : It → Hp → Prop) (itv : Value) (s2 : Shared) : Prop :=
  ∃ (it : Addr) (fp : List Addr) (tn : Nat → Heap → Prop) (J : It) (H' : Hp), itv = .ref it ∧ Inv X pins σ H' s2 ∧ TurnHL X.prog X.w X.K tg J fp it tn ∧ tn 0 s2.heap ∧ (∀ b ∈ fp, FpOk X pins H' b) ∧ R J H'
structure PIHL (X : Cx) (tg iter : Expr) (wi : TI) : Prop where
  run : ∀ (pins : List (Addr × Obj)) (s : Shared) (σ : L2.St) (H : Hp) (R : It → Hp → Prop), Inv X pins σ H s → wi σ H R →
    wpAny (model X.prog X.w) X.A (eval iter X.env) (fun v s1 => wpAny (model X.prog X.w) X.A (pyIter v) (PIEHL X pins σ tg R) X.xe s1) X.xe s
theorem turn_listHL {P : Program} {w : World} {K : PySem.W.Frag} {tg : Expr} (a it : Addr) : TurnHL P w K tg (Itl K a) [it] it (fun i h => h.IsListIter it a i) where
  mem := (turn_list (P := P) (w := w) (K := K) (tg := tg) a it).mem
  obj := (turn_list (P := P) (w := w) (K := K) (tg := tg) a it).obj
  keep := (turn_list (P := P) (w := w) (K := K) (tg := tg) a it).keep
  item := by
    intro X hP hw hK i pins s σ H E I hf st hg
    subst hP hw hK
    obtain ⟨xs, x, hq, hx⟩ := hg
    obtain ⟨its, rv, p, hz⟩ := I.list hq
    obtain ⟨u, hu, ru⟩ := rv.get hx
    obtain ⟨f0, f1, f2, f3, f4, f5⟩ := hf it (by simp)
    refine wpAny_pyNext_list_item st p.isList (x := u) (by simpa using hu) fun h' st' sb => ?_
    have I1 : Inv X pins σ H { s with heap := h' } := I.turned (t' := s.toks) (fun b o hb e => (sb.2 b hb).trans e) f0 f1 f3 f4 f5
    obtain ⟨o, e, c, d⟩ := id st'
    exact ⟨u, rfl, go_of (s := { s with heap := h' }) e c d (by decide) ⟨x, H, I1, ru, ⟨rfl, fun ys hy => by rw [I.list_inj hy hq]; exact hx⟩, st', fun b hb => (hf b hb).1⟩⟩
  done := by
    intro X hP hw hK i pins s σ H E I ⟨x1, hot, hne⟩ hf st hg
    subst hP hw hK
    obtain ⟨xs, hq, hx⟩ := hg
    obtain ⟨its, rv, p, hz⟩ := I.list hq
    have hl := rv.length
    obtain ⟨f0, f1, f2, f3, f4, f5⟩ := hf it (by simp)
    exact rj_list_end_hot hot (hne it (by simp)) st p.isList (by simp; omega) fun h' eb => ⟨rfl, I.turned (t' := s.toks) (fun b o hb e => eb b o hb e) f0 f1 f3 f4 f5⟩
  self := (turn_list (P := P) (w := w) (K := K) (tg := tg) a it).self
theorem pi_listHL {X : Cx} {tg l : Expr} {tl : TE} (hl : PE X l tl) : PIHL X tg l (iList X.K tl) := by
  refine ⟨fun pins s σ H R I h => ?_⟩
  refine thn (hl.run pins s σ H _ I h) fun v s1 ⟨x, H1, I1, r1, q1⟩ => ?_
  obtain ⟨a, e, ⟨xs, hq⟩, q⟩ := q1
  subst e
  cases r1
  obtain ⟨its, rv, p, hz⟩ := I1.list hq
  refine wpAny_pyIter_list p.isList ?_
  refine ⟨s1.heap.objs.size, [s1.heap.objs.size], _, _, H1, rfl, I1.kept (t' := s1.toks) fun b o e => Heap.get?_push_of_some _ e, turn_listHL a _, ⟨_, Heap.get?_push_size _ rfl, rfl, rfl⟩, fun b hb => ?_, q⟩
  have e : b = s1.heap.objs.size := by simpa using hb
  subst e
  exact I1.fpOk (Nat.le_refl _) (I1.hok.fresh (Nat.le_refl _))
section
variable {X : Cx} {E : XK} {elt tg iter : Expr} {ifs : List Expr} {scope : Scope} {own : List (Str × Nat)} {pos pos' : Pos} {wi : TI} {g : TG} {tt : TT} {te : TE}
theorem lc_coreH {pins : List (Addr × Obj)} {s : Shared} {σ : L2.St} {H : Hp} {Q : VK} {use : Option (Value → Sem Unit)} {Qf : Value → Shared → Prop} (hst : X.stack = X.env :: X.outer) (hf : X.env.frame = some X.env.locals) (tk : L2N.Takes X (fun cls d _ H => E cls d H))
    (hot : L2H.HotC X) (hN : X.N.Nodup) (I : Inv X pins σ H s) (hi : PIHL X tg iter wi) (ok : BlkOk X.N X.env.scope scope own)
    (hg : ∀ (s : Shared) (H : Hp) (C : Addr) (cl : List (Str × Addr)) (fp : List Addr) (xe : Value → Shared → Prop), PG ((X.blk s H scope (compEnvC scope cl C X.env) fp).tr [] xe) tg g)
    (ht : ∀ (s : Shared) (H : Hp) (C : Addr) (cl : List (Str × Addr)) (fp : List Addr) (xe : Value → Shared → Prop), (∀ σ : L2.St, PassesAt (CXN X.prog X.w) ((X.blk s H scope (compEnvC scope cl C X.env) fp).tr [] xe) σ E) →
      PTs ((X.blk s H scope (compEnvC scope cl C X.env) fp).tr [] xe) ifs tt)
    (he : ∀ (s : Shared) (H : Hp) (C : Addr) (cl : List (Str × Addr)) (fp : List Addr) (xe : Value → Shared → Prop), (∀ σ : L2.St, PassesAt (CXN X.prog X.w) ((X.blk s H scope (compEnvC scope cl C X.env) fp).tr [] xe) σ E) →
      PE ((X.blk s H scope (compEnvC scope cl C X.env) fp).tr [] xe) elt te)
    (hs : ∀ x, foldedSetIterable iter X.env x = pure x) (h : tLc wi g tt te (own.map (·.2)) σ H Q)
    (hRR : ∀ D C s' m H', Inv X pins σ H' s' → Q (.ref D) H' → s'.heap.Ns C m → FpOk X pins H' C → compPost (model X.prog X.w) X.A X.xe use Qf (.ref D) C (.ok .next) s') :
    wpAny (model X.prog X.w) X.A (comprehension (.ListComp elt [⟨tg, iter, ifs, 0⟩] scope pos) scope X.env pos' (newList []) false (eval iter X.env) use) Qf X.xe s := by
  have hfree : ∀ y ∈ scope.names, y.2 = .free → ∃ c, X.env.cells.lookup y.1 = some c := fun y hy e => I.ok.has _ (ok.free y hy e)
  refine comp_run (use := use) rfl hs (closure_ok hfree) ok.kind (fun y hy e => by rw [ok.uniq y hy, e]) (thn (hi.run pins s σ H _ I h) fun xv s1 hx => thn hx fun itv s2 h2 => ?_)
  obtain ⟨it, fp, tn, J, H2, e, I2, T, st2, f2, q⟩ := h2
  subst e
  refine wpAny_newObj_type (newEnv_comp ?_) (by show 0 ≤ sizeLine; decide)
  generalize hD : s2.heap.objs.size = D
  obtain ⟨W, ⟨m0, w0⟩, turn⟩ := q D (I2.hok.fresh (Nat.le_of_eq hD))
  generalize hs3 : ({ s2 with heap := s2.heap.push { cls := .type "list", data := .seq ([] : List Value).toArray } } : Shared) = s3
  have h3 : s3.heap = s2.heap.push { cls := .type "list", data := .seq ([] : List Value).toArray } := by rw [← hs3]
  have k23 : ∀ b o, s2.heap.get? b = some o → s3.heap.get? b = some o := fun b o e => by rw [h3]; exact Heap.get?_push_of_some _ e
  have I3 : Inv X pins σ (upd H2 D (.lst [])) s3 := by
    rw [← hs3]
    refine I2.laid (t' := s2.toks) (fun b o e => Heap.get?_push_of_some _ e) (Nat.le_of_eq hD) ⟨Nat.zero_le _, [], 0, .nil, ?_⟩
    rw [← hD]
    exact Heap.get?_push_size _ rfl
  have f3 : ∀ b ∈ fp, FpOk X pins (upd H2 D (.lst [])) b ∧ b < s3.heap.objs.size := fun b hb => by
    obtain ⟨o, e, _⟩ := T.obj _ _ st2 b hb
    have lt := Heap.lt_size e
    refine ⟨⟨?_, (f2 b hb).2⟩, Heap.lt_size (k23 b o e)⟩
    rw [upd_ne (by rw [← hD]; exact Nat.ne_of_lt lt)]
    exact (f2 b hb).1
  generalize hce : compEnvC scope (cellsFrom (s3.heap.objs.size + 1) scope.names (cloFrom X.env.cells scope.names [])) s3.heap.objs.size X.env = ce
  have cL : ce.locals = s3.heap.objs.size := by subst hce; rfl
  have cf : ce.frame = X.env.frame := by subst hce; rfl
  have I4 := block_start I3 ok hN f3
  rw [hce] at I4
  show codeAny _ _ (.compStart (.ListComp elt [⟨tg, iter, ifs, 0⟩] scope pos) 0 (.ref it) (.ref D) (compEnvC scope (cellsFrom (s3.heap.objs.size + 1) scope.names (cloFrom X.env.cells scope.names [])) s3.heap.objs.size X.env))
    (postX (model X.prog X.w) X.A X.xe use Qf (.ref D) (compEnvC scope (cellsFrom (s3.heap.objs.size + 1) scope.names (cloFrom X.env.cells scope.names [])) s3.heap.objs.size X.env)) { s3 with heap := pushCells (s3.heap.push { cls := .type "dict", data := .dict #[] }) scope.names }
  rw [hce]
  generalize hxe : notedBy (model X.prog X.w) X.A ce (fun e s' => postX (model X.prog X.w) X.A X.xe use Qf (.ref D) ce (.error e) s') = xe
  generalize hH3 : upd H2 D (.lst []) = H3 at I3 I4 w0 f3
  have pass := blk_out (scope := scope) (ce := ce) (fp := fp) (use := use) (Qf := Qf) (acc := .ref D) hst hf cf cL I3 (fun b hb => (f3 b hb).1) tk hxe.symm
  have pg := hg s3 H3 s3.heap.objs.size (cellsFrom (s3.heap.objs.size + 1) scope.names (cloFrom X.env.cells scope.names [])) fp xe
  have pt := ht s3 H3 s3.heap.objs.size (cellsFrom (s3.heap.objs.size + 1) scope.names (cloFrom X.env.cells scope.names [])) fp xe
  have pe := he s3 H3 s3.heap.objs.size (cellsFrom (s3.heap.objs.size + 1) scope.names (cloFrom X.env.cells scope.names [])) fp xe
  rw [hce] at pg pt pe
  have pe := pe pass
  have pt := pt pass
  have I5 : Inv ((X.blk s3 H3 scope ce fp).tr [] xe) [] (wipe σ (own.map (·.2))) H3 { s3 with heap := pushCells (s3.heap.push { cls := .type "dict", data := .dict #[] }) scope.names } := I4.toTry xe
  have st5 : tn 0 (pushCells (s3.heap.push { cls := .type "dict", data := .dict #[] }) scope.names) := T.keep _ _ _ st2 fun b _ o e => pushCells_keeps _ _ _ _ (Heap.get?_push_of_some _ (k23 b o e))
  have fps : ∀ {σ' : L2.St} {H' : Hp} {s' : Shared}, Inv ((X.blk s3 H3 scope ce fp).tr [] xe) [] σ' H' s' → (∀ b ∈ fp, H' b = none) → ∀ b ∈ fp, FpOk ((X.blk s3 H3 scope ce fp).tr [] xe) [] H' b := fun {σ' H' s'} I' hn b hb =>
    ⟨hn b hb, (I'.ok.exf b hb).1, I'.ok.exfs b hb, .inl hb, (I'.ok.exf b hb).2, fun p hp => absurd (show p ∈ ([] : List (Addr × Obj)) ++ [] from hp) (by simp)⟩
  have hotB : ∀ {σ' : L2.St} {H' : Hp} {s' : Shared}, Inv ((X.blk s3 H3 scope ce fp).tr [] xe) [] σ' H' s' → ∃ x1, HotAt X.A x1 s'.heap ∧ ∀ b ∈ fp, x1 ≠ b := fun {σ' H' s'} I' => by
    obtain ⟨p, ⟨hh, v1, e1, c1⟩, hp⟩ := hot
    obtain ⟨g1, g2, g3, g4, _⟩ := I3.pin p (List.mem_append_left _ hp)
    refine ⟨p.1, ⟨hh, p.2, v1, I'.base.keep p.1 p.2 g1 g2 ?_ ?_, e1, c1⟩, fun b hb => (f3 b hb).1.2.2.2.2.2 p (List.mem_append_left _ hp)⟩
    · intro z
      rcases List.mem_cons.mp (I3.stkSub _ z) with z | z
      · exact g3 z
      · exact g4 z
    · intro z
      exact (f3 _ z).1.2.2.2.2.2 p (List.mem_append_left _ hp) rfl
  have loop : codeAny (model X.prog X.w) X.A (.compLoop (.ListComp elt [⟨tg, iter, ifs, 0⟩] scope pos) 0 (.ref it) (.ref D) ce) (postX (model X.prog X.w) X.A X.xe use Qf (.ref D) ce)
      { s3 with heap := pushCells (s3.heap.push { cls := .type "dict", data := .dict #[] }) scope.names } := by
    refine compLoop_any (fun n s' => ∃ i H', Turns X s3 H3 scope ce fp xe (wipe σ (own.map (·.2))) tn W n i H' s') ?_ m0 ⟨0, H3, I5, st5, fun b hb => (f3 b hb).1.1, w0⟩
    rw [hxe]
    rintro n s6 ⟨i, H6, t6⟩
    rcases turn i n H6 t6.has with ⟨stop, qq⟩ | ⟨go, Nx, hNx, step⟩
    · refine thn (T.done ((X.blk s3 H3 scope ce fp).tr [] xe) rfl rfl rfl i [] s6 _ H6 xe t6.inv (hotB t6.inv) (fps t6.inv t6.non) t6.at_ stop) fun r s7 ⟨hr, I7⟩ => ?_
      subst hr
      have back : Inv X pins σ H6 s7 := I3.call' (ch := fp) I7.os I7.base I7.hok I7.bare fun b hb => ⟨(f3 b hb).1.2.2.2.1, (f3 b hb).1.2.1, (f3 b hb).1.2.2.2.2.1, (f3 b hb).1.2.2.2.2.2⟩
      obtain ⟨m, hn, _⟩ := I7.loc
      exact hRR D ce.locals s7 m H6 back qq hn (I3.fpOk (by rw [cL]; exact Nat.le_refl _) I7.free)
    · refine thn (T.item ((X.blk s3 H3 scope ce fp).tr [] xe) rfl rfl rfl i [] s6 _ H6 xe t6.inv (fps t6.inv t6.non) t6.at_ go) fun r s7 ⟨u, hr, h7⟩ => ?_
      subst hr
      refine thn h7 fun _ s8 ⟨x, H8, I8, r8, y8, st8, n8⟩ => ?_
      have I8' := I8.pinned (fps I8 n8) (T.obj _ _ st8)
      refine thn (pg.run _ s8 _ H8 x u _ I8' r8 (step x H8 y8)) fun _ s9 ⟨σ9, H9, I9, hw, q9⟩ => ?_
      refine thn (pt.run _ s9 σ9 H9 _ I9 q9) fun b s10 ⟨H10, I10, q10⟩ => ?_
      have next : ∀ {s' : Shared} {H' : Hp}, Inv ((X.blk s3 H3 scope ce fp).tr [] xe) ([] ++ pinsAt fp s8.heap) σ9 H' s' → Nx H' → ∃ m, m < n ∧ ∃ i H', Turns X s3 H3 scope ce fp xe (wipe σ (own.map (·.2))) tn W m i H' s' := fun {s' H'} I' nx => by
        obtain ⟨m', hm, w'⟩ := hNx H' nx
        have kept : ∀ b ∈ fp, ∀ o, s8.heap.get? b = some o → s'.heap.get? b = some o ∧ H' b = none := fun b hb o e =>
          have z := I'.pin (b, o) (List.mem_append_right _ (List.mem_append_right _ (mem_pinsAt hb e)))
          ⟨z.1, z.2.1⟩
        refine ⟨m', hm, i + 1, H', (I'.unpinned (pins := [])).weak (by rw [← hw, wipe_length]) (fun j v e => (wipe_some (by rw [hw]; exact e)).1), T.keep _ _ _ st8 fun b hb o e => (kept b hb o e).1, fun b hb => ?_, w'⟩
        obtain ⟨o, e, _⟩ := T.obj _ _ st8 b hb
        exact (kept b hb o e).2
      cases b with
      | false =>
        simp only [Bool.false_eq_true, if_false] at q10 ⊢
        exact next I10 q10
      | true =>
        simp only [if_true] at q10 ⊢
        refine thn (pe.run _ s10 σ9 H10 _ I10 q10) fun z s11 ⟨yv, H11, I11, r11, acc, hD11, hz, nx⟩ => ?_
        exact app_ok (X := (X.blk s3 H3 scope ce fp).tr [] xe) I11 hD11 hz r11 fun s12 I12 => next I12 nx
  exact codeAny_compStart_list loop (T.self X.A 0 _ _ _ st5 loop)
theorem pe_lcH (hst : X.stack = X.env :: X.outer) (hf : X.env.frame = some X.env.locals) (tk : L2N.Takes X (fun cls d _ H => E cls d H)) (hot : L2H.HotC X) (hN : X.N.Nodup) (hi : PIHL X tg iter wi) (ok : BlkOk X.N X.env.scope scope own)
    (hg : ∀ (s : Shared) (H : Hp) (C : Addr) (cl : List (Str × Addr)) (fp : List Addr) (xe : Value → Shared → Prop), PG ((X.blk s H scope (compEnvC scope cl C X.env) fp).tr [] xe) tg g)
    (ht : ∀ (s : Shared) (H : Hp) (C : Addr) (cl : List (Str × Addr)) (fp : List Addr) (xe : Value → Shared → Prop), (∀ σ : L2.St, PassesAt (CXN X.prog X.w) ((X.blk s H scope (compEnvC scope cl C X.env) fp).tr [] xe) σ E) →
      PTs ((X.blk s H scope (compEnvC scope cl C X.env) fp).tr [] xe) ifs tt)
    (he : ∀ (s : Shared) (H : Hp) (C : Addr) (cl : List (Str × Addr)) (fp : List Addr) (xe : Value → Shared → Prop), (∀ σ : L2.St, PassesAt (CXN X.prog X.w) ((X.blk s H scope (compEnvC scope cl C X.env) fp).tr [] xe) σ E) →
      PE ((X.blk s H scope (compEnvC scope cl C X.env) fp).tr [] xe) elt te)
    (hs : ∀ x, foldedSetIterable iter X.env x = pure x := by intro _; rfl) : PE X (.ListComp elt [⟨tg, iter, ifs, 0⟩] scope pos) (tLc wi g tt te (own.map (·.2))) := by
  refine ⟨fun pins s σ H Q I h => ?_⟩
  rw [eval_ListComp]
  refine lc_coreH hst hf tk hot hN I hi ok hg ht he hs h fun D C s' m H' J q hn f => ⟨m, hn, fun h' sb => ?_⟩
  exact ⟨.ref D, H', J.turned (t' := s'.toks) (fun b o hb e => (sb.2 b hb).trans e) f.1 f.2.1 f.2.2.2.1 f.2.2.2.2.1 f.2.2.2.2.2, rfl, q⟩
end
end RJ
namespace RJ
open PySem PySem.Spec PyProof.Rows L2 HotX
/-! ### defs that are given the error that is handled -/
structure FnE (P : Program) (w : World) (K : PySem.W.Frag) (mg : Str → Option Value) (base : Heap) (k : Nat) (f : Addr) (fd : FuncData) (ps : List Str) (p : Addr × Obj) (sp : Sp) : Prop where
  len : ∀ vs H Q E, sp vs H Q E → vs.length = ps.length
  run : ∀ (A : Around) (outer : List Env) (s : Shared) (H : Hp) (args : Args) (us : List Value) (vs : List V) (Q : VK) (E : XK), L2H.RoomH k A → L2H.Hot1 A p → L2H.PinOk outer H s p → Env0 P w K mg base A outer s H → BindsTo s fd args (ps.zip us) → Vals vs us → sp vs H Q E →
    codeAny (model P w) A (.call (.ref f) args) (CR C8.CX0 outer P w H s Q E) s
structure CalE (P : Program) (w : World) (K : PySem.W.Frag) (mg : Str → Option Value) (base : Heap) (k : Nat) (x : Str) (sp : Addr → Value → Option Addr → Sp) : Prop where
  ex : ∃ (f : Addr) (fd : FuncData) (ps : List Str), mg x = some (.ref f) ∧ PySem.W.keepIn K (.ref f) = true ∧ Binds K fd ps [] ∧ ∀ (p : Addr × Obj) (cls : Value) (d : Option Addr), Zc cls d p.2 → (∃ vs, p.2.data = .fields vs) → FnE P w K mg base k f fd ps p (sp p.1 cls d)
/-- isinstance of an error that is pinned -/
theorem call_isP {X : Cx} {p : Addr × Obj} {cls : Value} {d : Option Addr} (hp : p ∈ X.pn) (hz : Zc cls d p.2) (hf : ∃ vs, p.2.data = .fields vs) : CallR X (.builtin "isinstance") (rIsD X.K p.1 cls d) := by
  intro pins s σ H xs us Q I r h
  obtain ⟨D, dd, fs, c, cv, b, rfl, rfl, T, ed, rfl, hcv, e, q⟩ := h
  obtain ⟨u1, u2, rfl, r1, r2⟩ := vals2 r
  cases (show u1 = Value.ref p.1 from r1)
  have ec := hcv _ r2
  subst ec
  obtain ⟨hget, _⟩ := I.pin p (List.mem_append.mpr (.inl hp))
  obtain ⟨vs, hv⟩ := hf
  have hx : ObjOk X.prog X.w H s.heap dd (.xd fs) := I.hok dd _ ed
  obtain ⟨mA, hns, _⟩ := hx
  obtain ⟨od, ho, _⟩ := lookIn_ns hns
  have J : PySem.W.InstAt s.heap p.1 p.2 D (some od) := ⟨hget, hz.1, by unfold PySem.W.notCls; rw [hv] <;> rfl, by rw [hz.2]; exact ho⟩
  exact PySem.W.kia_one (PySem.W.kitx_exc T.cl T.hg T.hk T.hs T.ha T.hn T.ht T.hm) I.kIn J e (fun z => nomatch z) fun tk => ⟨.bl b, H, I.kept (t' := tk) fun _ _ z => z, rfl, q⟩
theorem call_isPT {X : Cx} {p : Addr × Obj} {cls : Value} {d : Option Addr} (hp : p ∈ X.pn) (hz : Zc cls d p.2) (hf : ∃ vs, p.2.data = .fields vs) : CallR X (.builtin "isinstance") (rIsDT X.K p.1 cls d) := by
  intro pins s σ H xs us Q I r h
  obtain ⟨D, dd, tp, fs, cs, ws, b, rfl, rfl, T, ed, rfl, htp, hws, e, q⟩ := h
  obtain ⟨u1, u2, rfl, r1, r2⟩ := vals2 r
  cases (show u1 = Value.ref p.1 from r1)
  cases (show u2 = Value.ref tp from r2)
  obtain ⟨hget, _⟩ := I.pin p (List.mem_append.mpr (.inl hp))
  obtain ⟨vs, hv⟩ := hf
  have hx : ObjOk X.prog X.w H s.heap dd (.xd fs) := I.hok dd _ ed
  obtain ⟨mA, hns, _⟩ := hx
  obtain ⟨od, ho, _⟩ := lookIn_ns hns
  have J : PySem.W.InstAt s.heap p.1 p.2 D (some od) := ⟨hget, hz.1, by unfold PySem.W.notCls; rw [hv] <;> rfl, by rw [hz.2]; exact ho⟩
  have hT : ObjOk X.prog X.w H s.heap tp (.tup cs) := I.hok tp _ htp
  obtain ⟨_, its, rv, o, g1, g2, n, g3⟩ := hT
  have e3 := hws its rv
  subst e3
  obtain ⟨oc, od2, dt, sl⟩ := o
  simp only at g2 g3
  subst g2 g3
  exact PySem.W.kia_tup (PySem.W.kitx_exc T.cl T.hg T.hk T.hs T.ha T.hn T.ht T.hm) I.kIn J g1 e (fun z => nomatch z) fun tk => ⟨.bl b, H, I.kept (t' := tk) fun _ _ z => z, rfl, q⟩
section
variable {P : Program} {w : World} {K : PySem.W.Frag} {mg : Str → Option Value} {base : Heap}
theorem fn_ofE {k : Nat} {f : Addr} {name qual : Str} {params : Arguments} {body : List Stmt} {scope : Scope} {dV kV doc pm cdv ct oc : Value} {an od : Option Addr} {p : Addr × Obj}
    {osl : Array (Option Value)} {N ps : List Str} {sp : Sp} (lk : K.lookup f = some ⟨oc, od, .func (PySem.W.fnOf name qual params body scope dV kV doc pm an cdv ct), osl⟩) (hcd : PySem.W.codeIn K cdv qual = true) (S : FnScope N ps scope)
    (len : ∀ vs H Q E, sp vs H Q E → vs.length = ps.length)
    (hbody : ∀ (A : Around) (outer : List Env) (s : Shared) (H : Hp) (vs : List V) (Q : VK) (E : XK), L2H.Hot1 A p → L2H.RoomH k (A.deeper (envOfC qual scope s.heap.objs.size f cdv)) → sp vs H Q E →
      ∃ t, PSs (L2H.cxH C8.CX0 P w K mg base N qual scope f cdv A outer s H E p) body t ∧ t { nx := fun _ H' => Q .non H', rt := Q } (L2.start N vs) H) :
    FnE P w K mg base (k + 1) f (PySem.W.fnOf name qual params body scope dV kV doc pm an cdv ct) ps p sp := by
  refine ⟨len, fun A outer s H args us vs Q E hr hot hpin e0 hb r hsp => ?_⟩
  have hl := len _ _ _ _ hsp
  have KX : K.In s.heap := e0.mod.kin.keeps fun b o e => (e0.bs b o e).1
  have lim : s.heap.NoLimit := e0.mod.nolimit.keeps fun b o e => (e0.bs b o e).1
  have hkind : ∀ y ∈ ps.zip us, scope.names.lookup y.1 = some .local ∨ (scope.names.lookup y.1 = some .cell ∧ ((cellsFrom (s.heap.objs.size + 1) scope.names []).lookup y.1).isSome = true) := fun ⟨n, v⟩ hy => by
    rcases S.par n (List.of_mem_zip hy).1 with q | q
    · exact .inl q
    · exact .inr ⟨q, PySem.W.cellsFrom_some _ _ _ (.inl q)⟩
  refine codeAny_call_function hr.depth (KX _ _ lk) rfl S.co S.gen rfl (PySem.W.codeRec_of KX hcd) (hb _ _ _ _ ?_)
  refine wpAny_newFunctionEnv_cells S.kind hkind fun env he s1 x => ?_
  subst he
  refine ⟨lim.keeps x.toInCall.keep, codeAny_func ?_⟩
  obtain ⟨t, ht, hq⟩ := hbody A outer s H vs Q E hot (hr.deeper _) hsp
  have I : Inv (L2H.cxH C8.CX0 P w K mg base N qual scope f cdv A outer s H E p) [] (L2.start N vs) H s1 := L2H.inv_startH S hpin e0 hl r x
  refine wpAny_mono (ht.run [] s1 (L2.start N vs) H _ I hq) (fun fl s' hs => ?_) fun e s' hs => hs
  have fin : ∀ {σ' : L2.St} {H' : Hp} {v : V} {u : Value}, Inv (L2H.cxH C8.CX0 P w K mg base N qual scope f cdv A outer s H E p) [] σ' H' s' → RelV v u → Q v H' → CE outer P w H s Q u s' :=
    fun {σ' H' v u} J rv q => ⟨v, H', J.os, J.bare, J.base, J.hok, rv, q⟩
  cases fl with
  | ret u =>
    obtain ⟨v, σ', H', J, rv, q⟩ := hs
    exact fin J rv q
  | next =>
    obtain ⟨σ', H', J, q⟩ := hs
    exact fin (v := V.non) (u := Value.none) J rfl q
  | brk =>
    obtain ⟨_, _, _, q⟩ := hs
    exact False.elim q
  | cont =>
    obtain ⟨_, _, _, q⟩ := hs
    exact False.elim q

theorem fnE0 {x qual : Str} {st : Stmt} {f : Addr} {fd : FuncData} {N ps : List Str} {k : Nat} {p : Addr × Obj} {sp : Sp} (F : C8.Fun K x qual st f fd) (S : FnScope N ps (C8.fnScope st)) (len : ∀ vs H Q E, sp vs H Q E → vs.length = ps.length)
    (hb : ∀ (cdv : Value) (A : Around) (outer : List Env) (s : Shared) (H : Hp) (vs : List V) (Q : VK) (E : XK), L2H.RoomH k (A.deeper (envOfC qual (C8.fnScope st) s.heap.objs.size f cdv)) → sp vs H Q E →
      L2H.HotC (L2H.cxH C8.CX0 P w K mg base N qual (C8.fnScope st) f cdv A outer s H E p).nox → p ∈ (L2H.cxH C8.CX0 P w K mg base N qual (C8.fnScope st) f cdv A outer s H E p).nox.pn →
      ∃ t, PSs (L2H.cxH C8.CX0 P w K mg base N qual (C8.fnScope st) f cdv A outer s H E p).nox (C8.fnBody st) t ∧ t { nx := fun _ H' => Q .non H', rt := Q } (start N vs) H) : FnE P w K mg base (k + 1) f fd ps p sp := by
  obtain ⟨oc, od, dV, kV, doc, pm, an, cdv, ct, osl, rfl, lk, hcd⟩ := F.ex
  refine fn_ofE lk hcd S len fun A outer s H vs Q E hot hr hsp => ?_
  obtain ⟨t, h, q⟩ := hb cdv A outer s H vs Q E hr hsp ⟨p, hot, List.mem_singleton.mpr rfl⟩ (List.mem_singleton.mpr rfl)
  exact ⟨t, h.nox, q⟩
end
section
variable {X : Cx} {k j : Nat} {x : Str} {sp : Addr → Value → Option Addr → Sp} {q pos : Pos} {e : Expr} {es : List Expr} {t : TA} {a : Addr} {oe : Obj} {cls : Value} {d : Option Addr} {pn : List (Addr × Obj)}
/-- such a def called in the except suite -/
theorem pe_ce (c : CalE X.prog X.w X.K X.mg X.base k x sp) (hr : L2H.RoomH j (X.suite a ((a, oe) :: pn)).A) (hk : k ≤ j) (hz : L2N.Zn cls d oe) (hf : ∃ vs, oe.data = .fields vs) (hg : Gl (X.suite a ((a, oe) :: pn)) x) (ha : PA (X.suite a ((a, oe) :: pn)) (e :: es) t)
    (hdb : (x == ("__debug__" : Str)) = false := by decide) (he : starEach (e :: es) X.env = (false, eval e X.env) :: starEach es X.env := by rfl) (hpl : (backTo pos (starEach es X.env)).any (·.1) = false := by rfl) :
    PE (X.suite a ((a, oe) :: pn)) (.Call (.Name x q) (e :: es) [] pos) (tCallS (sp a cls d) (fun _ => C8.E0) t) := by
  obtain ⟨f, fd, ps, hm, kp, hb, F⟩ := c.ex
  have F := F (a, oe) cls d hz.zc hf
  obtain ⟨vs0, hv⟩ := hf
  refine ⟨fun pins s σ H Q I h => ?_⟩
  refine wpAny_Call_Name_kw (ld_glob I hg hm ?_ hdb)
  refine PySem.W.callWith_K (h₀ := X.base) I.ok.mod.kin kp (thn (ha.run pos pins s σ H _ I h) fun us s1 ⟨vs, H1, I1, r, h⟩ => ⟨I1.kIn, ?_⟩) he hpl
  have hl : us.length = ps.length := by rw [← r.length]; exact F.len _ _ _ _ h
  have b := hb s1 us I1.kIn (by rw [List.append_nil]; exact hl)
  rw [List.append_nil] at b
  have P1 := I1.pin (a, oe) (List.mem_append_left _ List.mem_cons_self)
  have hpin : L2H.PinOk X.stack H1 s1 (a, oe) := ⟨P1.1, P1.2.1, fun hm => (List.mem_cons.mp (I1.stkSub a hm)).elim P1.2.2.1 P1.2.2.2.1, P1.2.2.2.2⟩
  refine wpAny_call (codeAny_mono (F.run (X.suite a ((a, oe) :: pn)).A X.stack s1 H1 ⟨us, []⟩ us vs Q C8.E0 (hr.mono hk) ⟨rfl, vs0, hv, hz.2.2 vs0 hv⟩ hpin I1.env0 b r h) fun r s' hq => ?_)
  cases r with
  | error e => exact hq.elim
  | ok fl =>
    cases fl with
    | ret u => exact I1.after hq
    | next => exact False.elim hq
    | brk => exact False.elim hq
    | cont => exact False.elim hq
end
end RJ
end

section
set_option maxRecDepth 100000
set_option maxHeartbeats 4000000
namespace RJ
open PySem PySem.Spec PyProof.Rows L2
/-! ### a text turned about -/
def tRevS (te : TE) : TE := fun σ H Q => te σ H fun x H1 => ∃ z, x = .str z ∧ z.length ≤ sizeLine ∧ Q (.str ⟨z.cps.toList.reverse.toArray⟩) H1
section
variable {X : Cx}
theorem pe_revS {e : Expr} {te : TE} {k : Nat} {p1 p2 p3 pos : Pos} (he : PE X e te) : PE X (.Subscript e (.Slice none none (some (.UnaryOp .USub (.Constant (.int 1) k p1) p2)) p3) pos) (tRevS te) := by
  refine ⟨fun pins s σ H Q I h => ?_⟩
  refine Subscript_ (thn (he.run pins s σ H _ I h) fun v s1 ⟨x, H1, I1, r1, q1⟩ => ?_)
  obtain ⟨z, ex, hz, q⟩ := q1
  subst ex
  obtain ⟨t, rfl⟩ := r1
  have hst : PO X (some (.UnaryOp .USub (.Constant (.int 1) k p1) p2)) (tPart (tUn (rU fun i => .int (-i)) (tC (.int 1)))) := po_some (pe_un un_neg pe_int)
  refine wpAny_Slice (thn (po_none.run pins s1 σ H1 (fun o H2 => o = none ∧ H2 = H1) I1 ⟨rfl, rfl⟩) fun vl s2 ⟨l, H2, I2, pl, el, e2⟩ => ?_)
  subst el e2
  refine thn (po_none.run pins s2 σ H2 (fun o H3 => o = none ∧ H3 = H2) I2 ⟨rfl, rfl⟩) fun vu s3 ⟨u, H3, I3, pu, eu, e3⟩ => ?_
  subst eu e3
  refine thn (hst.run pins s3 σ H3 (fun o H4 => o = some (-1) ∧ H4 = H3) I3 ⟨1, rfl, -1, rfl, rfl, rfl⟩) fun vs s4 ⟨o, H4, I4, ps, eo, e4⟩ => ?_
  subst eo e4
  have I5 : Inv X pins σ H4 { s4 with heap := s4.heap.push { cls := .type "slice", data := .fields #[vl, vu, vs] } } := I4.kept (t' := s4.toks) fun b ob q => Heap.get?_push_of_some _ q
  cases pl
  cases pu
  obtain ⟨st, rfl, hst1⟩ := IsPart.raw ps
  cases st with
  | none => cases hst1
  | some st =>
  obtain ⟨si, stk⟩ := st
  cases hst1
  show wpAny (model X.prog X.w) X.A (subscriptTail e (.Slice none none (some (.UnaryOp .USub (.Constant (.int 1) k p1) p2)) p3) (.str z t) (.ref s4.heap.objs.size)) (EP X pins σ Q) X.xe { s4 with heap := s4.heap.push { cls := .type "slice", data := .fields #[.none, .none, .int (-1) stk] } }
  refine tail_any (ops := [.ref s4.heap.objs.size, .str z t]) (typeIs_str _ _ _) F.slot_str_getitem.lookup ?_ (by with_unfolding_all rfl)
  refine wpAny_getItem_str_slice (l := none) (u := none) (st := some (-1, stk)) ⟨_, Heap.get?_push_size _ rfl, rfl, rfl⟩ rfl ?_
  have e : (Builtin.Str.strSliceIndices none none (-1) z.length).filterMap (z.cps[·]?) = z.cps.toList.reverse := by
    show (sliceRange ((z.length : Int) - 1) (-1) (-1)).filterMap (z.cps[·]?) = _
    rw [PySem.W.krv_sliceRange, PySem.W.krv_range, List.filterMap_reverse]
    exact congrArg List.reverse (PySem.W.krv_all z.cps)
  show Made.post (if (((-1 : Int) == 1) && (Builtin.Str.strSliceIndices none none (-1) z.length).length == z.length) = true then Made.val (.str z t)
    else Made.str ⟨((Builtin.Str.strSliceIndices none none (-1) z.length).filterMap (z.cps[·]?)).toArray⟩) (EP X pins σ Q) _
  rw [if_neg (by simp), e]
  refine ⟨?_, .str _, H4, I5.tok _, ⟨_, rfl⟩, q⟩
  show (z.cps.toList.reverse.toArray).size ≤ sizeLine
  rw [List.size_toArray, List.length_reverse]
  exact hz
end
end RJ
end

section
set_option maxRecDepth 100000
namespace RJ
open PySem PySem.Spec PyProof.Rows L2
set_option maxRecDepth 8000 in
theorem extend_tuple (l : Addr) (items : Array Value) (n : Nat) (b : Addr) (o : Obj) (items2 : Array Value) (n2 : Nat) (ho1 : o.cls = .type "tuple") (ho2 : o.data = .seq items2 n2) (hs0 : ¬(!items.isEmpty && Builtin.List.listTooLong (items.size + items2.size)) = true) (hs1 : items.size ≤ sizeLine) (hs2 : items.size + items2.size ≤ sizeLine + 1) :
    Meets (Builtin.«list.extend» ⟨[.ref l, .ref b], []⟩) (fun _ R s => s.heap.get? l = some { cls := .type "list", dict := none, data := .seq items n, slots := #[] } ∧ s.heap.get? b = some o ∧ R (.ok (.ret Value.none)) { s with heap := s.heap.update l (Obj.mapSeq fun x => x ++ items2), toks := s.toks }) :=
  .of_wp fun prog w A R s h => by
    obtain ⟨hp, g, d, tk, os⟩ := s; obtain ⟨hl, hb, h⟩ := h; obtain ⟨c, dd, da, sl⟩ := o; dsimp only at ho1 ho2; subst ho1 ho2; have f1 := PySem.AutoSeq1.idx_int; have f2 := PySem.AutoSeq1.sub_tuple_tuple; have f3 := PySem.AutoSeq1.sub_list_list; have f4 := PySem.AutoSeq1.sub_tuple_list; have f5 := PySem.AutoSeq1.sub_list_tuple;
    have hz' : (items ++ items2).size ≤ sizeLine + 1 := by rw [Array.size_append]; exact hs2
    wp_walk using (wpAny_updateSeq hl rfl (hz := hs1) (_hz' := hz')), wpAny_loadPart' hl, wpAny_loadPart' hb; exact ⟨_, rfl, h⟩
def rExtendA (K : PySem.W.Frag) : V → List V → Hp → VK → Prop := fun x vs H Q => ∃ l b xs zs, x = .ref l ∧ vs = [.ref b] ∧ H l = some (.lst xs) ∧ SqT K H b zs ∧ xs.length + zs.length ≤ sizeLine ∧ Q .non (upd H l (.lst (xs ++ zs)))
section
variable {X : Cx}
/-- l.extend(a tuple) -/
theorem mt_extendT : MtM X "list.extend" (rExtendA X.K) := by
  intro pins s σ H x vs v us Q I rx rv h
  obtain ⟨l, b, xs, zs, rfl, rfl, hH, hB, hz, q⟩ := h
  cases rx
  obtain ⟨u, rfl, ru⟩ := rv.one
  cases ru
  obtain ⟨z, its, n, r, hl, e⟩ := I.lstM hH
  obtain ⟨its2, r2, ⟨o, e2, ho, n2, hd⟩, z2⟩ := I.tuple hB
  have hl2 := r2.length
  have hsz : its.toArray.size + its2.toArray.size ≤ sizeLine := by rw [List.size_toArray, List.size_toArray]; omega
  have hlong : ¬ (!its.toArray.isEmpty && Builtin.List.listTooLong (its.toArray.size + its2.toArray.size)) = true := by
    rw [notLongL hsz, Bool.and_false]
    exact Bool.false_ne_true
  refine call_meets F.slot_list_extend ⟨_, e, rfl⟩ F.entry_list_extend (F.args_list_extend_2 _ _)
    (extend_tuple l its.toArray n b o its2.toArray n2 ho hd hlong (by rw [List.size_toArray]; omega) (by omega)) ⟨e, e2, ?_⟩
  refine ⟨.non, _, I.lset (its' := its ++ its2) hH e (by simp) (r.append r2) ?_, rfl, q⟩
  rw [List.length_append]
  omega
end
open PySem.W (minD AlikeAll alike alikeAll dataLt)
/-- min(l, default=x) of alike data -/
def rMinDV (K : PySem.W.Frag) : List V → List V → Hp → VK → Prop := fun vs zs H Q => ∃ (a : Addr) (xs : List V) (ds : List PyData) (z : V), vs = [V.ref a] ∧ zs = [z] ∧ H a = some (.lst xs) ∧ DpAll K H xs ds ∧ AlikeAll ds ∧ PyData.depthAll ds ≤ 60 ∧
  (ds = [] → Q z H) ∧ ∀ (d : PyData) (ds' : List PyData) (i : Nat) (x : V), ds = d :: ds' → xs[i]? = some x → ds[i]? = some (minD d ds') → Q x H
theorem cr_minDV {X : Cx} (hc : X.calm = true) (hu : X.A.units + 64 < cLine) : CallRK X (.builtin "min") [Str.ofString "default"] (rMinDV X.K) := by
  intro pins s σ H xs0 zs us ws Q I r rz h
  obtain ⟨a, xs, ds, zv, rfl, rfl, ha, hd, hal, hdep, q0, q1⟩ := h
  obtain ⟨its, rv, hl, _⟩ := I.list (SqL.of ha)
  rw [Vals.ref1 r]
  obtain ⟨u, rfl, ru⟩ := vals1 rz
  obtain ⟨as, hr⟩ := Dp.readsAll I ds xs its hd rv
  show wpAny _ _ (call (.builtin "min") [.ref a] [(Str.ofString "default", u)]) _ _ s
  refine PySem.W.min_list_default (I.ok.hd hc) hl.isList hr hal (by omega) (fun e h' tk hk => ⟨zv, H, I.kept hk, ru, q0 e⟩) fun y ys i v h' tk bs e hv hrd hk => ?_
  have hv' : its[i]? = some v := by simpa using hv
  have hl2 := rv.length
  have hi : i < xs.length := by
    have := (List.getElem?_eq_some_iff.mp hv').1
    omega
  obtain ⟨u2, hu2, ru2⟩ := rv.get (List.getElem?_eq_getElem hi)
  rw [hv'] at hu2
  cases hu2
  obtain ⟨d2, bs2, hd2, hr2⟩ := readsAll_ix hr hv'
  have heq : d2 = minD y ys := ((PyProof.Rows.reads_det (h := s.heap) (h' := h') (fun b o e _ => hk b o e) hr2 hrd).1).symm
  exact ⟨xs[i], H, I.kept hk, ru2, q1 y ys i _ e (List.getElem?_eq_getElem hi) (by rw [hd2, heq])⟩
end RJ
namespace RJ
open PySem PySem.Spec PyProof.Rows L2
section
variable {X : Cx}
/-- name = {..} on one line, the name a local -/
theorem ps_setDc {i : Nat} {y : Str} {py : Pos} {kx vx tg iter : Expr} {ifs : List Expr} {scope : Scope} {own : List (Str × Nat)} {pos spos : Pos} {wi : TI} {g : TG} {tt : TT} {tk tv : TE} (hc : X.calm = true) (hN : X.N.Nodup) (hy : X.N[i]? = some y) (hyl : X.env.scope.names.lookup y = some .local)
    (hsw : swapsWith (.DictComp kx vx [⟨tg, iter, ifs, 0⟩] scope pos) (some (.Name y py)) spos.line X.env = pure true) (hi : PI X tg iter wi) (ok : BlkOk X.N X.env.scope scope own)
    (hg : ∀ (s : Shared) (H : Hp) (C : Addr) (cl : List (Str × Addr)) (fp : List Addr), PG (X.blk s H scope (compEnvC scope cl C X.env) fp) tg g) (ht : ∀ (s : Shared) (H : Hp) (C : Addr) (cl : List (Str × Addr)) (fp : List Addr), PTs (X.blk s H scope (compEnvC scope cl C X.env) fp) ifs tt)
    (hk : ∀ (s : Shared) (H : Hp) (C : Addr) (cl : List (Str × Addr)) (fp : List Addr), PE (X.blk s H scope (compEnvC scope cl C X.env) fp) kx tk)
    (he : ∀ (s : Shared) (H : Hp) (C : Addr) (cl : List (Str × Addr)) (fp : List Addr), PE (X.blk s H scope (compEnvC scope cl C X.env) fp) vx tv) (hs : ∀ x, foldedSetIterable iter X.env x = pure x := by intro _; rfl) :
    PS X (.Assign [.Name y py] (.DictComp kx vx [⟨tg, iter, ifs, 0⟩] scope pos) spos) (tAsg (tDc wi g tt tk tv (own.map (·.2))) (gName i)) := by
  refine ⟨fun pins s σ H D I h => ?_⟩
  rw [exec_Assign_Name_used _ _ _ _ hsw]
  refine wpAny_bind (wpAny_standAt (wpAny_bind ?_))
  show wpAny _ X.A (do let _ ← comprehension (.DictComp kx vx [⟨tg, iter, ifs, 0⟩] scope pos) scope X.env (firstIterPos [⟨tg, iter, ifs, 0⟩] pos) newDict false (eval iter X.env) (some (assign (.Name y py) X.env))) _ _ s
  have h : tDc wi g tt tk tv (own.map (·.2)) σ H (fun x H1 => gName i x σ H1 D.nx) := h
  refine wpAny_bind (thn (dc_core (Qf := fun _ s' => SP X pins D .next s') hc hN I hi ok hg ht hk he hs h fun L C s' m H' I' q hn f => ?_) fun _ s' hq => wpAny_pure (wpAny_pure hq))
  show wpAny _ _ (assign (.Name y py) X.env (.ref L)) _ _ _
  refine wpAny_assign_Name (store_ok2 (v := V.ref L) I' hN hy (.inl hyl) rfl (fun s2 I2 ⟨a, sb, ha⟩ => ?_) (.inr hyl))
  obtain ⟨f0, f1, f2, f3, f4, f5⟩ := f
  have haC : C ≠ a := by
    rcases ha with z | z
    · rw [z]; exact f1
    · exact fun e => f4 y a z e.symm
  refine ⟨m, hn.sameBut sb haC, fun h3 sb3 => ?_⟩
  exact ⟨_, H', I2.turned (t' := s2.toks) (fun b o hb e => (sb3.2 b hb).trans e) f0 f1 f3 f4 f5, q⟩
theorem sw_trueD {kx vx : Expr} {gs : List Comprehension} {scope : Scope} {pos py : Pos} {y : Str} {l : Nat} {env : Env} (hk : env.scope.kind = .function) (hy : env.scope.names.lookup y = some .local) (hl : (py.line == pos.line) = true)
    (ha : (scope.names.any fun (n, k) => n == y && (k == .local || k == .cell)) = false) : swapsWith (.DictComp kx vx gs scope pos) (some (.Name y py)) l env = pure true := by
  have ky : env.kindOf y = some .local := hy
  have hb : env.blockKind = .function := by unfold Env.blockKind; rw [hk]; rfl
  unfold swapsWith
  simp only [hb, ky, ha, Expr.pos, hl]
  rfl
end
end RJ
end

section
set_option maxRecDepth 100000
set_option maxHeartbeats 2000000
namespace RJ
open PySem PySem.Spec PyProof.Rows L2
/-! ### a property that is read where an error is handled -/
structure PrpH (P : Program) (w : World) (K : PySem.W.Frag) (mg : Str → Option Value) (base : Heap) (k : Nat) (C : Addr) (m : Str) (sp : Sp) : Prop where
  ex : ∃ (p g : Addr) (fd : FuncData) (ps : List Str), Cls K C ∧ PropOf K C m p g ∧ L2H.FnH P w K mg base C8.CX0 k g fd ps sp ∧ Binds K fd ps []
theorem roomH_in1 {k : Nat} {A : Around} (r : L2H.RoomH (k + 1) A) : L2H.RoomH k A.in1 := by
  have h1 := r.dp
  have h2 := r.un
  exact ⟨by show A.depth + 3 * k + 5 < _; omega, by show A.units + 1 + 16 * k + 200 < _; omega⟩
section
variable {X : Cx} {k j : Nat} {C p g a dx : Addr} {fs : List (Str × V)} {f m : Str} {fd : FuncData} {ps : List Str} {sp : Sp} {e : Expr} {pos : Pos} {ta : TE}
theorem getprop_okH {pins : List (Addr × Obj)} {σ : L2.St} {H : Hp} {s : Shared} {Q : VK} {b : Bool} {E' : Value → Shared → Prop} (I : Inv X pins σ H s) (ea : H a = some (.ins C dx fs)) (c : Cls X.K C) (hp : PropOf X.K C f p g)
    (F : L2H.FnH X.prog X.w X.K X.mg X.base C8.CX0 k g fd ps sp) (hr : L2H.RoomH (k + 1) X.A) (hot : L2H.HotC X) (hb : Binds X.K fd ps []) (h : sp [.ref a] H Q C8.E0) :
    wpAny (model X.prog X.w) X.A (getAttr (.ref a) f b) (EP X pins σ Q) E' s := by
  obtain ⟨mA, O, _, _, _, _⟩ := ins_get I.hok ea
  obtain ⟨od, J, _⟩ := O.look
  obtain ⟨rest, hrec⟩ := hp.rec_
  have I1 := I.tok (s.toks + 1)
  obtain ⟨pp, hot1, hpn⟩ := hot
  have hl : ([Value.ref a] ++ []).length = ps.length := by
    rw [← F.len _ _ _ _ h]; rfl
  have hc : (PySem.W.clsIn X.K C).isSome = true := by
    obtain ⟨cd, hc, _⟩ := PySem.W.any_some c.hd
    rw [hc]
    rfl
  have P1 := I1.pin pp (List.mem_append_left _ hpn)
  have hpin : L2H.PinOk X.stack H { s with toks := s.toks + 1 } pp := ⟨P1.1, P1.2.1, fun hm => (List.mem_cons.mp (I1.stkSub pp.1 hm)).elim P1.2.2.1 P1.2.2.2.1, P1.2.2.2.2⟩
  refine PySem.W.get_bind I.kIn J (PySem.W.plainGet_of (c.get f)).1 (PySem.W.findObj_data hc hp.at_ hp.get hp.tak) (PySem.W.plainGet_of (c.get f)).2 (wpAny_call (PySem.W.prop_get (s := { s with toks := s.toks + 1 }) I.kIn hrec ?_))
  refine codeAny_mono (F.run X.A.in1 X.stack { s with toks := s.toks + 1 } H ⟨[.ref a], []⟩ [.ref a] [.ref a] Q C8.E0 pp (roomH_in1 hr) hot1 hpin I1.env0.in1 (hb _ [.ref a] I1.kIn hl) (.cons rfl .nil) h) fun r s' hq => ?_
  cases r with
  | error er => exact False.elim hq
  | ok fl =>
    cases fl with
    | ret u =>
      obtain ⟨v, H', I3, rv, q3⟩ := I1.after hq
      show wpAny _ _ (handedOut u) _ _ _
      rw [PySem.W.handedOut_of (handed_of rv)]
      exact wpAny_pure ⟨v, H', I3, rv, q3⟩
    | next => exact False.elim hq
    | brk => exact False.elim hq
    | cont => exact False.elim hq
theorem walks_listHot {prog : Program} {w : World} {A : Around} (I ax x1 : Addr) (hne : ax ≠ I) (hx : x1 ≠ I) (items : Array Value) :
    Walks prog w A I [I, ax, x1] [I] items.size (fun i v => items[i]? = some v) (fun i h => h.IsListIter I ax i ∧ h.IsList ax items ∧ HotX.HotAt A x1 h) where
  sub := fun b hb => by simp at hb; simp [hb]
  frame := fun _ _ _ st hk => by
    obtain ⟨s1, s2, hh, o, vs, e1, e2, e3⟩ := st
    exact ⟨s1.at fun o e => hk I (by simp) o e, s2.at fun o e => hk ax (by simp) o e, hh, o, vs, hk x1 (by simp) o e1, e2, e3⟩
  item := fun i s Q E hi st hQ => by
    obtain ⟨s1, s2, hh, o, vs, e1, e2, e3⟩ := st
    refine wpAny_pyNext_list_item s1 s2 (x := items[i]) (by simp [hi]) fun h' hit' hs' => ?_
    exact hQ _ h' s.toks (by simp [hi]) ⟨hit', s2.extBut hs'.extBut hne, hh, o, vs, hs'.extBut x1 o hx e1, e2, e3⟩ fun b o hb e => hs'.extBut b o (fun h => hb (by simp [h])) e
  done := fun s Q E st hQ => by
    obtain ⟨s1, s2, hot⟩ := st
    exact rj_list_end_hot hot hx s1 s2 (by simp) fun h' he' => hQ h' s.toks fun b o hb e => he' b o (fun h => hb (by simp [h])) e
  self := fun _ _ _ _ st hQ => wpAny_pyIter_listiter st.1 hQ
theorem sum_hot {prog : Program} {w : World} {A : Around} {E : Value → Shared → Prop} {s : Shared} {l x1 : Addr} {its : List Value} {ns : List Int} {Q : Value → Shared → Prop} (hot : HotX.HotAt A x1 s.heap) (hl : s.heap.IsList l its.toArray) (hi : IntsAre its ns)
    (h : ∀ h' tk t', (∀ b o, s.heap.get? b = some o → h'.get? b = some o) → Q (.int ns.sum t') { s with heap := h', toks := tk }) : wpAny (model prog w) A (call (.builtin "sum") [.ref l]) Q E s := by
  obtain ⟨xs, e⟩ := hi.allInts.items
  have hn : numsOf (intItems xs).toList = ns := by rw [← e]; exact hi.numsOf
  rw [nums_intItems] at hn
  rw [e] at hl
  obtain ⟨hh, o, vs, e1, e2, e3⟩ := hot
  have hlt := Heap.lt_size e1
  refine call_sum_walkG (iter_intList hl fun s₂ es st hfp hlI => ?_)
  subst es
  refine ⟨_, _, _, _, _, _, numAt xs, rfl, walks_listHot (A := A.in1) _ l x1 hlI (Nat.ne_of_lt hlt) (intItems xs), ⟨st.1, st.2, hh, o, vs, Heap.get?_push_of_some _ e1, e2, e3⟩, fun b hb => ?_, (fun _ _ => intItems_at), fun h' tk t' hk => ?_⟩
  · rcases List.mem_cons.mp hb with r | hb
    · exact hfp b (by simp [r])
    rcases List.mem_cons.mp hb with r | hb
    · exact hfp b (by simp [r])
    · rw [List.mem_singleton.mp hb]
      show x1 < (s.heap.push _).objs.size
      rw [Heap.size_push]; exact Nat.lt_succ_of_lt hlt
  · have := h h' tk t' (old_kept hk)
    rw [← hn] at this
    rw [show (intItems xs).size = xs.size by simp [intItems], preSum_eq, List.take_of_length_le (by simp)]; exact this
theorem cr_sumH (hot : L2H.HotC X) : CallR X (.builtin "sum") (rSum X.K) := by
  intro pins s σ H vs us Q I r h
  obtain ⟨a, ns, rfl, hs, q⟩ := h
  obtain ⟨its, rv, hl, _⟩ := I.list hs
  obtain ⟨x1, ht⟩ := hot.at I
  rw [Vals.ref1 r]
  exact sum_hot ht hl.isList rv.ints fun h' tk t' hk => ⟨.int _, H, I.kept hk, ⟨_, rfl⟩, q⟩
theorem pe_prpH (c : PrpH X.prog X.w X.K X.mg X.base k C m sp) (hr : L2H.RoomH j X.A) (hk : k + 1 ≤ j) (hot : L2H.HotC X) (he : PE X e ta)
    (hab : attributeBase e m X.env (eval e X.env) = eval e X.env := by rfl) : PE X (.Attribute e m pos) (tProp C sp [] C8.E0 ta) := by
  obtain ⟨p, g, fd, ps, hc, hp, F, b⟩ := c.ex
  refine ⟨fun pins s σ H Q I h => ?_⟩
  refine attr_of hab (thn (he.run pins s σ H _ I h) fun u s1 ⟨x, H1, I1, rx, a, dx, fs, ex, ea, q⟩ => ?_)
  subst ex
  obtain rfl : u = Value.ref a := rx
  exact getprop_okH I1 ea hc hp F (hr.mono hk) hot b q
end
end RJ
end

section
set_option maxRecDepth 100000
set_option maxHeartbeats 2000000
namespace PySem
open PySem.Spec PyProof.Rows
section
variable {prog : Program} {w : World} {A : Around} {E : Value → Shared → Prop} {s : Shared}
/-- repr of a tuple, whatever is under way -/
theorem rj_repr_tuple {a : Addr} {o : Obj} {items : Array Value} {n : Nat} {ts : List Str} {Q : Value → Shared → Prop} (hu : A.units + 2 < cLine) (ha : s.heap.get? a = some o) (hc : o.cls = .type "tuple") (hd : o.data = .seq items n) (hT : ReprAll prog w items.toList ts) (hsz : (tupleText ts).length ≤ sizeLine)
    (h : ∀ (m : Str) (u tk : Tok), m.length ≤ (tupleText ts).length + 5 → Q (.str m u) { s with toks := tk }) : wpAny (model prog w) A (pyReprObj (.ref a)) Q E s := by
  have hTy : s.TypeIs (.ref a) "tuple" := ⟨o, ha, hc⟩
  unfold pyReprObj
  refine wpAny_bind (wpAny_cRoomFor (by omega) ?_)
  refine wpAny_bind (wpAny_specialOf (name := Str.ofString "__repr__") hTy F.slot_tuple_repr.lookup ?_)
  refine wpAny_bind (m := callSpecialIfBound? (.ref a) (Str.ofString "__repr__")) (wpAny_callSpecialIfBound?_slotG (name := Str.ofString "__repr__") hTy F.slot_tuple_repr
    (fmt_tuple_repr ha hc hd hT hsz fun m u tk hm => ?_))
  exact wpAny_bind (wpAny_isInstance (T := "str") (b := true) rfl isSubtype_str_str (wpAny_pure (h m u tk hm)))
end
end PySem
namespace RJ
open PySem PySem.Spec PyProof.Rows L2
theorem reprI_all {prog : Program} {w : World} : ∀ {l : List Int} {its : List Value}, Vals (l.map V.int) its → (∀ i ∈ l, i.natAbs.log2 < 1920) → ReprAll prog w its (l.map fun i => Str.ofString (toString i))
  | [], _, r, _ => by
    cases r
    exact .nil
  | i :: l, _, r, h => by
    cases r with
    | cons r1 r2 =>
      obtain ⟨t, rfl⟩ := r1
      exact .cons (ReprIs.int t (h i List.mem_cons_self)) (reprI_all r2 fun z hz => h z (List.mem_cons_of_mem _ hz))
theorem piledI : ∀ l : List Int, (∀ i ∈ l, (Str.ofString (toString i)).length ≤ 100) → piled (l.map fun i => Str.ofString (toString i)) ≤ 102 * l.length
  | [], _ => Nat.le_refl _
  | i :: l, h => by
    rw [List.map_cons, piled_cons, List.length_cons]
    have h1 := h i List.mem_cons_self
    have h2 := piledI l fun z hz => h z (List.mem_cons_of_mem _ hz)
    omega
/-- {t!r}, t a tuple of ints: some text -/
def tFmtRT (K : PySem.W.Frag) (te : TE) : TE := fun σ H Q => te σ H fun x H1 => ∃ (a : Addr) (l : List Int), x = .ref a ∧ SqT K H1 a (l.map V.int) ∧ (∀ i ∈ l, i.natAbs.log2 < 1920 ∧ (Str.ofString (toString i)).length ≤ 100) ∧ l.length ≤ 10000 ∧ ∀ m : Str, m.length ≤ 102 * l.length + 7 → Q (.str m) H1
theorem pe_fmtRT {X : Cx} {e : Expr} {te : TE} {pos : Pos} {k : Nat} (hr : Room k X.A) (he : PE X e te) : PE X (.FormattedValue e 114 none pos) (tFmtRT X.K te) := by
  refine ⟨fun pins s σ H Q I h => ?_⟩
  refine wpAny_FormattedValue_repr (thn (he.run pins s σ H _ I h) fun v s1 hv => ?_)
  obtain ⟨x, H1, I1, r1, a, l, rfl, ht, hc, hz, q⟩ := hv
  cases r1
  obtain ⟨its, rv, ⟨o, ho, hcl, n, hd⟩, _⟩ := I1.tuple ht
  have hp := piledI l fun i hi => (hc i hi).2
  have htx := fmt_text (l.map fun i => Str.ofString (toString i))
  have hu := hr.units
  have hsl : sizeLine = 16777216 := sizeLine_eq
  refine rj_repr_tuple (ts := l.map fun i => Str.ofString (toString i)) (by omega) ho hcl hd (reprI_all rv fun i hi => (hc i hi).1) (by omega) fun m u tk hm => ?_
  have hm' : m.length ≤ 102 * l.length + 7 := by omega
  exact wpAny_formatField_str ⟨.str m, H1, I1.tok _, ⟨_, rfl⟩, q m hm'⟩ ⟨.str m, H1, I1.tok _, ⟨_, rfl⟩, q m hm'⟩ (by omega)
theorem pe_tupleOfK {X : Cx} {K : PySem.W.Frag} {a : Expr} {ta : TE} {p pos : Pos} (h : X.K = K) (hg : Gl X "tuple") (hm : X.mg "tuple" = none) (ha : PE X a ta) (na : starEach [a] X.env = (false, eval a X.env) :: starEach [] X.env := by rfl) :
    PE X (.Call (.Name "tuple" p) [a] [] pos) (tThen ta (kTup K)) := by subst h; exact pe_tupleOf hg hm ha na
end RJ
end

section
set_option maxRecDepth 100000
set_option maxHeartbeats 2000000
namespace PySem
open PySem.Spec PyProof.Rows Sem
section
/-- repr of a list, whatever is under way -/
theorem rj_list_head {M : Model} {A : Around} {E : Value → Shared → Prop} {s : Shared} {Q : Fin → Shared → Prop} {a : Addr} {o : Obj} {x : Value} {l : List Value} {n} {b : Nat}
    (hget : s.heap.get? a = some o) (hd : o.data = .seq (x :: l).toArray n)
    (h : wpAny M A (do again (.builtin "list.__repr__.loop" ⟨[.ref a, rawInt 0, ← newList [], rawInt b], []⟩)) Q E s)
    (h2 : wpAny M A (do rule "list.__repr__.in-itself"; retStr "[...]") Q E s) : wpAny M A (Builtin.listReprAt b ⟨[.ref a], []⟩) Q E s := by
  intro Γ p hΓ
  have h1 := h Γ p hΓ
  have h3 := h2 Γ p hΓ
  unfold Builtin.listReprAt
  simp [slotArgs, Builtin.List.listItems, seqItems?, wp_load_of (h := hget), hd, stack]
  show wp M Γ (if (Γ.below.any _) = true then _ else _) _ _ p s
  split
  · exact h3
  · exact h1
variable {prog : Program} {w : World} {A : Around} {E : Value → Shared → Prop} {s : Shared}
theorem rj_lway : ("[...]" : Str).length ≤ 5 := by decide +kernel
theorem rj_repr_list {Q : Value → Shared → Prop} {a : Addr} {oa : Obj} {x : Value} {l : List Value} {na : Nat} {ts : List Str} (hTy : s.TypeIs (.ref a) "list") (hu : A.units < cLine)
    (ha : s.heap.get? a = some oa) (hda : oa.data = .seq (x :: l).toArray na) (hlen : ts.length = (x :: l).toArray.size)
    (hT : ∀ (i : Nat) (y : Value), (x :: l).toArray[i]? = some y → ∃ t, ts[i]? = some t ∧ ReprIs prog w y t)
    (hQ : ∀ (m : Str) h' u tk, m.length ≤ (listText ts).length + 5 → (∀ b o, s.heap.get? b = some o → h'.get? b = some o) → Q (.str m u) { s with heap := h', toks := tk })
    (hsz : (listText ts).length ≤ sizeLine) :
    wpAny (model prog w) A (pyReprObj (.ref a)) Q E s := by
  unfold pyReprObj
  refine wpAny_bind (wpAny_cRoomFor hu ?_)
  refine wpAny_bind (wpAny_specialOf (name := Str.ofString "__repr__") hTy F.slot_list_repr.lookup ?_)
  refine wpAny_bind (m := callSpecialIfBound? (.ref a) (Str.ofString "__repr__")) (wpAny_callSpecialIfBound?_slot (name := Str.ofString "__repr__") hTy F.slot_list_repr ?_)
  refine wpAny_call (codeAny_call_builtin F.slot_list_repr.plain F.entry_list_repr (F.slot_list_repr.check _ _ _ _ _ _ _ _ hTy (F.args_list_repr_1 _) ?_))
  refine rj_list_head (A := A.in1) ha hda ?_ ?_
  · refine wpAny_bind (m := newList []) (wpAny_newObj_type ?_)
    refine wpAny_pure ⟨F.quiet_list_repr_loop _, ?_⟩
    refine codeAny_list_repr_start (P := s.heap.objs.size) (b := 0) (Nat.ne_of_lt (Heap.lt_size ha)) hlen hT (Heap.get?_push_of_some _ ha) hda (Heap.get?_push_size _ rfl) (fun h' u tk hk => ?_) (by omega)
    exact wpAny_bind (wpAny_isInstance (T := "str") (b := true) rfl isSubtype_str_str (wpAny_pure (hQ _ h' u tk (Nat.le_add_right _ _) fun b o e => hk b o (Nat.ne_of_lt (Heap.lt_size e)) (Heap.get?_push_of_some _ e))))
  · refine wpAny_bind (wpAny_rule ?_)
    refine wpAny_bind (wpAny_mkStr (wpAny_pure ?_) (by decide +kernel))
    exact wpAny_bind (wpAny_isInstance (T := "str") (b := true) rfl isSubtype_str_str (wpAny_pure (hQ _ s.heap _ _ (Nat.le_trans rj_lway (Nat.le_add_left _ _)) fun _ _ e => e)))
end
end PySem
namespace RJ
open PySem PySem.Spec PyProof.Rows L2
/-- a plain value whose repr is short -/
def ScR (x : V) : Prop := x = .non ∨ (∃ b, x = .bl b) ∨ (∃ i : Int, x = .int i ∧ i.natAbs.log2 < 1920 ∧ (Str.ofString (toString i)).length ≤ 200) ∨ (∃ z : Str, x = .str z ∧ z.length ≤ 19 ∧ ∀ c ∈ z.cps.toList, c < 16 ^ 8)
/-- a plain value, or a tuple or list of such -/
def RepV (K : PySem.W.Frag) (H : Hp) (x : V) : Prop := ScR x ∨ ∃ a xs, x = .ref a ∧ (SqT K H a xs ∨ SqL K H a xs) ∧ (∀ y ∈ xs, ScR y) ∧ xs.length ≤ 1000
theorem sc_repr {prog : Program} {w : World} {x : V} {v : Value} (r : RelV x v) (h : ScR x) : ∃ t, ReprIs prog w v t ∧ t.length ≤ 200 := by
  have hsl : sizeLine = 16777216 := sizeLine_eq
  rcases h with rfl | ⟨b, rfl⟩ | ⟨i, rfl, h1, h2⟩ | ⟨z, rfl, h1, h2⟩
  · cases r
    exact ⟨_, ReprIs.none, by decide +kernel⟩
  · cases r
    exact ⟨_, ReprIs.bool b, by cases b <;> decide +kernel⟩
  · obtain ⟨t, rfl⟩ := r
    exact ⟨_, ReprIs.int t h1, h2⟩
  · obtain ⟨t, rfl⟩ := r
    have := PySem.StrLaws.reprText_len z h2
    exact ⟨_, ReprIs.str z t (by omega), by omega⟩
theorem sc_all {prog : Program} {w : World} : ∀ {xs : List V} {its : List Value}, Vals xs its → (∀ y ∈ xs, ScR y) → ∃ ts, ReprAll prog w its ts ∧ piled ts ≤ 202 * xs.length
  | [], _, r, _ => by
    cases r
    exact ⟨[], .nil, Nat.zero_le _⟩
  | x :: xs, _, r, h => by
    cases r with
    | cons r1 r2 =>
      obtain ⟨t, h1, h2⟩ := sc_repr r1 (h x List.mem_cons_self)
      obtain ⟨ts, h3, h4⟩ := sc_all r2 fun y hy => h y (List.mem_cons_of_mem _ hy)
      refine ⟨t :: ts, .cons h1 h3, ?_⟩
      rw [piled_cons, List.length_cons]; omega
theorem reprAll_at {prog : Program} {w : World} : ∀ {its : List Value} {ts : List Str}, ReprAll prog w its ts → ∀ (i : Nat) (y : Value), its[i]? = some y → ∃ t, ts[i]? = some t ∧ ReprIs prog w y t
  | _, _, .nil, i, y, h => by cases h
  | _, _, .cons h1 h2, 0, y, h => by cases h; exact ⟨_, rfl, h1⟩
  | _, _, .cons h1 h2, i + 1, y, h => reprAll_at h2 i y h
theorem listText_len : ∀ ts : List Str, (listText ts).length ≤ piled ts + 2
  | [] => by decide +kernel
  | t :: r => by
    have h := textFrom_length_pos r 1 (("[" : Str) ++ (if (0 : Nat) > 0 then ", " else "" : String) ++ t) (Nat.succ_pos 0)
    have e : ((("[" : Str) ++ (if (0 : Nat) > 0 then ", " else "" : String) ++ t)).length = 1 + t.length := by
      rw [strLen_append, strLen_append]; rfl
    have hX : (listText (t :: r)).length = (textFrom 0 "[" (t :: r)).length + 1 := by
      show (textFrom 0 "[" (t :: r) ++ "]").length = _
      rw [strLen_append]; rfl
    have hY : (textFrom 0 "[" (t :: r)).length = (textFrom 1 (("[" : Str) ++ (if (0 : Nat) > 0 then ", " else "" : String) ++ t) r).length := rfl
    rw [hX, hY, h, e, piled_cons]; omega
/-- {x!r}: some text -/
def tFmtRV (K : PySem.W.Frag) (te : TE) : TE := fun σ H Q => te σ H fun x H1 => RepV K H1 x ∧ ∀ m : Str, m.length ≤ 300000 → Q (.str m) H1
theorem pe_fmtRV {X : Cx} {e : Expr} {te : TE} {pos : Pos} {k : Nat} (hr : Room k X.A) (he : PE X e te) : PE X (.FormattedValue e 114 none pos) (tFmtRV X.K te) := by
  refine ⟨fun pins s σ H Q I h => ?_⟩
  refine wpAny_FormattedValue_repr (thn (he.run pins s σ H _ I h) fun v s1 hv => ?_)
  obtain ⟨x, H1, I1, r1, hx, q⟩ := hv
  have hu := hr.units
  have hsl : sizeLine = 16777216 := sizeLine_eq
  have fin : ∀ (m : Str) (u : Tok) (s2 : Shared), m.length ≤ 300000 → Inv X pins σ H1 s2 → wpAny (model X.prog X.w) X.A (formatField (.str m u) Str.empty) (EP X pins σ Q) X.xe s2 := fun m u s2 hm I2 =>
    wpAny_formatField_str ⟨.str m, H1, I2, ⟨_, rfl⟩, q m hm⟩ ⟨.str m, H1, I2.tok _, ⟨_, rfl⟩, q m hm⟩ (by omega)
  rcases hx with hx | ⟨a, xs, rfl, hs, hsc, hl⟩
  · rcases hx with rfl | ⟨b, rfl⟩ | ⟨i, rfl, h1, h2⟩ | ⟨z, rfl, h1, h2⟩
    · cases r1
      exact pyReprObj_none (fin _ _ _ (by decide +kernel) (I1.tok _))
    · cases r1
      exact pyReprObj_bool (fin _ _ _ (by cases b <;> decide +kernel) (I1.tok _))
    · obtain ⟨t, rfl⟩ := r1
      exact pyReprObj_int h1 (fin _ _ _ (Nat.le_trans h2 (by decide)) (I1.tok _))
    · obtain ⟨t, rfl⟩ := r1
      have := PySem.StrLaws.reprText_len z h2
      exact pyReprObj_str (fin _ _ _ (by omega) (I1.tok _)) (by omega)
  · cases r1
    rcases hs with ht | ht
    · obtain ⟨its, rv, ⟨o, ho, hcl, n, hd⟩, _⟩ := I1.tuple ht
      obtain ⟨ts, hT, hp⟩ := sc_all (prog := X.prog) (w := X.w) rv hsc
      have htx := fmt_text ts
      refine rj_repr_tuple (ts := ts) (by omega) ho hcl hd hT (by omega) fun m u tk hm => ?_
      exact fin _ _ _ (by omega) (I1.tok _)
    · obtain ⟨its, rv, p, _⟩ := I1.list ht
      obtain ⟨ts, hT, hp⟩ := sc_all (prog := X.prog) (w := X.w) rv hsc
      have htx := listText_len ts
      obtain ⟨o, ho, hcl, n, hd⟩ := p.isList
      cases its with
      | nil => exact wpAny_pyReprObj_list_empty ⟨o, ho, hcl⟩ (by omega) ho hd (fin _ _ _ (by decide +kernel) (I1.tok _))
      | cons y ys =>
        refine rj_repr_list ⟨o, ho, hcl⟩ (by omega) ho hd (by rw [hT.length_eq]; rfl) (fun i z hz => reprAll_at hT i z (by simpa using hz)) (fun m h' u tk hm hk => ?_) (by omega)
        exact fin _ _ _ (by omega) (I1.kept (t' := tk) hk)
end RJ
end

section
set_option maxRecDepth 100000
set_option maxHeartbeats 2000000
namespace PySem
open PySem.Spec PyProof.Rows Sem Builtin Builtin.List
/-- some text for x, of at most L signs, whatever repr is under way -/
def RjSome (prog : Program) (w : World) (h0 : Heap) (x : Value) (L : Nat) : Prop :=
  ∀ (b : Nat), b + L ≤ sizeLine → ∀ (A : Around) (E : Value → Shared → Prop) (s : Shared) (Q : Str → Shared → Prop), A.units + 8 < cLine → (∀ c o, h0.get? c = some o → s.heap.get? c = some o) →
    (∀ (t : Str) h' tk, t.length ≤ L → (∀ c o, s.heap.get? c = some o → h'.get? c = some o) → Q t { s with heap := h', toks := tk }) → wpAny (model prog w) A (pyReprUnder b x) Q E s
theorem RjSome.of {prog : Program} {w : World} {h0 : Heap} {x : Value} {t : Str} {L : Nat} (h : ReprIs prog w x t) (hL : t.length ≤ L) : RjSome prog w h0 x L :=
  fun b hb A E s Q _ _ q => h b (by omega) A E s Q fun tk => q t s.heap tk hL fun _ _ e => e
section
variable {prog : Program} {w : World} {A : Around} {R : Result → Shared → Prop} {E : Value → Shared → Prop} {s : Shared}
theorem rj_loopS {a P : Addr} (hne : a ≠ P) {items : Array Value} {h0 : Heap} {L b : Nat} (hu : A.units + 12 < cLine) (hPf : h0.get? P = none) (hT : ∀ (i : Nat) (x : Value), items[i]? = some x → RjSome prog w h0 x L) (hsz : b + items.size * (L + 2) + 8 ≤ sizeLine) :
    ∀ (k i : Nat) (s : Shared) (oa : Obj) (na : Nat) (acc : Array Value) (c : Nat) (done : List (Str × Tok)), items.size = i + k → (∀ c o, h0.get? c = some o → s.heap.get? c = some o) → s.heap.get? a = some oa → oa.data = .seq items na →
      s.heap.get? P = some { cls := .type "list", dict := none, data := .seq acc c, slots := #[] } → acc.toList = strValues done → done.length = i → piled (done.map (·.1)) ≤ i * (L + 2) →
      (∀ (m : Str) h' u tk, m.length ≤ items.size * (L + 2) + 2 → (∀ b o, b ≠ P → s.heap.get? b = some o → h'.get? b = some o) → R (.ok (.ret (.str m u))) { s with heap := h', toks := tk }) →
      codeAny (model prog w) A (.builtin "list.__repr__.loop" ⟨[.ref a, rawInt i, .ref P, rawInt ((b + piled (done.map (·.1)) : Nat) : Int)], []⟩) R s := by
  intro k
  induction k with
  | zero =>
    intro i s oa na acc c done hk hk0 ha hda hP hacc hdl hpl hR
    have hin : items[(i : Int).toNat]? = none := by simp; omega
    have hll := RJ.listText_len (done.map (·.1))
    have hi : i * (L + 2) = items.size * (L + 2) := by rw [hk]; rfl
    refine codeAny_builtin F.entry_list_repr_loop (show wpAny _ _ («list.__repr__.loop» ⟨[.ref a, .int i 0, .ref P, .int ((b + piled (done.map (·.1)) : Nat) : Int) 0], []⟩) _ _ s by
      rw [repr_loop_tree]
      refine wpAny_bind (wpAny_listItems ha hda ?_)
      simp only [hin]
      exact wpAny_bind (wpAny_listItems hP rfl (by rw [hacc, repr_fold]; exact wpAny_bind (wpAny_pure (wpAny_bind (wpAny_mkStr (wpAny_pure (hR _ s.heap _ _ (by show (listText (done.map (·.1))).length ≤ _; omega) fun _ _ _ e => e)) (by show (listText (done.map (·.1))).length ≤ _; omega)))))))
  | succ k ih =>
    intro i s oa na acc c done hk hk0 ha hda hP hacc hdl hpl hR
    have hlt : i < items.size := by omega
    have hsome : items[(i : Int).toNat]? = some items[i] := by simp [hlt]
    have hm : (i + 1) * (L + 2) ≤ items.size * (L + 2) := Nat.mul_le_mul_right _ hlt
    rw [Nat.succ_mul] at hm
    have hrep := hT i items[i] (by simp [hlt])
    have hasz : acc.size ≤ sizeLine := by
      have e1 : acc.toList.length = acc.size := by simp
      have e2 : (strValues done).length = done.length := by simp [strValues]
      have e3 : i ≤ items.size * (L + 2) := Nat.le_trans (Nat.le_of_lt hlt) (Nat.le_mul_of_pos_right _ (by omega))
      rw [hacc] at e1; omega
    refine codeAny_builtin F.entry_list_repr_loop (show wpAny _ _ («list.__repr__.loop» ⟨[.ref a, .int i 0, .ref P, .int ((b + piled (done.map (·.1)) : Nat) : Int) 0], []⟩) _ _ s by
      rw [repr_loop_tree]
      refine wpAny_bind (wpAny_listItems ha hda ?_)
      simp only [hsome]
      rw [Int.toNat_natCast]
      refine wpAny_bind (wpAny_holding (hrep (b + piled (done.map (·.1)) + 1) (by omega) _ _ _ _ (by rw [units_under_list_loop]; omega) hk0 fun t h' tk ht hkp => ?_))
      refine wpAny_bind (wpAny_mkStr (wpAny_bind (show wpAny _ _ (updateSeq P _) _ _ _ from wpAny_updateSeq (hkp _ _ hP) rfl (wpAny_pure ⟨F.quiet_list_repr_loop _, ?_⟩) hasz)) (by omega))
      have e1 : ((i : Int) + 1) = ((i + 1 : Nat) : Int) := by omega
      have e2 : b + piled (done.map (·.1)) + (t.length + 2) = b + piled ((done ++ [(t, tk)]).map (·.1)) := by
        rw [List.map_append, piled_append]
        show _ = b + (_ + piled [t])
        rw [piled_cons, piled_nil]; omega
      have e3 : piled ((done ++ [(t, tk)]).map (·.1)) = piled (done.map (·.1)) + (t.length + 2) := by omega
      rw [e1, e2]
      refine ih (i + 1) _ oa na (acc.push (.str t tk)) _ (done ++ [(t, tk)]) (by omega) (fun c o e => (Heap.get?_update_other _ _ (fun h : P = c => by rw [← h, hPf] at e; cases e)).trans (hkp _ _ (hk0 _ _ e))) ((Heap.get?_update_other _ _ (fun h : P = a => hne h.symm)).trans (hkp _ _ ha)) hda (Heap.get?_update_self _ (hkp _ _ hP) rfl) (by simp [hacc, strValues]) (by simp [hdl]) (by rw [e3, Nat.succ_mul]; omega) fun m h'' u tk' hm' hh => ?_
      exact hR m h'' u tk' hm' fun d o hb e => hh d o hb ((Heap.get?_update_other _ _ (fun h : P = d => hb h.symm)).trans (hkp _ _ e)))
/-- a list of plain values within another one -/
theorem RjSome.list {h0 : Heap} {a : Addr} {oa : Obj} {x : Value} {l : List Value} {na : Nat} {ts : List Str} (ha : h0.get? a = some oa) (hc : oa.cls = .type "list") (hda : oa.data = .seq (x :: l).toArray na) (hlen : ts.length = (x :: l).toArray.size)
    (hT : ∀ (i : Nat) (y : Value), (x :: l).toArray[i]? = some y → ∃ t, ts[i]? = some t ∧ ReprIs prog w y t) : RjSome prog w h0 (.ref a) ((listText ts).length + 5) := fun b hb A E s Q hu hk q => by
  have hTy : s.TypeIs (.ref a) "list" := ⟨oa, hk _ _ ha, hc⟩
  refine wpAny_pyReprUnder_ref (by omega) (wpAny_pyReprObjUnder_twin (twin := "list.__repr__.under") hTy F.slot_list_repr.toG rfl (by omega) (call_twin_plain F.plain_list_repr_under F.entry_list_repr_under F.check_list_repr_under hTy F.slot_list_repr.toG (F.args_list_repr_1 _) ?_))
  refine rj_list_head (b := b) (hk _ _ ha) hda ?_ ?_
  · refine wpAny_bind (m := newList []) (wpAny_newObj_type (wpAny_pure ⟨F.quiet_list_repr_loop _, ?_⟩))
    refine codeAny_list_repr_start (P := s.heap.objs.size) (b := b) (Nat.ne_of_lt (Heap.lt_size (hk _ _ ha))) hlen hT (Heap.get?_push_of_some _ (hk _ _ ha)) hda (Heap.get?_push_size _ rfl) (fun h' u tk hk' => ?_) (by omega)
    exact ⟨⟨_, _, rfl⟩, _, _, rfl, q _ h' tk (Nat.le_add_right _ _) fun c o e => hk' c o (Nat.ne_of_lt (Heap.lt_size e)) (Heap.get?_push_of_some _ e)⟩
  · refine wpAny_bind (wpAny_rule (wpAny_bind (wpAny_mkStr (wpAny_pure ?_) (by decide +kernel))))
    exact ⟨⟨_, _, rfl⟩, _, _, rfl, q _ s.heap _ (Nat.le_trans rj_lway (Nat.le_add_left _ _)) fun _ _ e => e⟩
/-- repr of a list, its items of any such kind -/
theorem rj_repr_listS {Q : Value → Shared → Prop} {a : Addr} {oa : Obj} {x : Value} {l : List Value} {na L : Nat} (hTy : s.TypeIs (.ref a) "list") (hu : A.units + 40 < cLine) (ha : s.heap.get? a = some oa) (hda : oa.data = .seq (x :: l).toArray na)
    (hT : ∀ (i : Nat) (y : Value), (x :: l).toArray[i]? = some y → RjSome prog w s.heap y L)
    (hQ : ∀ (m : Str) h' u tk, m.length ≤ (x :: l).toArray.size * (L + 2) + 8 → (∀ b o, s.heap.get? b = some o → h'.get? b = some o) → Q (.str m u) { s with heap := h', toks := tk })
    (hsz : (x :: l).toArray.size * (L + 2) + 8 ≤ sizeLine) : wpAny (model prog w) A (pyReprObj (.ref a)) Q E s := by
  unfold pyReprObj
  refine wpAny_bind (wpAny_cRoomFor (by omega) (wpAny_bind (wpAny_specialOf (name := Str.ofString "__repr__") hTy F.slot_list_repr.lookup ?_)))
  refine wpAny_bind (m := callSpecialIfBound? (.ref a) (Str.ofString "__repr__")) (wpAny_callSpecialIfBound?_slot (name := Str.ofString "__repr__") hTy F.slot_list_repr (wpAny_call (codeAny_call_builtin F.slot_list_repr.plain F.entry_list_repr (F.slot_list_repr.check _ _ _ _ _ _ _ _ hTy (F.args_list_repr_1 _) ?_))))
  refine rj_list_head (A := A.in1) ha hda ?_ ?_
  · refine wpAny_bind (m := newList []) (wpAny_newObj_type (wpAny_pure ⟨F.quiet_list_repr_loop _, ?_⟩))
    refine rj_loopS (h0 := s.heap) (P := s.heap.objs.size) (b := 0) (L := L) (Nat.ne_of_lt (Heap.lt_size ha)) (by omega) (Heap.get?_none_of_le (Nat.le_refl _)) hT (by omega) _ 0 _ oa na #[] _ [] (by rw [Nat.zero_add]) (fun c o e => Heap.get?_push_of_some _ e) (Heap.get?_push_of_some _ ha) hda (Heap.get?_push_size _ rfl) rfl rfl (Nat.zero_le _) fun m h' u tk hm hk' => ?_
    exact wpAny_bind (wpAny_isInstance (T := "str") (b := true) rfl isSubtype_str_str (wpAny_pure (hQ _ h' u tk (by omega) fun b o e => hk' b o (Nat.ne_of_lt (Heap.lt_size e)) (Heap.get?_push_of_some _ e))))
  · refine wpAny_bind (wpAny_rule (wpAny_bind (wpAny_mkStr (wpAny_pure ?_) (by decide +kernel))))
    exact wpAny_bind (wpAny_isInstance (T := "str") (b := true) rfl isSubtype_str_str (wpAny_pure (hQ _ s.heap _ _ (Nat.le_trans rj_lway (by omega)) fun _ _ e => e)))
end
end PySem
end

section
set_option maxRecDepth 100000
set_option maxHeartbeats 2000000
namespace RJ
open PySem PySem.Spec PyProof.Rows L2
/-! ### defs that are called while no repr is under way -/
structure FnG (P : Program) (w : World) (K : PySem.W.Frag) (mg : Str → Option Value) (base : Heap) (k : Nat) (f : Addr) (fd : FuncData) (ps : List Str) (sp : Sp) : Prop where
  ln : ∀ vs H Q E, sp vs H Q E → vs.length = ps.length
  go : ∀ (A : Around) (outer : List Env) (s : Shared) (H : Hp) (args : Args) (us : List Value) (vs : List V) (Q : VK) (E : XK), A.guards = some [] → Room k A → Env0 P w K mg base A outer s H → BindsTo s fd args (ps.zip us) → Vals vs us → sp vs H Q E →
    codeAny (model P w) A (.call (.ref f) args) (CR C8.CX0 outer P w H s Q E) s
structure CalG (P : Program) (w : World) (K : PySem.W.Frag) (mg : Str → Option Value) (base : Heap) (k : Nat) (x : Str) (sp : Sp) : Prop where
  ex : ∃ (f : Addr) (fd : FuncData) (ps : List Str), FnG P w K mg base k f fd ps sp ∧ mg x = some (.ref f) ∧ PySem.W.keepIn K (.ref f) = true ∧ Binds K fd ps []
section
variable {P : Program} {w : World} {K : PySem.W.Frag} {mg : Str → Option Value} {base : Heap}
theorem fnG0 {x qual : Str} {st : Stmt} {f : Addr} {fd : FuncData} {N ps : List Str} {k : Nat} {sp : Sp} (F : C8.Fun K x qual st f fd) (S : FnScope N ps (C8.fnScope st)) (len : ∀ vs H Q E, sp vs H Q E → vs.length = ps.length)
    (hb : ∀ (cdv : Value) (A : Around) (outer : List Env) (s : Shared) (H : Hp) (vs : List V) (Q : VK) (E : XK), (A.deeper (envOfC qual (C8.fnScope st) s.heap.objs.size f cdv)).guards = some [] → Room k (A.deeper (envOfC qual (C8.fnScope st) s.heap.objs.size f cdv)) → sp vs H Q E →
      ∃ t, PSs (cxOf C8.CX0 P w K mg base N qual (C8.fnScope st) f cdv A outer s H E).nox (C8.fnBody st) t ∧ t { nx := fun _ H' => Q .non H', rt := Q } (start N vs) H) : FnG P w K mg base (k + 1) f fd ps sp := by
  obtain ⟨oc, od, dV, kV, doc, pm, an, cdv, ct, osl, rfl, lk, hcd⟩ := F.ex
  refine ⟨len, fun A outer s H args us vs Q E hg hr e0 hbn r hsp => LamX.run_ofS lk hcd S hr e0 hbn r (len _ _ _ _ hsp) fun hr' => ?_⟩
  obtain ⟨t, h, q⟩ := hb cdv A outer s H vs Q E hg hr' hsp
  exact ⟨t, h.nox, q⟩
theorem FnG.of {k : Nat} {f : Addr} {fd : FuncData} {ps : List Str} {sp : Sp} (F : FnOk P w K mg base C8.CX0 k f fd ps sp) : FnG P w K mg base k f fd ps sp :=
  ⟨F.len, fun A outer s H args us vs Q E _ => F.run A outer s H args us vs Q E⟩
end
section
variable {X : Cx} {k j : Nat} {x : Str} {sp : Sp} {p pos : Pos} {e : Expr} {es : List Expr} {t : TA}
theorem run_fnG {f : Addr} {fd : FuncData} {ps : List Str} {pins : List (Addr × Obj)} {σ : L2.St} {H : Hp} {s : Shared} {Q : VK} {us : List Value} {vs : List V} (F : FnG X.prog X.w X.K X.mg X.base k f fd ps sp) (gd : X.A.guards = some []) (hr : Room k X.A) (hb : Binds X.K fd ps [])
    (I : Inv X pins σ H s) (r : Vals vs us) (h : sp vs H Q C8.E0) : wpAny (model X.prog X.w) X.A (call (.ref f) us) (EP X pins σ Q) X.xe s := by
  have b := hb s us I.kIn (by rw [List.append_nil]; exact r.length.symm.trans (F.ln _ _ _ _ h))
  rw [List.append_nil] at b
  refine wpAny_call (codeAny_mono (F.go X.A X.stack s H ⟨us, []⟩ us vs Q C8.E0 gd hr I.env0 b r h) fun r' s' hq => ?_)
  match r', hq with
  | .ok (.ret u), hq => exact I.after hq
  | .ok .next, hq => exact hq.elim
  | .ok .brk, hq => exact hq.elim
  | .ok .cont, hq => exact hq.elim
  | .error e, hq => exact hq.elim
theorem pe_cg (c : CalG X.prog X.w X.K X.mg X.base k x sp) (gd : X.A.guards = some []) (hr : Room j X.A) (hk : k ≤ j) (hg : Gl X x) (ha : PA X (e :: es) t)
    (hdb : (x == ("__debug__" : Str)) = false := by decide) (he : starEach (e :: es) X.env = (false, eval e X.env) :: starEach es X.env := by rfl) (hpl : (backTo pos (starEach es X.env)).any (·.1) = false := by rfl) :
    PE X (.Call (.Name x p) (e :: es) [] pos) (tCallS sp (fun _ => C8.E0) t) := by
  obtain ⟨f, fd, ps, F, hm, kp, b⟩ := c.ex
  refine ⟨fun pins s σ H Q I h => wpAny_Call_Name_kw (ld_glob I hg hm (PySem.W.callWith_K (h₀ := X.base) I.ok.mod.kin kp (thn (ha.run pos pins s σ H _ I h) fun us s1 ⟨vs, H1, I1, r, q⟩ => ⟨I1.kIn, run_fnG F gd (hr.mono hk) b I1 r q⟩) he hpl) hdb)⟩
/-- repr(x), x a plain value or data, no repr under way -/
def rReprG (K : PySem.W.Frag) : List V → Hp → VK → Prop := fun vs H Q => ∃ (x : V) (d : PyData), vs = [x] ∧ Dp K H x d ∧ d.showable = true ∧ d.hasDict = false ∧ d.depth ≤ 60 ∧ d.shown.length ≤ 1000000 ∧ Q (.str d.shown) H
theorem call_reprG (gd : X.A.guards = some []) (hu : X.A.units + 64 < cLine) : CallR X (.builtin "repr") (rReprG X.K) := by
  intro pins s σ H vs us Q I r h
  obtain ⟨x, d, rfl, hd, hs, hnd, hdep, hl, q⟩ := h
  obtain ⟨u, rfl, ru⟩ := vals1 r
  have hsl : sizeLine = 16777216 := sizeLine_eq
  have hsl2 : d.shown.length ≤ sizeLine := by omega
  cases hd with
  | non => cases ru; exact PySem.P.repr_of_none ⟨.str _, H, I.tok _, ⟨_, rfl⟩, q⟩
  | bl b => cases ru; exact PySem.P.repr_of_bool ⟨.str _, H, I.tok _, ⟨_, rfl⟩, q⟩
  | int i => obtain ⟨t, rfl⟩ := ru; exact PySem.P.repr_of_int (by simpa [PyData.showable] using hs) ⟨.str _, H, I.tok _, ⟨_, rfl⟩, q⟩
  | str z => obtain ⟨t, rfl⟩ := ru; exact PySem.P.repr_of_str ⟨.str _, H, I.tok _, ⟨_, rfl⟩, q⟩ hsl2
  | lst h1 h2 =>
    obtain ⟨as, hrd⟩ := Dp.reads I _ _ _ (.lst h1 h2) ru
    cases ru
    exact repr_of_reads' hrd hs (fun z => by rw [hnd] at z; cases z) gd (by omega) (fun _ _ e => e) (fun h' v tk hk => ⟨.str _, H, I.kept (t' := tk) hk, ⟨_, rfl⟩, q⟩) hsl2
  | tup h1 h2 =>
    obtain ⟨as, hrd⟩ := Dp.reads I _ _ _ (.tup h1 h2) ru
    cases ru
    exact repr_of_reads' hrd hs (fun z => by rw [hnd] at z; cases z) gd (by omega) (fun _ _ e => e) (fun h' v tk hk => ⟨.str _, H, I.kept (t' := tk) hk, ⟨_, rfl⟩, q⟩) hsl2
theorem call_reprGK {K : PySem.W.Frag} (hK : X.K = K) (gd : X.A.guards = some []) (hu : X.A.units + 64 < cLine) : CallR X (.builtin "repr") (rReprG K) := by
  subst hK; exact call_reprG gd hu
end
/-! ### the end of a law whose promise asks that -/
theorem law_callG {P : Program} {w : World} {K : PySem.W.Frag} {mg mb : Str → Option Value} {k : Nat} {fa a : Addr} {fd : FuncData} {x : Str} {sp : Sp} {s1 : Shared} {us : List Value} {zs : List Int}
    (kx : K.In s1.heap) (hG : s1.heap.Ns mainGlobals mg) (hB : s1.heap.Ns builtinsNs mb) (hB2 : ∀ y : Str, y ≠ "__name__" → mb y = bootBuiltins y) (hlm : s1.heap.NoLimit) (hgn : s1.gens = #[]) (hda : s1.heap.get? a = some { cls := .type "list", data := .seq us.toArray }) (hin : IntsAre us zs) (hzl : zs.length ≤ sizeLine)
    (hr : Room k callerA) (F : ∀ base : Heap, K.In base → base.Ns mainGlobals mg → FnG P w K mg base k fa fd [x] sp) (hbd : ∀ (s : Shared) (u : Value), BindsTo s fd ⟨[u], []⟩ [(x, u)]) (hsp : ∀ H : Hp, Only H → SqL K H a (zs.map V.int) → sp [.ref a] H (fun v _ => v = .bl true) fun _ _ _ => False) :
    codeAny (model P w) callerA (.call (.ref fa) ⟨[.ref a], []⟩) (fun r s' => r = .ok (.ret (.bool true)) ∧ OldK s1.heap s'.heap ∧ s'.os = s1.os ∧ AllBare s'.gens) s1 := by
  have rv := vals_ints hin
  have ln := hin.length
  have main : ∀ H : Hp, Only H → SqL K H a (zs.map V.int) → HOk P w H s1.heap → (∀ b u, H b = some u → b = a) → (K.lookup a = none ∨ H a = none) →
      codeAny (model P w) callerA (.call (.ref fa) ⟨[.ref a], []⟩) (fun r s' => r = .ok (.ret (.bool true)) ∧ OldK s1.heap s'.heap ∧ s'.os = s1.os ∧ AllBare s'.gens) s1 := by
    intro H hO hS hok hA hK
    have free : ∀ b, b ≠ a → H b = none := fun b hb => by
      cases e : H b with
      | none => rfl
      | some u => exact absurd (hA b u e) hb
    have up : ∀ {b : Addr} {o : Obj}, s1.heap.get? b = some o → H b = none → (hidT s1.heap H).get? b = some o := hidT_get
    have ns : ∀ {b : Addr} {m : Str → Option Value}, s1.heap.Ns b m → (hidT s1.heap H).Ns b m := by
      rintro b m ⟨o, es, ep, e, d, r⟩
      refine ⟨o, es, ep, up e (free b fun z => ?_), d, r⟩
      rw [z, hda] at e
      obtain rfl := Option.some.inj e
      exact nomatch (show Data.seq us.toArray _ = Data.dict es ep from d)
    have hKb : K.In (hidT s1.heap H) := fun b o e => up (kx b o e) (by
      by_cases z : b = a
      · rcases hK with h | h
        · rw [z, h] at e; cases e
        · rw [z]; exact h
      · exact free b z)
    obtain ⟨mc, l1, l2⟩ := hlm
    have env : Env0 P w K mg (hidT s1.heap H) callerA [] s1 H := ⟨rfl, ⟨hKb, ns hG, ⟨mb, ns hB, hB2⟩, ⟨mc, ns l1, l2⟩⟩, fun b o e => of_hidT e, Nat.le_of_eq (hidT_size _ _), trivial, fun b hb => absurd (show b ∈ ([] : List Addr) from hb) List.not_mem_nil, hok, AllBare.of_eq hgn⟩
    refine codeAny_mono ((F _ hKb (ns hG)).go callerA [] s1 H ⟨[.ref a], []⟩ [.ref a] [.ref a] _ _ rfl hr env (hbd s1 (.ref a)) (.cons rfl .nil) (hsp H hO hS)) fun r s' h => ?_
    match r, h with
    | .ok (.ret u), ⟨v, H', os, bare, un, hok', rr, qv⟩ =>
      obtain rfl : v = .bl true := qv
      obtain rfl : u = Value.bool true := rr
      refine ⟨rfl, OldK.of_keep fun b o e => ?_, os, bare⟩
      cases c : H b with
      | none => exact un.keep b o e c (fun z => absurd (show b ∈ ([] : List Addr) from z) List.not_mem_nil) List.not_mem_nil
      | some u =>
        rcases hO b with z | ⟨ob, xs, z⟩
        · rw [c] at z; cases z
        · have g1 := (hok b _ z).1
          have g2 := (hok' b _ (un.frzs b ob _ z)).1
          rw [e] at g1
          rw [Option.some.inj g1]; exact g2
    | .ok .next, h => exact h.elim
    | .ok .brk, h => exact h.elim
    | .ok .cont, h => exact h.elim
    | .error e, h => exact h.elim
  cases hk : K.lookup a with
  | some o =>
    have e := (kx a o hk).symm.trans hda
    obtain rfl := Option.some.inj e
    exact main (fun _ => none) (fun _ => .inl rfl) (.inr ⟨_, us.toArray, _, hk, rfl, rfl, rfl, by rw [List.size_toArray, ln]; exact hzl, by simpa using rv⟩) (fun b u z => nomatch z) (fun b u z => nomatch z) (.inr rfl)
  | none =>
    obtain ⟨H0, hH0⟩ : ∃ H0 : Hp, ∀ b, H0 b = if b = a then some (.frz { cls := .type "list", data := .seq us.toArray } (.lst (zs.map V.int))) else none := ⟨_, fun _ => rfl⟩
    have at0 : H0 a = some (.frz { cls := .type "list", data := .seq us.toArray } (.lst (zs.map V.int))) := by rw [hH0, if_pos rfl]
    refine main H0 (fun b => ?_) (.inl (.inr ⟨_, at0⟩)) (fun b u z => ?_) (fun b u z => ?_) (.inl hk)
    · by_cases hb : b = a
      · rw [hb]; exact .inr ⟨_, _, at0⟩
      · exact .inl (by rw [hH0, if_neg hb])
    · rw [hH0] at z
      split at z
      · rename_i hb
        obtain rfl := Option.some.inj z
        rw [hb]
        exact ⟨hda, by rw [List.length_map]; exact hzl, us, _, rv, hda⟩
      · cases z
    · rw [hH0] at z
      split at z
      · assumption
      · cases z
theorem walkGd {l : PySem.W.OpenLaw} {n k : Nat} {q : Program} {loose : List Str} {XP : (Str → Option Value) → Heap → Prop} {YP : World → Heap → Prop} {d : DefRec} {K : Params → PySem.W.Frag} {sp : World → Sp} {x : Str}
    (hn : l.most = some n) (hn2 : n ≤ sizeLine) (hdf : d.params.defaults = []) (hr : Room k callerA) (hY : ∀ (w : World) (h : Heap), YP w h → (K w.params).In h)
    (F : ∀ (w : World) (mg : Str → Option Value) (fa : Addr) (h : Heap), (K w.params).In h → h.Ns mainGlobals mg → mg d.name = some (.ref fa) → ∃ fd : FuncData, (∀ (s : Shared) (u : Value), BindsTo s fd ⟨[u], []⟩ [(x, u)]) ∧ ∀ base : Heap, (K w.params).In base → base.Ns mainGlobals mg → FnG l.prog w (K w.params) mg base k fa fd [x] (sp w))
    (hsp : ∀ (w : World) (H : Hp) (a : Addr) (ns : List Int), ns.length ≤ n → Only H → SqL (K w.params) H a (ns.map V.int) → sp w [.ref a] H (fun v _ => v = .bl true) fun _ _ _ => False) :
    PySem.W.WalkO q loose XP YP l.row.toRowW d [] (fun f vs => PySem.call f vs) :=
  Att.attach_call hn hdf fun w _ s1 mg mb fa o pm cd doc a us zs G Y _ _ _ hmg hobj hints hlen hg => by
    obtain ⟨fd, hb, hF⟩ := F w mg fa _ (hY w _ Y) G.T.g hmg
    exact law_callG (hY w _ Y) G.T.g G.T.b G.T.builtins G.T.nolimit hg hobj hints (Nat.le_trans hlen hn2) hr hF hb fun H hO hS => hsp w H a zs hlen hO hS
/-! ### data that stands -/
mutual
inductive DpH (H : Hp) : V → PyData → Prop
  | non : DpH H .non .none
  | bl (b : Bool) : DpH H (.bl b) (.bool b)
  | int (i : Int) : DpH H (.int i) (.int i)
  | str (x : Str) : DpH H (.str x) (.str x)
  | lst {a : Addr} {xs : List V} {ds : List PyData} : H a = some (.lst xs) → DpHs H xs ds → DpH H (.ref a) (.list ds)
  | tup {a : Addr} {xs : List V} {ds : List PyData} : H a = some (.tup xs) → DpHs H xs ds → DpH H (.ref a) (.tuple ds)
inductive DpHs (H : Hp) : List V → List PyData → Prop
  | nil : DpHs H [] []
  | cons {v : V} {vs : List V} {d : PyData} {ds : List PyData} : DpH H v d → DpHs H vs ds → DpHs H (v :: vs) (d :: ds)
end
mutual
theorem DpH.same {H H' : Hp} (s : Same H H') : ∀ (d : PyData) (x : V), DpH H x d → DpH H' x d
  | .none, _, h => by cases h; exact .non
  | .bool _, _, h => by cases h; exact .bl _
  | .int _, _, h => by cases h; exact .int _
  | .str _, _, h => by cases h; exact .str _
  | .list ds, _, h => by
    cases h with
    | lst e t => exact .lst (s _ _ e) (DpHs.same s ds _ t)
  | .tuple ds, _, h => by
    cases h with
    | tup e t => exact .tup (s _ _ e) (DpHs.same s ds _ t)
  | .dict _, _, h => nomatch h
theorem DpHs.same {H H' : Hp} (s : Same H H') : ∀ (ds : List PyData) (xs : List V), DpHs H xs ds → DpHs H' xs ds
  | [], _, h => by cases h; exact .nil
  | d :: ds, _, h => by
    cases h with
    | cons h1 h2 => exact .cons (DpH.same s d _ h1) (DpHs.same s ds _ h2)
end
mutual
theorem DpH.dp {K : PySem.W.Frag} {H : Hp} : ∀ (d : PyData) (x : V), DpH H x d → Dp K H x d
  | .none, _, h => by cases h; exact .non
  | .bool _, _, h => by cases h; exact .bl _
  | .int _, _, h => by cases h; exact .int _
  | .str _, _, h => by cases h; exact .str _
  | .list ds, _, h => by
    cases h with
    | lst e t => exact .lst (SqL.of e) (DpHs.dp ds _ t)
  | .tuple ds, _, h => by
    cases h with
    | tup e t => exact .tup (SqT.of e) (DpHs.dp ds _ t)
  | .dict _, _, h => nomatch h
theorem DpHs.dp {K : PySem.W.Frag} {H : Hp} : ∀ (ds : List PyData) (xs : List V), DpHs H xs ds → DpAll K H xs ds
  | [], _, h => by cases h; exact .nil
  | d :: ds, _, h => by
    cases h with
    | cons h1 h2 => exact .cons (DpH.dp d _ h1) (DpHs.dp ds _ h2)
end
/-- a list of plain values and lists of such -/
def NestV (K : PySem.W.Frag) (H : Hp) (x : V) : Prop := ∃ a xs, x = .ref a ∧ SqL K H a xs ∧ xs ≠ [] ∧ xs.length ≤ 10 ∧ ∀ y ∈ xs, ScR y ∨ ∃ b ys, y = .ref b ∧ SqL K H b ys ∧ ys ≠ [] ∧ ys.length ≤ 10 ∧ ∀ z ∈ ys, ScR z
def tFmtRN (K : PySem.W.Frag) (te : TE) : TE := fun σ H Q => te σ H fun x H1 => (RepV K H1 x ∨ NestV K H1 x) ∧ ∀ m : Str, m.length ≤ 300000 → Q (.str m) H1
theorem pe_fmtRN {X : Cx} {e : Expr} {te : TE} {pos : Pos} {k : Nat} (hr : Room k X.A) (he : PE X e te) : PE X (.FormattedValue e 114 none pos) (tFmtRN X.K te) := by
  refine ⟨fun pins s σ H Q I h => wpAny_FormattedValue_repr (thn (he.run pins s σ H _ I h) fun v s1 ⟨x, H1, I1, r1, hx, q⟩ => ?_)⟩
  have hu := hr.un
  have hsl : sizeLine = 16777216 := sizeLine_eq
  have fin : ∀ (m : Str) (u : Tok) (s2 : Shared), m.length ≤ 300000 → Inv X pins σ H1 s2 → wpAny (model X.prog X.w) X.A (formatField (.str m u) Str.empty) (EP X pins σ Q) X.xe s2 := fun m u s2 hm I2 =>
    wpAny_formatField_str ⟨.str m, H1, I2, ⟨_, rfl⟩, q m hm⟩ ⟨.str m, H1, I2.tok _, ⟨_, rfl⟩, q m hm⟩ (by omega)
  rcases hx with (hx | ⟨a, xs, rfl, hs, hsc, hl⟩) | ⟨a, xs, rfl, hs, hne, hl, hit⟩
  · rcases hx with rfl | ⟨b, rfl⟩ | ⟨i, rfl, h1, h2⟩ | ⟨z, rfl, h1, h2⟩
    · cases r1; exact pyReprObj_none (fin _ _ _ (by decide +kernel) (I1.tok _))
    · cases r1; exact pyReprObj_bool (fin _ _ _ (by cases b <;> decide +kernel) (I1.tok _))
    · obtain ⟨t, rfl⟩ := r1; exact pyReprObj_int h1 (fin _ _ _ (Nat.le_trans h2 (by decide)) (I1.tok _))
    · obtain ⟨t, rfl⟩ := r1
      have := PySem.StrLaws.reprText_len z h2
      exact pyReprObj_str (fin _ _ _ (by omega) (I1.tok _)) (by omega)
  · cases r1
    rcases hs with ht | ht
    · obtain ⟨its, rv, ⟨o, ho, hcl, n, hd⟩, _⟩ := I1.tuple ht
      obtain ⟨ts, hT, hp⟩ := sc_all (prog := X.prog) (w := X.w) rv hsc
      have htx := fmt_text ts
      exact rj_repr_tuple (ts := ts) (by omega) ho hcl hd hT (by omega) fun m u tk hm => fin _ _ _ (by omega) (I1.tok _)
    · obtain ⟨its, rv, p, _⟩ := I1.list ht
      obtain ⟨ts, hT, hp⟩ := sc_all (prog := X.prog) (w := X.w) rv hsc
      have htx := listText_len ts
      obtain ⟨o, ho, hcl, n, hd⟩ := p.isList
      match its, hT, rv, hd with
      | [], _, _, hd => exact wpAny_pyReprObj_list_empty ⟨o, ho, hcl⟩ (by omega) ho hd (fin _ _ _ (by decide +kernel) (I1.tok _))
      | y :: ys, hT, rv, hd => exact rj_repr_list ⟨o, ho, hcl⟩ (by omega) ho hd (by rw [hT.length_eq]; rfl) (fun i z hz => reprAll_at hT i z (by simpa using hz)) (fun m h' u tk hm hk => fin _ _ _ (by omega) (I1.kept (t' := tk) hk)) (by omega)
  · cases r1
    obtain ⟨its, rv, p, _⟩ := I1.list hs
    obtain ⟨o, ho, hcl, n, hd⟩ := p.isList
    have hlen := rv.length
    match its, rv, hd, hlen with
    | [], rv, _, _ => cases rv; exact absurd rfl hne
    | y :: ys, rv, hd, hlen =>
      have hs10 : (y :: ys).toArray.size ≤ 10 := by rw [List.size_toArray]; omega
      have hm : (y :: ys).toArray.size * (2200 + 2) ≤ 10 * (2200 + 2) := Nat.mul_le_mul_right _ hs10
      refine rj_repr_listS (L := 2200) ⟨o, ho, hcl⟩ (by omega) ho hd (fun i z hz => ?_) (fun m h' u tk hm' hk => fin _ _ _ (by omega) (I1.kept (t' := tk) hk)) (by omega)
      have hz' : (y :: ys)[i]? = some z := by simpa using hz
      have hi : i < xs.length := by have := (List.getElem?_eq_some_iff.mp hz').1; omega
      obtain ⟨u2, hu2, ru2⟩ := rv.get (List.getElem?_eq_getElem hi)
      rw [hz'] at hu2
      obtain rfl := Option.some.inj hu2
      rcases hit _ (List.getElem_mem hi) with hsc | ⟨b, zs, eb, hb, hbn, hbl, hbs⟩
      · obtain ⟨t, h1, h2⟩ := sc_repr (prog := X.prog) (w := X.w) ru2 hsc
        exact RjSome.of h1 (by omega)
      · rw [eb] at ru2
        cases ru2
        obtain ⟨its2, rv2, p2, _⟩ := I1.list hb
        obtain ⟨o2, ho2, hcl2, n2, hd2⟩ := p2.isList
        obtain ⟨ts, hT, hp⟩ := sc_all (prog := X.prog) (w := X.w) rv2 hbs
        have htx := listText_len ts
        match its2, hT, rv2, hd2 with
        | [], _, rv2, _ => cases rv2; exact absurd rfl hbn
        | y2 :: ys2, hT, rv2, hd2 =>
          have g := RjSome.list (prog := X.prog) (w := X.w) ho2 hcl2 hd2 (by rw [hT.length_eq]; rfl) fun i z hz => reprAll_at hT i z (by simpa using hz)
          exact fun b hb A E s Q hu hk q => g b (by omega) A E s Q hu hk fun t h' tk ht => q t h' tk (by omega)
end RJ
end

section
set_option maxRecDepth 100000
set_option maxHeartbeats 2000000
namespace RJ
open PySem PySem.Spec PyProof.Rows L2
/-! ### == of two objects of an own class by its own __eq__, either answer -/
def rOwn (C : Addr) (sp : Sp) : R2 := fun x y H Q => ∃ (a b dx dy : Addr) (fs gs : List (Str × V)), x = .ref a ∧ y = .ref b ∧ H a = some (.ins C dx fs) ∧ H b = some (.ins C dy gs) ∧ sp [.ref a, .ref b] H (fun v H' => ∃ k, v = .bl k ∧ Q (.bl k) H') C8.E0
theorem op_own {X : Cx} {C : Addr} {sp : Sp} {k j : Nat} (c : C8.Met X.prog X.w X.K X.mg X.base k C "__eq__" sp []) (hr : Room j X.A) (hk : k ≤ j) : OpR X (compareOp .Eq) (rOwn C sp) := by
  obtain ⟨f, fd, ps, ds, hc, hm, F, hbd, d⟩ := c.ex
  cases d
  intro pins s σ H x y v u Q I rx ry hq
  obtain ⟨a, b, dx, dy, fs, gs, rfl, rfl, ha, hb', hsp⟩ := hq
  cases rx
  cases ry
  show wpAny (model X.prog X.w) X.A (richCompare .Eq (.ref a) (.ref b)) (EP X pins σ Q) X.xe s
  have sb : Sub X k X.A := ⟨hr.mono hk, rfl⟩
  obtain ⟨mA, J, _⟩ := ins_get I.hok ha
  obtain ⟨mB, J', _⟩ := ins_get I.hok hb'
  obtain ⟨od, J, _⟩ := J.look
  obtain ⟨od', J', _⟩ := J'.look
  obtain ⟨m, hF⟩ := I.fr
  refine PySem.W.cmp_K (op := .Eq) (tb := .ref C) sb.room.units0 hF I.ok.mod.kin J J'.type (by simp [PySem.W.notFirst]) hm.at_ hm.fn ?_
  have e0 : Env0 X.prog X.w X.K X.mg X.base X.A X.stack s H := by
    have e := I.env0
    exact ⟨e.frames, e.mod, e.bs, e.bsz, e.funs, e.frf, e.hok, e.bare⟩
  have hl := F.len _ _ _ _ hsp
  have r2 : Vals [V.ref a, V.ref b] [Value.ref a, Value.ref b] := .cons rfl (.cons rfl .nil)
  refine wpAny_call (codeAny_mono (F.run X.A X.stack s H ⟨[.ref a, .ref b], []⟩ [.ref a, .ref b] [.ref a, .ref b] _ C8.E0 sb.room e0 (by
    have := hbd s [.ref a, .ref b] I.kIn (by simpa using hl)
    simpa using this) r2 hsp) fun r s' hq => ?_)
  cases r with
  | error e => exact C8.pass0 (X := X) (E := C8.E0) pins σ H s e s' I hq
  | ok fl =>
    cases fl with
    | ret w =>
      obtain ⟨z, H', I', rz, kk, ez, q⟩ := I.after hq
      subst ez
      cases rz
      exact ⟨.bl kk, H', I', rfl, q⟩
    | next => exact False.elim hq
    | brk => exact False.elim hq
    | cont => exact False.elim hq
end RJ
end

section
set_option maxRecDepth 100000
set_option maxHeartbeats 2000000
namespace RJ
open PySem PySem.Spec PyProof.Rows L2
/-! ### == of an own object and a plain value, by the own __eq__ -/
/-- the type of a plain value -/
def TyN (H : Hp) (y : V) (T : String) : Prop := (y = .non ∧ T = "NoneType") ∨ (∃ i, y = .int i ∧ T = "int") ∨ (∃ z, y = .str z ∧ T = "str") ∨ ∃ a xs, y = .ref a ∧ H a = some (.tup xs) ∧ T = "tuple"
def rOwnV (K : PySem.W.Frag) (C : Addr) (sp : Sp) : R2 := fun x y H Q => ∃ (a dx : Addr) (fs : List (Str × V)) (T : String), x = .ref a ∧ H a = some (.ins C dx fs) ∧ TyN H y T ∧ PySem.W.notFirst K C (.type T) = true ∧ sp [.ref a, y] H (fun v H' => ∃ k, v = .bl k ∧ Q (.bl k) H') C8.E0
theorem op_ownV {X : Cx} {C : Addr} {sp : Sp} {k j : Nat} (c : C8.Met X.prog X.w X.K X.mg X.base k C "__eq__" sp []) (hr : Room j X.A) (hk : k ≤ j) : OpR X (compareOp .Eq) (rOwnV X.K C sp) := by
  obtain ⟨f, fd, ps, ds, hc, hm, F, hbd, d⟩ := c.ex
  cases d
  intro pins s σ H x y v u Q I rx ry hq
  obtain ⟨a, dx, fs, T, rfl, ha, hy, hnf, hsp⟩ := hq
  cases rx
  show wpAny (model X.prog X.w) X.A (richCompare .Eq (.ref a) u) (EP X pins σ Q) X.xe s
  have sb : Sub X k X.A := ⟨hr.mono hk, rfl⟩
  obtain ⟨mA, J, _⟩ := ins_get I.hok ha
  obtain ⟨od, J, _⟩ := J.look
  obtain ⟨m, hF⟩ := I.fr
  have hb : PySem.W.Looks (model X.prog X.w) s.heap (typeOf u) (.type T) := by
    rcases hy with ⟨rfl, rfl⟩ | ⟨i, rfl, rfl⟩ | ⟨z, rfl, rfl⟩ | ⟨b, xs, rfl, hb, rfl⟩
    · cases ry
      exact fun A Q E s k q => wpAny_typeOf (T := "NoneType") rfl q
    · obtain ⟨tk, rfl⟩ := ry
      exact fun A Q E s k q => wpAny_typeOf (T := "int") rfl q
    · obtain ⟨tk, rfl⟩ := ry
      exact fun A Q E s k q => wpAny_typeOf (T := "str") rfl q
    · cases ry
      obtain ⟨its, rv, p, _⟩ := I.tuple (SqT.of hb)
      obtain ⟨o, ho, hcl, _⟩ := p
      exact fun A Q E s k q => wpAny_typeOf (T := "tuple") ⟨o, k _ _ ho, hcl⟩ q
  refine PySem.W.cmp_K (op := .Eq) (tb := .type T) sb.room.units0 hF I.ok.mod.kin J hb hnf hm.at_ hm.fn ?_
  have e0 : Env0 X.prog X.w X.K X.mg X.base X.A X.stack s H := by
    have e := I.env0
    exact ⟨e.frames, e.mod, e.bs, e.bsz, e.funs, e.frf, e.hok, e.bare⟩
  have hl := F.len _ _ _ _ hsp
  have r2 : Vals [V.ref a, y] [Value.ref a, u] := .cons rfl (.cons ry .nil)
  refine wpAny_call (codeAny_mono (F.run X.A X.stack s H ⟨[.ref a, u], []⟩ [.ref a, u] [.ref a, y] _ C8.E0 sb.room e0 (by
    have := hbd s [.ref a, u] I.kIn (by simpa using hl)
    simpa using this) r2 hsp) fun r s' hq => ?_)
  cases r with
  | error e => exact C8.pass0 (X := X) (E := C8.E0) pins σ H s e s' I hq
  | ok fl =>
    cases fl with
    | ret w =>
      obtain ⟨z, H', I', rz, kk, ez, q⟩ := I.after hq
      subst ez
      cases rz
      exact ⟨.bl kk, H', I', rfl, q⟩
    | next => exact False.elim hq
    | brk => exact False.elim hq
    | cont => exact False.elim hq
end RJ
end

section
set_option maxRecDepth 100000
set_option maxHeartbeats 2000000
namespace RJ
open PySem PySem.Spec PyProof.Rows L2
/-! ### +, -, * of two objects of an own class by its own method -/
def rOwnB (C : Addr) (sp : Sp) : R2 := fun x y H Q => ∃ (a b dx dy : Addr) (fs gs : List (Str × V)), x = .ref a ∧ y = .ref b ∧ H a = some (.ins C dx fs) ∧ H b = some (.ins C dy gs) ∧ sp [.ref a, .ref b] H (fun v H' => ∃ p, v = .ref p ∧ Q (.ref p) H') C8.E0
theorem op_ownB {X : Cx} {op : Operator} {nm : Str} {C : Addr} {sp : Sp} {k j : Nat} (c : C8.Met X.prog X.w X.K X.mg X.base k C nm sp []) (hs : PySem.W.selfFirst X.K C = true) (hr : Room j X.A) (hk : k ≤ j) (hn : nm = PySem.dunder op.info.2 := by rfl) : OpR X (binaryOp op) (rOwnB C sp) := by
  obtain ⟨f, fd, ps, ds, hc, hm, F, hbd, d⟩ := c.ex
  cases d
  intro pins s σ H x y v u Q I rx ry hq
  obtain ⟨a, b, dx, dy, fs, gs, rfl, rfl, ha, hb', hsp⟩ := hq
  cases rx
  cases ry
  have sb : Sub X k X.A := ⟨hr.mono hk, rfl⟩
  obtain ⟨mA, J, _⟩ := ins_get I.hok ha
  obtain ⟨mB, J', _⟩ := ins_get I.hok hb'
  obtain ⟨od, J, _⟩ := J.look
  obtain ⟨od', J', _⟩ := J'.look
  obtain ⟨m, hF⟩ := I.fr
  subst hn
  refine PySem.W.binop_K (op := op) hF I.ok.mod.kin J J'.type hs hm.at_ hm.fn ?_
  have e0 : Env0 X.prog X.w X.K X.mg X.base X.A X.stack s H := by
    have e := I.env0
    exact ⟨e.frames, e.mod, e.bs, e.bsz, e.funs, e.frf, e.hok, e.bare⟩
  have hl := F.len _ _ _ _ hsp
  have r2 : Vals [V.ref a, V.ref b] [Value.ref a, Value.ref b] := .cons rfl (.cons rfl .nil)
  refine wpAny_call (codeAny_mono (F.run X.A X.stack s H ⟨[.ref a, .ref b], []⟩ [.ref a, .ref b] [.ref a, .ref b] _ C8.E0 sb.room e0 (by
    have := hbd s [.ref a, .ref b] I.kIn (by simpa using hl)
    simpa using this) r2 hsp) fun r s' hq => ?_)
  cases r with
  | error e => exact C8.pass0 (X := X) (E := C8.E0) pins σ H s e s' I hq
  | ok fl =>
    cases fl with
    | ret w =>
      obtain ⟨z, H', I', rz, p, ez, q⟩ := I.after hq
      subst ez
      cases rz
      exact ⟨.ref p, H', I', rfl, q⟩
    | next => exact False.elim hq
    | brk => exact False.elim hq
    | cont => exact False.elim hq
/-- // of ints by any divisor but 0 -/
theorem op_fdivNW {X : Cx} : OpR X (binaryOp .FloorDiv) (rI (fun _ j => j ≠ 0 ∧ j.natAbs.log2 < 9000) fun i j => .int (i.fdiv j)) := opI fun _ _ _ _ _ _ _ hc q => floordiv_int hc.1 q (.inl (PyProof.noPylong_of_log2 hc.2))
/-- isinstance where an error is handled -/
theorem call_isiS {X : Cx} {K : PySem.W.Frag} (h : X.K = K) : CallR X (.builtin "isinstance") (rIsi K) := by subst h; exact call_isi
end RJ
end

section
set_option maxRecDepth 100000
namespace RJ
open PySem PySem.Spec PyProof.Rows L2
def top (i : Nat) : Stmt := PySem.Challenge.pw_rankedjoins_k44_shares.main.body.getD i (.Pass ⟨0, 0, 0, 0⟩)
/-- what the top leaves of the built-in names and of the module's constants -/
structure Txt (K : PySem.W.Frag) (mg : Str → Option Value) : Prop where
  b_isinstance : mg "isinstance" = none
  b_len : mg "len" = none
  b_abs : mg "abs" = none
  b_int : mg "int" = none
  b_bool : mg "bool" = none
  b_str : mg "str" = none
  b_list : mg "list" = none
  b_range : mg "range" = none
  b_ValueError : mg "ValueError" = none
  b_divmod : mg "divmod" = none
theorem hu64_of {A : Around} {k : Nat} (hr : Room k A) : A.units + 64 < cLine := hr.units
/-! ### heaps -/
theorem Same.new {H H' : Hp} {p : Addr} {o : HO} (s : Same H H') (h : H' p = none) : Same H (upd H' p o) := fun b u e => by
  have := s b u e
  rw [upd_ne (ne_of_none this h)]; exact this
theorem Same.put {H H' : Hp} {p : Addr} {o : HO} (s : Same H H') (h : H p = none) : Same H (upd H' p o) := fun b u e => by
  rw [upd_ne (ne_of_none e h)]; exact s b u e
theorem same_new {H : Hp} {p : Addr} {o : HO} (h : H p = none) : Same H (upd H p o) := Same.new (Same.refl H) h
/-! ### values -/
/-- a row of pieces -/
def iv (l : List Nat) : List V := l.map fun (n : Nat) => V.int (n : Int)
theorem iv_len (l : List Nat) : (iv l).length = l.length := by rw [iv, List.length_map]
theorem iv_get {l : List Nat} {i : Nat} {v : V} (h : (iv l)[i]? = some v) : ∃ n : Nat, l[i]? = some n ∧ v = V.int (n : Int) := by
  rw [iv, List.getElem?_map] at h
  cases e : l[i]? with
  | none => rw [e] at h; cases h
  | some n => rw [e] at h; exact ⟨n, rfl, (Option.some.inj h).symm⟩
theorem iv_at {l : List Nat} {i n : Nat} (h : l[i]? = some n) : (iv l)[i]? = some (V.int (n : Int)) := by
  rw [iv, List.getElem?_map, h]; rfl
theorem iv_snoc (l : List Nat) (n : Nat) : iv l ++ [V.int (n : Int)] = iv (l ++ [n]) := by rw [iv, iv, List.map_append]; rfl
/-- a list or a tuple at p -/
def SeqAt (b : Bool) (H : Hp) (p : Addr) (xs : List V) : Prop := H p = some (match b with | true => .lst xs | false => .tup xs)
theorem SeqAt.same {b : Bool} {H H' : Hp} {p : Addr} {xs : List V} (h : SeqAt b H p xs) (s : Same H H') : SeqAt b H' p xs := s _ _ h
/-- a row at p: a list or a tuple -/
abbrev RowAt (b : Bool) (H : Hp) (p : Addr) (l : List Nat) : Prop := SeqAt b H p (iv l)
abbrev S (l : List Nat) : Str := SX.S l
theorem S_len (l : List Nat) : (S l).length = l.length := SX.S_len l
end RJ
end

section
set_option maxRecDepth 100000
set_option maxHeartbeats 2000000
namespace RJ
open PySem PySem.Spec PyProof.Rows L2

/-- is the value an integer that is no bool -/
def isIntV : V → Bool
  | .int _ => true
  | _ => false
/-- values whose kind isinstance knows -/
inductive Kind (H : Hp) : V → Prop
  | int (i : Int) : Kind H (.int i)
  | bl (b : Bool) : Kind H (.bl b)
  | non : Kind H .non
  | str (x : Str) : Kind H (.str x)
  | lst {a : Addr} {xs : List V} (e : H a = some (.lst xs)) : Kind H (.ref a)
  | tup {a : Addr} {xs : List V} (e : H a = some (.tup xs)) : Kind H (.ref a)
theorem Kind.isi {K : PySem.W.Frag} {H : Hp} {x : V} (k : Kind H x) : ∃ t, TyX K H x t ∧ ∃ b, PySem.W.kitOne K t (.type "bool") = some b ∧ ∃ c, PySem.W.kitOne K t (.type "int") = some c ∧ (c && !b) = isIntV x := by
  cases k with
  | int i => exact ⟨_, .base (.int i), false, kit_ty (by decide +kernel), true, kit_ty (by decide +kernel), rfl⟩
  | bl b => exact ⟨_, .base (.bl b), true, kit_ty (by decide +kernel), true, kit_ty (by decide +kernel), rfl⟩
  | non => exact ⟨_, .base .non, false, kit_ty (by decide +kernel), false, kit_ty (by decide +kernel), rfl⟩
  | str x => exact ⟨_, .base (.str x), false, kit_ty (by decide +kernel), false, kit_ty (by decide +kernel), rfl⟩
  | lst e => exact ⟨_, .base (.lst e), false, kit_ty (by decide +kernel), false, kit_ty (by decide +kernel), rfl⟩
  | tup e => exact ⟨_, .base (.tup e), false, kit_ty (by decide +kernel), false, kit_ty (by decide +kernel), rfl⟩
def numBelow (x : V) (n : Int) : Bool := match x with
  | .int i => decide (0 ≤ i) && decide (i < n)
  | _ => false
def sp_is_integer : Sp := fun vs H Q _ => ∃ x, vs = [x] ∧ Kind H x ∧ Q (.bl (isIntV x)) H
def sp_is_number_below : Sp := fun vs H Q _ => ∃ x n, vs = [x, .int n] ∧ Kind H x ∧ Q (.bl (numBelow x n)) H
def sp_is_sign : Sp := fun vs H Q _ => ∃ c, vs = [.str (S [c])] ∧ Q (.bl (decide (32 ≤ c ∧ c ≤ 126))) H
section
variable {P : Program} {w : World} {K : PySem.W.Frag} {mg : Str → Option Value} {base : Heap}
end
end RJ
end

section
set_option maxRecDepth 100000
set_option maxHeartbeats 2000000
namespace RJ
open PySem PySem.Spec PyProof.Rows L2
theorem walkG {n : Nat} {G : Hp → Prop} {PX : Nat → List V → Prop} : Walk (ItG n G PX) n G (fun i H v H' => ∃ T xs, v = .ref T ∧ H T = none ∧ H' = upd H T (.tup xs) ∧ PX i xs) :=
  ⟨fun _ _ hi h => ⟨h, hi⟩, fun _ h => ⟨h, Nat.le_refl _⟩, fun _ _ _ _ _ _ y => y⟩
theorem cutS_from (l : List Nat) (k : Nat) : cutS (S l) (some (k : Int)) none = S (l.drop k) := by
  show (⟨(((S l).cps.toList.drop (HT.sIx (S l).length 0 (some (k : Int)))).take (HT.sIx (S l).length (S l).length none - HT.sIx (S l).length 0 (some (k : Int)))).toArray⟩ : Str) = ⟨(l.drop k).toArray⟩
  rw [HT.sIx_nat, HT.sIx_none, S_len]
  have e : (l.drop (min k l.length)).take (l.length - min k l.length) = l.drop k := by
    by_cases h : k ≤ l.length
    · rw [Nat.min_eq_left h, List.take_of_length_le (by rw [List.length_drop]; omega)]
    · rw [Nat.min_eq_right (by omega), List.drop_eq_nil_of_le (by omega : l.length ≤ k), List.drop_length, List.take_nil]
  exact congrArg (fun z : List Nat => (⟨z.toArray⟩ : Str)) e
theorem S_get (l : List Nat) (i : Nat) : (S l).cps[i]? = l[i]? := by
  show l.toArray[i]? = l[i]?
  rw [List.getElem?_toArray]
theorem S_size (l : List Nat) : (S l).cps.size = l.length := List.size_toArray
theorem str1 (c : Nat) : (⟨#[c]⟩ : Str) = S [c] := rfl
/-- the source that a text is -/
theorem src_text (H : Hp) (l : List Nat) : SrcV H (.str (S l)) l.length (fun _ => True) (fun i v => ∃ c, (S l).cps[i]? = some c ∧ v = .str ⟨#[c]⟩) :=
  .inl ⟨S l, rfl, (S_size l).symm, rfl, rfl⟩

/-- neighbors ascend -/
def ascL (l : List Nat) : List Bool := (l.zip (l.drop 1)).map fun p => decide (p.1 < p.2)
def alOk (l : List Nat) : Bool := decide (1 ≤ l.length ∧ l.length ≤ 30) && ((ascL l).all id && (l.map fun c => decide (32 ≤ c ∧ c ≤ 126)).all id)
def sp_is_alphabet : Sp := fun vs H Q _ => ∃ l : List Nat, vs = [.str (S l)] ∧ l.length ≤ 1000 ∧ ∀ H', Same H H' → Q (.bl (alOk l)) H'
def sp_check_alphabet : Sp := fun vs H Q _ => ∃ l : List Nat, vs = [.str (S l)] ∧ l.length ≤ 1000 ∧ alOk l = true ∧ ∀ H', Same H H' → Q .non H'
theorem small_le {n : Nat} (h : n ≤ 1000) : n ≤ sizeLine := Nat.le_of_lt (small1000 h)
theorem map_take_succ {α β : Type} {f : α → β} {l : List α} {i : Nat} {x : α} (h : l[i]? = some x) : (l.take (i + 1)).map f = (l.take i).map f ++ [f x] := by
  rw [List.take_add_one, h, List.map_append]; rfl
theorem lt_cps (a b : Nat) : decide ((S [a]).cps.toList < (S [b]).cps.toList) = decide (a < b) := by
  apply decide_eq_decide.mpr
  show ([a] < [b]) ↔ a < b
  rw [List.cons_lt_cons_iff]
  constructor
  · rintro (h | ⟨_, h⟩)
    · exact h
    · exact absurd h (by simp)
  · exact .inl
section
variable {P : Program} {w : World} {K : PySem.W.Frag} {mg : Str → Option Value} {base : Heap}
end
end RJ
end

section
set_option maxRecDepth 100000
set_option maxHeartbeats 2000000
namespace RJ
open PySem PySem.Spec PyProof.Rows L2

/-- a list or a tuple walked -/
def ItSeq (K : PySem.W.Frag) (b : Bool) (a : Addr) : It := match b with | true => Itl K a | false => Itt K a
def iSeq (K : PySem.W.Frag) (tl : TE) : TI := fun σ H R => tl σ H fun x H1 => ∃ b a xs, x = .ref a ∧ SeqAt b H1 a xs ∧ R (ItSeq K b a) H1
theorem walk_seq {K : PySem.W.Frag} {b : Bool} {a : Addr} {xs : List V} : Walk (ItSeq K b a) xs.length (fun H => SeqAt b H a xs) (YAt xs) := by
  cases b with
  | true => exact walk_list.mono (fun H h => SqL.of h) fun _ _ _ _ _ _ y => y
  | false => exact walk_tup.mono (fun H h => SqT.of h) fun _ _ _ _ _ _ y => y
theorem pi_seq {X : Cx} {tg l : Expr} {tl : TE} (hl : PE X l tl) : PI X tg l (iSeq X.K tl) := by
  refine ⟨fun pins s σ H R I h => ?_⟩
  refine thn (hl.run pins s σ H _ I h) fun v s1 ⟨x, H1, I1, r1, q1⟩ => ?_
  obtain ⟨b, a, xs, e, hq, q⟩ := q1
  subst e
  cases r1
  cases b with
  | true =>
    obtain ⟨its, rv, p, hz⟩ := I1.list (SqL.of hq)
    refine wpAny_pyIter_list p.isList ?_
    refine ⟨s1.heap.objs.size, [s1.heap.objs.size], _, _, H1, rfl, I1.kept (t' := s1.toks) fun b o e => Heap.get?_push_of_some _ e, turn_list a _, ⟨_, Heap.get?_push_size _ rfl, rfl, rfl⟩, fun b hb => ?_, q⟩
    have e : b = s1.heap.objs.size := by simpa using hb
    subst e
    exact I1.fpOk (Nat.le_refl _) (I1.hok.fresh (Nat.le_refl _))
  | false =>
    obtain ⟨its, rv, p, hz⟩ := I1.tuple (SqT.of hq)
    refine wpAny_pyIter_tuple (show s1.heap.IsTuple a its.toArray from p) ?_
    refine ⟨s1.heap.objs.size, [s1.heap.objs.size], _, _, H1, rfl, I1.kept (t' := s1.toks) fun b o e => Heap.get?_push_of_some _ e, turn_tuple a _, ⟨_, Heap.get?_push_size _ rfl, rfl, rfl⟩, fun b hb => ?_, q⟩
    have e : b = s1.heap.objs.size := by simpa using hb
    subst e
    exact I1.fpOk (Nat.le_refl _) (I1.hok.fresh (Nat.le_refl _))
/-- a slice of a list or a tuple -/
def rSlSeq (K : PySem.W.Frag) : V → Option Int → Option Int → Hp → VK → Prop := fun x lo hi H Q => rSlL K x lo hi H Q ∨ rSlA K x lo hi H Q
theorem sl_seq {X : Cx} : SlR X (rSlSeq X.K) := SlR.or sl_list sl_tupA
/-! ### signs and their places -/
theorem at_one (al : List Nat) (c i : Nat) : PySem.StrLaws.At (S al) ⟨#[c]⟩ (S al).length i ↔ al[i]? = some c := by
  have h := PySem.StrLaws.subAt_one (S al) c i
  exact h
theorem find_sign {al : List Nat} {c : Nat} (h : c ∈ al) : ∃ r, Builtin.Str.occurrences (S al) ⟨#[c]⟩ 0 (S al).length 1 = al.idxOf c :: r := by
  rcases PySem.StrLaws.occ_head (S al) ⟨#[c]⟩ 1 (Nat.le_refl _) with ⟨_, hn⟩ | ⟨i, r, e, hi, hn⟩
  · obtain ⟨i, hi⟩ := List.mem_iff_getElem?.mp h
    exact absurd ((at_one al c i).mpr hi) (hn i)
  · refine ⟨r, ?_⟩
    rw [e]
    have hi' := (at_one al c i).mp hi
    obtain ⟨hil, hie⟩ := List.getElem?_eq_some_iff.mp hi'
    have key : al.idxOf c = i := by
      have h1 : al.idxOf c < al.length := List.idxOf_lt_length_iff.mpr h
      have h2 : al[al.idxOf c] = c := List.getElem_idxOf h1
      rcases Nat.lt_trichotomy (al.idxOf c) i with q | q | q
      · exact absurd ((at_one al c _).mpr (by rw [List.getElem?_eq_getElem h1, h2])) (hn _ q)
      · exact q
      · exact absurd hie (by
          have := List.not_of_lt_findIdx (p := (· == c)) (xs := al) (i := i) (by exact q)
          intro z
          simp [z] at this)
    rw [key]
def sp_letter_row : Sp := fun vs H Q _ => ∃ al t : List Nat, vs = [.str (S al), .str (S t)] ∧ (∀ c ∈ t, c ∈ al) ∧ t.length ≤ 1000 ∧ ∀ H' p, Same H H' → H p = none → H' p = some (.lst (iv (lets al t))) → Q (.ref p) H'
def sp_join_neighbors : Sp := fun vs H Q _ => ∃ (b : Bool) (a p : Addr) (row : List Nat) (l r m : Nat), vs = [.ref a, .ref p, .int (m : Int)] ∧ RowAt b H a row ∧ H p = some (.tup [.int (l : Int), .int (r : Int)]) ∧ m ≠ l ∧ row.length ≤ 1000 ∧
  ∀ H' q, Same H H' → H q = none → H' q = some (.lst (iv (pass l r m row))) → Q (.ref q) H'
/-- the pass as the program does it -/
def stepJ (l r m : Nat) (acc : List Nat) (x : Nat) : List Nat := if acc.getLast? = some l ∧ x = r then acc.dropLast ++ [m] else acc ++ [x]
theorem pass_m {l r m : Nat} (hm : m ≠ l) (t : List Nat) : pass l r m (m :: t) = m :: pass l r m t := by
  cases t with
  | nil => rfl
  | cons c t => rw [pass, if_neg fun q => hm q.1]
theorem stepJ_pass {l r m : Nat} (hm : m ≠ l) : ∀ (t : List Nat) (acc : List Nat) (a : Nat), t.foldl (stepJ l r m) (acc ++ [a]) = acc ++ pass l r m (a :: t)
  | [], acc, a => rfl
  | b :: t, acc, a => by
    rw [List.foldl_cons, pass]
    have hl : (acc ++ [a]).getLast? = some a := by rw [List.getLast?_append]; rfl
    by_cases c : a = l ∧ b = r
    · rw [if_pos c, stepJ, if_pos ⟨by rw [hl, c.1], c.2⟩, List.dropLast_concat, stepJ_pass hm t acc m, pass_m hm]
    · rw [if_neg c, stepJ, if_neg fun q => c ⟨Option.some.inj (hl.symm.trans q.1), q.2⟩, stepJ_pass hm t (acc ++ [a]) b, List.append_assoc]; rfl
theorem stepJ_all {l r m : Nat} (hm : m ≠ l) (row : List Nat) : row.foldl (stepJ l r m) [] = pass l r m row := by
  cases row with
  | nil => rfl
  | cons a t => exact stepJ_pass hm t [] a
theorem foldl_take_succ {α β : Type} {f : β → α → β} {l : List α} {i : Nat} {x : α} (h : l[i]? = some x) (b : β) : (l.take (i + 1)).foldl f b = f ((l.take i).foldl f b) x := by
  rw [List.take_add_one, h, List.foldl_append]; rfl
theorem stepJ_len (l r m : Nat) (acc : List Nat) (x : Nat) : (stepJ l r m acc x).length ≤ acc.length + 1 := by
  unfold stepJ
  split
  · rw [List.length_append, List.length_dropLast]; simp only [List.length_cons, List.length_nil]; omega
  · rw [List.length_append]; exact Nat.le_refl _
theorem foldJ_len (l r m : Nat) : ∀ (row acc : List Nat), (row.foldl (stepJ l r m) acc).length ≤ acc.length + row.length
  | [], acc => Nat.le_refl _
  | x :: row, acc => by
    rw [List.foldl_cons]
    have h1 := foldJ_len l r m row (stepJ l r m acc x)
    have h2 := stepJ_len l r m acc x
    rw [List.length_cons]; omega
theorem atI_neg1 {xs : List V} {v : V} (h : xs.getLast? = some v) : atI xs (-1) = some v := by
  obtain ⟨ys, rfl⟩ := List.getLast?_eq_some_iff.mp h
  exact atI_last ys v
theorem iv_last {l : List Nat} {n : Nat} (h : l.getLast? = some n) : (iv l).getLast? = some (V.int (n : Int)) := by
  obtain ⟨ys, rfl⟩ := List.getLast?_eq_some_iff.mp h
  rw [← iv_snoc, List.getLast?_append]; rfl
theorem ixN_neg1 {n : Nat} (h : 0 < n) : ixN n (-1) = some (n - 1) := by
  unfold ixN
  rw [if_neg (by omega), if_pos (by omega)]
  exact congrArg some (by omega)
theorem iv_set_last {l : List Nat} (m : Nat) (h : l ≠ []) : (iv l).set (l.length - 1) (V.int (m : Int)) = iv (l.dropLast ++ [m]) := by
  obtain ⟨ys, y, rfl⟩ : ∃ ys y, l = ys ++ [y] := ⟨l.dropLast, l.getLast h, (List.dropLast_concat_getLast h).symm⟩
  rw [List.dropLast_concat, ← iv_snoc, ← iv_snoc]
  have e : (ys ++ [y]).length - 1 = (iv ys).length := by rw [iv_len, List.length_append]; simp
  rw [e, List.set_append_right _ _ (Nat.le_refl _), Nat.sub_self]; rfl
theorem nat_eq_int (a b : Nat) : decide ((V.int (a : Int)) = V.int (b : Int)) = decide (a = b) := by
  apply decide_eq_decide.mpr
  constructor
  · intro h; injection h with h; omega
  · intro h; rw [h]
section
variable {P : Program} {w : World} {K : PySem.W.Frag} {mg : Str → Option Value} {base : Heap}
end
end RJ
end

section
set_option maxRecDepth 100000
set_option maxHeartbeats 2000000
namespace RJ
open PySem PySem.Spec PyProof.Rows L2
open PySem.W (minD AlikeAll alike alikeAll dataLt)
/-! ### the dict of ranks -/
def pkey (p : Nat × Nat) : List Key := [.inl (p.1 : Int), .inl (p.2 : Int)]
theorem pkey_inj {p q : Nat × Nat} (h : pkey p = pkey q) : p = q := by
  obtain ⟨a, b⟩ := p
  obtain ⟨c, d⟩ := q
  have h' : ([.inl (a : Int), .inl (b : Int)] : List Key) = [.inl (c : Int), .inl (d : Int)] := h
  injection h' with h1 h2
  injection h2 with h2 h3
  injection h1 with h1
  injection h2 with h2
  have e1 : a = c := by omega
  have e2 : b = d := by omega
  rw [e1, e2]
def kvsF : Nat → List (Nat × Nat) → List (List Key × V)
  | _, [] => []
  | k, p :: ps => (pkey p, V.int (k : Int)) :: kvsF (k + 1) ps
theorem kvsF_len : ∀ (k : Nat) (ps : List (Nat × Nat)), (kvsF k ps).length = ps.length
  | _, [] => rfl
  | k, p :: ps => congrArg (· + 1) (kvsF_len (k + 1) ps)
theorem kvsF_snoc : ∀ (k : Nat) (ps : List (Nat × Nat)) (p : Nat × Nat), kvsF k (ps ++ [p]) = kvsF k ps ++ [(pkey p, V.int ((k + ps.length : Nat) : Int))]
  | k, [], p => rfl
  | k, q :: ps, p => by
    show (pkey q, V.int (k : Int)) :: kvsF (k + 1) (ps ++ [p]) = (pkey q, V.int (k : Int)) :: (kvsF (k + 1) ps ++ _)
    rw [kvsF_snoc (k + 1) ps p, show k + 1 + ps.length = k + (q :: ps).length by rw [List.length_cons]; omega]
theorem idxOf_ne {p q : Nat × Nat} (ps : List (Nat × Nat)) (h : ¬ q = p) : (q :: ps).idxOf p = ps.idxOf p + 1 := by
  rw [List.idxOf_cons]
  have : (q == p) = false := beq_eq_false_iff_ne.mpr h
  rw [this]; rfl
theorem kvsF_get (p : Nat × Nat) : ∀ (k : Nat) (ps : List (Nat × Nat)), valV (kvsF k ps) (pkey p) = if p ∈ ps then some (V.int ((k + ps.idxOf p : Nat) : Int)) else none
  | k, [] => by rw [if_neg List.not_mem_nil]; exact valV_nil
  | k, q :: ps => by
    show valV ((pkey q, V.int (k : Int)) :: kvsF (k + 1) ps) (pkey p) = _
    by_cases h : q = p
    · subst h
      rw [valV_pos (p := (pkey q, V.int (k : Int))) rfl, if_pos (List.mem_cons_self ..), List.idxOf_cons_self]; rfl
    · rw [valV_neg (p := (pkey q, V.int (k : Int))) fun z => h (pkey_inj z), kvsF_get p (k + 1) ps]
      by_cases hm : p ∈ ps
      · have e : List.idxOf p (q :: ps) = ps.idxOf p + 1 := idxOf_ne _ h
        rw [if_pos hm, if_pos (List.mem_cons_of_mem _ hm), e, show k + 1 + ps.idxOf p = k + (ps.idxOf p + 1) by omega]
      · rw [if_neg hm, if_neg fun z => by
          rcases List.mem_cons.mp z with e | e
          · exact h e.symm
          · exact hm e]
theorem idxOf_get {p : Nat × Nat} {ps : List (Nat × Nat)} (h : p ∈ ps) : ps[ps.idxOf p]? = some p := by
  have h1 : ps.idxOf p < ps.length := List.idxOf_lt_length_iff.mpr h
  rw [List.getElem?_eq_getElem h1, List.getElem_idxOf h1]
theorem idxOf_le {p : Nat × Nat} : ∀ {ps : List (Nat × Nat)} {j : Nat}, ps[j]? = some p → ps.idxOf p ≤ j
  | [], j, h => by cases h
  | q :: ps, j, h => by
    by_cases e : q = p
    · subst e; rw [List.idxOf_cons_self]; exact Nat.zero_le _
    · cases j with
      | zero => exact absurd (Option.some.inj h) e
      | succ j =>
        rw [idxOf_ne _ e]
        exact Nat.succ_le_succ (idxOf_le h)
/-! ### tuples stay -/
def SameT (H H' : Hp) : Prop := ∀ b xs, H b = some (.tup xs) → H' b = some (.tup xs)
theorem Same.t {H H' : Hp} (s : Same H H') : SameT H H' := fun b xs e => s b _ e
theorem SameT.put {H : Hp} {p : Addr} {o : HO} {xs : List V} (h : H p = some (.lst xs)) : SameT H (upd H p o) := fun b ys e => by
  rw [upd_ne (ne_of e h (by intro z; cases z))]; exact e
/-- a rank and its pair, as a tuple -/
def TripAt (H : Hp) (v : V) (x : Nat × (Nat × Nat)) : Prop := ∃ t q, v = .ref t ∧ H t = some (.tup [.int (x.1 : Int), .ref q]) ∧ H q = some (.tup [.int (x.2.1 : Int), .int (x.2.2 : Int)])
theorem TripAt.same {H H' : Hp} {v : V} {x : Nat × (Nat × Nat)} (h : TripAt H v x) (s : SameT H H') : TripAt H' v x := by
  obtain ⟨t, q, e, h1, h2⟩ := h
  exact ⟨t, q, e, s _ _ h1, s _ _ h2⟩
theorem Paired.snoc {α β : Type} {F : α → β → Prop} {x : α} {y : β} (r : F x y) : ∀ {xs : List α} {ys : List β}, Paired F xs ys → Paired F (xs ++ [x]) (ys ++ [y])
  | _, _, .nil => .cons r .nil
  | _, _, .cons a t => .cons a (Paired.snoc r t)
theorem Paired.at {α β : Type} {F : α → β → Prop} : ∀ {xs : List α} {ys : List β} {i : Nat} {x : α}, Paired F xs ys → xs[i]? = some x → ∃ y, ys[i]? = some y ∧ F x y
  | _, _, _, _, .nil, e => by simp at e
  | _, _, 0, _, .cons r _, e => by simp at e; subst e; exact ⟨_, rfl, r⟩
  | _, _, i + 1, x, .cons _ t, e => by
    obtain ⟨y, h1, h2⟩ := Paired.at (i := i) (x := x) t (by simpa using e)
    exact ⟨y, by simpa using h1, h2⟩
theorem Paired.at2 {α β : Type} {F : α → β → Prop} : ∀ {xs : List α} {ys : List β} {i : Nat} {y : β}, Paired F xs ys → ys[i]? = some y → ∃ x, xs[i]? = some x ∧ F x y
  | _, _, _, _, .nil, e => by simp at e
  | _, _, 0, _, .cons r _, e => by simp at e; subst e; exact ⟨_, rfl, r⟩
  | _, _, i + 1, y, .cons _ t, e => by
    obtain ⟨x, h1, h2⟩ := Paired.at2 (i := i) (y := y) t (by simpa using e)
    exact ⟨x, by simpa using h1, h2⟩
def tripD (x : Nat × (Nat × Nat)) : PyData := .tuple [.int (x.1 : Int), .tuple [.int (x.2.1 : Int), .int (x.2.2 : Int)]]
theorem tripD_inj {x y : Nat × (Nat × Nat)} (h : tripD x = tripD y) : x = y := by
  obtain ⟨a, b, c⟩ := x
  obtain ⟨a', b', c'⟩ := y
  injection h with h
  injection h with h1 h
  injection h with h2 h3
  injection h2 with h2
  injection h2 with h4 h5
  injection h5 with h5 h6
  injection h1 with h1
  injection h4 with h4
  injection h5 with h5
  have e1 : a = a' := by exact Int.ofNat.inj h1
  have e2 : b = b' := by exact Int.ofNat.inj h4
  have e3 : c = c' := by exact Int.ofNat.inj h5
  rw [e1, e2, e3]
theorem trips_dp {K : PySem.W.Frag} {H : Hp} : ∀ {xs : List V} {ts : List (Nat × (Nat × Nat))}, Paired (TripAt H) xs ts → DpAll K H xs (ts.map tripD)
  | _, _, .nil => .nil
  | _, _, .cons ⟨t, q, e, h1, h2⟩ r => by
    subst e
    exact .cons (.tup (SqT.of h1) (.cons (.int _) (.cons (.tup (SqT.of h2) (.cons (.int _) (.cons (.int _) .nil))) .nil))) (trips_dp r)
theorem trips_alike (ts : List (Nat × (Nat × Nat))) : AlikeAll (ts.map tripD) := by
  refine ⟨fun x hx y hy => ?_, fun x hx e => ?_⟩
  · obtain ⟨a, _, rfl⟩ := List.mem_map.mp hx
    obtain ⟨b, _, rfl⟩ := List.mem_map.mp hy
    simp [tripD, alike, alikeAll]
  · obtain ⟨a, _, rfl⟩ := List.mem_map.mp hx
    cases e
theorem trips_depth : ∀ ts : List (Nat × (Nat × Nat)), PyData.depthAll (ts.map tripD) ≤ 60
  | [] => by simp [PyData.depthAll]
  | t :: ts => by
    have ih := trips_depth ts
    rw [List.map_cons, PyData.depthAll]
    refine Nat.max_le.mpr ⟨?_, ih⟩
    simp [tripD, PyData.depth, PyData.depthAll]
def rkD : PyData → Int
  | .tuple (.int r :: _) => r
  | _ => 0
theorem trip_lt {x y : Nat × (Nat × Nat)} : (dataLt (tripD x) (tripD y) = true → rkD (tripD x) ≤ rkD (tripD y)) ∧ (dataLt (tripD x) (tripD y) = false → rkD (tripD y) ≤ rkD (tripD x)) := by
  have h := PySem.W.dataLt_pair (x := .int (x.1 : Int)) (y := .tuple [.int (x.2.1 : Int), .int (x.2.2 : Int)]) (x' := .int (y.1 : Int)) (y' := .tuple [.int (y.2.1 : Int), .int (y.2.2 : Int)]) (by simp [alike]) (by simp [alike, alikeAll])
  have h' : dataLt (tripD x) (tripD y) = _ := h
  show (dataLt (tripD x) (tripD y) = true → (x.1 : Int) ≤ (y.1 : Int)) ∧ (dataLt (tripD x) (tripD y) = false → (y.1 : Int) ≤ (x.1 : Int))
  rw [h']
  by_cases e : (x.1 : Int) = (y.1 : Int)
  · exact ⟨fun _ => Int.le_of_eq e, fun _ => Int.le_of_eq e.symm⟩
  · have e2 : PyData.eqv (.int (x.1 : Int)) (.int (y.1 : Int)) = false := by
      rw [PyData.eqv]; exact beq_eq_false_iff_ne.mpr e
    rw [e2, if_neg Bool.false_ne_true, PySem.W.dataLt_int]
    refine ⟨fun z => ?_, fun z => ?_⟩
    · have := of_decide_eq_true z; omega
    · have := of_decide_eq_false z; omega
theorem slSeq_from1 {K : PySem.W.Frag} {b : Bool} {a : Addr} {xs : List V} {H : Hp} {Q : VK} (h : SeqAt b H a xs) (k : ∀ H1 q, Same H H1 → SeqAt b H1 q (xs.drop 1) → Q (.ref q) H1) : rSlSeq K (.ref a) (some 1) none H Q := by
  have ecut : cutV xs (some 1) none = xs.drop 1 := by
    unfold cutV
    rw [show (some (1 : Int)) = some ((1 : Nat) : Int) from rfl, HT.sIx_nat, HT.sIx_none]
    by_cases hl : 1 ≤ xs.length
    · rw [Nat.min_eq_left hl, List.take_of_length_le (by rw [List.length_drop]; exact Nat.le_refl _)]
    · have : xs = [] := List.eq_nil_of_length_eq_zero (by omega)
      subst this; rfl
  cases b with
  | true => exact .inl ⟨a, xs, rfl, SqL.of h, fun p hp => k _ p (same_new hp) (by rw [ecut]; exact upd_same)⟩
  | false =>
    refine .inr ⟨a, xs, rfl, SqT.of h, fun hw => k _ a (Same.refl H) ?_, fun _ p hp => k _ p (same_new hp) (by rw [ecut]; exact upd_same)⟩
    have hz := hw.1
    rw [show (some (1 : Int)) = some ((1 : Nat) : Int) from rfl, HT.sIx_nat] at hz
    have : xs = [] := List.eq_nil_of_length_eq_zero (by omega)
    subst this
    exact h
theorem src_seq {b : Bool} {H : Hp} {a : Addr} {xs : List V} (h : SeqAt b H a xs) : SrcV H (.ref a) xs.length (fun H => SeqAt b H a xs) (fun i v => xs[i]? = some v) := by
  cases b with
  | true => exact .inr (.inr ⟨a, xs, rfl, h, rfl, rfl, rfl⟩)
  | false => exact .inr (.inl ⟨a, xs, rfl, h, rfl, rfl, rfl⟩)
/-- the joins that are there, by places -/
def found (ps : List (Nat × Nat)) (row : List Nat) : List (Nat × (Nat × Nat)) := ((adjs row).filter fun p => decide (p ∈ ps)).map fun p => (ps.idxOf p, p)
def foundTo (ps : List (Nat × Nat)) (l : List (Nat × Nat)) : List (Nat × (Nat × Nat)) := (l.filter fun p => decide (p ∈ ps)).map fun p => (ps.idxOf p, p)
theorem foundTo_snoc (ps l : List (Nat × Nat)) (p : Nat × Nat) : foundTo ps (l ++ [p]) = if p ∈ ps then foundTo ps l ++ [(ps.idxOf p, p)] else foundTo ps l := by
  unfold foundTo
  rw [List.filter_append, List.map_append]
  by_cases h : p ∈ ps
  · rw [if_pos h, List.filter_cons_of_pos (by simpa using h)]; rfl
  · rw [if_neg h, List.filter_cons_of_neg (by simpa using h)]
    exact List.append_nil _
theorem foundTo_len (ps l : List (Nat × Nat)) : (foundTo ps l).length ≤ l.length := by
  unfold foundTo
  rw [List.length_map]; exact List.length_filter_le _ _
/-- what lowest holds -/
def LowAt (H : Hp) (ps : List (Nat × Nat)) (row : List Nat) (v : V) : Prop :=
  (v = .non ∧ ∀ p ∈ ps, p ∉ adjs row) ∨ ∃ (p : Nat × Nat) (r : Nat) (t q : Addr), v = .ref t ∧ H t = some (.tup [.int (r : Int), .ref q]) ∧ H q = some (.tup [.int (p.1 : Int), .int (p.2 : Int)]) ∧ ps[r]? = some p ∧ p ∈ adjs row ∧ ∀ (j : Nat) q, j < r → ps[j]? = some q → q ∉ adjs row
def sp_lowest_join : Sp := fun vs H Q _ => ∃ (d a : Addr) (b : Bool) (ps : List (Nat × Nat)) (row : List Nat), vs = [.ref d, .ref a] ∧ H d = some (.dT (kvsF 0 ps)) ∧ RowAt b H a row ∧ row.length ≤ 1000 ∧
  ∀ H' v, Same H H' → LowAt H' ps row v → Q v H'
section
variable {P : Program} {w : World} {K : PySem.W.Frag} {mg : Str → Option Value} {base : Heap}
end
end RJ
end

section
set_option maxRecDepth 100000
set_option maxHeartbeats 2000000
namespace RJ
open PySem PySem.Spec PyProof.Rows L2
def sp_join_down : Sp := fun vs H Q _ => ∃ (d a : Addr) (k : Bool) (b : Nat) (ps : List (Nat × Nat)) (row : List Nat), vs = [.ref d, .int (b : Int), .ref a] ∧ H d = some (.dT (kvsF 0 ps)) ∧ WF b ps ∧ RowAt k H a row ∧ row.length ≤ 1000 ∧
  ∀ H' q k', Same H H' → (k = true → k' = true) → RowAt k' H' q (cutL b ps row) → Q (.ref q) H'
section
variable {P : Program} {w : World} {K : PySem.W.Frag} {mg : Str → Option Value} {base : Heap}
end
end RJ
end

section
set_option maxRecDepth 100000
set_option maxHeartbeats 2000000
namespace RJ
open PySem PySem.Spec PyProof.Rows L2
/-! ### data on the heap -/
def strV (ts : List (List Nat)) : List V := ts.map fun t => V.str (S t)
theorem strV_len (ts : List (List Nat)) : (strV ts).length = ts.length := by rw [strV, List.length_map]
theorem strV_snoc (ts : List (List Nat)) (t : List Nat) : strV ts ++ [V.str (S t)] = strV (ts ++ [t]) := by rw [strV, strV, List.map_append]; rfl
theorem strV_at {ts : List (List Nat)} {i : Nat} (h : i < ts.length) : (strV ts)[i]? = some (V.str (S (ts.getD i []))) := by
  rw [strV, List.getElem?_map, List.getD_eq_getElem?_getD, List.getElem?_eq_getElem h]; rfl
def PairAt (H : Hp) (v : V) (p : Nat × Nat) : Prop := ∃ q, v = .ref q ∧ H q = some (.tup [.int (p.1 : Int), .int (p.2 : Int)])
theorem PairAt.same {H H' : Hp} {v : V} {p : Nat × Nat} (h : PairAt H v p) (s : SameT H H') : PairAt H' v p := by
  obtain ⟨q, e, h1⟩ := h
  exact ⟨q, e, s _ _ h1⟩
abbrev PairsAt (H : Hp) (vs : List V) (ps : List (Nat × Nat)) : Prop := Paired (PairAt H) vs ps
theorem PairsAt.same {H H' : Hp} {vs : List V} {ps : List (Nat × Nat)} (h : PairsAt H vs ps) (s : SameT H H') : PairsAt H' vs ps := Paired.mapP h fun _ _ q => q.same s
theorem S_inj {a b : List Nat} (h : S a = S b) : a = b := SX.S_inj h
theorem S_cat (a b : List Nat) : S a ++ S b = S (a ++ b) := SX.S_cat a b

def sp_may_follow : Sp := fun vs H Q _ => ∃ (al : List Nat) (ts : List (List Nat)) (ps : List (Nat × Nat)) (l r : Int) (tx d pr : Addr), vs = [.str (S al), .ref tx, .ref d, .ref pr] ∧ H tx = some (.lst (strV ts)) ∧ H d = some (.dT (kvsF 0 ps)) ∧ H pr = some (.tup [.int l, .int r]) ∧
  WF al.length ps ∧ (∀ t ∈ ts, ∀ c ∈ t, c ∈ al) ∧ (∀ t ∈ ts, t.length ≤ 40) ∧ al.length ≤ 1000 ∧ ts.length ≤ 1000 ∧
  (∀ p : Nat × Nat, l = (p.1 : Int) → r = (p.2 : Int) → okP al ts ps p → ∀ H', Same H H' → Q (.bl true) H') ∧ ((∀ p : Nat × Nat, l = (p.1 : Int) → r = (p.2 : Int) → ¬ okP al ts ps p) → ∀ H', Same H H' → Q (.bl false) H')
theorem numBelow_yes {i n : Nat} (h : i < n) : numBelow (.int (i : Int)) (n : Int) = true := by
  show (decide (0 ≤ (i : Int)) && decide ((i : Int) < (n : Int))) = true
  rw [decide_eq_true (by omega), decide_eq_true (by omega)]; rfl
theorem numBelow_int {l : Int} {n : Nat} (h : numBelow (.int l) (n : Int) = true) : ∃ a : Nat, l = (a : Int) ∧ a < n := by
  unfold numBelow at h
  rw [Bool.and_eq_true, decide_eq_true_eq, decide_eq_true_eq] at h
  exact ⟨l.toNat, by omega, by omega⟩
theorem iv_dp {K : PySem.W.Frag} {H : Hp} : ∀ l : List Nat, DpAll K H (iv l) (l.map fun (n : Nat) => PyData.int (n : Int))
  | [] => .nil
  | n :: l => .cons (.int _) (iv_dp l)
theorem eqv_iv : ∀ a b : List Nat, PyData.eqvAll (a.map fun (n : Nat) => PyData.int (n : Int)) (b.map fun (n : Nat) => PyData.int (n : Int)) = decide (a = b)
  | [], [] => by simp [PyData.eqvAll]
  | [], _ :: _ => by simp [PyData.eqvAll]
  | _ :: _, [] => by simp [PyData.eqvAll]
  | x :: a, y :: b => by
    rw [List.map_cons, List.map_cons, PyData.eqvAll, eqv_iv a b, PyData.eqv]
    by_cases h : x = y
    · subst h; simp
    · have : ((x : Int) == (y : Int)) = false := beq_eq_false_iff_ne.mpr (by omega)
      rw [this]
      simp [h]
theorem shaped_iv (l : List Nat) : SeqAt.shaped (.list (l.map fun (n : Nat) => PyData.int (n : Int))) = true := by
  have h1 : PyData.canLayAll0 (l.map fun (n : Nat) => PyData.int (n : Int)) = true := by
    induction l with
    | nil => simp [PyData.canLayAll0]
    | cons n l ih => rw [List.map_cons, PyData.canLayAll0, ih]; simp [PyData.canLay0]
  have h2 : PyData.depthAll (l.map fun (n : Nat) => PyData.int (n : Int)) = 0 := by
    clear h1
    induction l with
    | nil => simp [PyData.depthAll]
    | cons n l ih => rw [List.map_cons, PyData.depthAll, ih]; simp [PyData.depth]
  unfold SeqAt.shaped
  rw [PyData.canLay0, h1, PyData.depth, h2]; rfl
section
variable {P : Program} {w : World} {K : PySem.W.Frag} {mg : Str → Option Value} {base : Heap}
end
end RJ
end

section
set_option maxRecDepth 100000
set_option maxHeartbeats 4000000
namespace RJ
open PySem PySem.Spec PyProof.Rows L2
/-! ### the object -/
def f1 (al : List Nat) : List (Str × V) := putF "alphabet" (.str (S al)) []
def f2 (al : List Nat) (t : Addr) : List (Str × V) := putF "pairs" (.ref t) (f1 al)
def f3 (al : List Nat) (t tx : Addr) : List (Str × V) := putF "_texts" (.ref tx) (f2 al t)
def f4 (al : List Nat) (t tx d : Addr) : List (Str × V) := putF "_ranks" (.ref d) (f3 al t tx)
def f5 (al : List Nat) (t tx d e : Addr) : List (Str × V) := putF "_pieces_by_text" (.ref e) (f4 al t tx d)
theorem putF_len (f : Str) (v : V) : ∀ fs : List (Str × V), (putF f v fs).length ≤ fs.length + 1
  | [] => Nat.le_refl _
  | (g, x) :: r => by
    rw [putF]
    split
    · exact Nat.le_succ _
    · have := putF_len f v r
      simp only [List.length_cons]; omega
theorem f_len (al : List Nat) (t tx d : Addr) : (f1 al).length < 1000 ∧ (f2 al t).length < 1000 ∧ (f3 al t tx).length < 1000 ∧ (f4 al t tx d).length < 1000 := by
  have h1 : (f1 al).length ≤ 1 := putF_len _ _ _
  have h2 : (f2 al t).length ≤ (f1 al).length + 1 := putF_len _ _ _
  have h3 : (f3 al t tx).length ≤ (f2 al t).length + 1 := putF_len _ _ _
  have h4 : (f4 al t tx d).length ≤ (f3 al t tx).length + 1 := putF_len _ _ _
  omega
theorem f1_alphabet (al : List Nat)  : (f1 al).lookup ("alphabet" : Str) = some (.str (S al)) := by
  unfold f1
  rw [lookup_putF, if_pos rfl]
theorem f2_pairs (al : List Nat) (t : Addr) : (f2 al t).lookup ("pairs" : Str) = some (.ref t) := by
  unfold f2 f1
  rw [lookup_putF, if_pos rfl]
theorem f2_alphabet (al : List Nat) (t : Addr) : (f2 al t).lookup ("alphabet" : Str) = some (.str (S al)) := by
  unfold f2 f1
  rw [lookup_putF, if_neg (by decide +kernel), lookup_putF, if_pos rfl]
theorem f3_texts (al : List Nat) (t : Addr) (tx : Addr) : (f3 al t tx).lookup ("_texts" : Str) = some (.ref tx) := by
  unfold f3 f2 f1
  rw [lookup_putF, if_pos rfl]
theorem f3_pairs (al : List Nat) (t : Addr) (tx : Addr) : (f3 al t tx).lookup ("pairs" : Str) = some (.ref t) := by
  unfold f3 f2 f1
  rw [lookup_putF, if_neg (by decide +kernel), lookup_putF, if_pos rfl]
theorem f3_alphabet (al : List Nat) (t : Addr) (tx : Addr) : (f3 al t tx).lookup ("alphabet" : Str) = some (.str (S al)) := by
  unfold f3 f2 f1
  rw [lookup_putF, if_neg (by decide +kernel), lookup_putF, if_neg (by decide +kernel), lookup_putF, if_pos rfl]
theorem f4_ranks (al : List Nat) (t : Addr) (tx : Addr) (d : Addr) : (f4 al t tx d).lookup ("_ranks" : Str) = some (.ref d) := by
  unfold f4 f3 f2 f1
  rw [lookup_putF, if_pos rfl]
theorem f4_texts (al : List Nat) (t : Addr) (tx : Addr) (d : Addr) : (f4 al t tx d).lookup ("_texts" : Str) = some (.ref tx) := by
  unfold f4 f3 f2 f1
  rw [lookup_putF, if_neg (by decide +kernel), lookup_putF, if_pos rfl]
theorem f4_pairs (al : List Nat) (t : Addr) (tx : Addr) (d : Addr) : (f4 al t tx d).lookup ("pairs" : Str) = some (.ref t) := by
  unfold f4 f3 f2 f1
  rw [lookup_putF, if_neg (by decide +kernel), lookup_putF, if_neg (by decide +kernel), lookup_putF, if_pos rfl]
theorem f4_alphabet (al : List Nat) (t : Addr) (tx : Addr) (d : Addr) : (f4 al t tx d).lookup ("alphabet" : Str) = some (.str (S al)) := by
  unfold f4 f3 f2 f1
  rw [lookup_putF, if_neg (by decide +kernel), lookup_putF, if_neg (by decide +kernel), lookup_putF, if_neg (by decide +kernel), lookup_putF, if_pos rfl]
theorem f5_pieces_by_text (al : List Nat) (t : Addr) (tx : Addr) (d : Addr) (e : Addr) : (f5 al t tx d e).lookup ("_pieces_by_text" : Str) = some (.ref e) := by
  unfold f5 f4 f3 f2 f1
  rw [lookup_putF, if_pos rfl]
theorem f5_ranks (al : List Nat) (t : Addr) (tx : Addr) (d : Addr) (e : Addr) : (f5 al t tx d e).lookup ("_ranks" : Str) = some (.ref d) := by
  unfold f5 f4 f3 f2 f1
  rw [lookup_putF, if_neg (by decide +kernel), lookup_putF, if_pos rfl]
theorem f5_texts (al : List Nat) (t : Addr) (tx : Addr) (d : Addr) (e : Addr) : (f5 al t tx d e).lookup ("_texts" : Str) = some (.ref tx) := by
  unfold f5 f4 f3 f2 f1
  rw [lookup_putF, if_neg (by decide +kernel), lookup_putF, if_neg (by decide +kernel), lookup_putF, if_pos rfl]
theorem f5_pairs (al : List Nat) (t : Addr) (tx : Addr) (d : Addr) (e : Addr) : (f5 al t tx d e).lookup ("pairs" : Str) = some (.ref t) := by
  unfold f5 f4 f3 f2 f1
  rw [lookup_putF, if_neg (by decide +kernel), lookup_putF, if_neg (by decide +kernel), lookup_putF, if_neg (by decide +kernel), lookup_putF, if_pos rfl]
theorem f5_alphabet (al : List Nat) (t : Addr) (tx : Addr) (d : Addr) (e : Addr) : (f5 al t tx d e).lookup ("alphabet" : Str) = some (.str (S al)) := by
  unfold f5 f4 f3 f2 f1
  rw [lookup_putF, if_neg (by decide +kernel), lookup_putF, if_neg (by decide +kernel), lookup_putF, if_neg (by decide +kernel), lookup_putF, if_neg (by decide +kernel), lookup_putF, if_pos rfl]
theorem f5_no (al : List Nat) (t : Addr) (tx : Addr) (d : Addr) (e : Addr) {m : Str} (h1 : ¬ m = "_pieces_by_text") (h2 : ¬ m = "_ranks") (h3 : ¬ m = "_texts") (h4 : ¬ m = "pairs") (h5 : ¬ m = "alphabet") : (f5 al t tx d e).lookup m = none := by
  unfold f5 f4 f3 f2 f1
  rw [lookup_putF, if_neg h1, lookup_putF, if_neg h2, lookup_putF, if_neg h3, lookup_putF, if_neg h4, lookup_putF, if_neg h5]; rfl
def kvsT : Nat → List (List Nat) → List (Key × V)
  | _, [] => []
  | k, t :: ts => (.inr (S t), V.int (k : Int)) :: kvsT (k + 1) ts
theorem kvsT_snoc : ∀ (k : Nat) (ts : List (List Nat)) (t : List Nat), kvsT k (ts ++ [t]) = kvsT k ts ++ [(.inr (S t), V.int ((k + ts.length : Nat) : Int))]
  | k, [], t => rfl
  | k, u :: ts, t => by
    show (Sum.inr (S u), V.int (k : Int)) :: kvsT (k + 1) (ts ++ [t]) = (Sum.inr (S u), V.int (k : Int)) :: (kvsT (k + 1) ts ++ _)
    rw [kvsT_snoc (k + 1) ts t, show k + 1 + ts.length = k + (u :: ts).length by rw [List.length_cons]; omega]
theorem kvsT_len : ∀ (k : Nat) (ts : List (List Nat)), (kvsT k ts).length = ts.length
  | _, [] => rfl
  | k, p :: ps => congrArg (· + 1) (kvsT_len (k + 1) ps)
theorem kvsT_get (t : List Nat) : ∀ (k : Nat) (ts : List (List Nat)), valV (kvsT k ts) (.inr (S t)) = if t ∈ ts then some (V.int ((k + ts.idxOf t : Nat) : Int)) else none
  | k, [] => by rw [if_neg List.not_mem_nil]; exact valV_nil
  | k, u :: ts => by
    show valV ((Sum.inr (S u), V.int (k : Int)) :: kvsT (k + 1) ts) (.inr (S t)) = _
    by_cases h : u = t
    · subst h
      rw [valV_pos (p := (Sum.inr (S u), V.int (k : Int))) rfl, if_pos (List.mem_cons_self ..), List.idxOf_cons_self]; rfl
    · rw [valV_neg (p := (Sum.inr (S u), V.int (k : Int))) fun z => h (S_inj (Sum.inr.inj z)), kvsT_get t (k + 1) ts]
      have e : List.idxOf t (u :: ts) = ts.idxOf t + 1 := by
        rw [List.idxOf_cons, show (u == t) = false from beq_eq_false_iff_ne.mpr h]; rfl
      by_cases hm : t ∈ ts
      · rw [if_pos hm, if_pos (List.mem_cons_of_mem _ hm), e, show k + 1 + ts.idxOf t = k + (ts.idxOf t + 1) by omega]
      · rw [if_neg hm, if_neg fun z => by
          rcases List.mem_cons.mp z with e | e
          · exact h e.symm
          · exact hm e]
/-- a list of joins at p -/
def JoinsAt (C : Addr) (H : Hp) (p : Addr) (al : List Nat) (ps : List (Nat × Nat)) : Prop := ∃ (dx t tx d e : Addr) (vs : List V), H p = some (.ins C dx (f5 al t tx d e)) ∧ H t = some (.tup vs) ∧ PairsAt H vs ps ∧
  H tx = some (.lst (strV (textsOf al ps))) ∧ H d = some (.dT (kvsF 0 ps)) ∧ H e = some (.dK (kvsT 0 (textsOf al ps)))
theorem JoinsAt.same {C p : Addr} {H H' : Hp} {al : List Nat} {ps : List (Nat × Nat)} (h : JoinsAt C H p al ps) (s : Same H H') : JoinsAt C H' p al ps := by
  obtain ⟨dx, t, tx, d, e, vs, h1, h2, h3, h4, h5, h6⟩ := h
  exact ⟨dx, t, tx, d, e, vs, s _ _ h1, s _ _ h2, h3.same (Same.t s), s _ _ h4, s _ _ h5, s _ _ h6⟩
/-- the class as the top has made it -/
structure JTxt (K : PySem.W.Frag) (C : Addr) : Prop where
  cl : Cls K C
  n1 : NoAttr K C "alphabet"
  n2 : NoAttr K C "pairs"
  n3 : NoAttr K C "_texts"
  n4 : NoAttr K C "_ranks"
  n5 : NoAttr K C "_pieces_by_text"
/-- all but p as it was -/
def SameX (p : Addr) (H H' : Hp) : Prop := ∀ b o, b ≠ p → H b = some o → H' b = some o
theorem Same.x {p : Addr} {H H' : Hp} (s : Same H H') : SameX p H H' := fun b o _ e => s b o e
theorem SameX.then {p : Addr} {H H1 H2 : Hp} (s : SameX p H H1) (t : Same H1 H2) : SameX p H H2 := fun b o h e => t b o (s b o h e)
theorem SameX.self {p : Addr} {H H1 : Hp} {o : HO} (s : SameX p H H1) : SameX p H (upd H1 p o) := fun b u h e => by rw [upd_ne h]; exact s b u h e
theorem SameX.put {p q : Addr} {H H1 : Hp} {o : HO} (s : SameX p H H1) (hq : H q = none) : SameX p H (upd H1 q o) := fun b u h e => by rw [upd_ne (ne_of_none e hq)]; exact s b u h e
theorem SameX.free {p q : Addr} {H H1 : Hp} (s : SameX p H H1) (hq : H1 q = none) (hp : ∃ o, H1 p = some o) : H q = none := by
  cases e : H q with
  | none => rfl
  | some o =>
    obtain ⟨u, hu⟩ := hp
    have h : q ≠ p := fun z => by rw [z, hu] at hq; cases hq
    rw [s q o h e] at hq; cases hq
theorem SameT.putO {H : Hp} {p : Addr} {o o' : HO} (h : H p = some o') (hne : ∀ xs, HO.tup xs ≠ o') : SameT H (upd H p o) := fun b ys e => by
  rw [upd_ne (ne_of e h (hne ys))]; exact e
/-- what __init__ keeps while it goes through the joins, behind n of them -/
def InitAt (C : Addr) (H : Hp) (p dx t tx d : Addr) (vs : List V) (al : List Nat) (ps : List (Nat × Nat)) (n : Nat) : Prop := H p = some (.ins C dx (f4 al t tx d)) ∧ H t = some (.tup vs) ∧ PairsAt H vs ps ∧
  H tx = some (.lst (strV (textsOf al (ps.take n)))) ∧ H d = some (.dT (kvsF 0 (ps.take n)))
theorem InitAt.same {C p dx t tx d : Addr} {H H' : Hp} {vs : List V} {al : List Nat} {ps : List (Nat × Nat)} {n : Nat} (h : InitAt C H p dx t tx d vs al ps n) (s : Same H H') : InitAt C H' p dx t tx d vs al ps n :=
  ⟨s _ _ h.1, s _ _ h.2.1, h.2.2.1.same (Same.t s), s _ _ h.2.2.2.1, s _ _ h.2.2.2.2⟩
theorem dc_it {J : It} {n : Nat} {G : Hp → Prop} {Y : Nat → Hp → V → Hp → Prop} (w : Walk J n G Y) {g : TG} {tt : TT} {tk tv : TE} {vs : List Nat} {σ : L2.St} {H1 : Hp} {D : Addr} {Qd : Hp → Prop} (Pv : Nat → Hp → Prop) (h0 : Pv 0 (upd H1 D (.dK []))) (hG : ∀ i H, i ≤ n → Pv i H → G H)
    (hs : ∀ i x H H', i < n → Pv i H → Y i H x H' → g x (wipe σ vs) H' fun σ2 H2 => wipe σ2 vs = wipe σ vs ∧ tt σ2 H2 fun b H3 =>
      if b = true then tk σ2 H3 fun y H4 => tv σ2 H4 fun z H5 => ∃ (kvs : List (Key × V)) (k : Key), y = kV k ∧ H5 D = some (.dK kvs) ∧ kvs.length < sizeLine ∧ Pv (i + 1) (upd H5 D (.dK (putK kvs k z))) else Pv (i + 1) H3) (hd : ∀ H, Pv n H → Qd H) :
    ∃ W : Nat → Nat → Hp → Prop, (∃ m, W 0 m (upd H1 D (.dK []))) ∧ ∀ i m H, W i m H →
      (J.stop i H ∧ Qd H) ∨ (J.go i H ∧ ∃ Nx : Hp → Prop, (∀ H', Nx H' → ∃ m', m' < m ∧ W (i + 1) m' H') ∧ ∀ x H', J.yld i H x H' → g x (wipe σ vs) H' fun σ2 H2 => wipe σ2 vs = wipe σ vs ∧ tt σ2 H2 fun b H3 =>
        if b = true then tk σ2 H3 fun y H4 => tv σ2 H4 fun z H5 => ∃ (kvs : List (Key × V)) (k : Key), y = kV k ∧ H5 D = some (.dK kvs) ∧ kvs.length < sizeLine ∧ Nx (upd H5 D (.dK (putK kvs k z))) else Nx H3) := by
  refine ⟨fun i m H => m = n - i ∧ i ≤ n ∧ Pv i H, ⟨n, by simp, Nat.zero_le _, h0⟩, ?_⟩
  rintro i m H ⟨rfl, hi, p⟩
  have q := hG i H hi p
  by_cases hlt : i < n
  · refine .inr ⟨w.goes i H hlt q, Pv (i + 1), fun H' p' => ⟨n - (i + 1), by omega, rfl, hlt, p'⟩, fun x H' y => hs i x H H' hlt p (w.yields i H x H' hlt q y)⟩
  · have e : i = n := by omega
    subst e
    exact .inl ⟨w.stops H q, hd H p⟩

def sp_init (C : Addr) : Sp := fun vs H Q _ => ∃ (p pa dx : Addr) (b : Bool) (al : List Nat) (ps : List (Nat × Nat)) (us : List V), vs = [.ref p, .str (S al), .ref pa] ∧ H p = some (.ins C dx []) ∧ SeqAt b H pa us ∧ PairsAt H us ps ∧
  alOk al = true ∧ al.Nodup ∧ al.length ≤ 30 ∧ Proper al ps ∧ ps.length ≤ 100 ∧ ∀ H', SameX p H H' → JoinsAt C H' p al ps → Q .non H'
section
variable {P : Program} {w : World} {K : PySem.W.Frag} {mg : Str → Option Value} {base : Heap}
end
end RJ
end

section
set_option maxRecDepth 100000
set_option maxHeartbeats 4000000
namespace RJ
open PySem PySem.Spec PyProof.Rows L2

theorem joinL_nil : ∀ ys : List (List Nat), TL.joinL [] ys = ys.flatten
  | [] => rfl
  | [y] => by show y = y ++ []; rw [List.append_nil]
  | y :: z :: ys => by
    show y ++ ([] ++ TL.joinL [] (z :: ys)) = y ++ (z :: ys).flatten
    rw [List.nil_append, joinL_nil (z :: ys)]
def sp_has_piece (C : Addr) : Sp := fun vs H Q _ => ∃ (p : Addr) (x : V) (al : List Nat) (ps : List (Nat × Nat)), vs = [.ref p, x] ∧ JoinsAt C H p al ps ∧ Kind H x ∧ Q (.bl (numBelow x ((al.length + ps.length : Nat) : Int))) H
def sp_check_piece (C : Addr) : Sp := fun vs H Q _ => ∃ (p : Addr) (i : Nat) (al : List Nat) (ps : List (Nat × Nat)), vs = [.ref p, .int (i : Int)] ∧ JoinsAt C H p al ps ∧ i < al.length + ps.length ∧ Q .non H
def sp_text_of (C : Addr) : Sp := fun vs H Q _ => ∃ (p : Addr) (i : Nat) (al : List Nat) (ps : List (Nat × Nat)), vs = [.ref p, .int (i : Int)] ∧ JoinsAt C H p al ps ∧ i < al.length + ps.length ∧ Q (.str (S ((textsOf al ps).getD i []))) H
def sp_join_row (C : Addr) : Sp := fun vs H Q _ => ∃ (p a : Addr) (k : Bool) (row al : List Nat) (ps : List (Nat × Nat)), vs = [.ref p, .ref a] ∧ JoinsAt C H p al ps ∧ WF al.length ps ∧ RowAt k H a row ∧ row.length ≤ 1000 ∧ al.length ≤ 1000 ∧
  ∀ H' q k', Same H H' → (k = true → k' = true) → RowAt k' H' q (cutL al.length ps row) → Q (.ref q) H'
def sp_letters_of (C : Addr) : Sp := fun vs H Q _ => ∃ (p : Addr) (t al : List Nat) (ps : List (Nat × Nat)), vs = [.ref p, .str (S t)] ∧ JoinsAt C H p al ps ∧ (∀ c ∈ t, c ∈ al) ∧ t.length ≤ 1000 ∧
  ∀ H' q, Same H H' → H q = none → RowAt false H' q (lets al t) → Q (.ref q) H'
def sp_cut (C : Addr) : Sp := fun vs H Q _ => ∃ (p : Addr) (t al : List Nat) (ps : List (Nat × Nat)), vs = [.ref p, .str (S t)] ∧ JoinsAt C H p al ps ∧ WF al.length ps ∧ (∀ c ∈ t, c ∈ al) ∧ t.length ≤ 1000 ∧ al.length ≤ 1000 ∧
  ∀ H' q, Same H H' → RowAt false H' q (cutL al.length ps (lets al t)) → Q (.ref q) H'
def sp_text_of_row (C : Addr) : Sp := fun vs H Q _ => ∃ (p a : Addr) (b : Bool) (row al : List Nat) (ps : List (Nat × Nat)), vs = [.ref p, .ref a] ∧ JoinsAt C H p al ps ∧ Proper al ps ∧ RowAt b H a row ∧ (∀ i ∈ row, i < al.length + ps.length) ∧ row.length ≤ 1000 ∧
  ∀ H', Same H H' → Q (.str (S (textR (textsOf al ps) row))) H'
theorem sum_le {l : List (List Nat)} (h : ∀ t ∈ l, t.length ≤ 40) : ((l.map fun t => S t).map (·.length)).sum ≤ 40 * l.length := by
  induction l with
  | nil => exact Nat.le_refl _
  | cons t l ih =>
    have h1 := ih fun u hu => h u (List.mem_cons_of_mem _ hu)
    have h2 := h t (List.mem_cons_self ..)
    rw [List.map_cons, List.map_cons, List.sum_cons, S_len, List.length_cons]
    omega
section
variable {P : Program} {w : World} {K : PySem.W.Frag} {mg : Str → Option Value} {base : Heap}
end
end RJ
end

section
set_option maxRecDepth 100000
set_option maxHeartbeats 4000000
namespace RJ
open PySem PySem.Spec PyProof.Rows L2
theorem hu65_of {A : Around} {k : Nat} (hr : Room k A) : A.units + 65 < cLine := by have := hr.un; omega
theorem pe_never {X : Cx} {e : Expr} : PE X e (fun _ _ _ => False) := ⟨fun _ _ _ _ _ _ h => h.elim⟩

def sp_numbers : Sp := fun vs H Q _ => ∃ (c a : Int) (m : Nat), vs = [.int c, .int a, .int (m : Int)] ∧ 0 ≤ a ∧ a ≤ 1000 ∧ m ≤ 200 ∧
  ∀ H' p ns, Same H H' → H p = none → ns.length = m → (∀ n ∈ ns, n < 1000) → H' p = some (.lst (iv ns)) → Q (.ref p) H'
/-- the same data of this depth at most -/
def scalV : V → Bool
  | .non => true
  | .bl _ => true
  | .int _ => true
  | .str _ => true
  | _ => false
def SameD (H : Hp) : Nat → V → V → Prop
  | 0, x, y => x = y ∧ scalV x = true
  | n + 1, x, y => (x = y ∧ scalV x = true) ∨ ∃ a b xs ys, x = .ref a ∧ y = .ref b ∧ H a = some (.tup xs) ∧ H b = some (.tup ys) ∧ xs.length ≤ 1000 ∧ Paired (SameD H n) xs ys
theorem SameD.flat {H : Hp} {x : V} (h : scalV x = true) : ∀ n, SameD H n x x
  | 0 => ⟨rfl, h⟩
  | _ + 1 => .inl ⟨rfl, h⟩
theorem Paired.same {α : Type} {F : α → α → Prop} : ∀ {l : List α}, (∀ x ∈ l, F x x) → Paired F l l
  | [], _ => .nil
  | x :: l, h => .cons (h x (List.mem_cons_self ..)) (Paired.same fun y hy => h y (List.mem_cons_of_mem _ hy))
theorem SameD.row {H : Hp} {a b : Addr} {l : List Nat} (ha : H a = some (.tup (iv l))) (hb : H b = some (.tup (iv l))) (hl : l.length ≤ 1000) : SameD H 1 (.ref a) (.ref b) :=
  .inr ⟨a, b, _, _, rfl, rfl, ha, hb, by rw [iv_len]; exact hl, Paired.same fun x hx => by
    obtain ⟨n, _, rfl⟩ := List.mem_map.mp hx
    exact ⟨rfl, rfl⟩⟩
theorem SameD.mono {H H' : Hp} (s : Same H H') : ∀ {n : Nat} {x y : V}, SameD H n x y → SameD H' n x y
  | 0, _, _, h => h
  | n + 1, _, _, h => by
    rcases h with h | ⟨a, b, xs, ys, h1, h2, h3, h4, h5, h6⟩
    · exact .inl h
    · exact .inr ⟨a, b, xs, ys, h1, h2, s _ _ h3, s _ _ h4, h5, Paired.mapP h6 fun x y q => SameD.mono s q⟩
def sp_same (n : Nat) : Sp := fun vs H Q _ => ∃ x y, vs = [x, y] ∧ SameD H n x y ∧ ∀ H', Same H H' → Q (.bl true) H'
theorem emod_nat (z m : Int) (h : 0 < m) : ∃ n : Nat, z % m = (n : Int) ∧ (n : Int) < m := ⟨(z % m).toNat, by have := Int.emod_nonneg z (by omega : m ≠ 0); omega, by have := Int.emod_lt_of_pos z h; have := Int.emod_nonneg z (by omega : m ≠ 0); omega⟩
theorem abs_nonneg (c : Int) : 0 ≤ (if c < 0 then -c else c) := by split <;> omega
section
variable {P : Program} {w : World} {K : PySem.W.Frag} {mg : Str → Option Value} {base : Heap}
end
end RJ
end

section
set_option maxRecDepth 100000
set_option maxHeartbeats 4000000
namespace RJ
open PySem PySem.Spec PyProof.Rows L2

/-! ### the alphabet -/
/-- the signs that are drawn: all from blank to tilde but one -/
def SG : List Nat := ((List.range 127).drop 32).filter fun c => c != 37
theorem SG_len : SG.length = 94 := by decide +kernel
theorem SG_in : ∀ c ∈ SG, 32 ≤ c ∧ c ≤ 126 := by decide +kernel
/-- signs as values -/
def sv (ls : List Nat) : List Str := ls.map fun c => S [c]
theorem sv_inj {a b : Nat} (h : S [a] = S [b]) : a = b := by
  have := S_inj h
  exact List.head_eq_of_cons_eq this
theorem in_sv {c : Nat} {ls : List Nat} : inV (.str (S [c])) ((sv ls).map V.str) = decide (c ∈ ls) := by
  unfold inV sv
  rw [List.map_map, List.any_map]
  induction ls with
  | nil => rfl
  | cons d ls ih =>
    rw [List.any_cons, ih]
    show ((S [d] == S [c]) || decide (c ∈ ls)) = _
    by_cases h : d = c
    · subst h
      rw [beq_self_eq_true, Bool.true_or, decide_eq_true (List.mem_cons_self ..)]
    · rw [beq_eq_false_iff_ne.mpr fun e => h (sv_inj e), Bool.false_or]
      exact decide_eq_decide.mpr ⟨List.mem_cons_of_mem _, fun z => (List.mem_cons.mp z).resolve_left fun e => h e.symm⟩
theorem flat_sv (ls : List Nat) : ((sv ls).map V.str).all flatV = true := by
  unfold sv
  rw [List.map_map, List.all_map]
  exact List.all_eq_true.mpr fun _ _ => rfl
def hd1 (z : Str) : Nat := z.cps.toList.headD 0
theorem sv_perm {ys : List Str} {ls : List Nat} (h : ys.Perm (sv ls)) : ∃ al, ys = sv al ∧ al.Perm ls := by
  refine ⟨ys.map hd1, ?_, ?_⟩
  · unfold sv
    rw [List.map_map]
    conv => lhs; rw [← List.map_id ys]
    refine List.map_congr_left fun y hy => ?_
    obtain ⟨c, _, rfl⟩ := List.mem_map.mp (h.mem_iff.mp hy)
    rfl
  · have := h.map hd1
    unfold sv at this
    rw [List.map_map] at this
    have e : List.map (hd1 ∘ fun c => S [c]) ls = ls := by
      conv => rhs; rw [← List.map_id ls]
      exact List.map_congr_left fun c _ => rfl
    rw [e] at this; exact this
theorem asc_sorted : ∀ {al : List Nat}, sortedS (sv al) = true → al.Nodup → (ascL al).all id = true
  | [], _, _ => rfl
  | [_], _, _ => rfl
  | a :: b :: al, h, hn => by
    have h' : (!ltCps (S [b]).cps.toList (S [a]).cps.toList && risingS (S [b]) (sv al)) = true := h
    rw [Bool.and_eq_true, Bool.not_eq_true'] at h'
    have ih : (ascL (b :: al)).all id = true := asc_sorted (al := b :: al) h'.2 (List.nodup_cons.mp hn).2
    have hab : a ≠ b := fun e => (List.nodup_cons.mp hn).1 (e ▸ List.mem_cons_self ..)
    have hlt : a < b := by
      have h1 : ltCps [b] [a] = false := h'.1
      have h2 : ¬ b < a := fun z => by
        have : ltCps [b] [a] = true := by simp [ltCps, z]
        rw [this] at h1; cases h1
      omega
    show ((decide (a < b) :: ascL (b :: al)).all id) = true
    rw [List.all_cons, ih, decide_eq_true hlt]; rfl
theorem alOk_of {al : List Nat} (h1 : (ascL al).all id = true) (h2 : ∀ c ∈ al, c ∈ SG) (h3 : 1 ≤ al.length) (h4 : al.length ≤ 30) : alOk al = true := by
  unfold alOk
  rw [decide_eq_true ⟨h3, h4⟩, h1, Bool.true_and, Bool.true_and, List.all_map]
  exact List.all_eq_true.mpr fun c hc => decide_eq_true (SG_in c (h2 c hc))
theorem flat1 (al : List Nat) : (al.map fun c => [c]).flatten = al := by
  induction al with
  | nil => rfl
  | cons a al ih => rw [List.map_cons, List.flatten_cons, ih]; rfl
theorem join1 (al : List Nat) : PySem.Txt.join (S []) (sv al) = S al := by
  have e : sv al = (al.map fun c => [c]).map SX.S := by unfold sv; rw [List.map_map]; rfl
  rw [e, SX.join_S, joinL_nil, flat1]
theorem sum1 (al : List Nat) : ((sv al).map (·.length)).sum = al.length := by
  induction al with
  | nil => rfl
  | cons a al ih =>
    show (S [a]).length + ((sv al).map (·.length)).sum = _
    rw [ih, S_len, List.length_cons, List.length_cons, List.length_nil]; omega
def sp_alphabet : Sp := fun vs H Q _ => ∃ (p : Addr) (ns : List Nat) (k m : Nat), vs = [.ref p, .int (k : Int), .int (m : Int)] ∧ H p = some (.lst (iv ns)) ∧ k + m ≤ ns.length ∧ ns.length ≤ 1000 ∧ 1 ≤ m ∧ m ≤ 30 ∧
  ∀ H' al, Same H H' → alOk al = true → al.Nodup → 1 ≤ al.length → al.length ≤ 30 → ((∀ c ∈ al, c ∈ SG) ∧ al.length ≤ m) → Q (.str (S al)) H'
def sp_join_all : Sp := fun vs H Q _ => ∃ (p pr : Addr) (row : List Nat) (l r m : Nat), vs = [.ref p, .ref pr, .int (m : Int)] ∧ H p = some (.lst (iv row)) ∧ H pr = some (.tup (iv [l, r])) ∧ row.length ≤ 1000 ∧
  ∀ H' z, Same H H' → H z = none → H' z = some (.lst (iv (pass l r m row))) → Q (.ref z) H'
def nextAt (gone : Bool) (i : Nat) : Nat := bif gone then i + 1 else i
theorem shaped_ivT (l : List Nat) : SeqAt.shaped (.tuple (l.map fun (n : Nat) => PyData.int (n : Int))) = true := by
  have := shaped_iv l
  exact this
section
variable {P : Program} {w : World} {K : PySem.W.Frag} {mg : Str → Option Value} {base : Heap}
end
end RJ
end

section
set_option maxRecDepth 100000
set_option maxHeartbeats 4000000
namespace RJ
open PySem PySem.Spec PyProof.Rows L2

theorem Paired.both {α β : Type} {F : α → β → Prop} : ∀ {as : List α} {bs : List β} {i : Nat}, Paired F as bs → i < bs.length → ∃ a b, as[i]? = some a ∧ bs[i]? = some b ∧ F a b
  | _, _, _, .nil, h => absurd h (Nat.not_lt_zero _)
  | _, _, 0, .cons f _, _ => ⟨_, _, rfl, rfl, f⟩
  | _, _, i + 1, .cons _ t, h => Paired.both (i := i) t (Nat.lt_of_succ_lt_succ h)
def sp_staged : Sp := fun vs H Q _ => ∃ (p z : Addr) (us : List V) (ps : List (Nat × Nat)) (row : List Nat) (b : Nat), vs = [.int (b : Int), .ref p, .ref z] ∧ H p = some (.lst us) ∧ PairsAt H us ps ∧ H z = some (.lst (iv row)) ∧ row.length ≤ 1000 ∧ ps.length ≤ 1000 ∧
  ∀ H' y, Same H H' → H' y = some (.lst (iv (cutL b ps row))) → Q (.ref y) H'
def sp_is_proper : Sp := fun vs H Q _ => ∃ (al : List Nat) (tx pp pr : Addr) (us : List V) (ps : List (Nat × Nat)) (a b : Nat), vs = [.str (S al), .ref tx, .ref pp, .ref pr] ∧ H tx = some (.lst (strV (textsOf al ps))) ∧ H pp = some (.lst us) ∧ PairsAt H us ps ∧
  H pr = some (.tup (iv [a, b])) ∧ Proper al ps ∧ al.length ≤ 1000 ∧ ps.length ≤ 1000 ∧ a < (textsOf al ps).length ∧ b < (textsOf al ps).length ∧ ∀ H', Same H H' → Q (.bl (decide (okP al (textsOf al ps) ps (a, b)))) H'
section
variable {P : Program} {w : World} {K : PySem.W.Frag} {mg : Str → Option Value} {base : Heap}
end
end RJ
end

section
set_option maxRecDepth 100000
set_option maxHeartbeats 4000000
namespace RJ
open PySem PySem.Spec PyProof.Rows L2

theorem modOf {L : Nat} (hL : 1 ≤ L) (n : Int) : ∃ a : Nat, a < L ∧ n % (L : Int) = (a : Int) := by
  obtain ⟨a, h1, h2⟩ := emod_nat n (L : Int) (by omega)
  exact ⟨a, by omega, h1⟩
theorem lastOf {L : Nat} (hL : 1 ≤ L) (n : Int) : ∃ a : Nat, a < L ∧ (L : Int) - 1 - n % (if (L : Int) < 3 then (L : Int) else 3) = (a : Int) := by
  obtain ⟨c, h1, h2⟩ := emod_nat n (if (L : Int) < 3 then (L : Int) else 3) (by split <;> omega)
  rw [h1]
  refine ⟨L - 1 - c, by omega, ?_⟩
  split at h2 <;> omega
theorem signs_texts (al : List Nat) : signsV (S al) = strV (textsOf al []) := by
  unfold signsV strV textsOf
  rw [List.foldl_nil, List.map_map]; rfl
def sp_list : Sp := fun vs H Q _ => ∃ (p : Addr) (ns al : List Nat) (k m : Nat), vs = [.ref p, .int (k : Int), .str (S al), .int (m : Int)] ∧ H p = some (.lst (iv ns)) ∧ k + 2 * m ≤ ns.length ∧ ns.length ≤ 1000 ∧ al.length ≤ 500 ∧ 1 ≤ al.length ∧ m ≤ 100 ∧
  ∀ H' r pp tx us ps, Same H H' → H' r = some (.tup [.ref pp, .ref tx]) → H' pp = some (.lst us) → PairsAt H' us ps → H' tx = some (.lst (strV (textsOf al ps))) → Proper al ps → ps.length ≤ m → Q (.ref r) H'
section
variable {P : Program} {w : World} {K : PySem.W.Frag} {mg : Str → Option Value} {base : Heap}
end
end RJ
end

section
set_option maxRecDepth 100000
set_option maxHeartbeats 4000000
namespace RJ
open PySem PySem.Spec PyProof.Rows L2
/-! ### cutting by an own hand: mathematics -/
def nbAt (row : List Nat) (i : Nat) (p : Nat × Nat) : Prop := row[i]? = some p.1 ∧ row[i + 1]? = some p.2
theorem nb_mem {p : Nat × Nat} : ∀ {row : List Nat}, p ∈ adjs row → ∃ i, nbAt row i p
  | [], h => by cases h
  | [a], h => by cases h
  | a :: b :: t, h => by
    rw [adjs_cons2] at h
    rcases List.mem_cons.mp h with e | e
    · subst e; exact ⟨0, rfl, rfl⟩
    · obtain ⟨i, h1, h2⟩ := nb_mem (row := b :: t) e
      exact ⟨i + 1, h1, h2⟩
theorem nb_fun {row : List Nat} {i : Nat} {p q : Nat × Nat} (h : nbAt row i p) (g : nbAt row i q) : p = q := by
  obtain ⟨p1, p2⟩ := p
  obtain ⟨q1, q2⟩ := q
  have e1 : some p1 = some q1 := h.1.symm.trans g.1
  have e2 : some p2 = some q2 := h.2.symm.trans g.2
  cases e1; cases e2; rfl
theorem nb_split {row : List Nat} {i : Nat} {p : Nat × Nat} (h : nbAt row i p) : row = row.take i ++ p.1 :: p.2 :: row.drop (i + 2) := by
  have e1 := split_at h.1
  have e2 : row.drop (i + 1) = p.2 :: row.drop (i + 2) := by
    obtain ⟨h1, h2⟩ := List.getElem?_eq_some_iff.mp h.2
    rw [List.drop_eq_getElem_cons h1, h2]
  rw [e2] at e1; exact e1
theorem nb_front {row : List Nat} {i : Nat} {p : Nat × Nat} (h : nbAt row i p) (hno : ∀ m : Nat, m < i → ¬ nbAt row m p) : p ∉ adjs (row.take i ++ [p.1]) := fun hm => by
  have e : row.take i ++ [p.1] = row.take (i + 1) := by rw [take_succ_of h.1]
  rw [e] at hm
  obtain ⟨m, h1, h2⟩ := nb_mem hm
  rw [List.getElem?_take] at h1 h2
  by_cases c : m + 1 < i + 1
  · rw [if_pos (by omega)] at h1
    rw [if_pos c] at h2
    exact hno m (by omega) ⟨h1, h2⟩
  · rw [if_neg c] at h2; cases h2
def Scan (ps : List (Nat × Nat)) (row : List Nat) (k best place : Nat) : Prop :=
  best ≤ ps.length ∧ (∀ (i : Nat) (q : Nat × Nat), i < k → nbAt row i q → ∀ j : Nat, j < best → ps[j]? ≠ some q) ∧ (best < ps.length → ∃ p, ps[best]? = some p ∧ nbAt row place p ∧ ∀ i : Nat, i < place → ¬ nbAt row i p)
theorem Scan.zero (ps : List (Nat × Nat)) (row : List Nat) : Scan ps row 0 ps.length 0 := ⟨Nat.le_refl _, fun i q h => absurd h (Nat.not_lt_zero _), fun h => absurd h (Nat.lt_irrefl _)⟩
theorem Scan.keep {ps : List (Nat × Nat)} {row : List Nat} {k best place : Nat} (h : Scan ps row k best place) (g : ∀ q, nbAt row k q → ∀ j : Nat, j < best → ps[j]? ≠ some q) : Scan ps row (k + 1) best place := by
  obtain ⟨h1, h2, h3⟩ := h
  refine ⟨h1, fun i q hi hq => ?_, h3⟩
  by_cases c : i = k
  · subst c; exact g q hq
  · exact h2 i q (by omega) hq
theorem Scan.put {ps : List (Nat × Nat)} {row : List Nat} {k best place j : Nat} {q : Nat × Nat} (h : Scan ps row k best place) (hq : nbAt row k q) (hj : ps[j]? = some q) (hmin : ∀ m : Nat, m < j → ps[m]? ≠ some q) (hlt : j < best) : Scan ps row (k + 1) j k := by
  obtain ⟨h1, h2, h3⟩ := h
  refine ⟨by omega, fun i q' hi hq' m hm => ?_, fun _ => ⟨q, hj, hq, fun i hi hn => h2 i q hi hn j hlt hj⟩⟩
  by_cases c : i = k
  · subst c; rw [nb_fun hq' hq]; exact hmin m hm
  · exact h2 i q' (by omega) hq' m (by omega)
theorem Scan.still {b : Nat} {ps : List (Nat × Nat)} {row : List Nat} {k place : Nat} (h : Scan ps row k ps.length place) (hk : row.length ≤ k + 1) : cutL b ps row = row := by
  refine cut_done fun p hp hm => ?_
  obtain ⟨i, hi⟩ := nb_mem hm
  obtain ⟨j, hj⟩ := List.getElem?_of_mem hp
  have hjl := (List.getElem?_eq_some_iff.mp hj).1
  have hil := (List.getElem?_eq_some_iff.mp hi.2).1
  exact h.2.1 i p (by omega) hi j hjl hj
theorem Scan.step {b : Nat} {ps : List (Nat × Nat)} (hw : WF b ps) {row : List Nat} {k best place : Nat} (h : Scan ps row k best place) (hk : row.length ≤ k + 1) (hlt : best < ps.length) :
    cutL b ps (row.take place ++ (b + best) :: row.drop (place + 2)) = cutL b ps row ∧ (row.take place ++ (b + best) :: row.drop (place + 2)).length + 1 = row.length := by
  obtain ⟨h1, h2, h3⟩ := h
  obtain ⟨p, hp, hn, hno⟩ := h3 hlt
  have hl := (List.getElem?_eq_some_iff.mp hn.2).1
  refine ⟨?_, ?_⟩
  · have e := nb_split hn
    have := cut_first hw hp (u := row.take place) (v := row.drop (place + 2)) (nb_front hn hno) (fun j q hj hq hm => by
      rw [← e] at hm
      obtain ⟨i, hi⟩ := nb_mem hm
      have hil := (List.getElem?_eq_some_iff.mp hi.2).1
      exact h2 i q (by omega) hi j hj hq)
    rw [this, ← e]
  · rw [List.length_append, List.length_cons, List.length_take, List.length_drop]; omega
theorem first_at {p : Nat × Nat} : ∀ {ps : List (Nat × Nat)}, p ∈ ps → ∃ j : Nat, ps[j]? = some p ∧ ∀ m : Nat, m < j → ps[m]? ≠ some p
  | [], h => by cases h
  | q :: ps, h => by
    by_cases c : q = p
    · subst c; exact ⟨0, rfl, fun (m : Nat) (hm : m < 0) => absurd hm (Nat.not_lt_zero _)⟩
    · obtain ⟨j, h1, h2⟩ := first_at ((List.mem_cons.mp h).resolve_left fun e => c e.symm)
      refine ⟨j + 1, h1, fun m hm => ?_⟩
      cases m with
      | zero => exact fun e => c (Option.some.inj e)
      | succ m => exact h2 m (by omega)
/-! ### pairs as data -/
def pairD (p : Nat × Nat) : PyData := .tuple ([p.1, p.2].map fun (n : Nat) => PyData.int (n : Int))
theorem eqv_pair (p q : Nat × Nat) : PyData.eqv (pairD p) (pairD q) = decide (p = q) := by
  unfold pairD
  rw [PyData.eqv, eqv_iv]
  refine decide_eq_decide.mpr ?_
  obtain ⟨a, b⟩ := p
  obtain ⟨c, d⟩ := q
  simp
theorem any_pair (p : Nat × Nat) (ps : List (Nat × Nat)) : ((ps.map pairD).any fun z => PyData.eqv z (pairD p)) = decide (p ∈ ps) := by
  rw [List.any_map]
  induction ps with
  | nil => rfl
  | cons q ps ih =>
    rw [List.any_cons, ih]
    show (PyData.eqv (pairD q) (pairD p) || decide (p ∈ ps)) = _
    rw [eqv_pair]
    by_cases c : q = p
    · subst c; simp
    · rw [decide_eq_false c, Bool.false_or]
      exact decide_eq_decide.mpr ⟨List.mem_cons_of_mem _, fun h => (List.mem_cons.mp h).resolve_left fun e => c e.symm⟩
theorem dp_pairs {K : PySem.W.Frag} {H : Hp} : ∀ {us : List V} {ps : List (Nat × Nat)}, PairsAt H us ps → DpAll K H us (ps.map pairD)
  | _, _, .nil => .nil
  | _, _, .cons h t => by
    obtain ⟨q, rfl, hq⟩ := h
    exact .cons (.tup (SqT.of hq) (iv_dp [_, _])) (dp_pairs t)
theorem shaped_pair (p : Nat × Nat) : SeqAt.shaped (pairD p) = true := shaped_ivT [p.1, p.2]
theorem shaped_pairs (ps : List (Nat × Nat)) : SeqAt.shaped (.list (ps.map pairD)) = true := by
  have h1 : PyData.canLayAll0 (ps.map pairD) = true := by
    induction ps with
    | nil => simp [PyData.canLayAll0]
    | cons p ps ih => rw [List.map_cons, PyData.canLayAll0, ih]; simp [pairD, PyData.canLay0, PyData.canLayAll0]
  have h2 : PyData.depthAll (ps.map pairD) ≤ 1 := by
    clear h1
    induction ps with
    | nil => simp [PyData.depthAll]
    | cons p ps ih =>
      rw [List.map_cons, PyData.depthAll]
      have : PyData.depth (pairD p) = 1 := by simp [pairD, PyData.depth, PyData.depthAll]
      omega
  unfold SeqAt.shaped
  rw [PyData.canLay0, h1, PyData.depth, Bool.true_and]
  exact decide_eq_true (by omega)
theorem get_pairD {ps : List (Nat × Nat)} {m : Nat} {z : PyData} (h : (ps.map pairD)[m]? = some z) : ∃ q, ps[m]? = some q ∧ z = pairD q := by
  rw [List.getElem?_map] at h
  cases e : ps[m]? with
  | none => rw [e] at h; cases h
  | some q => rw [e] at h; exact ⟨q, rfl, (Option.some.inj h).symm⟩
end RJ
end

section
set_option maxRecDepth 100000
set_option maxHeartbeats 8000000
namespace RJ
open PySem PySem.Spec PyProof.Rows L2
def sp_slow : Sp := fun vs H Q _ => ∃ (pp : Addr) (us : List V) (ps : List (Nat × Nat)) (al t : List Nat), vs = [.str (S al), .ref pp, .str (S t)] ∧ H pp = some (.lst us) ∧ PairsAt H us ps ∧ WF al.length ps ∧ ps.length ≤ 1000 ∧ al.length ≤ 1000 ∧
  (∀ c ∈ t, c ∈ al) ∧ t.length ≤ 900 ∧ ∀ H' z, Same H H' → H' z = some (.tup (iv (cutL al.length ps (lets al t)))) → Q (.ref z) H'
theorem cut_to (l : List Nat) (k : Nat) : cutV (iv l) none (some (k : Int)) = iv (l.take k) := by
  unfold cutV
  rw [HT.sIx_nat, HT.sIx_none, List.drop_zero, iv_len, Nat.sub_zero]
  unfold iv
  rw [List.map_take]
  by_cases h : k ≤ l.length
  · rw [Nat.min_eq_left h]
  · rw [Nat.min_eq_right (by omega), List.take_of_length_le (by rw [List.length_map]; exact Nat.le_refl _), List.take_of_length_le (by rw [List.length_map]; omega)]
theorem cut_on (l : List Nat) (k : Nat) : cutV (iv l) (some (k : Int)) none = iv (l.drop k) := by
  unfold cutV
  rw [HT.sIx_nat, HT.sIx_none, iv_len]
  unfold iv
  rw [List.map_drop]
  by_cases h : k ≤ l.length
  · rw [Nat.min_eq_left h, List.take_of_length_le (by rw [List.length_drop, List.length_map]; exact Nat.le_refl _)]
  · rw [Nat.min_eq_right (by omega), List.drop_eq_nil_of_le (by rw [List.length_map]; exact Nat.le_refl _), List.drop_eq_nil_of_le (by rw [List.length_map]; omega)]
    exact List.take_nil
theorem iv_mid (u v : List Nat) (n : Nat) : iv u ++ [V.int (n : Int)] ++ iv v = iv (u ++ n :: v) := by
  unfold iv
  rw [List.map_append, List.map_cons, List.append_assoc]; rfl
theorem index_at {K : PySem.W.Frag} {H : Hp} {pp z : Addr} {us : List V} {ps : List (Nat × Nat)} {a b j : Nat} {Q : VK} (hpp : H pp = some (.lst us)) (hps : PairsAt H us ps) (hz : H z = some (.tup (iv [a, b]))) (hj : ps[j]? = some (a, b)) (hmin : ∀ m : Nat, m < j → ps[m]? ≠ some (a, b))
    (q : Q (.int (j : Int)) H) : rIndexD K (.ref pp) [.ref z] H Q := by
  refine ⟨pp, .ref z, pairD (a, b), ps.map pairD, j, pairD (a, b), rfl, rfl, .lst (SqL.of hpp) (dp_pairs hps), .tup (SqT.of hz) (iv_dp [a, b]), shaped_pairs ps, shaped_pair (a, b), ?_, ?_, fun m z' hm hz' => ?_, q⟩
  · rw [List.getElem?_map, hj]; rfl
  · rw [eqv_pair]; exact decide_eq_true rfl
  · obtain ⟨p, hp, rfl⟩ := get_pairD hz'
    rw [eqv_pair]
    exact decide_eq_false fun e => hmin m hm (by rw [hp, e])
section
variable {P : Program} {w : World} {K : PySem.W.Frag} {mg : Str → Option Value} {base : Heap}
end
end RJ
end

section
set_option maxRecDepth 100000
set_option maxHeartbeats 8000000
namespace RJ
open PySem PySem.Spec PyProof.Rows L2
abbrev s_law : Stmt := top 23
abbrev N_law : List Str := ["script", "tape", "pairs", "more", "dues", "shares", "k", "at", "total", "product", "sums", "pair"]
theorem sc_law : FnScope N_law ["script"] (C8.fnScope s_law) := C8.fnScope_by (by decide +kernel)
/-! ### cutting keeps the text -/
end RJ
end

section
set_option maxRecDepth 100000
set_option maxHeartbeats 4000000
namespace RJ
open PySem PySem.Spec PyProof.Rows L2
abbrev s__law_mixed : Stmt := top 9
abbrev N__law_mixed : List Str := ["number", "turn", "first", "second"]
theorem sc__law_mixed : FnScope N__law_mixed ["number", "turn"] (C8.fnScope s__law_mixed) := C8.fnScope_by (by decide +kernel)
abbrev s__law_tape : Stmt := top 10
abbrev N__law_tape : List Str := ["script"]
theorem sc__law_tape : FnScope N__law_tape ["script"] (C8.fnScope s__law_tape) := C8.fnScope_by (by decide +kernel)
abbrev s__law_draw : Stmt := top 11
abbrev N__law_draw : List Str := ["tape", "many", "cell", "digit"]
theorem sc__law_draw : FnScope N__law_draw ["tape", "many"] (C8.fnScope s__law_draw) := C8.fnScope_by (by decide +kernel)
abbrev s__law_pick : Stmt := top 12
abbrev N__law_pick : List Str := ["tape", "row"]
theorem sc__law_pick : FnScope N__law_pick ["tape", "row"] (C8.fnScope s__law_pick) := C8.fnScope_by (by decide +kernel)
/-! ### the tape -/
theorem dk {H : Hp} {d : Addr} {kvs : List (Key × V)} {z : Str} {v : V} (e : H d = some (.dK kvs)) (h : valV kvs (.inr z) = some v) : DGet H d (.str z) (some v) := by
  rw [← h]; exact DGet.k (k := .inr z) e
theorem dp {H : Hp} {d : Addr} {kvs kvs' : List (Key × V)} {z : Str} {v : V} (e : H d = some (.dK kvs)) (hl : kvs.length < 1000) (h : putK kvs (.inr z) v = kvs') : DPut H d (.str z) v (upd H d (.dK kvs')) := by
  rw [← h]; exact DPut.k (k := .inr z) e (small1000 (Nat.le_of_lt hl))
def tapeK (c : Addr) (at_ : Nat) (great left seed turn : Int) : List (Key × V) := [(.inr "cells", .ref c), (.inr "at", .int (at_ : Int)), (.inr "great", .int great), (.inr "left", .int left), (.inr "seed", .int seed), (.inr "turn", .int turn)]
/-- where the tape is, and where its cells are -/
structure Tp where
  d : Addr
  c : Addr
  zs : List Int
def TapeAt (t : Tp) (H : Hp) : Prop := ∃ (at_ : Nat) (great left seed turn : Int), H t.d = some (.dK (tapeK t.c at_ great left seed turn)) ∧ H t.c = some (.lst (t.zs.map V.int)) ∧ t.zs.length ≤ 1000 ∧ at_ ≤ 1000
/-- all as it was but the tape -/
structure TSame (t : Tp) (H H' : Hp) : Prop where
  x : SameX t.d H H'
  at0 : TapeAt t H
  at1 : TapeAt t H'
section tape
variable {t : Tp}
theorem TSame.refl {H : Hp} (h : TapeAt t H) : TSame t H H := ⟨fun _ _ _ e => e, h, h⟩
theorem TapeAt.ne {H : Hp} {b : Addr} {o : HO} (h : TapeAt t H) (e : H b = some o) (hn : ∀ kvs, o ≠ .dK kvs) : b ≠ t.d := by
  obtain ⟨at_, g, l, s, u, h1, _⟩ := h
  exact ne_of e h1 (hn _)
theorem TSame.o {b : Addr} {H H' : Hp} {o : HO} (s : TSame t H H') (e : H b = some o) (hn : ∀ kvs, o ≠ .dK kvs) : H' b = some o := s.x b o (s.at0.ne e hn) e
theorem TSame.lst {b : Addr} {H H' : Hp} {xs : List V} (s : TSame t H H') (e : H b = some (.lst xs)) : H' b = some (.lst xs) := s.o e (fun _ z => by cases z)
theorem TSame.tup {b : Addr} {H H' : Hp} {xs : List V} (s : TSame t H H') (e : H b = some (.tup xs)) : H' b = some (.tup xs) := s.o e (fun _ z => by cases z)
theorem TSame.seq {k : Bool} {b : Addr} {H H' : Hp} {xs : List V} (s : TSame t H H') (e : SeqAt k H b xs) : SeqAt k H' b xs := by
  cases k with
  | true => exact s.lst e
  | false => exact s.tup e
theorem TSame.tt {H H' : Hp} (s : TSame t H H') : SameT H H' := fun b xs e => s.tup e
theorem TSame.trans {H H1 H2 : Hp} (s : TSame t H H1) (u : TSame t H1 H2) : TSame t H H2 := ⟨fun b o h e => u.x b o h (s.x b o h e), s.at0, u.at1⟩
theorem TapeAt.same {H H' : Hp} (h : TapeAt t H) (s : Same H H') : TapeAt t H' := by
  obtain ⟨at_, g, l, se, u, h1, h2, h3⟩ := h
  exact ⟨at_, g, l, se, u, s _ _ h1, s _ _ h2, h3⟩
theorem TSame.of {H H' : Hp} (h : TapeAt t H) (s : Same H H') : TSame t H H' := ⟨Same.x s, h, h.same s⟩
theorem TSame.then {H H1 H2 : Hp} (s : TSame t H H1) (u : Same H1 H2) : TSame t H H2 := s.trans (TSame.of s.at1 u)
theorem TSame.new {p : Addr} {H H1 : Hp} {o : HO} (s : TSame t H H1) (h : H1 p = none) : TSame t H (upd H1 p o) := s.then (same_new h)
theorem TapeAt.free {H : Hp} {p : Addr} (h : TapeAt t H) (hp : H p = none) : t.d ≠ p ∧ t.c ≠ p := by
  obtain ⟨at_, g, l, se, u, h1, h2, h3⟩ := h
  exact ⟨ne_of_none h1 hp, ne_of_none h2 hp⟩
theorem TapeAt.put {H : Hp} {p : Addr} {o : HO} (h : TapeAt t H) (h1 : t.d ≠ p) (h2 : t.c ≠ p) : TapeAt t (upd H p o) := by
  obtain ⟨at_, g, l, se, u, e1, e2, e3⟩ := h
  exact ⟨at_, g, l, se, u, (upd_ne h1).trans e1, (upd_ne h2).trans e2, e3⟩
/-- what is written where nothing stood, is kept out -/
theorem TSame.put {p : Addr} {H H1 : Hp} {o : HO} (s : TSame t H H1) (h : H p = none) : TSame t H (upd H1 p o) :=
  ⟨fun b u hb e => by rw [upd_ne (ne_of_none e h)]; exact s.x b u hb e, s.at0, s.at1.put (s.at0.free h).1 (s.at0.free h).2⟩
theorem TSame.none {p : Addr} {H H1 : Hp} (s : TSame t H H1) (h : H1 p = none) : H p = none := by
  cases e : H p with
  | none => rfl
  | some o =>
    by_cases c : p = t.d
    · obtain ⟨at_, g, l, se, u, e1, _⟩ := s.at1
      rw [c, e1] at h; cases h
    · rw [s.x p o c e] at h; cases h
theorem JoinsAt.tape {C y : Addr} {H H' : Hp} {al : List Nat} {ps : List (Nat × Nat)} (h : JoinsAt C H y al ps) (s : TSame t H H') (hal : 0 < al.length) : JoinsAt C H' y al ps := by
  obtain ⟨dx, u, tx, d, e, ws, h1, h2, h3, h4, h5, h6⟩ := h
  refine ⟨dx, u, tx, d, e, ws, s.o h1 (fun _ z => by cases z), s.tup h2, h3.same s.tt, s.lst h4, s.o h5 (fun _ z => by cases z), s.x e _ ?_ h6⟩
  rintro rfl
  obtain ⟨at_, g, l, se, u', e1, _⟩ := s.at0
  rw [e1] at h6
  have hT : 0 < (textsOf al ps).length := by rw [textsOf_len]; omega
  cases hts : textsOf al ps with
  | nil => rw [hts] at hT; exact absurd hT (Nat.lt_irrefl _)
  | cons a b =>
    rw [hts] at h6
    have e2 : tapeK t.c at_ g l se u' = (Sum.inr (S a), V.int (0 : Nat)) :: kvsT 1 b := by injection h6 with h; injection h
    injection e2 with e3
    injection e3 with e4 e5
    cases e5
end tape
theorem tput_at {H : Hp} {d c : Addr} {at_ : Nat} {g l se u : Int} (e : H d = some (.dK (tapeK c at_ g l se u))) (v : Nat) : DPut H d (.str "at") (.int (v : Int)) (upd H d (.dK (tapeK c v g l se u))) := dp e (by show 6 < 1000; decide) rfl
theorem tput_great {H : Hp} {d c : Addr} {at_ : Nat} {g l se u : Int} (e : H d = some (.dK (tapeK c at_ g l se u))) (v : Int) : DPut H d (.str "great") (.int v) (upd H d (.dK (tapeK c at_ v l se u))) := dp e (by show 6 < 1000; decide) rfl
theorem tput_left {H : Hp} {d c : Addr} {at_ : Nat} {g l se u : Int} (e : H d = some (.dK (tapeK c at_ g l se u))) (v : Int) : DPut H d (.str "left") (.int v) (upd H d (.dK (tapeK c at_ g v se u))) := dp e (by show 6 < 1000; decide) rfl
theorem tput_seed {H : Hp} {d c : Addr} {at_ : Nat} {g l se u : Int} (e : H d = some (.dK (tapeK c at_ g l se u))) (v : Int) : DPut H d (.str "seed") (.int v) (upd H d (.dK (tapeK c at_ g l v u))) := dp e (by show 6 < 1000; decide) rfl
theorem tput_turn {H : Hp} {d c : Addr} {at_ : Nat} {g l se u : Int} (e : H d = some (.dK (tapeK c at_ g l se u))) (v : Int) : DPut H d (.str "turn") (.int v) (upd H d (.dK (tapeK c at_ g l se v))) := dp e (by show 6 < 1000; decide) rfl
def sp_mixed : Sp := fun vs H Q _ => ∃ n u : Int, vs = [.int n, .int u] ∧ ∀ r : Int, Q (.int r) H
def sp_tape (K : PySem.W.Frag) : Sp := fun vs H Q _ => ∃ (a : Addr) (zs : List Int), vs = [.ref a] ∧ SqL K H a (zs.map V.int) ∧ zs.length ≤ 1000 ∧ ∀ H' d c, Same H H' → TapeAt ⟨d, c, zs⟩ H' → Q (.ref d) H'
def sp_draw : Sp := fun vs H Q _ => ∃ (t : Tp) (m : Int), vs = [.ref t.d, .int m] ∧ TapeAt t H ∧ 0 < m ∧ ∀ (H' : Hp) (r : Nat), TSame t H H' → (r : Int) < m → Q (.int (r : Int)) H'
def sp_pick : Sp := fun vs H Q _ => ∃ (t : Tp) (a : Addr) (xs : List V), vs = [.ref t.d, .ref a] ∧ TapeAt t H ∧ H a = some (.lst xs) ∧ 0 < xs.length ∧ ∀ (H' : Hp) (r : Nat) (x : V), TSame t H H' → xs[r]? = some x → Q x H'
def sp_pickS : Sp := fun vs H Q _ => ∃ (t : Tp) (l : List Nat), vs = [.ref t.d, .str (S l)] ∧ TapeAt t H ∧ 0 < l.length ∧ l.length ≤ 1000 ∧ ∀ (H' : Hp) (c : Nat), TSame t H H' → c ∈ l → Q (.str (S [c])) H'
def sp_signs : Sp := fun vs H Q _ => vs = [] ∧ Q (.str (S SG)) H
def sp_lettersC : Sp := fun vs H Q _ => ∃ (t : Tp) (m : Nat), vs = [.ref t.d, .int (m : Int)] ∧ TapeAt t H ∧ 1 ≤ m ∧ m ≤ 30 ∧
  ∀ H' al, TSame t H H' → alOk al = true → al.Nodup → 1 ≤ al.length → al.length ≤ m → (∀ c ∈ al, c ∈ SG) → Q (.str (S al)) H'
theorem SG_asc : SG.Pairwise (· < ·) := by decide +kernel
section
variable {P : Program} {w : World} {K : PySem.W.Frag} {mg : Str → Option Value} {base : Heap}
theorem ok_mixed {f : Addr} {fd : FuncData} (F : C8.Fun K "_law_mixed" "_law_mixed" s__law_mixed f fd) (T : Txt K mg) : FnOk P w K mg base C8.CX0 1 f fd ["number", "turn"] sp_mixed := by
  refine C8.fn0 F sc__law_mixed (fun vs H Q E h => ?_) (fun cdv A outer s H vs Q E hr h => ?_)
  · obtain ⟨n, u, rfl, _⟩ := h; rfl
  · obtain ⟨n, u, rfl, q⟩ := h
    refine ⟨_, (pss_cons (ps_set (i := 2) sc__law_mixed.nd rfl (Or.inl rfl) (pe_op op_mod (pe_callTy call_int1 (by rfl) T.b_int (by decide +kernel) (pa_cons (pe_op op_add (pe_op op_add (pe_op op_mul (pv 0) pe_int) (pe_op op_mul (pv 1) pe_int)) pe_int) pa_nil)) pe_int))
      (pss_cons (ps_set (i := 3) sc__law_mixed.nd rfl (Or.inl rfl) (pe_op op_mod (pe_callTy call_int1 (by rfl) T.b_int (by decide +kernel) (pa_cons (pe_op op_add (pe_op op_add (pe_op op_mul (pv 2) pe_int) (pe_op op_fdiv (pv 2) pe_int)) (pe_op op_mul (pv 1) pe_int)) pa_nil)) pe_int))
      (pss_one (ps_ret (pe_op op_mod (pe_callTy call_int1 (by rfl) T.b_int (by decide +kernel) (pa_cons (pe_op op_add (pe_op op_mul (pv 3) (pv 3)) (pe_op op_fdiv (pv 2) pe_int)) pa_nil)) pe_int))))), ?_⟩
    refine ⟨_, rfl, _, _, rfl, rfl, .inr ⟨by decide, by decide⟩, _, rfl, _, _, rfl, rfl, .inr ⟨by decide, by decide⟩, _, _, rfl, rfl, _, _, rfl, rfl, .inl ⟨_, rfl, _, _, rfl, rfl, by show (0 : Int) < 2147483647; decide, ?_⟩⟩
    refine ⟨_, rfl, _, _, rfl, rfl, .inr ⟨by decide, by decide⟩, _, rfl, _, _, rfl, rfl, ⟨by decide, by decide⟩, _, _, rfl, rfl, _, rfl, _, _, rfl, rfl, .inr ⟨by decide, by decide⟩, _, _, rfl, rfl, .inl ⟨_, rfl, _, _, rfl, rfl, by show (0 : Int) < 1000003; decide, ?_⟩⟩
    dsimp only [gName]
    generalize hsec : (((n * 48271 + u * 69621 + 11) % 2147483647 * 16807 + (n * 48271 + u * 69621 + 11) % 2147483647 / 127773 + u * 271) % 1000003) = sec
    have hb : 0 ≤ sec ∧ sec < 1000003 := by rw [← hsec]; exact ⟨Int.emod_nonneg _ (by decide), Int.emod_lt_of_pos _ (by decide)⟩
    exact ⟨_, rfl, _, rfl, _, _, rfl, rfl, .inl ⟨by omega, by omega⟩, _, rfl, _, _, rfl, rfl, ⟨by decide, by decide⟩, _, _, rfl, rfl, .inl ⟨_, rfl, _, _, rfl, rfl, by show (0 : Int) < 999983; decide, q _⟩⟩
theorem ok_tape {f : Addr} {fd : FuncData} (F : C8.Fun K "_law_tape" "_law_tape" s__law_tape f fd) (T : Txt K mg) : FnOk P w K mg base C8.CX0 1 f fd ["script"] (sp_tape K) := by
  refine C8.fn0 F sc__law_tape (fun vs H Q E h => ?_) (fun cdv A outer s H vs Q E hr h => ?_)
  · obtain ⟨a, zs, rfl, _⟩ := h; rfl
  · obtain ⟨a, zs, rfl, hS, hl, q⟩ := h
    refine ⟨_, (pss_one (ps_ret (pe_disp (pps_cons pe_str (pe_callTy call_list_of (by rfl) T.b_list (by decide +kernel) (pa_cons (pv 0) pa_nil)) (pps_cons pe_str pe_int (pps_cons pe_str pe_int (pps_cons pe_str pe_int (pps_cons pe_str pe_int (pps_cons pe_str pe_int pps_nil)))))) (by rfl) (by rfl) (fun z => by cases z) (by decide)))), ?_⟩
    refine fun d hd => ?_
    have sd := same_new (o := .dK []) hd
    refine ⟨_, rfl, a, _, rfl, .inl (sd.seq hS), fun c hc => ?_⟩
    have hdc : d ≠ c := ne_of_none upd_same hc
    refine ⟨(upd_ne hdc).trans upd_same, tapeK c 0 0 0 7 0, rfl, by show 6 ≤ 15; decide, ?_⟩
    have hd1 : H d = none := hd
    refine q _ d c (Same.put (Same.new sd hc) hd) ⟨0, 0, 0, 7, 0, upd_same, (upd_ne (Ne.symm hdc)).trans upd_same, hl, by decide⟩
theorem ok_draw {f : Addr} {fd : FuncData} (F : C8.Fun K "_law_draw" "_law_draw" s__law_draw f fd) (T : Txt K mg) (c__law_mixed : C8.Cal P w K mg base 1 "_law_mixed" sp_mixed []) : FnOk P w K mg base C8.CX0 2 f fd ["tape", "many"] sp_draw := by
  refine C8.fn0 F sc__law_draw (fun vs H Q E h => ?_) (fun cdv A outer s H vs Q E hr h => ?_)
  · obtain ⟨t, m, rfl, _⟩ := h; rfl
  · obtain ⟨t, m, rfl, hT, hm, q⟩ := h
    have hu := hu_of hr
    obtain ⟨at_, g, l, se, u, h1, h2, h3, h4⟩ := id hT
    have hcd : t.c ≠ t.d := ne_of h2 h1 (fun z => by cases z)
    -- any state of the tape
    have st : ∀ (H' : Hp), SameX t.d H H' → ∀ (at_ : Nat) (g l se u : Int), at_ ≤ 1000 → SameX t.d H (upd H' t.d (.dK (tapeK t.c at_ g l se u))) ∧ (upd H' t.d (.dK (tapeK t.c at_ g l se u))) t.d = some (.dK (tapeK t.c at_ g l se u)) := fun H' s' at_ g l se u _ => ⟨s'.self, upd_same⟩
    have ret : ∀ (H' : Hp), SameX t.d H H' → ∀ (at_ : Nat) (g l se u : Int), at_ ≤ 1000 → H' t.d = some (.dK (tapeK t.c at_ g l se u)) → ∀ z : Int, Q (.int (z % m)) H' := fun H' s' at_ g l se u ha e z => by
      obtain ⟨r, hr1, hr2⟩ := emod_nat z m hm
      rw [hr1]
      exact q H' r ⟨s', hT, at_, g, l, se, u, e, s' _ _ hcd h2, h3, ha⟩ hr2
    refine ⟨_, (pss_cons (ps_dput hu (pv 0) pe_str (pe_op op_add (pe_dget hu (pv 0) pe_str (fun _ _ => rfl)) pe_int) rfl)
      (pss_cons (ps_if (PW.pt (pw_and (pt_cmpR op_eq (pe_dget hu (pv 0) pe_str (fun _ _ => rfl)) pe_int (nomark _)) (pw_and1 (pt_cmpR op_lt (pe_dget hu (pv 0) pe_str (fun _ _ => rfl)) (pe_callB call_len_seq (by rfl) T.b_len PySem.boot_len (pa_cons (pe_dget hu (pv 0) pe_str (fun _ _ => rfl)) pa_nil)) (nomark _))))) (pss_cons (ps_set (i := 2) sc__law_draw.nd rfl (Or.inl rfl) (pe_ix ix_list (pe_dget hu (pv 0) pe_str (fun _ _ => rfl)) (pe_dget hu (pv 0) pe_str (fun _ _ => rfl)) (fun _ _ => rfl)))
      (pss_cons (ps_dput hu (pv 0) pe_str (pe_op op_add (pe_dget hu (pv 0) pe_str (fun _ _ => rfl)) pe_int) rfl)
      (pss_cons (ps_dput hu (pv 0) pe_str (C8.pe_c c__law_mixed hr (by first | decide | omega) (by rfl) (pa_cons (pe_op op_add (pe_dget hu (pv 0) pe_str (fun _ _ => rfl)) (pv 2)) (pa_cons (pe_dget hu (pv 0) pe_str (fun _ _ => rfl)) pa_nil))) rfl)
      (pss_cons (ps_dput hu (pv 0) pe_str pe_int rfl)
      (pss_one (ps_if (pt_cmpR op_ge (pv 2) (pe_op op_pow pe_int pe_int) (nomark _)) (pss_cons (ps_dput hu (pv 0) pe_str (pv 2) rfl)
      (pss_one (ps_dput hu (pv 0) pe_str pe_int rfl))) pss_nil)))))) pss_nil)
      (pss_cons (ps_if (pt_cmpR op_gt (pe_dget hu (pv 0) pe_str (fun _ _ => rfl)) pe_int (nomark _)) (pss_one (ps_dput hu (pv 0) pe_str (pe_op op_sub (pe_dget hu (pv 0) pe_str (fun _ _ => rfl)) pe_int) rfl)) pss_nil)
      (pss_cons (ps_if (pt_cmpR op_eq (pe_dget hu (pv 0) pe_str (fun _ _ => rfl)) pe_int (nomark _)) (pss_one (ps_ret (pe_op op_mod (pe_callTy call_int1 (by rfl) T.b_int (by decide +kernel) (pa_cons (C8.pe_c c__law_mixed hr (by first | decide | omega) (by rfl) (pa_cons (pe_dget hu (pv 0) pe_str (fun _ _ => rfl)) (pa_cons (pe_dget hu (pv 0) pe_str (fun _ _ => rfl)) pa_nil))) pa_nil)) (pv 1)))) pss_nil)
      (pss_cons (ps_set (i := 3) sc__law_draw.nd rfl (Or.inl rfl) (pe_op op_mod (pe_callTy call_int1 (by rfl) T.b_int (by decide +kernel) (pa_cons (pe_dget hu (pv 0) pe_str (fun _ _ => rfl)) pa_nil)) pe_int))
      (pss_cons (ps_dput hu (pv 0) pe_str (pe_op op_fdiv (pe_dget hu (pv 0) pe_str (fun _ _ => rfl)) pe_int) rfl)
      (pss_cons (ps_if (PW.pt (pw_or (pt_cmpR op_eq (pe_dget hu (pv 0) pe_str (fun _ _ => rfl)) pe_int (nomark _)) (pw_or1 (pt_cmpR op_eq (pe_dget hu (pv 0) pe_str (fun _ _ => rfl)) pe_int (nomark _))))) (pss_cons (ps_dput hu (pv 0) pe_str pe_int rfl)
      (pss_one (ps_dput hu (pv 0) pe_str pe_int rfl))) pss_nil)
      (pss_one (ps_ret (pe_op op_mod (pe_callTy call_int1 (by rfl) T.b_int (by decide +kernel) (pa_cons (pv 3) pa_nil)) (pv 1))))))))))), ?_⟩
    refine ⟨_, rfl, t.d, _, rfl, dk h1 rfl, _, _, rfl, rfl, _, rfl, t.d, _, rfl, tput_turn h1 (u + 1), ?_⟩
    have s0 : SameX t.d H H := fun _ _ _ e => e
    obtain ⟨x1, e1⟩ := st H s0 at_ g l se (u + 1) h4
    revert x1 e1
    dsimp only
    show SameX t.d H (upd H t.d (.dK (tapeK t.c at_ g l se (u + 1)))) → (upd H t.d (.dK (tapeK t.c at_ g l se (u + 1)))) t.d = some (HO.dK (tapeK t.c at_ g l se (u + 1))) → tSeq (tIfS _ _ _) _ _ _ (upd H t.d (.dK (tapeK t.c at_ g l se (u + 1))))
    generalize upd H t.d (.dK (tapeK t.c at_ g l se (u + 1))) = H1
    generalize u + 1 = u1
    intro x1 e1
    show tTest _ _ _ _
    generalize hM1 : tSeq (tIfS _ _ _) _ _ = M1
    have key1 : ∀ (H' : Hp) (v2 : Option V) (at_ : Nat) (g l se u : Int), SameX t.d H H' → at_ ≤ 1000 → H' t.d = some (.dK (tapeK t.c at_ g l se u)) → M1 [some (.ref t.d), some (.int m), v2, none] H' := by
      clear e1 x1 h1 h4 hT
      intro H1 v2 at_ g l se u x1 h4 e1
      rw [← hM1]
      show tTest _ _ _ _
      generalize hM2 : tSeq _ _ _ = M2
      have key2 : ∀ (H' : Hp) (at_ : Nat) (g l se u : Int), SameX t.d H H' → at_ ≤ 1000 → H' t.d = some (.dK (tapeK t.c at_ g l se u)) → M2 [some (.ref t.d), some (.int m), v2, none] H' := by
        clear e1 x1 h4
        intro H1 at_ g l se u x1 h4 e1
        rw [← hM2]
        refine ⟨_, rfl, t.d, _, rfl, dk e1 rfl, rfl, _, rfl, ?_⟩
        obtain ⟨b, hb⟩ : ∃ b : Bool, b = decide (V.int g = V.int 0) := ⟨_, rfl⟩
        show (if decide (V.int g = V.int 0) = true then _ else _)
        rw [← hb]
        cases b with
        | true =>
          exact iteT ⟨_, rfl, t.d, _, rfl, dk e1 rfl, _, rfl, t.d, _, rfl, dk e1 rfl, _, _, rfl, fun r => .inl ⟨_, rfl, _, rfl, _, _, rfl, rfl, hm, ret H1 x1 at_ g l se u h4 e1 r⟩⟩
        | false =>
          refine iteF ?_
          refine ⟨_, rfl, t.d, _, rfl, dk e1 rfl, .inl ⟨_, rfl, _, _, rfl, rfl, by show (0 : Int) < 1009; decide, ?_⟩⟩
          refine ⟨_, rfl, t.d, _, rfl, dk e1 rfl, _, _, rfl, rfl, ⟨by decide, by decide⟩, _, rfl, t.d, _, rfl, tput_great e1 (g / 1009), ?_⟩
          obtain ⟨x2, e2⟩ := st H1 x1 at_ (g / 1009) l se u h4
          revert x2 e2
          dsimp only [gName]
          show SameX t.d H (upd H1 t.d (.dK (tapeK t.c at_ (g / 1009) l se u))) → (upd H1 t.d (.dK (tapeK t.c at_ (g / 1009) l se u))) t.d = some (HO.dK (tapeK t.c at_ (g / 1009) l se u)) → tSeq (tIfS _ _ _) _ _ _ (upd H1 t.d (.dK (tapeK t.c at_ (g / 1009) l se u)))
          generalize upd H1 t.d (.dK (tapeK t.c at_ (g / 1009) l se u)) = H2
          generalize g / 1009 = g2
          generalize hdg : g % 1009 = dg
          intro x2 e2
          show tOr _ _ _ _ _
          generalize hM3 : tRet _ _ = M3
          have key3 : ∀ (H' : Hp) (at_ : Nat) (g l se u : Int), SameX t.d H H' → at_ ≤ 1000 → H' t.d = some (.dK (tapeK t.c at_ g l se u)) → M3 [some (.ref t.d), some (.int m), v2, some (.int dg)] H' := by
            intro H1 at_ g l se u x1 h4 e1
            rw [← hM3]
            exact ⟨_, rfl, .inl ⟨_, rfl, _, rfl, _, _, rfl, rfl, hm, ret H1 x1 at_ g l se u h4 e1 dg⟩⟩
          have two : ∀ (H' : Hp) (at_ : Nat) (g l se u : Int), SameX t.d H H' → at_ ≤ 1000 → H' t.d = some (.dK (tapeK t.c at_ g l se u)) → M3 [some (.ref t.d), some (.int m), v2, some (.int dg)] (upd (upd H' t.d (.dK (tapeK t.c at_ 0 l se u))) t.d (.dK (tapeK t.c at_ 0 0 se u))) := by
            intro H1 at_ g l se u x1 h4 e1
            exact key3 _ at_ 0 0 se u x1.self.self h4 upd_same
          refine ⟨_, rfl, t.d, _, rfl, dk e2 rfl, rfl, _, rfl, ?_⟩
          obtain ⟨b, hb⟩ : ∃ b : Bool, b = decide (V.int g2 = V.int 0) := ⟨_, rfl⟩
          show (if decide (V.int g2 = V.int 0) = true then _ else _)
          rw [← hb]
          cases b with
          | true => exact iteT (iteT ⟨_, rfl, t.d, _, rfl, tput_great e2 0, _, rfl, t.d, _, rfl, tput_left upd_same 0, two H2 at_ g2 l se u x2 h4 e2⟩)
          | false =>
            refine iteF ⟨_, rfl, t.d, _, rfl, dk e2 rfl, rfl, _, rfl, ?_⟩
            obtain ⟨b, hb⟩ : ∃ b : Bool, b = decide (V.int l = V.int 0) := ⟨_, rfl⟩
            show (if decide (V.int l = V.int 0) = true then _ else _)
            rw [← hb]
            cases b with
            | true => exact iteT ⟨_, rfl, t.d, _, rfl, tput_great e2 0, _, rfl, t.d, _, rfl, tput_left upd_same 0, two H2 at_ g2 l se u x2 h4 e2⟩
            | false => exact iteF (key3 H2 at_ g2 l se u x2 h4 e2)
      refine ⟨_, rfl, t.d, _, rfl, dk e1 rfl, _, _, rfl, rfl, _, rfl, ?_⟩
      obtain ⟨b, hb⟩ : ∃ b : Bool, b = decide ((0 : Int) < l) := ⟨_, rfl⟩
      show (if decide ((0 : Int) < l) = true then _ else _)
      rw [← hb]
      cases b with
      | true => exact iteT ⟨_, rfl, t.d, _, rfl, dk e1 rfl, _, _, rfl, rfl, _, rfl, t.d, _, rfl, tput_left e1 (l - 1), key2 _ at_ g (l - 1) se u x1.self h4 upd_same⟩
      | false => exact iteF (key2 H1 at_ g l se u x1 h4 e1)
    have hcs := x1 _ _ hcd h2
    refine ⟨_, rfl, t.d, _, rfl, dk e1 rfl, rfl, _, rfl, ?_⟩
    obtain ⟨b, hb⟩ : ∃ b : Bool, b = decide (V.int l = V.int 0) := ⟨_, rfl⟩
    show (if decide (V.int l = V.int 0) = true then _ else _)
    rw [← hb]
    cases b with
    | false => exact iteF (iteF (key1 H1 none at_ g l se u1 x1 h4 e1))
    | true =>
      refine iteT ⟨_, rfl, t.d, _, rfl, dk e1 rfl, _, rfl, t.d, _, rfl, dk e1 rfl, t.c, _, rfl, .inl (SqL.of hcs), _, _, rfl, rfl, _, rfl, ?_⟩
      rw [List.length_map]
      by_cases hlt : at_ < t.zs.length
      · rw [decide_eq_true (by omega : (at_ : Int) < (t.zs.length : Int))]
        obtain ⟨z, hz⟩ : ∃ z, (t.zs.map V.int)[at_]? = some (V.int z) := ⟨t.zs[at_]'hlt, by rw [List.getElem?_map, List.getElem?_eq_getElem hlt]; rfl⟩
        refine iteT ⟨_, rfl, t.d, _, rfl, dk e1 rfl, _, rfl, t.d, _, rfl, dk e1 rfl, t.c, _, _, _, rfl, rfl, SqL.of hcs, atI_nat hz, ?_⟩
        refine ⟨_, rfl, t.d, _, rfl, dk e1 rfl, _, _, rfl, rfl, _, rfl, t.d, _, rfl, tput_at e1 (at_ + 1), ?_⟩
        have x2 := x1.self (o := .dK (tapeK t.c (at_ + 1) g l se u1))
        have e2 : (upd H1 t.d (.dK (tapeK t.c (at_ + 1) g l se u1))) t.d = some (.dK (tapeK t.c (at_ + 1) g l se u1)) := upd_same
        refine ⟨_, rfl, t.d, _, rfl, dk e2 rfl, _, rfl, _, _, rfl, rfl, _, rfl, t.d, _, rfl, dk e2 rfl, _, _, rfl, fun r => ⟨_, rfl, t.d, _, rfl, tput_seed e2 r, ?_⟩⟩
        have x3 := x2.self (o := .dK (tapeK t.c (at_ + 1) g l r u1))
        refine ⟨_, rfl, t.d, _, rfl, tput_left upd_same 4, ?_⟩
        have x4 := x3.self (o := .dK (tapeK t.c (at_ + 1) g 4 r u1))
        refine ⟨_, rfl, _, _, rfl, rfl, ⟨by decide, by decide, by decide⟩, _, _, rfl, rfl, _, rfl, ?_⟩
        obtain ⟨b, hb⟩ : ∃ b : Bool, b = decide (((10 : Int) ^ (18 : Int).toNat) ≤ z) := ⟨_, rfl⟩
        show (if decide (((10 : Int) ^ (18 : Int).toNat) ≤ z) = true then _ else _)
        rw [← hb]
        cases b with
        | false => exact iteF (key1 _ (some (.int z)) (at_ + 1) g 4 r u1 x4 (by omega) upd_same)
        | true => exact iteT ⟨_, rfl, _, rfl, t.d, _, rfl, tput_great upd_same z, _, rfl, t.d, _, rfl, tput_left upd_same 60, key1 _ (some (.int z)) (at_ + 1) z 60 r u1 x4.self.self (by omega) upd_same⟩
      · rw [decide_eq_false (by omega : ¬ (at_ : Int) < (t.zs.length : Int))]
        exact iteF (key1 H1 none at_ g l se u1 x1 h4 e1)
end
end RJ
end

section
set_option maxRecDepth 100000
set_option maxHeartbeats 8000000
namespace RJ
open PySem PySem.Spec PyProof.Rows L2
section
variable {X : Cx} {k j : Nat} {x : Str} {sp : Sp} {p pos : Pos}
theorem pe_c0 (c : C8.Cal X.prog X.w X.K X.mg X.base k x sp []) (hr : Room j X.A) (hk : k ≤ j) (hg : Gl X x) (hdb : (x == ("__debug__" : Str)) = false := by decide) : PE X (.Call (.Name x p) [] [] pos) (tCall sp [] C8.E0 tNil) := by
  obtain ⟨f, fd, ps, ds, F, hm, kp, b, d⟩ := c.ex
  exact pe_call0 F (hr.mono hk) hg hm kp b d pass0 hdb
end
/-- ascending signs -/
theorem asc_of : ∀ {l : List Nat}, l.Pairwise (· < ·) → (ascL l).all id = true
  | [], _ => rfl
  | [_], _ => rfl
  | a :: b :: t, h => by
    have h1 := (List.pairwise_cons.mp h).1 b (List.mem_cons_self ..)
    have h2 := asc_of (List.pairwise_cons.mp h).2
    show (decide (a < b) && (ascL (b :: t)).all id) = true
    rw [decide_eq_true h1, h2]; rfl
/-- a dict of numbers, each with True -/
def dkeys (ks : List Nat) : List (Key × V) := ks.map fun (n : Nat) => ((Sum.inl (n : Int), .bl true) : Key × V)
theorem dkeys_val (n : Nat) : ∀ ks : List Nat, valV (dkeys ks) (.inl (n : Int)) = if n ∈ ks then some (.bl true) else none
  | [] => by rw [if_neg List.not_mem_nil]; exact valV_nil
  | k :: ks => by
    show valV (((Sum.inl (k : Int), .bl true) : Key × V) :: dkeys ks) _ = _
    by_cases h : k = n
    · subst h
      rw [valV_pos (p := ((Sum.inl (k : Int), .bl true) : Key × V)) rfl, if_pos (List.mem_cons_self ..)]
    · rw [valV_neg (p := ((Sum.inl (k : Int), .bl true) : Key × V)) (fun z => h (by have := Sum.inl.inj z; omega)), dkeys_val n ks]
      by_cases m : n ∈ ks
      · rw [if_pos m, if_pos (List.mem_cons_of_mem _ m)]
      · rw [if_neg m, if_neg fun z => by
          rcases List.mem_cons.mp z with e | e
          · exact h e.symm
          · exact m e]
theorem dkeys_put (n : Nat) (ks : List Nat) : putK (dkeys ks) (.inl (n : Int)) (.bl true) = if n ∈ ks then dkeys ks else dkeys (ks ++ [n]) := by
  by_cases m : n ∈ ks
  · rw [if_pos m]
    unfold putK
    rw [valV_any, dkeys_val, if_pos m]
    rw [if_pos (show (some (V.bl true)).isSome = true from rfl)]
    unfold dkeys
    rw [List.map_map]
    refine List.map_congr_left fun k _ => ?_
    show (if (Sum.inl (k : Int) : Key) = .inl (n : Int) then ((.inl (k : Int), .bl true) : Key × V) else (.inl (k : Int), .bl true)) = _
    split <;> rfl
  · rw [if_neg m, putK_new _ (by rw [dkeys_val, if_neg m])]
    unfold dkeys
    rw [List.map_append]; rfl
theorem dkeys_keys (ks : List Nat) : (dkeys ks).map (·.1) = (ks.map fun n : Nat => (n : Int)).map Sum.inl := by
  unfold dkeys
  rw [List.map_map, List.map_map]; rfl
theorem dkeys_len (ks : List Nat) : (dkeys ks).length = ks.length := by unfold dkeys; rw [List.length_map]
theorem perm_nat {ys : List Int} {ks : List Nat} (h : ys.Perm (ks.map fun n : Nat => (n : Int))) : ∃ l : List Nat, ys = l.map (fun n : Nat => (n : Int)) ∧ l.Perm ks := by
  refine ⟨ys.map Int.toNat, ?_, ?_⟩
  · rw [List.map_map]
    have key : ∀ y ∈ ys, ((fun n : Nat => (n : Int)) ∘ Int.toNat) y = y := fun y hy => by
      obtain ⟨n, _, rfl⟩ := List.mem_map.mp (h.mem_iff.mp hy)
      rfl
    rw [List.map_congr_left key, List.map_id']
  · have := h.map Int.toNat
    rw [List.map_map] at this
    have e : (ks.map (Int.toNat ∘ fun n : Nat => (n : Int))) = ks := by
      have : ∀ k ∈ ks, (Int.toNat ∘ fun n : Nat => (n : Int)) k = k := fun k _ => rfl
      rw [List.map_congr_left this, List.map_id']
    rw [e] at this
    exact this
theorem pair_lt {l : List Nat} (h : (l.map fun n : Nat => (n : Int)).Pairwise (· ≤ ·)) (hn : l.Nodup) : l.Pairwise (· < ·) := by
  induction l with
  | nil => exact .nil
  | cons a l ih =>
    rw [List.map_cons, List.pairwise_cons] at h
    rw [List.nodup_cons] at hn
    refine List.pairwise_cons.mpr ⟨fun b hb => ?_, ih h.2 hn.2⟩
    have h1 := h.1 (b : Int) (List.mem_map.mpr ⟨b, hb, rfl⟩)
    have h2 : a ≠ b := fun e => hn.1 (e ▸ hb)
    omega
theorem sg_map {l : List Nat} (h : l.Pairwise (· < ·)) (hb : ∀ n ∈ l, n < 94) : (l.map fun n => SG.getD n 0).Pairwise (· < ·) := by
  induction l with
  | nil => exact .nil
  | cons a l ih =>
    rw [List.pairwise_cons] at h
    rw [List.map_cons, List.pairwise_cons]
    refine ⟨fun c hc => ?_, ih h.2 fun n hn => hb n (List.mem_cons_of_mem _ hn)⟩
    obtain ⟨n, hn, rfl⟩ := List.mem_map.mp hc
    have h1 := h.1 n hn
    have h2 := hb n (List.mem_cons_of_mem _ hn)
    have h3 : a < SG.length := by rw [SG_len]; omega
    have h4 : n < SG.length := by rw [SG_len]; exact h2
    have := List.pairwise_iff_getElem.mp SG_asc a n h3 h4 h1
    rw [List.getD_eq_getElem?_getD, List.getD_eq_getElem?_getD, List.getElem?_eq_getElem h3, List.getElem?_eq_getElem h4]
    exact this
section
variable {P : Program} {w : World} {K : PySem.W.Frag} {mg : Str → Option Value} {base : Heap}
theorem ok_pick {f : Addr} {fd : FuncData} (F : C8.Fun K "_law_pick" "_law_pick" s__law_pick f fd) (T : Txt K mg) (c__law_draw : C8.Cal P w K mg base 2 "_law_draw" sp_draw []) : FnOk P w K mg base C8.CX0 3 f fd ["tape", "row"] sp_pick := by
  refine C8.fn0 F sc__law_pick (fun vs H Q E h => ?_) (fun cdv A outer s H vs Q E hr h => ?_)
  · obtain ⟨t, a, xs, rfl, _⟩ := h; rfl
  · obtain ⟨t, a, xs, rfl, hT, ha, hl, q⟩ := h
    refine ⟨_, (pss_one (ps_ret (pe_ix ix_list (pv 1) (C8.pe_c c__law_draw hr (by first | decide | omega) (by rfl) (pa_cons (pv 0) (pa_cons (pe_callB call_len_seq (by rfl) T.b_len PySem.boot_len (pa_cons (pv 1) pa_nil)) pa_nil))) (fun _ _ => rfl)))), ?_⟩
    refine ⟨_, rfl, _, rfl, _, rfl, a, _, rfl, .inl (SqL.of ha), t, _, rfl, hT, by omega, fun H1 r s1 hr1 => ?_⟩
    have hrl : r < xs.length := by omega
    exact ⟨a, _, _, _, rfl, rfl, SqL.of (s1.lst ha), atI_nat (List.getElem?_eq_getElem hrl), q H1 r _ s1 (List.getElem?_eq_getElem hrl)⟩
theorem ok_pickS {f : Addr} {fd : FuncData} (F : C8.Fun K "_law_pick" "_law_pick" s__law_pick f fd) (T : Txt K mg) (c__law_draw : C8.Cal P w K mg base 2 "_law_draw" sp_draw []) : FnOk P w K mg base C8.CX0 3 f fd ["tape", "row"] sp_pickS := by
  refine C8.fn0 F sc__law_pick (fun vs H Q E h => ?_) (fun cdv A outer s H vs Q E hr h => ?_)
  · obtain ⟨t, l, rfl, _⟩ := h; rfl
  · obtain ⟨t, l, rfl, hT, hl, hl2, q⟩ := h
    refine ⟨_, (pss_one (ps_ret (pe_ix ix_str (pv 1) (C8.pe_c c__law_draw hr (by first | decide | omega) (by rfl) (pa_cons (pv 0) (pa_cons (pe_callB call_len_str (by rfl) T.b_len PySem.boot_len (pa_cons (pv 1) pa_nil)) pa_nil))) (fun _ _ => rfl)))), ?_⟩
    refine ⟨_, rfl, _, rfl, _, rfl, S l, rfl, by rw [S_len]; exact small_le hl2, ?_⟩
    rw [S_len]
    refine ⟨t, _, rfl, hT, by omega, fun H1 r s1 hr1 => ?_⟩
    have hrl : r < l.length := by omega
    exact ⟨S l, _, _, rfl, rfl, by rw [S_len]; exact small_le hl2, atI_nat (List.getElem?_eq_getElem hrl), q H1 _ s1 (List.getElem_mem hrl)⟩
end
end RJ
end

section
set_option maxRecDepth 100000
set_option maxHeartbeats 4000000
namespace RJ
open PySem PySem.Spec PyProof.Rows L2
abbrev s_InvalidNumber___init__ : Stmt := inClass (top 3) 0
abbrev N_InvalidNumber___init__ : List Str := ["self", "number"]
theorem sc_InvalidNumber___init__ : SupS N_InvalidNumber___init__ ["self", "number"] (C8.fnScope s_InvalidNumber___init__) := supS_of (by decide +kernel)
/-- an error's __init__ that keeps one value, two values -/
def sp_err1 (C : Addr) (f1 : Str) (G : V → Prop) : Sp := fun vs H Q _ => ∃ (a : Addr) (x : V), vs = [.ref a, x] ∧ G x ∧ H a = some (exo a C none) ∧
  ∀ dx, H dx = none → dx ≠ a → Q .non (upd (upd H dx (exd dx [(f1, x)])) a (exo a C (some dx)))
def sp_err2 (C : Addr) (f1 f2 : Str) (G : V → V → Prop) : Sp := fun vs H Q _ => ∃ (a : Addr) (x y : V), vs = [.ref a, x, y] ∧ G x y ∧ H a = some (exo a C none) ∧
  ∀ dx, H dx = none → dx ≠ a → Q .non (upd (upd (upd H dx (exd dx [(f1, x)])) a (exo a C (some dx))) dx (exd dx [(f2, y), (f1, x)]))
/-- the error that is raised -/
def ErrAt (E : XK) (C : Addr) (H : Hp) (fs : List (Str × V)) : Prop := ∀ d H', Same H H' → H' d = some (.xd fs) → E (.ref C) (some d) H'
theorem ErrAt.same {E : XK} {C : Addr} {H H' : Hp} {fs : List (Str × V)} (h : ErrAt E C H fs) (s : Same H H') : ErrAt E C H' fs := fun d H2 s2 => h d H2 (s.trans s2)
theorem err_end {C a d : Addr} {H H2 : Hp} {fs : List (Str × V)} (ha : H a = none) (hd : H d = none) (hne : d ≠ a) (k : ∀ b o, b ≠ a → b ≠ d → H b = some o → H2 b = some o) : Same H (upd (del H2 a) d (.xd fs)) ∧ (upd (del H2 a) d (.xd fs)) d = some (.xd fs) := by
  refine ⟨fun b o e => ?_, upd_same⟩
  have h1 : b ≠ a := ne_of_none e ha
  have h2 : b ≠ d := ne_of_none e hd
  rw [upd_ne h2, del_ne h1]
  exact k b o h1 h2 e
theorem mk_err2 {C : Addr} {f1 f2 : Str} {G : V → V → Prop} {ta : TA} {σ : L2.St} {H : Hp} {Q : XK} {x y : V} (hg : G x y) (h : ta σ H fun vs H1 => vs = [x, y] ∧ ErrAt Q C H1 [(f2, y), (f1, x)]) (mono : ∀ {R R' : List V → Hp → Prop}, ta σ H R → (∀ vs H1, R vs H1 → R' vs H1) → ta σ H R') :
    tMkO C (sp_err2 C f1 f2 G) [] ta σ H Q := by
  refine mono h fun vs H1 hh => ?_
  obtain ⟨rfl, q⟩ := hh
  refine ⟨by show 2 ≤ 1000; decide, fun a ha => ⟨a, x, y, rfl, hg, upd_same, fun dx hdx hne => ?_⟩⟩
  rw [upd_ne hne] at hdx
  have e0 := err_end (C := C) (H2 := upd (upd (upd (upd H1 a (exo a C none)) dx (exd dx [(f1, x)])) a (exo a C (some dx))) dx (exd dx [(f2, y), (f1, x)])) (fs := [(f2, y), (f1, x)]) ha hdx hne fun b o h1 h2 e => by
    rw [upd_ne h2, upd_ne h1, upd_ne h2, upd_ne h1]; exact e
  exact ⟨rfl, dx, _, (upd_ne (Ne.symm hne)).trans upd_same, upd_same, hdx, q dx _ e0.1 e0.2⟩
theorem mk_err1 {C : Addr} {f1 : Str} {G : V → Prop} {ta : TA} {σ : L2.St} {H : Hp} {Q : XK} {x : V} (hg : G x) (h : ta σ H fun vs H1 => vs = [x] ∧ ErrAt Q C H1 [(f1, x)]) (mono : ∀ {R R' : List V → Hp → Prop}, ta σ H R → (∀ vs H1, R vs H1 → R' vs H1) → ta σ H R') :
    tMkO C (sp_err1 C f1 G) [] ta σ H Q := by
  refine mono h fun vs H1 hh => ?_
  obtain ⟨rfl, q⟩ := hh
  refine ⟨by show 1 ≤ 1000; decide, fun a ha => ⟨a, x, rfl, hg, upd_same, fun dx hdx hne => ?_⟩⟩
  rw [upd_ne hne] at hdx
  have e0 := err_end (C := C) (H2 := upd (upd (upd H1 a (exo a C none)) dx (exd dx [(f1, x)])) a (exo a C (some dx))) (fs := [(f1, x)]) ha hdx hne fun b o h1 h2 e => by
    rw [upd_ne h1, upd_ne h2, upd_ne h1]; exact e
  exact ⟨rfl, dx, _, upd_same, (upd_ne hne).trans upd_same, hdx, q dx _ e0.1 e0.2⟩
theorem repr_sign {c : Nat} (h : c < 1114112) : (reprText (S [c])).length ≤ 12 := by
  have := PySem.StrLaws.reprText_len (S [c]) (fun x hx => by
    have hx' : x ∈ [c] := hx
    obtain rfl := List.mem_singleton.mp hx'
    have : (16 : Nat) ^ 8 = 4294967296 := by decide
    omega)
  rw [S_len] at this
  exact this
/-- a sign and a place -/
def gSign (x y : V) : Prop := ∃ c i : Nat, x = .str (S [c]) ∧ y = .int (i : Int) ∧ c < 1114112 ∧ i ≤ 1000
theorem int_len {i : Nat} (h : i ≤ 1000) : (Str.ofString (toString (i : Int))).length ≤ 100 := by
  have : ∀ i : Nat, i ≤ 1000 → (Str.ofString (toString (i : Int))).length ≤ 100 := by
    intro i hi
    have e : toString ((i : Nat) : Int) = toString i := rfl
    rw [SX.num_S, S_len]
    by_cases h0 : i = 0
    · subst h0; decide
    · exact Nat.le_trans (TL.numL_len (n := i) (k := 4) (by decide) (by omega)) (by decide)
  exact this i h
section
variable {P : Program} {w : World} {K : PySem.W.Frag} {mg : Str → Option Value} {base : Heap}
end
end RJ
end

section
set_option maxRecDepth 100000
set_option maxHeartbeats 4000000
namespace RJ
open PySem PySem.Spec PyProof.Rows L2
/-! ### ints of many bits -/
def Bd (n : Nat) (z : Int) : Prop := z.natAbs < 2 ^ n
theorem Bd.mono {m n : Nat} {z : Int} (h : Bd m z) (hm : m ≤ n) : Bd n z := Nat.lt_of_lt_of_le h (Nat.pow_le_pow_right (by decide) hm)
theorem Bd.mul {m n : Nat} {y z : Int} (h : Bd m y) (k : Bd n z) : Bd (m + n) (y * z) := by
  unfold Bd at *
  rw [Int.natAbs_mul, Nat.pow_add]
  exact Nat.mul_lt_mul'' h k
theorem Bd.add {m : Nat} {y z : Int} (h : Bd m y) (k : Bd m z) : Bd (m + 1) (y + z) := by
  unfold Bd at *
  have := Int.natAbs_add_le y z
  rw [Nat.pow_succ]; omega
theorem Bd.neg {m : Nat} {y : Int} (h : Bd m y) : Bd m (-y) := by
  unfold Bd at *
  rw [Int.natAbs_neg]; exact h
theorem Bd.sub {m : Nat} {y z : Int} (h : Bd m y) (k : Bd m z) : Bd (m + 1) (y - z) := by
  rw [Int.sub_eq_add_neg]; exact h.add k.neg
theorem Bd.log {m : Nat} {z : Int} (h : Bd m z) (hm : 1 ≤ m) : z.natAbs.log2 < m := by
  by_cases h0 : z.natAbs = 0
  · rw [h0]; exact hm
  · exact (Nat.log2_lt h0).mpr h
theorem Bd.small {z : Int} {n : Nat} (h1 : -(2 ^ n : Nat) < z) (h2 : z < (2 ^ n : Nat)) : Bd n z := by
  unfold Bd; omega
/-! ### lowest terms -/
/-- over and under in lowest terms, under above 0 -/
def red (o u : Int) : Int × Int := if u < 0 then ((-o) / (Nat.gcd o.natAbs u.natAbs : Nat), (-u) / (Nat.gcd o.natAbs u.natAbs : Nat)) else (o / (Nat.gcd o.natAbs u.natAbs : Nat), u / (Nat.gcd o.natAbs u.natAbs : Nat))
theorem gcd_pos {o u : Int} (hu : u ≠ 0) : 0 < Nat.gcd o.natAbs u.natAbs := Nat.gcd_pos_of_pos_right _ (by omega)
theorem gcd_dvd1 (o u : Int) : ((Nat.gcd o.natAbs u.natAbs : Nat) : Int) ∣ o := Int.ofNat_dvd_left.mpr (Nat.gcd_dvd_left _ _)
theorem gcd_dvd2 (o u : Int) : ((Nat.gcd o.natAbs u.natAbs : Nat) : Int) ∣ u := Int.ofNat_dvd_left.mpr (Nat.gcd_dvd_right _ _)
theorem fdiv_neg {o : Int} {g : Nat} (hg : 0 < g) (h : (g : Int) ∣ o) : o.fdiv (-(g : Int)) = (-o) / (g : Int) := by
  obtain ⟨k, rfl⟩ := h
  have hg' : (g : Int) ≠ 0 := by omega
  rw [show (g : Int) * k = (-(g : Int)) * (-k) by rw [Int.neg_mul_neg], Int.mul_fdiv_cancel_left _ (by omega), show -(-(g : Int) * -k) = (g : Int) * (-k) by rw [Int.neg_mul, Int.neg_neg], Int.mul_ediv_cancel_left _ hg']
theorem fdiv_pos {o : Int} {g : Nat} (hg : 0 < g) : o.fdiv (g : Int) = o / (g : Int) := Int.fdiv_eq_ediv_of_nonneg _ (by omega)
theorem div_abs {o : Int} {g : Nat} (hg : 0 < g) (h : (g : Int) ∣ o) : (o / (g : Int)).natAbs ≤ o.natAbs := by
  obtain ⟨k, rfl⟩ := h
  rw [Int.mul_ediv_cancel_left _ (by omega), Int.natAbs_mul, Int.natAbs_natCast]
  exact Nat.le_mul_of_pos_left _ hg
theorem red_bd {n : Nat} {o u : Int} (hu : u ≠ 0) (h1 : Bd n o) (h2 : Bd n u) : Bd n (red o u).1 ∧ Bd n (red o u).2 := by
  have hg := gcd_pos (o := o) hu
  unfold red
  split
  · exact ⟨Nat.lt_of_le_of_lt (div_abs hg ((Int.dvd_neg).mpr (gcd_dvd1 o u))) (by rw [Int.natAbs_neg]; exact h1), Nat.lt_of_le_of_lt (div_abs hg ((Int.dvd_neg).mpr (gcd_dvd2 o u))) (by rw [Int.natAbs_neg]; exact h2)⟩
  · exact ⟨Nat.lt_of_le_of_lt (div_abs hg (gcd_dvd1 o u)) h1, Nat.lt_of_le_of_lt (div_abs hg (gcd_dvd2 o u)) h2⟩
theorem red_pos {o u : Int} (hu : u ≠ 0) : 0 < (red o u).2 := by
  have hg := gcd_pos (o := o) hu
  have key : ∀ v : Int, 0 < v → ((Nat.gcd o.natAbs u.natAbs : Nat) : Int) ∣ v → 0 < v / ((Nat.gcd o.natAbs u.natAbs : Nat) : Int) := fun v hv hd => Int.ediv_pos_of_pos_of_dvd hv (by omega) hd
  unfold red
  split
  · exact key _ (by omega) ((Int.dvd_neg).mpr (gcd_dvd2 o u))
  · exact key _ (by omega) (gcd_dvd2 o u)
/-! ### digits -/
def padL : Nat → Nat → List Nat
  | 0, _ => []
  | k + 1, m => padL k (m / 10) ++ [48 + m % 10]
theorem padL_len : ∀ k m, (padL k m).length = k
  | 0, _ => rfl
  | k + 1, m => by rw [padL, List.length_append, padL_len k]; rfl
theorem numL_pad : ∀ (k n : Nat), 10 ^ k ≤ n → TL.numL n = TL.numL (n / 10 ^ k) ++ padL k (n % 10 ^ k)
  | 0, n, _ => by rw [Nat.pow_zero, Nat.div_one]; exact (List.append_nil _).symm
  | k + 1, n, h => by
    have h10 : 10 ≤ n := Nat.le_trans (by rw [Nat.pow_succ]; exact Nat.le_mul_of_pos_left _ (Nat.pow_pos (by decide))) h
    have hk : 10 ^ k ≤ n / 10 := by
      rw [Nat.pow_succ] at h
      exact (Nat.le_div_iff_mul_le (by decide)).mpr h
    rw [TL.numL_step h10, numL_pad k (n / 10) hk, padL, List.append_assoc, Nat.div_div_eq_div_mul]
    have e1 : 10 * 10 ^ k = 10 ^ (k + 1) := by rw [Nat.pow_succ, Nat.mul_comm]
    have e2 : n % 10 ^ (k + 1) / 10 = n / 10 % 10 ^ k := by
      rw [← e1, Nat.mod_mul_right_div_self]
    have e3 : n % 10 ^ (k + 1) % 10 = n % 10 := by
      rw [← e1, Nat.mod_mul_right_mod]
    rw [e1, e2, e3]
theorem padL_zero : ∀ k, padL k 0 = List.replicate k 48
  | 0 => rfl
  | k + 1 => by rw [padL, Nat.zero_div, padL_zero k, List.replicate_succ']
theorem padL_num : ∀ (k m : Nat), m < 10 ^ (k + 1) → padL (k + 1) m = List.replicate (k + 1 - (TL.numL m).length) 48 ++ TL.numL m
  | 0, m, h => by
    have h : m < 10 := h
    rw [TL.numL_lt h]
    show [] ++ [48 + m % 10] = [] ++ [48 + m]
    rw [Nat.mod_eq_of_lt h]
  | k + 1, m, h => by
    by_cases c : m < 10
    · rw [TL.numL_lt c, padL, Nat.div_eq_of_lt c, padL_zero, Nat.mod_eq_of_lt c]; rfl
    · rw [TL.numL_step (by omega), padL, padL_num k (m / 10) (by rw [Nat.pow_succ] at h; exact Nat.div_lt_of_lt_mul (by omega)), List.length_append, List.length_singleton, List.append_assoc, Nat.add_sub_add_right]
theorem numL_le {k m : Nat} (h : m < 10 ^ (k + 1)) : (TL.numL m).length ≤ k + 1 := TL.numL_len (by omega) h
theorem zfill_pad {m : Nat} (h : m < 10 ^ 64) : Txt.zfill (S (TL.numL m)) 64 = S (padL 64 m) := by
  have hl := numL_le (k := 63) h
  rw [padL_num 63 m h]
  unfold Txt.zfill
  rw [S_len]
  by_cases c : (64 : Int) ≤ ((TL.numL m).length : Int)
  · rw [if_pos c, show 63 + 1 - (TL.numL m).length = 0 by omega]; rfl
  · rw [if_neg c]
    obtain ⟨d, r, e⟩ : ∃ d r, TL.numL m = d :: r := by
      cases e : TL.numL m with
      | nil => exact absurd e (TL.numL_ne m)
      | cons d r => exact ⟨d, r, rfl⟩
    have hd := TL.numL_digits m d (by rw [e]; exact List.mem_cons_self ..)
    have h0 : (S (TL.numL m)).cps[0]? = some d := by rw [S_get, e]; rfl
    unfold zfilled
    rw [h0]
    split
    · rename_i q; cases q; omega
    · rename_i q; cases q; omega
    · refine TL.ext_tl ?_
      show (Array.replicate ((64 : Int).toNat - (TL.numL m).length) 48 ++ (TL.numL m).toArray ++ Array.replicate 0 48).toList = List.replicate (63 + 1 - (TL.numL m).length) 48 ++ TL.numL m
      simp
end RJ
end

section
set_option maxRecDepth 100000
set_option maxHeartbeats 8000000
namespace RJ
open PySem PySem.Spec PyProof.Rows L2
abbrev s_Share___init__ : Stmt := inClass (top 7) 0
abbrev N_Share___init__ : List Str := ["self", "over", "under", "common"]
theorem sc_Share___init__ : FnScope N_Share___init__ ["self", "over", "under"] (C8.fnScope s_Share___init__) := C8.fnScope_by (by decide +kernel)
abbrev s_Share___add__ : Stmt := inClass (top 7) 1
abbrev N_Share___add__ : List Str := ["self", "other"]
theorem sc_Share___add__ : FnScope N_Share___add__ ["self", "other"] (C8.fnScope s_Share___add__) := C8.fnScope_by (by decide +kernel)
abbrev s_Share___sub__ : Stmt := inClass (top 7) 2
abbrev N_Share___sub__ : List Str := ["self", "other"]
theorem sc_Share___sub__ : FnScope N_Share___sub__ ["self", "other"] (C8.fnScope s_Share___sub__) := C8.fnScope_by (by decide +kernel)
abbrev s_Share___mul__ : Stmt := inClass (top 7) 3
abbrev N_Share___mul__ : List Str := ["self", "other"]
theorem sc_Share___mul__ : FnScope N_Share___mul__ ["self", "other"] (C8.fnScope s_Share___mul__) := C8.fnScope_by (by decide +kernel)
abbrev s_Share___eq__ : Stmt := inClass (top 7) 4
abbrev N_Share___eq__ : List Str := ["self", "other"]
theorem sc_Share___eq__ : FnScope N_Share___eq__ ["self", "other"] (C8.fnScope s_Share___eq__) := C8.fnScope_by (by decide +kernel)
abbrev s_Share_is_below : Stmt := inClass (top 7) 5
abbrev N_Share_is_below : List Str := ["self", "other"]
theorem sc_Share_is_below : FnScope N_Share_is_below ["self", "other"] (C8.fnScope s_Share_is_below) := C8.fnScope_by (by decide +kernel)
abbrev s_Share_written : Stmt := inClass (top 7) 6
abbrev N_Share_written : List Str := ["self", "sign", "over"]
theorem sc_Share_written : FnScope N_Share_written ["self"] (C8.fnScope s_Share_written) := C8.fnScope_by (by decide +kernel)
abbrev s_digits_of : Stmt := top 6
abbrev N_digits_of : List Str := ["number", "words", "low"]
theorem sc_digits_of : FnScope N_digits_of ["number"] (C8.fnScope s_digits_of) := C8.fnScope_by (by decide +kernel)
structure STxt (K : PySem.W.Frag) (C : Addr) : Prop where
  cl : Cls K C
  n1 : NoAttr K C "over"
  n2 : NoAttr K C "under"
abbrev shF (q : Int × Int) : List (Str × V) := [("over", .int q.1), ("under", .int q.2)]
def ShareAt (C : Addr) (H : Hp) (p : Addr) (q : Int × Int) : Prop := ∃ dx, H p = some (.ins C dx (shF q))
theorem ShareAt.same {C p : Addr} {H H' : Hp} {q : Int × Int} (h : ShareAt C H p q) (s : Same H H') : ShareAt C H' p q := by
  obtain ⟨dx, e⟩ := h
  exact ⟨dx, s _ _ e⟩
theorem sh1 (q : Int × Int) : (shF q).lookup ("over" : Str) = some (.int q.1) := rfl
theorem sh2 (q : Int × Int) : (shF q).lookup ("under" : Str) = some (.int q.2) := rfl
/-- a share whose parts have so many bits -/
def Sb (n : Nat) (q : Int × Int) : Prop := Bd n q.1 ∧ Bd n q.2 ∧ 0 < q.2
def sp_shinit (C : Addr) : Sp := fun vs H Q _ => ∃ (p dx : Addr) (o u : Int), vs = [.ref p, .int o, .int u] ∧ H p = some (.ins C dx []) ∧ u ≠ 0 ∧ Bd 1900 o ∧ Bd 1900 u ∧ ∀ H', SameX p H H' → ShareAt C H' p (red o u) → Q .non H'
def addS (a b : Int × Int) : Int × Int := red (a.1 * b.2 + b.1 * a.2) (a.2 * b.2)
def subS (a b : Int × Int) : Int × Int := red (a.1 * b.2 - b.1 * a.2) (a.2 * b.2)
def mulS (a b : Int × Int) : Int × Int := red (a.1 * b.1) (a.2 * b.2)
def sp_shop (C : Addr) (g : Int × Int → Int × Int → Int × Int) : Sp := fun vs H Q _ => ∃ (p p2 : Addr) (a b : Int × Int) (m n : Nat), vs = [.ref p, .ref p2] ∧ ShareAt C H p a ∧ ShareAt C H p2 b ∧ Sb m a ∧ Sb n b ∧ m + n + 1 ≤ 1900 ∧ 1 ≤ m ∧ 1 ≤ n ∧ ∀ H' y, Same H H' → ShareAt C H' y (g a b) → Q (.ref y) H'
def sp_sheq (C : Addr) : Sp := fun vs H Q _ => ∃ (p p2 : Addr) (a b : Int × Int), vs = [.ref p, .ref p2] ∧ ShareAt C H p a ∧ ShareAt C H p2 b ∧ Q (.bl (decide (a = b))) H
def sp_shbelow (C : Addr) : Sp := fun vs H Q _ => ∃ (p p2 : Addr) (a b : Int × Int) (m n : Nat), vs = [.ref p, .ref p2] ∧ ShareAt C H p a ∧ ShareAt C H p2 b ∧ Sb m a ∧ Sb n b ∧ m + n + 1 ≤ 1900 ∧ 1 ≤ m ∧ 1 ≤ n ∧ Q (.bl (decide (a.1 * b.2 < b.1 * a.2))) H
theorem mulw {m n : Nat} {y z : Int} (h : Bd m y) (k : Bd n z) (h1 : 1 ≤ m) (h2 : 1 ≤ n) (hl : m + n ≤ 1900) : CMulW y z := by
  have a := h.log h1
  have b := k.log h2
  show y.natAbs.log2 + z.natAbs.log2 < 1000000
  omega
theorem mul_ne {a b : Int} (h1 : 0 < a) (h2 : 0 < b) : a * b ≠ 0 := by
  have := Int.mul_pos h1 h2
  omega
section
variable {P : Program} {w : World} {K : PySem.W.Frag} {mg : Str → Option Value} {base : Heap}
theorem ok_shinit {f C : Addr} {fd : FuncData} (F : C8.Fun K "__init__" "Share.__init__" s_Share___init__ f fd) (T : Txt K mg) (J : STxt K C) (Ggcd : mg "gcd" = some (.builtin "math.gcd")) : FnOk P w K mg base C8.CX0 1 f fd ["self", "over", "under"] (sp_shinit C) := by
  refine C8.fn0 F sc_Share___init__ (fun vs H Q E h => ?_) (fun cdv A outer s H vs Q E hr h => ?_)
  · obtain ⟨p, dx, o, u, rfl, _⟩ := h; rfl
  · obtain ⟨p, dx, o, u, rfl, hp, hu0, ho, hb, q⟩ := h
    refine ⟨_, (pss_cons (ps_if (pt_cmpR op_eq (pv 2) pe_int (nomark _)) (pss_one ps_never) pss_nil)
      (pss_cons (ps_set (i := 3) sc_Share___init__.nd rfl (Or.inl rfl) (pe_callBfun cr_gcd (by rfl) Ggcd (pa_cons (pv 1) (pa_cons (pv 2) pa_nil))))
      (pss_cons (ps_if (pt_cmpR op_lt (pv 2) pe_int (nomark _)) (pss_one (ps_set (i := 3) sc_Share___init__.nd rfl (Or.inl rfl) (pe_un un_neg (pv 3)))) pss_nil)
      (pss_cons (ps_fld (pv 0) (pe_op op_fdivNW (pv 1) (pv 3)) rfl)
      (pss_one (ps_fld (pv 0) (pe_op op_fdivNW (pv 2) (pv 3)) rfl)))))), ?_⟩
    refine ⟨_, rfl, rfl, _, rfl, ?_⟩
    rw [decide_eq_false (show ¬ V.int u = V.int 0 from fun e => hu0 (V.int.inj e))]
    refine iteF ⟨_, rfl, _, rfl, o, u, rfl, ?_⟩
    dsimp only [gName]
    show tTest _ _ _ _
    generalize hM : tSeq (sFld _ _ _ _) _ _ = M
    have hg := gcd_pos (o := o) hu0
    have hgb : Bd 1900 ((Nat.gcd o.natAbs u.natAbs : Nat) : Int) := by
      unfold Bd at *
      rw [Int.natAbs_natCast]
      exact Nat.lt_of_le_of_lt (Nat.gcd_le_right _ (by omega)) hb
    have key : ∀ c : Int, c ≠ 0 → c.natAbs.log2 < 9000 → red o u = (o.fdiv c, u.fdiv c) → M [some (.ref p), some (.int o), some (.int u), some (.int c)] H := by
      intro c hc0 hcl hred
      rw [← hM]
      refine ⟨_, rfl, _, rfl, _, _, rfl, rfl, ⟨hc0, hcl⟩, _, rfl, p, C, dx, _, rfl, hp, J.cl, J.n1, by show 0 < 1000; decide, ?_⟩
      refine ⟨_, rfl, _, rfl, _, _, rfl, rfl, ⟨hc0, hcl⟩, _, rfl, p, C, dx, _, rfl, upd_same, J.cl, J.n2, by show 1 < 1000; decide, ?_⟩
      exact q _ (fun b o hb e => (upd_ne hb).trans ((upd_ne hb).trans e)) ⟨dx, by rw [hred]; exact upd_same⟩
    refine ⟨_, rfl, _, _, rfl, rfl, _, rfl, ?_⟩
    by_cases c : u < 0
    · rw [decide_eq_true c]
      refine iteT ⟨_, rfl, _, rfl, ?_⟩
      refine key _ (by omega) (by rw [Int.natAbs_neg]; exact Nat.lt_trans (hgb.log (by decide)) (by decide)) ?_
      rw [fdiv_neg hg (gcd_dvd1 o u), fdiv_neg hg (gcd_dvd2 o u), red, if_pos c]
    · rw [decide_eq_false c]
      refine iteF (key _ (by omega) (Nat.lt_trans (hgb.log (by decide)) (by decide)) ?_)
      rw [fdiv_pos hg, fdiv_pos hg, red, if_neg c]
theorem mk_sh {C p dx : Addr} {o u : Int} {H H0 : Hp} {Q : VK} {E : XK} (s0 : Same H0 H) (hp : H p = none) (hd : H dx = none) (hu : u ≠ 0) (ho : Bd 1900 o) (hb : Bd 1900 u) (q : ∀ H', Same H0 H' → ShareAt C H' p (red o u) → Q (.ref p) H') :
    sp_shinit C [.ref p, .int o, .int u] (upd (upd H dx (.own p)) p (.ins C dx [])) (fun v H2 => v = .non ∧ Q (.ref p) H2) E := by
  have sM : ∀ (b : Addr) (o : HO), H b = some o → b ≠ p ∧ (upd (upd H dx (.own p)) p (.ins C dx [])) b = some o := fun b o e => by
    have hb := ne_of_none e hp
    exact ⟨hb, (upd_ne hb).trans ((upd_ne (ne_of_none e hd)).trans e)⟩
  exact ⟨p, dx, o, u, rfl, upd_same, hu, ho, hb, fun H' sx hS => ⟨rfl, q H' (s0.trans fun b o e => sx b o (sM b o e).1 (sM b o e).2) hS⟩⟩
theorem ok_shadd {f C : Addr} {fd : FuncData} (F : C8.Fun K "__add__" "Share.__add__" s_Share___add__ f fd) (T : Txt K mg) (J : STxt K C) (k_Share : C8.Mak P w K mg base 1 "Share" C (sp_shinit C) []) : FnOk P w K mg base C8.CX0 3 f fd ["self", "other"] (sp_shop C addS) := by
  refine C8.fn0 F sc_Share___add__ (fun vs H Q E h => ?_) (fun cdv A outer s H vs Q E hr h => ?_)
  · obtain ⟨p, p2, a, b, m, n, rfl, _⟩ := h; rfl
  · obtain ⟨p, p2, a, b, m, n, rfl, ⟨dx, h1⟩, ⟨dy, h2⟩, ⟨a1, a2, a3⟩, ⟨b1, b2, b3⟩, hmn, hm, hn, q⟩ := h
    refine ⟨_, (pss_one (ps_ret (C8.pe_mk k_Share hr (by first | decide | omega) (by rfl) (pa_cons (pe_op op_add (pe_op op_mulW (pe_fld (pv 0) rfl) (pe_fld (pv 1) rfl)) (pe_op op_mulW (pe_fld (pv 1) rfl) (pe_fld (pv 0) rfl))) (pa_cons (pe_op op_mulW (pe_fld (pv 0) rfl) (pe_fld (pv 1) rfl)) pa_nil))))), ?_⟩
    refine ⟨_, rfl, p, C, dx, _, _, rfl, h1, J.cl, J.n1, sh1 a, _, rfl, p2, C, dy, _, _, rfl, h2, J.cl, J.n2, sh2 b, _, _, rfl, rfl, mulw a1 b2 hm hn (by omega), _, rfl, p2, C, dy, _, _, rfl, h2, J.cl, J.n1, sh1 b, _, rfl, p, C, dx, _, _, rfl, h1, J.cl, J.n2, sh2 a, _, _, rfl, rfl, mulw b1 a2 hn hm (by omega), _, _, rfl, rfl,
      _, rfl, p, C, dx, _, _, rfl, h1, J.cl, J.n2, sh2 a, _, rfl, p2, C, dy, _, _, rfl, h2, J.cl, J.n2, sh2 b, _, _, rfl, rfl, mulw a2 b2 hm hn (by omega), fun x dx2 nx ndx nex => ?_⟩
    refine mk_sh (Same.refl H) nx ndx (mul_ne a3 b3) ?_ ?_ fun H' s' hS => q H' x s' hS
    · exact ((a1.mul b2).add ((b1.mul a2).mono (by omega))).mono (by omega)
    · exact (a2.mul b2).mono (by omega)
theorem ok_shsub {f C : Addr} {fd : FuncData} (F : C8.Fun K "__sub__" "Share.__sub__" s_Share___sub__ f fd) (T : Txt K mg) (J : STxt K C) (k_Share : C8.Mak P w K mg base 1 "Share" C (sp_shinit C) []) : FnOk P w K mg base C8.CX0 3 f fd ["self", "other"] (sp_shop C subS) := by
  refine C8.fn0 F sc_Share___sub__ (fun vs H Q E h => ?_) (fun cdv A outer s H vs Q E hr h => ?_)
  · obtain ⟨p, p2, a, b, m, n, rfl, _⟩ := h; rfl
  · obtain ⟨p, p2, a, b, m, n, rfl, ⟨dx, h1⟩, ⟨dy, h2⟩, ⟨a1, a2, a3⟩, ⟨b1, b2, b3⟩, hmn, hm, hn, q⟩ := h
    refine ⟨_, (pss_one (ps_ret (C8.pe_mk k_Share hr (by first | decide | omega) (by rfl) (pa_cons (pe_op op_sub (pe_op op_mulW (pe_fld (pv 0) rfl) (pe_fld (pv 1) rfl)) (pe_op op_mulW (pe_fld (pv 1) rfl) (pe_fld (pv 0) rfl))) (pa_cons (pe_op op_mulW (pe_fld (pv 0) rfl) (pe_fld (pv 1) rfl)) pa_nil))))), ?_⟩
    refine ⟨_, rfl, p, C, dx, _, _, rfl, h1, J.cl, J.n1, sh1 a, _, rfl, p2, C, dy, _, _, rfl, h2, J.cl, J.n2, sh2 b, _, _, rfl, rfl, mulw a1 b2 hm hn (by omega), _, rfl, p2, C, dy, _, _, rfl, h2, J.cl, J.n1, sh1 b, _, rfl, p, C, dx, _, _, rfl, h1, J.cl, J.n2, sh2 a, _, _, rfl, rfl, mulw b1 a2 hn hm (by omega), _, _, rfl, rfl,
      _, rfl, p, C, dx, _, _, rfl, h1, J.cl, J.n2, sh2 a, _, rfl, p2, C, dy, _, _, rfl, h2, J.cl, J.n2, sh2 b, _, _, rfl, rfl, mulw a2 b2 hm hn (by omega), fun x dx2 nx ndx nex => ?_⟩
    refine mk_sh (Same.refl H) nx ndx (mul_ne a3 b3) ?_ ?_ fun H' s' hS => q H' x s' hS
    · exact ((a1.mul b2).sub ((b1.mul a2).mono (by omega))).mono (by omega)
    · exact (a2.mul b2).mono (by omega)
theorem ok_shmul {f C : Addr} {fd : FuncData} (F : C8.Fun K "__mul__" "Share.__mul__" s_Share___mul__ f fd) (T : Txt K mg) (J : STxt K C) (k_Share : C8.Mak P w K mg base 1 "Share" C (sp_shinit C) []) : FnOk P w K mg base C8.CX0 3 f fd ["self", "other"] (sp_shop C mulS) := by
  refine C8.fn0 F sc_Share___mul__ (fun vs H Q E h => ?_) (fun cdv A outer s H vs Q E hr h => ?_)
  · obtain ⟨p, p2, a, b, m, n, rfl, _⟩ := h; rfl
  · obtain ⟨p, p2, a, b, m, n, rfl, ⟨dx, h1⟩, ⟨dy, h2⟩, ⟨a1, a2, a3⟩, ⟨b1, b2, b3⟩, hmn, hm, hn, q⟩ := h
    refine ⟨_, (pss_one (ps_ret (C8.pe_mk k_Share hr (by first | decide | omega) (by rfl) (pa_cons (pe_op op_mulW (pe_fld (pv 0) rfl) (pe_fld (pv 1) rfl)) (pa_cons (pe_op op_mulW (pe_fld (pv 0) rfl) (pe_fld (pv 1) rfl)) pa_nil))))), ?_⟩
    refine ⟨_, rfl, p, C, dx, _, _, rfl, h1, J.cl, J.n1, sh1 a, _, rfl, p2, C, dy, _, _, rfl, h2, J.cl, J.n1, sh1 b, _, _, rfl, rfl, mulw a1 b1 hm hn (by omega),
      _, rfl, p, C, dx, _, _, rfl, h1, J.cl, J.n2, sh2 a, _, rfl, p2, C, dy, _, _, rfl, h2, J.cl, J.n2, sh2 b, _, _, rfl, rfl, mulw a2 b2 hm hn (by omega), fun x dx2 nx ndx nex => ?_⟩
    refine mk_sh (Same.refl H) nx ndx (mul_ne a3 b3) ?_ ?_ fun H' s' hS => q H' x s' hS
    · exact (a1.mul b1).mono (by omega)
    · exact (a2.mul b2).mono (by omega)
theorem ok_sheq {f C : Addr} {fd : FuncData} (F : C8.Fun K "__eq__" "Share.__eq__" s_Share___eq__ f fd) (T : Txt K mg) (J : STxt K C) (GShare : mg "Share" = some (.ref C)) (ic : C8.InsC K C) : FnOk P w K mg base C8.CX0 1 f fd ["self", "other"] (sp_sheq C) := by
  refine C8.fn0 F sc_Share___eq__ (fun vs H Q E h => ?_) (fun cdv A outer s H vs Q E hr h => ?_)
  · obtain ⟨p, p2, a, b, rfl, _⟩ := h; rfl
  · obtain ⟨p, p2, a, b, rfl, ⟨dx, h1⟩, ⟨dy, h2⟩, q⟩ := h
    refine ⟨_, (pss_one (ps_ret (pe_and (pe_callB (C8.call_isC ic) (by rfl) T.b_isinstance (by decide +kernel) (pa_cons (pv 1) (pa_cons (pe_glob (v := .ref C) rfl GShare rfl) pa_nil))) (pe_and (pe_cmpR op_eq (pe_fld (pv 0) rfl) (pe_fld (pv 1) rfl) (nomark _)) (pe_one (pe_cmpR op_eq (pe_fld (pv 0) rfl) (pe_fld (pv 1) rfl) (nomark _))))))), ?_⟩
    refine ⟨_, rfl, p2, dy, _, rfl, h2, _, rfl, iteT ⟨_, rfl, p, C, dx, _, _, rfl, h1, J.cl, J.n1, sh1 a, _, rfl, p2, C, dy, _, _, rfl, h2, J.cl, J.n1, sh1 b, rfl, _, rfl, ?_⟩⟩
    by_cases c1 : a.1 = b.1
    · rw [decide_eq_true (show V.int a.1 = V.int b.1 from congrArg V.int c1)]
      refine iteT ⟨_, rfl, p, C, dx, _, _, rfl, h1, J.cl, J.n2, sh2 a, _, rfl, p2, C, dy, _, _, rfl, h2, J.cl, J.n2, sh2 b, rfl, ?_⟩
      rw [show decide (V.int a.2 = V.int b.2) = decide (a = b) from decide_eq_decide.mpr ⟨fun e => Prod.ext c1 (V.int.inj e), fun e => by rw [e]⟩]
      exact q
    · rw [decide_eq_false (show ¬ V.int a.1 = V.int b.1 from fun e => c1 (V.int.inj e))]
      rw [decide_eq_false (show ¬ a = b from fun e => c1 (by rw [e]))] at q
      exact iteF q
theorem ok_shbelow {f C : Addr} {fd : FuncData} (F : C8.Fun K "is_below" "Share.is_below" s_Share_is_below f fd) (T : Txt K mg) (J : STxt K C) : FnOk P w K mg base C8.CX0 1 f fd ["self", "other"] (sp_shbelow C) := by
  refine C8.fn0 F sc_Share_is_below (fun vs H Q E h => ?_) (fun cdv A outer s H vs Q E hr h => ?_)
  · obtain ⟨p, p2, a, b, m, n, rfl, _⟩ := h; rfl
  · obtain ⟨p, p2, a, b, m, n, rfl, ⟨dx, h1⟩, ⟨dy, h2⟩, ⟨a1, a2, a3⟩, ⟨b1, b2, b3⟩, hmn, hm, hn, q⟩ := h
    refine ⟨_, (pss_one (ps_ret (pe_cmpR op_lt (pe_op op_mulW (pe_fld (pv 0) rfl) (pe_fld (pv 1) rfl)) (pe_op op_mulW (pe_fld (pv 1) rfl) (pe_fld (pv 0) rfl)) (nomark _)))), ?_⟩
    exact ⟨_, rfl, p, C, dx, _, _, rfl, h1, J.cl, J.n1, sh1 a, _, rfl, p2, C, dy, _, _, rfl, h2, J.cl, J.n2, sh2 b, _, _, rfl, rfl, mulw a1 b2 hm hn (by omega), _, rfl, p2, C, dy, _, _, rfl, h2, J.cl, J.n1, sh1 b, _, rfl, p, C, dx, _, _, rfl, h1, J.cl, J.n2, sh2 a, _, _, rfl, rfl, mulw b1 a2 hn hm (by omega), _, _, rfl, rfl, q⟩
end
end RJ
end

section
set_option maxRecDepth 100000
set_option maxHeartbeats 8000000
namespace RJ
open PySem PySem.Spec PyProof.Rows L2
@[irreducible] def L19 (n : Nat) : Prop := n < 2 ^ 1900
def sp_digits : Sp := fun vs H Q _ => ∃ n : Nat, vs = [.int (n : Int)] ∧ L19 n ∧ ∀ H', Same H H' → Q (.str (S (TL.numL n))) H'
theorem str_numR (n : Nat) : V.str (toString ((n : Nat) : Int)) = V.str (S (TL.numL n)) := congrArg V.str (SX.num_S n)
theorem L19.bd {n : Nat} (h : L19 n) : Bd 1900 (n : Int) := by unfold L19 at h; unfold Bd; rw [Int.natAbs_natCast]; exact h
theorem L19.of {z : Int} (h : Bd 1900 z) : L19 z.natAbs := by unfold L19; exact h
theorem L19.le {m n : Nat} (h : L19 n) (hm : m ≤ n) : L19 m := by unfold L19 at *; exact Nat.lt_of_le_of_lt hm h
theorem L19.bits {n : Nat} (h : L19 n) : Builtin.Int.intBits (n : Int) ≤ 1900 := PyProof.Rows.intBits_le h.bd
theorem log_nat {n : Nat} (h : L19 n) : ((n : Nat) : Int).natAbs.log2 < 1920 := Nat.lt_trans (h.bd.log (by decide)) (by decide)
theorem numL_600 {n : Nat} (h : L19 n) : (TL.numL n).length ≤ 600 := by
  unfold L19 at h
  exact TL.numL_len (by decide) (Nat.lt_of_lt_of_le h (by decide +kernel))
@[irreducible] def B64 : Nat := 10 ^ 64
theorem b64 : (10 : Int) ^ (64 : Int).toNat = (B64 : Int) := by unfold B64; decide +kernel
theorem B64_eq : B64 = 10 ^ 64 := by unfold B64; rfl
theorem B64_big : 2 ≤ B64 := by rw [B64_eq]; decide +kernel
def wordV (ws : List Nat) : List V := ws.map fun m => V.str (S (padL 64 m))
theorem words_lenK (k : Nat) : ∀ ws : List Nat, ((ws.map (padL k)).reverse.flatten).length = k * ws.length
  | [] => rfl
  | w :: ws => by
    rw [List.map_cons, List.reverse_cons, List.flatten_append, List.length_append, words_lenK k ws, List.flatten_cons, List.flatten_nil, List.append_nil, padL_len, List.length_cons, Nat.mul_succ]
theorem words_len (ws : List Nat) : ((ws.map (padL 64)).reverse.flatten).length = 64 * ws.length := words_lenK 64 ws
theorem s_nilflat (l : List (List Nat)) : Txt.join (Str.ofString "") (l.map S) = S l.flatten := by
  rw [show Str.ofString "" = S [] from rfl, SX.join_S, joinL_nil]
section
variable {P : Program} {w : World} {K : PySem.W.Frag} {mg : Str → Option Value} {base : Heap}
theorem ok_digits {f : Addr} {fd : FuncData} (F : C8.Fun K "digits_of" "digits_of" s_digits_of f fd) (T : Txt K mg) : FnOk P w K mg base C8.CX0 1 f fd ["number"] sp_digits := by
  refine C8.fn0 F sc_digits_of (fun vs H Q E h => ?_) (fun cdv A outer s H vs Q E hr h => ?_)
  · obtain ⟨n, rfl, _⟩ := h; rfl
  · obtain ⟨n, rfl, hn, q⟩ := h
    refine ⟨_, (pss_cons (ps_set (i := 1) sc_digits_of.nd rfl (Or.inl rfl) (pe_lst pa_nil))
      (pss_cons (ps_while PassesOwn.never (pt_cmpR op_ge (pv 0) (pe_op op_pow pe_int pe_int) (nomark _)) (pss_cons (ps_asg (pe_callB call_divmodW (by rfl) T.b_divmod (by decide +kernel) (pa_cons (pv 0) (pa_cons (pe_op op_pow pe_int pe_int) pa_nil))) (pg_tup rfl (pgs_cons (pg_name (i := 0) sc_digits_of.nd rfl (Or.inl rfl)) (pgs_cons (pg_name (i := 2) sc_digits_of.nd rfl (Or.inl rfl)) pgs_nil))))
      (pss_one (ps_expr (pe_bm PySem.F.plainAttrs_list PySem.F.slot_list_append PySem.F.type_list_append mt_append (pv 1) (pa_cons (pe_bm PySem.F.plainAttrs_str PySem.F.slot_str_zfill PySem.F.type_str_zfill mt_zfill (pe_callTy call_str_int (by rfl) T.b_str (by decide +kernel) (pa_cons (pv 2) pa_nil)) (pa_cons pe_int pa_nil)) pa_nil))))))
      (pss_cons (ps_expr (pe_bm PySem.F.plainAttrs_list PySem.F.slot_list_append PySem.F.type_list_append mt_append (pv 1) (pa_cons (pe_callTy call_str_int (by rfl) T.b_str (by decide +kernel) (pa_cons (pv 0) pa_nil)) pa_nil)))
      (pss_one (ps_ret (pe_join pe_str (pe_revL (pv 1)))))))), ?_⟩
    have hB2 := B64_big
    have hB : 0 < B64 := by omega
    refine ⟨Nat.zero_le _, fun D hD => ?_⟩
    have sD : Same H (upd H D (.lst [])) := same_new hD
    refine ⟨fun m σ H' => ∃ (ws : List Nat) (v2 : Option V), σ = [some (.int (m : Int)), some (.ref D), v2] ∧ Same H H' ∧ H' D = some (.lst (wordV ws)) ∧ TL.numL n = TL.numL m ++ (ws.map (padL 64)).reverse.flatten ∧ L19 m, ⟨n, [], none, rfl, sD, upd_same, (List.append_nil _).symm, hn⟩, ?_⟩
    rintro m σ H1 ⟨ws, v2, rfl, s1, hD1, hnum, hm⟩
    have hwl : ws.length ≤ 100 := by
      have h1 := numL_600 hn
      rw [hnum, List.length_append, words_len] at h1
      omega
    refine ⟨_, rfl, _, _, rfl, rfl, ⟨by decide, by decide, by decide⟩, _, _, rfl, rfl, _, rfl, ?_⟩
    rw [b64]
    by_cases c : B64 ≤ m
    · rw [decide_eq_true (show (B64 : Int) ≤ (m : Int) by omega)]
      refine iteT ⟨fun σ' H' => ∃ m', m' < m ∧ ∃ (ws : List Nat) (v2 : Option V), σ' = [some (.int (m' : Int)), some (.ref D), v2] ∧ Same H H' ∧ H' D = some (.lst (wordV ws)) ∧ TL.numL n = TL.numL m' ++ (ws.map (padL 64)).reverse.flatten ∧ L19 m', fun σ' H' h => h, ?_⟩
      refine ⟨_, rfl, _, _, rfl, rfl, ⟨by decide, by decide, by decide⟩, _, _, rfl, ?_, ?_⟩
      · rw [b64]
        exact divp_ok (by omega) (Nat.le_trans hm.bits (by omega))
      rw [b64, ← Int.natCast_ediv, ← Int.natCast_emod]
      intro g hg
      have sg := same_new (o := .tup [.int ((m / B64 : Nat) : Int), .int ((m % B64 : Nat) : Int)]) hg
      have hlow : m % B64 < 10 ^ 64 := by rw [← B64_eq]; exact Nat.mod_lt _ hB
      have hq : m / B64 < m := Nat.div_lt_self (by omega) (by omega)
      refine ⟨g, _, rfl, SqT.of upd_same, rfl, _, _, rfl, _, _, rfl, rfl, ?_⟩
      have hL : L19 (m % B64) := hm.le (Nat.mod_le _ _)
      have hDg := sg _ _ hD1
      refine ⟨_, rfl, .inl ⟨rfl, _, SqL.of hDg⟩, _, rfl, _, rfl, log_nat hL, rfl, S (TL.numL (m % B64)), 64, str_numR _, rfl, by decide, ?_⟩
      rw [zfill_pad hlow]
      refine ⟨D, _, _, rfl, rfl, hDg, small1000 (by rw [wordV, List.length_map]; omega), ?_⟩
      refine ⟨m / B64, hq, ws ++ [m % B64], some (.int ((m % B64 : Nat) : Int)), rfl, Same.put (s1.trans sg) hD, ?_, ?_, hm.le (Nat.le_of_lt hq)⟩
      · rw [upd_same, wordV, wordV, List.map_append]; rfl
      · rw [hnum, List.map_append, List.reverse_append, List.flatten_append]
        have e1 := numL_pad 64 m (by rw [← B64_eq]; exact c)
        rw [← B64_eq] at e1
        rw [e1, List.append_assoc, List.map_cons, List.map_nil, List.reverse_cons, List.reverse_nil, List.nil_append, List.flatten_cons, List.flatten_nil, List.append_nil]
    · rw [decide_eq_false (show ¬ (B64 : Int) ≤ (m : Int) by omega)]
      refine iteF ?_
      have eV : ∀ ws : List Nat, wordV ws ++ [V.str (S (TL.numL m))] = ((ws.map (padL 64) ++ [TL.numL m]).map S).map V.str := fun ws => by
        rw [wordV, List.map_append, List.map_append, List.map_map, List.map_map]; rfl
      refine ⟨_, rfl, .inl ⟨rfl, _, SqL.of hD1⟩, _, rfl, _, rfl, log_nat hm, D, _, _, rfl, rfl, hD1, small1000 (by rw [wordV, List.length_map]; omega), ?_⟩
      have sT : Same H (upd H1 D (.lst (wordV ws ++ [V.str (toString ((m : Nat) : Int))]))) := Same.put s1 hD
      rw [str_numR, eV] at sT ⊢
      refine ⟨⟨_, rfl⟩, _, rfl, D, _, rfl, SqL.of upd_same, fun r hr2 => ?_⟩
      have sr := sT.trans (same_new (o := .lst (((ws.map (padL 64) ++ [TL.numL m]).map S).map V.str).reverse) hr2)
      rw [← List.map_reverse, ← List.map_reverse] at sr ⊢
      refine ⟨Str.ofString "", r, _, rfl, rfl, .inl (SqL.of upd_same), ?_, ?_⟩
      · have hs : (((ws.map (padL 64) ++ [TL.numL m]).reverse.map S).map (·.length)).sum = (TL.numL n).length := by
          rw [SX.lens, ← List.length_flatten, List.reverse_append, List.flatten_append, List.length_append, words_len, hnum, List.length_append, words_len]
          simp
        rw [hs]
        have := numL_600 hn
        show _ + _ * 0 ≤ _
        omega
      · have e : Txt.join (Str.ofString "") ((List.map (padL 64) ws ++ [TL.numL m]).reverse.map S) = S (TL.numL n) := by
          rw [s_nilflat, List.reverse_append, List.flatten_append, hnum]
          simp
        rw [e]
        exact q _ sr
end
end RJ
end

section
set_option maxRecDepth 100000
set_option maxHeartbeats 8000000
namespace RJ
open PySem PySem.Spec PyProof.Rows L2
abbrev s__law_share : Stmt := top 13
abbrev N__law_share : List Str := ["over", "under", "a", "b", "k", "c"]
theorem sc__law_share : FnScope N__law_share ["over", "under"] (C8.fnScope s__law_share) := C8.fnScope_by (by decide +kernel)
abbrev s__law_added : Stmt := top 14
abbrev N__law_added : List Str := ["one", "other"]
theorem sc__law_added : FnScope N__law_added ["one", "other"] (C8.fnScope s__law_added) := C8.fnScope_by (by decide +kernel)
abbrev s__law_times : Stmt := top 15
abbrev N__law_times : List Str := ["one", "other"]
theorem sc__law_times : FnScope N__law_times ["one", "other"] (C8.fnScope s__law_times) := C8.fnScope_by (by decide +kernel)
abbrev s__law_is_share : Stmt := top 16
abbrev N__law_is_share : List Str := ["actual", "due", "part"]
theorem sc__law_is_share : FnScope N__law_is_share ["actual", "due"] (C8.fnScope s__law_is_share) := C8.fnScope_by (by decide +kernel)
abbrev s__law_written : Stmt := top 19
abbrev N__law_written : List Str := ["share"]
theorem sc__law_written : FnScope N__law_written ["share"] (C8.fnScope s__law_written) := C8.fnScope_by (by decide +kernel)
abbrev s__law_one_right : Stmt := top 21
abbrev N__law_one_right : List Str := ["share", "due", "text"]
theorem sc__law_one_right : FnScope N__law_one_right ["share", "due"] (C8.fnScope s__law_one_right) := C8.fnScope_by (by decide +kernel)
theorem S_app9 (a b : List Nat) : S a ++ S b = S (a ++ b) := TL.ext_tl (by rw [TL.tl_append])
def intL (z : Int) : List Nat := if z < 0 then 45 :: TL.numL z.natAbs else TL.numL z.natAbs
theorem str_int (z : Int) : V.str (toString z) = V.str (S (intL z)) := by
  refine congrArg V.str ?_
  cases z with
  | ofNat n =>
    rw [intL, if_neg (by show ¬ (Int.ofNat n < 0); exact Int.not_lt.mpr (Int.natCast_nonneg n))]
    exact SX.num_S n
  | negSucc n =>
    rw [intL, if_pos (Int.negSucc_lt_zero n)]
    refine TL.ext_tl ?_
    show TL.tl (Str.ofString ("-" ++ toString (n + 1))) = 45 :: TL.numL (n + 1)
    rw [TL.tl_ofString, String.toList_append, List.map_append]
    have := TL.tl_num (n + 1)
    rw [TL.tl_ofString] at this
    rw [← this]; rfl
/-- a share as it is written -/
def wr (q : Int × Int) : List Nat := if q.2 = 1 then intL q.1 else intL q.1 ++ 47 :: intL q.2
theorem intL_len {z : Int} (h : Bd 1900 z) : (intL z).length ≤ 601 := by
  have := numL_600 (L19.of h)
  unfold intL
  split
  · rw [List.length_cons]; omega
  · omega
theorem intL_pos {z : Int} (h : 0 < z) : intL z = TL.numL z.natAbs := by rw [intL, if_neg (by omega)]
def sp_shwritten (C : Addr) : Sp := fun vs H Q _ => ∃ (p : Addr) (q : Int × Int), vs = [.ref p] ∧ ShareAt C H p q ∧ Sb 1900 q ∧ ∀ H', Same H H' → Q (.str (S (wr q))) H'
def PrAt (H : Hp) (g : Addr) (q : Int × Int) : Prop := H g = some (.tup [.int q.1, .int q.2])
def sp_lwritten : Sp := fun vs H Q _ => ∃ (g : Addr) (q : Int × Int), vs = [.ref g] ∧ PrAt H g q ∧ Sb 1900 q ∧ Q (.str (S (wr q))) H
def sp_lshare : Sp := fun vs H Q _ => ∃ (o u : Int), vs = [.int o, .int u] ∧ u ≠ 0 ∧ Bd 1900 o ∧ Bd 1900 u ∧ ∀ H' g, Same H H' → PrAt H' g (red o u) → Q (.ref g) H'
def sp_lop (f : Int × Int → Int × Int → Int × Int) : Sp := fun vs H Q _ => ∃ (g g2 : Addr) (a b : Int × Int) (m n : Nat), vs = [.ref g, .ref g2] ∧ PrAt H g a ∧ PrAt H g2 b ∧ Sb m a ∧ Sb n b ∧ m + n + 1 ≤ 1900 ∧ 1 ≤ m ∧ 1 ≤ n ∧ ∀ H' y, Same H H' → PrAt H' y (f a b) → Q (.ref y) H'
def sp_lis (C : Addr) : Sp := fun vs H Q _ => ∃ (p g : Addr) (q : Int × Int), vs = [.ref p, .ref g] ∧ ShareAt C H p q ∧ PrAt H g q ∧ ∀ H', Same H H' → Q (.bl true) H'
def sp_lone (C : Addr) : Sp := fun vs H Q _ => ∃ (p g : Addr) (q : Int × Int), vs = [.ref p, .ref g] ∧ ShareAt C H p q ∧ PrAt H g q ∧ Sb 1900 q ∧ ∀ H', Same H H' → Q (.bl true) H'
theorem gcd_step {a b : Nat} (h : 0 < a) : Nat.gcd (b % a) a = Nat.gcd a b := (Nat.gcd_rec a b).symm
theorem half {a b : Nat} (h : 0 < a) (hab : a ≤ b) : 2 * (b % a * a) ≤ a * b := by
  have h1 := Nat.mod_lt b h
  have h2 : 2 * (b % a) ≤ b := by
    have h3 := Nat.div_add_mod b a
    have h4 : 1 ≤ b / a := (Nat.one_le_div_iff h).mpr hab
    have h5 : a ≤ a * (b / a) := Nat.le_mul_of_pos_right _ h4
    omega
  calc 2 * (b % a * a) = (2 * (b % a)) * a := by rw [Nat.mul_assoc]
    _ ≤ b * a := Nat.mul_le_mul_right _ h2
    _ = a * b := Nat.mul_comm _ _
section
variable {P : Program} {w : World} {K : PySem.W.Frag} {mg : Str → Option Value} {base : Heap}
theorem ok_shwritten {f C : Addr} {fd : FuncData} (F : C8.Fun K "written" "Share.written" s_Share_written f fd) (T : Txt K mg) (J : STxt K C) (c_digits_of : C8.Cal P w K mg base 1 "digits_of" sp_digits []) : FnOk P w K mg base C8.CX0 2 f fd ["self"] (sp_shwritten C) := by
  refine C8.fn0 F sc_Share_written (fun vs H Q E h => ?_) (fun cdv A outer s H vs Q E hr h => ?_)
  · obtain ⟨p, q, rfl, _⟩ := h; rfl
  · obtain ⟨p, q, rfl, ⟨dx, h1⟩, ⟨b1, b2, b3⟩, qq⟩ := h
    refine ⟨_, (pss_cons (ps_set (i := 1) sc_Share_written.nd rfl (Or.inl rfl) (pe_ifExp (pt_cmpR op_lt (pe_fld (pv 0) rfl) pe_int (nomark _)) pe_str pe_str))
      (pss_cons (ps_set (i := 2) sc_Share_written.nd rfl (Or.inl rfl) (pe_op op_add_str (pv 1) (C8.pe_c c_digits_of hr (by first | decide | omega) (by rfl) (pa_cons (pe_callB call_abs (by rfl) T.b_abs (by decide +kernel) (pa_cons (pe_fld (pv 0) rfl) pa_nil)) pa_nil))))
      (pss_one (ps_ret (pe_ifExp (pt_cmpR op_eq (pe_fld (pv 0) rfl) pe_int (nomark _)) (pv 2) (pe_joined (PJ.cons (pe_fmt (pv 2)) (PJ.cons pe_str (PJ.cons (pe_fmt (C8.pe_c c_digits_of hr (by first | decide | omega) (by rfl) (pa_cons (pe_fld (pv 0) rfl) pa_nil))) PJ.nil))))))))), ?_⟩
    have l1 := intL_len b1
    have l2 := intL_len b2
    refine ⟨_, rfl, p, C, dx, _, _, rfl, h1, J.cl, J.n1, sh1 q, _, _, rfl, rfl, _, rfl, ?_⟩
    generalize hM : tSeq (tAsg (tOp _ (tVar 1) _) _) _ _ = M
    have key : ∀ sg : List Nat, sg ++ TL.numL q.1.natAbs = intL q.1 → M [some (.ref p), some (.str (S sg)), none] H := by
      intro sg hsg
      rw [← hM]
      have l3 : sg.length + (TL.numL q.1.natAbs).length ≤ 601 := by rw [← hsg, List.length_append] at l1; exact l1
      refine ⟨_, rfl, _, rfl, p, C, dx, _, _, rfl, h1, J.cl, J.n1, sh1 q, _, rfl, q.1.natAbs, ?_, L19.of b1, fun H1 s1 => ?_⟩
      · have : (if q.1 < 0 then -q.1 else q.1) = ((q.1.natAbs : Nat) : Int) := by split <;> omega
        rw [this]; rfl
      refine ⟨S sg, S (TL.numL q.1.natAbs), rfl, rfl, by rw [S_len, S_len]; exact small_le (by omega), ?_⟩
      rw [S_app9, hsg]
      have h1' := s1 _ _ h1
      refine ⟨_, rfl, p, C, dx, _, _, rfl, h1', J.cl, J.n2, sh2 q, rfl, _, rfl, ?_⟩
      by_cases c : q.2 = 1
      · rw [decide_eq_true (show V.int q.2 = V.int 1 from congrArg V.int c)]
        rw [wr, if_pos c] at qq
        exact iteT ⟨_, rfl, qq H1 s1⟩
      · rw [decide_eq_false (show ¬ V.int q.2 = V.int 1 from fun e => c (V.int.inj e))]
        have e1 : Str.empty ++ S (intL q.1) = S (intL q.1) := S_app9 [] _
        refine iteF ⟨_, rfl, .inl ⟨S (intL q.1), rfl, by rw [S_len]; exact small_le (by omega), _, rfl, by rw [e1, S_len]; exact small_le (by omega), S [47], rfl, ?_, ?_⟩⟩
        · rw [e1, S_app9, S_len, List.length_append]; exact small_le (by show _ + 1 ≤ 1000; omega)
        rw [e1, S_app9]
        refine ⟨_, rfl, p, C, dx, _, _, rfl, h1', J.cl, J.n2, sh2 q, q.2.natAbs, ?_, L19.of b2, fun H2 s2 => .inl ⟨_, rfl, ?_, _, rfl, ?_, ?_⟩⟩
        · rw [show ((q.2.natAbs : Nat) : Int) = q.2 by omega]; rfl
        · rw [intL_pos b3] at l2; rw [S_len]; exact small_le (by omega)
        · rw [intL_pos b3] at l2; rw [S_app9, S_len, List.length_append, List.length_append, sizeLine_eq]; show _ + 1 + _ ≤ _; omega
        · rw [S_app9, show intL q.1 ++ [47] ++ TL.numL q.2.natAbs = wr q by rw [wr, if_neg c, intL_pos b3, List.append_assoc]; rfl]
          exact qq _ (s1.trans s2)
    by_cases c : q.1 < 0
    · rw [decide_eq_true c]
      exact iteT (key [45] (by rw [intL, if_pos c]; rfl))
    · rw [decide_eq_false c]
      exact iteF (key [] (by rw [intL, if_neg c]; rfl))
theorem ok_lshare {f : Addr} {fd : FuncData} (F : C8.Fun K "_law_share" "_law_share" s__law_share f fd) (T : Txt K mg) : FnOk P w K mg base C8.CX0 1 f fd ["over", "under"] sp_lshare := by
  refine C8.fn0 F sc__law_share (fun vs H Q E h => ?_) (fun cdv A outer s H vs Q E hr h => ?_)
  · obtain ⟨o, u, rfl, _⟩ := h; rfl
  · obtain ⟨o, u, rfl, hu, ho, hb, q⟩ := h
    refine ⟨_, (pss_cons (ps_if (pt_cmpR op_lt (pv 1) pe_int (nomark _)) (pss_cons (ps_set (i := 0) sc__law_share.nd rfl (Or.inl rfl) (pe_op op_sub pe_int (pv 0)))
      (pss_one (ps_set (i := 1) sc__law_share.nd rfl (Or.inl rfl) (pe_op op_sub pe_int (pv 1))))) pss_nil)
      (pss_cons (ps_set (i := 2) sc__law_share.nd rfl (Or.inl rfl) (pe_callB call_abs (by rfl) T.b_abs (by decide +kernel) (pa_cons (pv 0) pa_nil)))
      (pss_cons (ps_set (i := 3) sc__law_share.nd rfl (Or.inl rfl) (pv 1))
      (pss_cons (ps_for PassesOwn.never rfl (pi_range1 rfl T.b_range (pa_cons pe_int pa_nil)) (pg_name (i := 4) sc__law_share.nd rfl (Or.inl rfl)) (pss_cons (ps_if (pt_cmpR op_eq (pv 2) pe_int (nomark _)) (pss_one ps_break) pss_nil)
      (pss_cons (ps_set (i := 5) sc__law_share.nd rfl (Or.inl rfl) (pe_op op_mod (pe_callTy call_int1 (by rfl) T.b_int (by decide +kernel) (pa_cons (pv 3) pa_nil)) (pv 2)))
      (pss_cons (ps_set (i := 3) sc__law_share.nd rfl (Or.inl rfl) (pv 2))
      (pss_one (ps_set (i := 2) sc__law_share.nd rfl (Or.inl rfl) (pv 5)))))))
      (pss_one (ps_ret (pe_tup (pa_cons (pe_op op_fdivW (pv 0) (pv 3)) (pa_cons (pe_op op_fdivW (pv 1) (pv 3)) pa_nil))))))))), ?_⟩
    refine ⟨_, rfl, _, _, rfl, rfl, _, rfl, ?_⟩
    generalize hM : tSeq (tAsg (tCB _ _) _) _ _ = M
    have key : ∀ o' u' : Int, 0 < u' → Bd 1900 o' → Bd 1900 u' → Nat.gcd o'.natAbs u'.natAbs = Nat.gcd o.natAbs u.natAbs → red o u = (o' / (Nat.gcd o.natAbs u.natAbs : Nat), u' / (Nat.gcd o.natAbs u.natAbs : Nat)) → M [some (.int o'), some (.int u'), none, none, none, none] H := by
      intro o' u' hu' ho' hb' hg hred
      rw [← hM]
      have hgp := gcd_pos (o := o) hu
      have hgb : Bd 1900 ((Nat.gcd o.natAbs u.natAbs : Nat) : Int) := by
        unfold Bd at *
        rw [Int.natAbs_natCast]
        exact Nat.lt_of_le_of_lt (Nat.gcd_le_right _ (by omega)) hb
      refine ⟨_, rfl, _, rfl, ?_⟩
      rw [show (if o' < 0 then -o' else o') = ((o'.natAbs : Nat) : Int) by split <;> omega]
      refine ⟨_, rfl, ?_⟩
      rw [show u' = ((u'.natAbs : Nat) : Int) by omega]
      dsimp only [gName]
      show tSeq (tFor _ _ _) _ _ [some (.int o'), some (.int ((u'.natAbs : Nat) : Int)), some (.int ((o'.natAbs : Nat) : Int)), some (.int ((u'.natAbs : Nat) : Int)), none, none] H
      have fin : ∀ (b : Nat) (v4 v5 : Option V), b = Nat.gcd o.natAbs u.natAbs → tRet (tTup (tCons (tOp (rI CDivW fun i j => V.int (i / j)) (tVar 0) (tVar 3)) (tCons (tOp (rI CDivW fun i j => V.int (i / j)) (tVar 1) (tVar 3)) tNil))) { nx := fun _ H' => Q .non H', rt := Q } [some (.int o'), some (.int ((u'.natAbs : Nat) : Int)), some (.int 0), some (.int (b : Int)), v4, v5] H := by
        intro b v4 v5 hb9
        have hbp : (0 : Int) < (b : Int) := by omega
        have hbl : (b : Int).natAbs.log2 < 9000 := by rw [hb9]; exact Nat.lt_trans (hgb.log (by decide)) (by decide)
        refine ⟨_, rfl, _, rfl, _, _, rfl, rfl, ⟨hbp, hbl⟩, _, rfl, _, rfl, _, _, rfl, rfl, ⟨hbp, hbl⟩, by show 2 ≤ sizeLine; decide, fun g hg9 => ?_⟩
        refine q _ g (same_new hg9) ?_
        show _ = some (HO.tup [V.int (red o u).1, V.int (red o u).2])
        rw [hred, hb9, show ((u'.natAbs : Nat) : Int) = u' by omega]
        exact upd_same
      refine ⟨_, rfl, by decide, by decide, for_it walk_range (fun i σ H' => ∃ (a b : Nat) (v4 v5 : Option V), σ = [some (.int o'), some (.int ((u'.natAbs : Nat) : Int)), some (.int (a : Int)), some (.int (b : Int)), v4, v5] ∧ H' = H ∧ Nat.gcd a b = Nat.gcd o.natAbs u.natAbs ∧ 0 < b ∧ (1 ≤ i → a ≤ b) ∧ a * b < 2 ^ (3800 - (i - 1)))
        ⟨o'.natAbs, u'.natAbs, none, none, rfl, rfl, hg, by omega, fun h => absurd h (by decide), ?_⟩ (fun _ _ _ _ _ => trivial) ?_ ?_⟩
      · have h1 : o'.natAbs * u'.natAbs < 2 ^ 1900 * 2 ^ 1900 := Nat.mul_lt_mul'' ho' hb'
        rw [← Nat.pow_add] at h1
        exact Nat.lt_of_lt_of_le h1 (Nat.pow_le_pow_right (by decide) (by decide))
      · rintro i x σ Ha Hb hi ⟨a, b, v4, v5, rfl, rfl, hab, hb0, hle, hpr⟩ ⟨rfl, hx⟩
        obtain rfl : x = V.int (i : Int) := hx.trans (congrArg V.int (Int.zero_add _))
        refine ⟨_, rfl, rfl, _, rfl, ?_⟩
        by_cases ca : a = 0
        · subst ca
          rw [decide_eq_true (show V.int ((0 : Nat) : Int) = V.int 0 from rfl)]
          refine iteT ?_
          have hb9 : b = Nat.gcd o.natAbs u.natAbs := by rw [← hab, Nat.gcd_zero_left]
          exact fin b _ _ hb9
        · rw [decide_eq_false (show ¬ V.int (a : Int) = V.int 0 from fun e => ca (by have := V.int.inj e; omega))]
          refine iteF ⟨_, rfl, .inl ⟨_, rfl, _, rfl, _, _, rfl, rfl, by show (0 : Int) < (a : Int); omega, ?_⟩⟩
          refine ⟨_, rfl, _, rfl, b % a, a, _, _, rfl, rfl, ?_, by omega, fun _ => Nat.le_of_lt (Nat.mod_lt b (by omega)), ?_⟩
          · rw [gcd_step (by omega)]; exact hab
          · by_cases c1 : 1 ≤ i
            · have hh := half (a := a) (b := b) (by omega) (hle c1)
              have e4 : 3800 - (i - 1) = (3800 - (i + 1 - 1)) + 1 ∨ 3800 - (i - 1) = 0 := by omega
              rcases e4 with e4 | e4
              · rw [e4, Nat.pow_succ] at hpr
                omega
              · rw [e4, Nat.pow_zero] at hpr
                have : 0 < a * b := Nat.mul_pos (by omega) hb0
                omega
            · have h9 : b % a * a ≤ a * b := by rw [Nat.mul_comm a b]; exact Nat.mul_le_mul_right _ (Nat.mod_le _ _)
              rw [show 3800 - (i - 1) = 3800 - (i + 1 - 1) by omega] at hpr
              exact Nat.lt_of_le_of_lt h9 hpr
      · rintro σ H5 ⟨a, b, v4, v5, rfl, rfl, hab, hb0, hle, hpr⟩
        have h0 : a = 0 := by
          rw [show 3800 - ((4000 : Int).toNat - 1) = 0 by decide, Nat.pow_zero] at hpr
          have h9 : a * b = 0 := by omega
          rcases Nat.mul_eq_zero.mp h9 with h | h
          · exact h
          · omega
        subst h0
        exact fin b _ _ (by rw [← hab, Nat.gcd_zero_left])
    by_cases c : u < 0
    · rw [decide_eq_true c]
      refine iteT ⟨_, rfl, _, _, rfl, rfl, _, rfl, _, _, rfl, rfl, ?_⟩
      have e1 : (0 : Int) - o = -o := by omega
      have e2 : (0 : Int) - u = -u := by omega
      have := key (-o) (-u) (by omega) ho.neg hb.neg (by rw [Int.natAbs_neg, Int.natAbs_neg]) (by rw [red, if_pos c])
      rw [← e1, ← e2] at this
      exact this
    · rw [decide_eq_false c]
      exact iteF (key o u (by omega) ho hb rfl (by rw [red, if_neg c]))
theorem ok_lwritten {f : Addr} {fd : FuncData} (F : C8.Fun K "_law_written" "_law_written" s__law_written f fd) (T : Txt K mg) : FnOk P w K mg base C8.CX0 1 f fd ["share"] sp_lwritten := by
  refine C8.fn0 F sc__law_written (fun vs H Q E h => ?_) (fun cdv A outer s H vs Q E hr h => ?_)
  · obtain ⟨g, q, rfl, _⟩ := h; rfl
  · obtain ⟨g, q, rfl, hg, ⟨b1, b2, b3⟩, qq⟩ := h
    refine ⟨_, (pss_cons (ps_if (pt_cmpR op_eq (pe_ix ix_tup (pv 0) pe_int (fun _ _ => rfl)) pe_int (nomark _)) (pss_one (ps_ret (pe_callTy call_str_int (by rfl) T.b_str (by decide +kernel) (pa_cons (pe_ix ix_tup (pv 0) pe_int (fun _ _ => rfl)) pa_nil)))) pss_nil)
      (pss_one (ps_ret (pe_op op_add_str (pe_op op_add_str (pe_callTy call_str_int (by rfl) T.b_str (by decide +kernel) (pa_cons (pe_ix ix_tup (pv 0) pe_int (fun _ _ => rfl)) pa_nil)) pe_str) (pe_callTy call_str_int (by rfl) T.b_str (by decide +kernel) (pa_cons (pe_ix ix_tup (pv 0) pe_int (fun _ _ => rfl)) pa_nil)))))), ?_⟩
    have l1 := intL_len b1
    have l2 := intL_len b2
    refine ⟨_, rfl, g, _, _, _, rfl, rfl, SqT.of hg, rfl, rfl, _, rfl, ?_⟩
    by_cases c : q.2 = 1
    · rw [decide_eq_true (show V.int q.2 = V.int 1 from congrArg V.int c)]
      refine iteT ⟨_, rfl, g, _, _, _, rfl, rfl, SqT.of hg, rfl, _, rfl, Nat.lt_trans (b1.log (by decide)) (by decide), ?_⟩
      rw [str_int]
      rw [wr, if_pos c] at qq
      exact qq
    · rw [decide_eq_false (show ¬ V.int q.2 = V.int 1 from fun e => c (V.int.inj e))]
      refine iteF ⟨_, rfl, g, _, _, _, rfl, rfl, SqT.of hg, rfl, _, rfl, Nat.lt_trans (b1.log (by decide)) (by decide), S (intL q.1), S [47], str_int _, rfl, by rw [S_len, S_len]; exact small_le (by show _ + 1 ≤ 1000; omega), _, rfl, g, _, _, _, rfl, rfl, SqT.of hg, rfl, _, rfl, Nat.lt_trans (b2.log (by decide)) (by decide), S (intL q.1 ++ [47]), S (intL q.2), congrArg V.str (S_app9 _ _), str_int _, ?_, ?_⟩
      · rw [S_len, S_len, sizeLine_eq, List.length_append, List.length_singleton]; omega
      · rw [S_app9, show intL q.1 ++ [47] ++ intL q.2 = wr q by rw [wr, if_neg c, List.append_assoc]; rfl]
        exact qq
end
end RJ
end

section
set_option maxRecDepth 100000
set_option maxHeartbeats 8000000
namespace RJ
open PySem PySem.Spec PyProof.Rows L2
theorem prD {K : PySem.W.Frag} {H : Hp} {g : Addr} {q : Int × Int} (h : PrAt H g q) : Dp K H (.ref g) (.tuple [.int q.1, .int q.2]) := .tup (SqT.of h) (.cons (.int _) (.cons (.int _) .nil))
theorem shaped_pr (a b : Int) : SeqAt.shaped (.tuple [.int a, .int b]) = true := by
  unfold SeqAt.shaped
  rw [PyData.canLay0, PyData.depth]
  simp [PyData.canLayAll0, PyData.canLay0, PyData.depthAll, PyData.depth]
theorem eqv_pr (a b : Int × Int) : PyData.eqv (.tuple [.int a.1, .int a.2]) (.tuple [.int b.1, .int b.2]) = decide (a = b) := by
  obtain ⟨a, b'⟩ := a
  obtain ⟨c, d⟩ := b
  by_cases h1 : a = c
  · by_cases h2 : b' = d
    · subst h1; subst h2; simp [PyData.eqvAll, PyData.eqv]
    · simp [PyData.eqvAll, PyData.eqv, h2]
  · simp [PyData.eqvAll, PyData.eqv, h1]
section
variable {P : Program} {w : World} {K : PySem.W.Frag} {mg : Str → Option Value} {base : Heap}
theorem ok_ladded {f : Addr} {fd : FuncData} (F : C8.Fun K "_law_added" "_law_added" s__law_added f fd) (T : Txt K mg) (c__law_share : C8.Cal P w K mg base 1 "_law_share" sp_lshare []) : FnOk P w K mg base C8.CX0 2 f fd ["one", "other"] (sp_lop addS) := by
  refine C8.fn0 F sc__law_added (fun vs H Q E h => ?_) (fun cdv A outer s H vs Q E hr h => ?_)
  · obtain ⟨g, g2, a, b, m, n, rfl, _⟩ := h; rfl
  · obtain ⟨g, g2, a, b, m, n, rfl, h1, h2, ⟨a1, a2, a3⟩, ⟨b1, b2, b3⟩, hmn, hm, hn, q⟩ := h
    refine ⟨_, (pss_one (ps_ret (C8.pe_c c__law_share hr (by first | decide | omega) (by rfl) (pa_cons (pe_op op_add (pe_op op_mulW (pe_ix ix_tup (pv 0) pe_int (fun _ _ => rfl)) (pe_ix ix_tup (pv 1) pe_int (fun _ _ => rfl))) (pe_op op_mulW (pe_ix ix_tup (pv 1) pe_int (fun _ _ => rfl)) (pe_ix ix_tup (pv 0) pe_int (fun _ _ => rfl)))) (pa_cons (pe_op op_mulW (pe_ix ix_tup (pv 0) pe_int (fun _ _ => rfl)) (pe_ix ix_tup (pv 1) pe_int (fun _ _ => rfl))) pa_nil))))), ?_⟩
    refine ⟨_, rfl, g, _, _, _, rfl, rfl, SqT.of h1, rfl, _, rfl, g2, _, _, _, rfl, rfl, SqT.of h2, rfl, _, _, rfl, rfl, mulw a1 b2 hm hn (by omega), _, rfl, g2, _, _, _, rfl, rfl, SqT.of h2, rfl, _, rfl, g, _, _, _, rfl, rfl, SqT.of h1, rfl, _, _, rfl, rfl, mulw b1 a2 hn hm (by omega), _, _, rfl, rfl,
      _, rfl, g, _, _, _, rfl, rfl, SqT.of h1, rfl, _, rfl, g2, _, _, _, rfl, rfl, SqT.of h2, rfl, _, _, rfl, rfl, mulw a2 b2 hm hn (by omega), _, _, rfl, mul_ne a3 b3, ?_, ?_, fun H' y s' hy => q H' y s' hy⟩
    · exact ((a1.mul b2).add ((b1.mul a2).mono (by omega))).mono (by omega)
    · exact (a2.mul b2).mono (by omega)
theorem ok_ltimes {f : Addr} {fd : FuncData} (F : C8.Fun K "_law_times" "_law_times" s__law_times f fd) (T : Txt K mg) (c__law_share : C8.Cal P w K mg base 1 "_law_share" sp_lshare []) : FnOk P w K mg base C8.CX0 2 f fd ["one", "other"] (sp_lop mulS) := by
  refine C8.fn0 F sc__law_times (fun vs H Q E h => ?_) (fun cdv A outer s H vs Q E hr h => ?_)
  · obtain ⟨g, g2, a, b, m, n, rfl, _⟩ := h; rfl
  · obtain ⟨g, g2, a, b, m, n, rfl, h1, h2, ⟨a1, a2, a3⟩, ⟨b1, b2, b3⟩, hmn, hm, hn, q⟩ := h
    refine ⟨_, (pss_one (ps_ret (C8.pe_c c__law_share hr (by first | decide | omega) (by rfl) (pa_cons (pe_op op_mulW (pe_ix ix_tup (pv 0) pe_int (fun _ _ => rfl)) (pe_ix ix_tup (pv 1) pe_int (fun _ _ => rfl))) (pa_cons (pe_op op_mulW (pe_ix ix_tup (pv 0) pe_int (fun _ _ => rfl)) (pe_ix ix_tup (pv 1) pe_int (fun _ _ => rfl))) pa_nil))))), ?_⟩
    refine ⟨_, rfl, g, _, _, _, rfl, rfl, SqT.of h1, rfl, _, rfl, g2, _, _, _, rfl, rfl, SqT.of h2, rfl, _, _, rfl, rfl, mulw a1 b1 hm hn (by omega),
      _, rfl, g, _, _, _, rfl, rfl, SqT.of h1, rfl, _, rfl, g2, _, _, _, rfl, rfl, SqT.of h2, rfl, _, _, rfl, rfl, mulw a2 b2 hm hn (by omega), _, _, rfl, mul_ne a3 b3, ?_, ?_, fun H' y s' hy => q H' y s' hy⟩
    · exact (a1.mul b1).mono (by omega)
    · exact (a2.mul b2).mono (by omega)
theorem ok_lis {f C : Addr} {fd : FuncData} (F : C8.Fun K "_law_is_share" "_law_is_share" s__law_is_share f fd) (T : Txt K mg) (J : STxt K C) : FnOk P w K mg base C8.CX0 1 f fd ["actual", "due"] (sp_lis C) := by
  refine C8.fn0 F sc__law_is_share (fun vs H Q E h => ?_) (fun cdv A outer s H vs Q E hr h => ?_)
  · obtain ⟨p, g, q, rfl, _⟩ := h; rfl
  · obtain ⟨p, g, q, rfl, ⟨dx, h1⟩, hg, qq⟩ := h
    have hu64 := hu64_of hr
    refine ⟨_, (pss_cons (ps_for PassesOwn.never rfl (pi_tup (pe_tup (pa_cons (pe_fld (pv 0) rfl) (pa_cons (pe_fld (pv 0) rfl) pa_nil)))) (pg_name (i := 2) sc__law_is_share.nd rfl (Or.inl rfl)) (pss_one (ps_if (PW.pt (pw_or (pt_not (pt_val (pe_callB call_isi (by rfl) T.b_isinstance (by decide +kernel) (pa_cons (pv 2) (pa_cons (pe_bltn (v := .ty "int") (u := .type "int") rfl T.b_int (by decide +kernel) rfl) pa_nil))))) (pw_or1 (pt_val (pe_callB call_isi (by rfl) T.b_isinstance (by decide +kernel) (pa_cons (pv 2) (pa_cons (pe_bltn (v := .ty "bool") (u := .type "bool") rfl T.b_bool (by decide +kernel) rfl) pa_nil))))))) (pss_one (ps_ret pe_bl)) pss_nil)))
      (pss_one (ps_ret (pe_cmpR (op_eqD hu64) (pe_tup (pa_cons (pe_fld (pv 0) rfl) (pa_cons (pe_fld (pv 0) rfl) pa_nil))) (pv 1) (nomark _))))), ?_⟩
    refine ⟨_, rfl, p, C, dx, _, _, rfl, h1, J.cl, J.n1, sh1 q, _, rfl, p, C, dx, _, _, rfl, h1, J.cl, J.n2, sh2 q, by show 2 ≤ sizeLine; decide, fun t ht => ?_⟩
    have st := same_new (o := .tup [.int q.1, .int q.2]) ht
    refine ⟨t, rfl, ⟨_, SqT.of upd_same⟩, for_it walk_tup (fun i σ H' => ∃ v2 : Option V, σ = [some (.ref p), some (.ref g), v2] ∧ Same (upd H t (.tup [.int q.1, .int q.2])) H') ⟨none, rfl, Same.refl _⟩ (fun i σ H' _ ⟨_, _, s'⟩ => SqT.of (s' _ _ upd_same)) ?_ ?_⟩
    · rintro i x σ Ha Hb hi ⟨v2, rfl, s'⟩ ⟨rfl, hx⟩
      obtain ⟨z, rfl⟩ : ∃ z, x = V.int z := by
        match i, hx with
        | 0, hx => exact ⟨q.1, (Option.some.inj hx).symm⟩
        | 1, hx => exact ⟨q.2, (Option.some.inj hx).symm⟩
        | i + 2, _ => exact absurd hi (by simp)
      refine ⟨_, rfl, _, .ty "int", .type "int", .type "int", true, rfl, .ty _, .base (.int z), kit_ty (by decide +kernel), _, rfl, iteF ?_⟩
      exact ⟨_, rfl, _, .ty "bool", .type "int", .type "bool", false, rfl, .ty _, .base (.int z), kit_ty (by decide +kernel), _, rfl, iteF ⟨_, rfl, s'⟩⟩
    · rintro σ H1 ⟨v2, rfl, s1⟩
      have s01 := st.trans s1
      refine ⟨_, rfl, p, C, dx, _, _, rfl, s01 _ _ h1, J.cl, J.n1, sh1 q, _, rfl, p, C, dx, _, _, rfl, s01 _ _ h1, J.cl, J.n2, sh2 q, by show 2 ≤ sizeLine; decide, fun t2 ht2 => ?_⟩
      have s2 := same_new (o := .tup [.int q.1, .int q.2]) ht2
      refine ⟨_, rfl, _, _, prD (q := q) upd_same, prD (q := q) (s2 _ _ (s01 _ _ hg)), shaped_pr _ _, shaped_pr _ _, ?_⟩
      rw [eqv_pr, decide_eq_true rfl]
      exact qq _ (s01.trans s2)
theorem ok_lone {f C : Addr} {fd : FuncData} (F : C8.Fun K "_law_one_right" "_law_one_right" s__law_one_right f fd) (T : Txt K mg) (J : STxt K C) (m_written : C8.Met P w K mg base 2 C "written" (sp_shwritten C) []) (c__law_is_share : C8.Cal P w K mg base 1 "_law_is_share" (sp_lis C) []) (c__law_written : C8.Cal P w K mg base 1 "_law_written" sp_lwritten []) : FnOk P w K mg base C8.CX0 4 f fd ["share", "due"] (sp_lone C) := by
  refine C8.fn0 F sc__law_one_right (fun vs H Q E h => ?_) (fun cdv A outer s H vs Q E hr h => ?_)
  · obtain ⟨p, g, q, rfl, _⟩ := h; rfl
  · obtain ⟨p, g, q, rfl, ⟨dx, h1⟩, hg, hb, qq⟩ := h
    refine ⟨_, (pss_cons (ps_set (i := 2) sc__law_one_right.nd rfl (Or.inl rfl) (C8.pe_mt0 m_written hr (by first | decide | omega) (pv 0)))
      (pss_one (ps_ret (pe_and (C8.pe_c c__law_is_share hr (by first | decide | omega) (by rfl) (pa_cons (pv 0) (pa_cons (pv 1) pa_nil))) (pe_and (pe_callB call_isi (by rfl) T.b_isinstance (by decide +kernel) (pa_cons (pv 2) (pa_cons (pe_bltn (v := .ty "str") (u := .type "str") rfl T.b_str (by decide +kernel) rfl) pa_nil))) (pe_one (pe_cmpR op_eq (pv 2) (C8.pe_c c__law_written hr (by first | decide | omega) (by rfl) (pa_cons (pv 1) pa_nil)) (nomark _)))))))), ?_⟩
    refine ⟨_, rfl, p, dx, _, rfl, h1, rfl, p, q, rfl, ⟨dx, h1⟩, hb, fun H1 s1 => ?_⟩
    refine ⟨_, rfl, _, rfl, p, g, q, rfl, ⟨dx, s1 _ _ h1⟩, s1 _ _ hg, fun H2 s2 => ⟨_, rfl, iteT ?_⟩⟩
    refine ⟨_, rfl, _, .ty "str", .type "str", .type "str", true, rfl, .ty _, .base (.str _), kit_ty (by decide +kernel), _, rfl, iteT ?_⟩
    refine ⟨_, rfl, _, rfl, g, q, rfl, s2 _ _ (s1 _ _ hg), hb, rfl, ?_⟩
    rw [decide_eq_true rfl]
    exact qq _ (s1.trans s2)
end
end RJ
end

section
set_option maxRecDepth 100000
set_option maxHeartbeats 8000000
namespace RJ
open PySem PySem.Spec PyProof.Rows L2
abbrev s__law_refused : Stmt := top 20
abbrev N__law_refused : List Str := ["over", "e"]
theorem sc__law_refused : FnScope N__law_refused ["over"] (C8.fnScope s__law_refused) := C8.fnScope_by (by decide +kernel)
abbrev s__law_integer : Stmt := top 17
abbrev N__law_integer : List Str := ["tape", "size", "great", "k"]
theorem sc__law_integer : FnScope N__law_integer ["tape", "size"] (C8.fnScope s__law_integer) := C8.fnScope_by (by decide +kernel)
abbrev s__law_pair : Stmt := top 18
abbrev N__law_pair : List Str := ["tape", "size", "over", "under", "more"]
theorem sc__law_pair : FnScope N__law_pair ["tape"] (C8.fnScope s__law_pair) := C8.fnScope_by (by decide +kernel)
abbrev s__law_two_right : Stmt := top 22
abbrev N__law_two_right : List Str := ["one", "other", "first", "second", "minus", "alike", "below"]
theorem sc__law_two_right : FnScope N__law_two_right ["one", "other", "first", "second"] (C8.fnScope s__law_two_right) := C8.fnScope_by (by decide +kernel)
/-- a number out of its limits, here: none below 0, none great -/
def gNum (x : V) : Prop := ∃ i : Nat, x = .int (i : Int) ∧ i ≤ 2000
theorem num_len {i : Nat} (hi : i ≤ 2000) : (Str.ofString (toString (i : Int))).length ≤ 100 ∧ Nat.log2 ((i : Int)).natAbs ≤ 200 := by
  refine ⟨?_, ?_⟩
  · have e : toString ((i : Nat) : Int) = toString i := rfl
    rw [SX.num_S, S_len]
    by_cases h0 : i = 0
    · subst h0; decide
    · exact Nat.le_trans (TL.numL_len (n := i) (k := 4) (by decide) (by omega)) (by decide)
  · rw [Int.natAbs_natCast]
    by_cases h0 : i = 0
    · subst h0; decide
    · exact Nat.le_of_lt ((Nat.log2_lt h0).mpr (Nat.lt_of_le_of_lt hi (by decide +kernel)))
/-- no plain value's type has to do with the class -/
structure PlainC (K : PySem.W.Frag) (C : Addr) : Prop where
  n1 : PySem.W.subIn K (.type "NoneType") (.ref C) = some false
  n2 : PySem.W.subIn K (.type "int") (.ref C) = some false
  n3 : PySem.W.subIn K (.type "str") (.ref C) = some false
  n4 : PySem.W.subIn K (.type "tuple") (.ref C) = some false
  k1 : PySem.W.kitOne K (.type "NoneType") (.ref C) = some false
  k2 : PySem.W.kitOne K (.type "int") (.ref C) = some false
  k3 : PySem.W.kitOne K (.type "str") (.ref C) = some false
  k4 : PySem.W.kitOne K (.type "tuple") (.ref C) = some false
theorem PlainC.first {K : PySem.W.Frag} {C : Addr} {H : Hp} {y : V} {T : String} (h : PlainC K C) (t : TyN H y T) : PySem.W.notFirst K C (.type T) = true := by
  unfold PySem.W.notFirst
  rcases t with ⟨_, rfl⟩ | ⟨_, _, rfl⟩ | ⟨_, _, rfl⟩ | ⟨_, _, _, _, rfl⟩
  · rw [h.n1]; simp
  · rw [h.n2]; simp
  · rw [h.n3]; simp
  · rw [h.n4]; simp
theorem PlainC.isi {K : PySem.W.Frag} {C : Addr} {H : Hp} {y : V} {T : String} (h : PlainC K C) (t : TyN H y T) : TyX K H y (.type T) ∧ PySem.W.kitOne K (.type T) (.ref C) = some false := by
  rcases t with ⟨rfl, rfl⟩ | ⟨_, rfl, rfl⟩ | ⟨_, rfl, rfl⟩ | ⟨_, _, rfl, e, rfl⟩
  · exact ⟨.base .non, h.k1⟩
  · exact ⟨.base (.int _), h.k2⟩
  · exact ⟨.base (.str _), h.k3⟩
  · exact ⟨.base (.tup e), h.k4⟩
/-- raised, all as it was but at p -/
def ErrOff (p : Addr) (E : XK) (C : Addr) (H : Hp) (fs : List (Str × V)) : Prop := ∀ d H', SameX p H H' → H' d = some (.xd fs) → E (.ref C) (some d) H'
def sp_shX (C CN : Addr) : Sp := fun vs H _ E => ∃ (p dx : Addr) (o : Int), vs = [.ref p, .int o, .int 0] ∧ H p = some (.ins C dx []) ∧ ErrOff p E CN H [("number", .int 0)]
def sp_sheqV (C : Addr) : Sp := fun vs H Q _ => ∃ (p : Addr) (y : V) (T : String) (a : Int × Int), vs = [.ref p, y] ∧ ShareAt C H p a ∧ TyN H y T ∧ Q (.bl false) H
def sp_lref : Sp := fun vs H Q _ => ∃ o : Int, vs = [.int o] ∧ ∀ H', Same H H' → Q (.bl true) H'
section
variable {P : Program} {w : World} {K : PySem.W.Frag} {mg : Str → Option Value} {base : Heap}
theorem ok_InvalidNumber {f C : Addr} {fd : FuncData} (F : SupF P K C "InvalidNumber.__init__" s_InvalidNumber___init__ f fd) (T : Txt K mg) (hm : mg "super" = none) (n1 : PySem.W.findIn K (.ref C) "number" = some none) :
    FnOk P w K mg base C8.CX0 1 f fd ["self", "number"] (sp_err1 C "number" gNum) := by
  refine fn_super F hm sc_InvalidNumber___init__ rfl rfl rfl (fun vs H Q E h => ?_) (fun vs H Q E h => ?_) (fun _ => rfl) (fun _ => rfl) (fun _ _ => rfl) (fun cda cc A outer s H vs Q E hr h => ?_)
  · obtain ⟨a, x, rfl, _⟩ := h; rfl
  · obtain ⟨a, x, rfl, _, ea, _⟩ := h; exact ⟨a, _, rfl, ea⟩
  · obtain ⟨a, x, rfl, ⟨z, rfl, hz⟩, ea, q⟩ := h
    have nd : N_InvalidNumber___init__.Nodup := sc_InvalidNumber___init__.nd
    refine ⟨_, _, (pa_cons (pe_joined (PJ.cons pe_str (PJ.cons (pe_fmtR (pv 1)) PJ.nil))) pa_nil), (pss_one (ps_ost (pv 0) (pv 1))), ?_, ?_⟩
    · obtain ⟨h2, h3⟩ := num_len hz
      have hsl : sizeLine = 16777216 := sizeLine_eq
      refine ⟨_, rfl, ?_, ⟨_, rfl, .inr ⟨(z : Int), rfl, ?_, ⟨_, rfl, ?_, ⟨rfl, by show 1 ≤ 1000; decide⟩⟩⟩⟩⟩
      · decide
      · exact Nat.lt_of_le_of_lt h3 (by omega)
      · rw [PySem.Str.length_append]
        have c1 : (Str.empty ++ Str.ofString "not a number within its limits: ").length = 32 := by decide
        omega
    · refine ⟨.int (z : Int), rfl, .ref a, rfl, a, C, rfl, F.oex, n1, .inl ⟨ea, fun dx hdx hne => ?_⟩⟩
      exact q dx hdx hne
theorem ok_sheqV {f C : Addr} {fd : FuncData} (F : C8.Fun K "__eq__" "Share.__eq__" s_Share___eq__ f fd) (T : Txt K mg) (J : STxt K C) (GShare : mg "Share" = some (.ref C)) (PC : PlainC K C) : FnOk P w K mg base C8.CX0 1 f fd ["self", "other"] (sp_sheqV C) := by
  refine C8.fn0 F sc_Share___eq__ (fun vs H Q E h => ?_) (fun cdv A outer s H vs Q E hr h => ?_)
  · obtain ⟨p, y, T, a, rfl, _⟩ := h; rfl
  · obtain ⟨p, y, ty, a, rfl, hm, hy, q⟩ := h
    obtain ⟨t1, t2⟩ := PC.isi hy
    refine ⟨_, (pss_one (ps_ret (pe_and (pe_callB call_isi (by rfl) T.b_isinstance (by decide +kernel) (pa_cons (pv 1) (pa_cons (pe_glob (v := .ref C) rfl GShare rfl) pa_nil))) (pe_and (pe_cmpR op_eq (pe_fld (pv 0) rfl) (pe_fld (pv 1) rfl) (nomark _)) (pe_one (pe_cmpR op_eq (pe_fld (pv 0) rfl) (pe_fld (pv 1) rfl) (nomark _))))))), ?_⟩
    exact ⟨_, rfl, _, _, _, _, false, rfl, .own C, t1, t2, _, rfl, iteF q⟩
theorem ok_shinitX {f C CInvalidNumber : Addr} {fd : FuncData} (F : C8.Fun K "__init__" "Share.__init__" s_Share___init__ f fd) (T : Txt K mg) (J : STxt K C) (Ggcd : mg "gcd" = some (.builtin "math.gcd")) (eInvalidNumber : ErrC P w K mg base "InvalidNumber" CInvalidNumber (sp_err1 CInvalidNumber "number" gNum)) : FnOk P w K mg base (CXN P w) 4 f fd ["self", "over", "under"] (sp_shX C CInvalidNumber) := by
  refine fnX F sc_Share___init__ (fun vs H Q E h => ?_) (fun cdv A outer s H vs Q E hr h tk => ?_)
  · obtain ⟨p, dx, o, rfl, _⟩ := h; rfl
  · obtain ⟨p, dx, o, rfl, hp, q⟩ := h
    refine ⟨_, (pss_cons (ps_if (pt_cmpR op_eq (pv 2) pe_int (nomark _)) (pss_one (L2N.ps_raise rfl tk (pmk_err eInvalidNumber hr (by first | decide | omega) (by rfl) (pa_cons (pv 2) pa_nil)))) pss_nil)
      (pss_cons (ps_set (i := 3) sc_Share___init__.nd rfl (Or.inl rfl) (pe_callBfun cr_gcd (by rfl) Ggcd (pa_cons (pv 1) (pa_cons (pv 2) pa_nil))))
      (pss_cons (ps_if (pt_cmpR op_lt (pv 2) pe_int (nomark _)) (pss_one (ps_set (i := 3) sc_Share___init__.nd rfl (Or.inl rfl) (pe_un un_neg (pv 3)))) pss_nil)
      (pss_cons (ps_fld (pv 0) (pe_op op_fdivNW (pv 1) (pv 3)) rfl)
      (pss_one (ps_fld (pv 0) (pe_op op_fdivNW (pv 2) (pv 3)) rfl)))))), ?_⟩
    refine ⟨_, rfl, rfl, _, rfl, ?_⟩
    rw [decide_eq_true (show V.int 0 = V.int 0 from rfl)]
    refine iteT (mk_err1 (x := .int 0) ⟨0, rfl, by decide⟩ ⟨_, rfl, rfl, fun d H' s hd => q d H' (Same.x s) hd⟩ fun h1 h2 => ?_)
    obtain ⟨a1, e1, h1⟩ := h1
    exact ⟨a1, e1, h2 _ _ h1⟩
theorem ok_lref {f C CInvalidNumber CNotCut CJoinError : Addr} {fd : FuncData} (F : C8.Fun K "_law_refused" "_law_refused" s__law_refused f fd) (T : Txt K mg) (x_Share : MakX P w K mg base 4 "Share" C (sp_shX C CInvalidNumber)) (GJoinError : mg "JoinError" = some (.ref CJoinError)) (GInvalidNumber : mg "InvalidNumber" = some (.ref CInvalidNumber)) (GNotCut : mg "NotCut" = some (.ref CNotCut)) (eiInvalidNumber : ErrI K CInvalidNumber) (nInvalidNumber_number : PySem.W.findIn K (.ref CInvalidNumber) "number" = some none)
    (k1 : PySem.W.exmOne K (.ref CInvalidNumber) (.ref CJoinError) = some true) (k2 : PySem.W.kitOne K (.ref CInvalidNumber) (.ref CInvalidNumber) = some true) (k3 : PySem.W.kitOne K (.ref CInvalidNumber) (.type "ValueError") = some true) (k4 : PySem.W.kitOne K (.ref CInvalidNumber) (.ref CNotCut) = some false) : FnOk P w K mg base C8.CX0 6 f fd ["over"] sp_lref := by
  refine C8.fn0 F sc__law_refused (fun vs H Q E h => ?_) (fun cdv A outer s H vs Q E hr h => ?_)
  · obtain ⟨o, rfl, _⟩ := h; rfl
  · obtain ⟨o, rfl, q⟩ := h
    refine ⟨_, (pss_cons (L2N.ps_try_as (i := 1) rfl rfl sc__law_refused.nd rfl rfl (c := .ref CJoinError) ⟨by rfl, by decide, .inl GJoinError⟩ takes0 (fun W pn xe tk po => (pss_one (ps_expr (pe_makeS x_Share hr (by first | decide | omega) tk (by rfl) (pa_cons (pv 0) (pa_cons pe_int pa_nil)))))) (fun a oe cls d pn hz hf => (pss_cons (ps_if (PW.pt (pw_or (pt_not (pt_val (pe_callB (call_isD hz.zc hf) (by rfl) T.b_isinstance (by decide +kernel) (pa_cons (pv 1) (pa_cons (pe_glob (v := .ref CInvalidNumber) rfl GInvalidNumber rfl) pa_nil))))) (pw_or (pt_not (pt_val (pe_callB (call_isD hz.zc hf) (by rfl) T.b_isinstance (by decide +kernel) (pa_cons (pv 1) (pa_cons (pe_bltn (v := .ty "ValueError") (u := .type "ValueError") rfl T.b_ValueError (by decide +kernel) rfl) pa_nil))))) (pw_or1 (pt_val (pe_callB (call_isD hz.zc hf) (by rfl) T.b_isinstance (by decide +kernel) (pa_cons (pv 1) (pa_cons (pe_glob (v := .ref CNotCut) rfl GNotCut rfl) pa_nil)))))))) (pss_one (ps_ret pe_bl)) pss_nil)
      (pss_one (ps_ret (pe_and (pe_callB (call_isiS (K := K) rfl) (by rfl) T.b_isinstance (by decide +kernel) (pa_cons (pe_xf eiInvalidNumber.xf nInvalidNumber_number hz.zc hf (pv 1)) (pa_cons (pe_bltn (v := .ty "int") (u := .type "int") rfl T.b_int (by decide +kernel) rfl) pa_nil))) (pe_and (pe_not (pe_callB (call_isiS (K := K) rfl) (by rfl) T.b_isinstance (by decide +kernel) (pa_cons (pe_xf eiInvalidNumber.xf nInvalidNumber_number hz.zc hf (pv 1)) (pa_cons (pe_bltn (v := .ty "bool") (u := .type "bool") rfl T.b_bool (by decide +kernel) rfl) pa_nil)))) (pe_one (pe_cmpR op_eq (pe_xf eiInvalidNumber.xf nInvalidNumber_number hz.zc hf (pv 1)) pe_int (nomark _))))))))))
      (pss_one (ps_ret pe_bl))), ?_⟩
    refine ⟨_, rfl, fun x dx nx ndx nex => ?_⟩
    have sM : ∀ (b : Addr) (o : HO), H b = some o → b ≠ x ∧ (upd (upd H dx (.own x)) x (.ins C dx [])) b = some o := fun b o e => by
      have hb := ne_of_none e nx
      exact ⟨hb, (upd_ne hb).trans ((upd_ne (ne_of_none e ndx)).trans e)⟩
    refine ⟨x, dx, o, rfl, upd_same, fun d H' s1 hd => ⟨true, k1, fun _ b hb => ?_, fun z => by cases z⟩⟩
    have s01 : Same H H' := fun b o e => s1 b o (sM b o e).1 (sM b o e).2
    refine ⟨_, rfl, CInvalidNumber, d, _, _, _, true, rfl, rfl, eiInvalidNumber, hd, rfl, rel_ref, k2, true, rfl, iteF ?_⟩
    refine ⟨_, rfl, CInvalidNumber, d, _, _, _, true, rfl, rfl, eiInvalidNumber, hd, rfl, rel_ty, k3, true, rfl, iteF ?_⟩
    refine ⟨_, rfl, CInvalidNumber, d, _, _, _, false, rfl, rfl, eiInvalidNumber, hd, rfl, rel_ref, k4, false, rfl, iteF ?_⟩
    refine ⟨_, rfl, rfl, rfl, d, _, _, rfl, hd, rfl, _, .ty "int", .type "int", .type "int", true, rfl, .ty _, .base (.int 0), kit_ty (by decide +kernel), _, rfl, iteT ?_⟩
    refine ⟨_, rfl, rfl, rfl, d, _, _, rfl, hd, rfl, _, .ty "bool", .type "int", .type "bool", false, rfl, .ty _, .base (.int 0), kit_ty (by decide +kernel), _, rfl, _, rfl, iteT ?_⟩
    exact ⟨_, rfl, rfl, rfl, d, _, _, rfl, hd, rfl, rfl, q H' s01⟩
end
end RJ
end

section
set_option maxRecDepth 100000
set_option maxHeartbeats 8000000
namespace RJ
open PySem PySem.Spec PyProof.Rows L2
def sp_linteger : Sp := fun vs H Q _ => ∃ (t : Tp) (sz : Nat), vs = [.ref t.d, .int (sz : Int)] ∧ TapeAt t H ∧ ∀ (H' : Hp) (z : Int), TSame t H H' → Bd 111 z → Q (.int z) H'
def sp_lpair : Sp := fun vs H Q _ => ∃ t : Tp, vs = [.ref t.d] ∧ TapeAt t H ∧ ∀ (H' : Hp) (g : Addr) (q : Int × Int), TSame t H H' → PrAt H' g q → q.2 ≠ 0 → Bd 118 q.1 → Bd 118 q.2 → Q (.ref g) H'
theorem bdS {z : Int} (n : Nat) (h1 : -1025 < z) (h2 : z < 1025) (hn : 11 ≤ n) : Bd n z := by
  refine Bd.mono (m := 11) ?_ hn
  show z.natAbs < 2048
  omega
section
variable {P : Program} {w : World} {K : PySem.W.Frag} {mg : Str → Option Value} {base : Heap}
theorem ok_linteger {f : Addr} {fd : FuncData} (F : C8.Fun K "_law_integer" "_law_integer" s__law_integer f fd) (T : Txt K mg) (c__law_draw : C8.Cal P w K mg base 2 "_law_draw" sp_draw []) (c__law_pick : C8.Cal P w K mg base 3 "_law_pick" sp_pick []) : FnOk P w K mg base C8.CX0 4 f fd ["tape", "size"] sp_linteger := by
  refine C8.fn0 F sc__law_integer (fun vs H Q E h => ?_) (fun cdv A outer s H vs Q E hr h => ?_)
  · obtain ⟨t, sz, rfl, _⟩ := h; rfl
  · obtain ⟨t, sz, rfl, hT, q⟩ := h
    refine ⟨_, (pss_cons (ps_if (pt_cmpR op_eq (pv 1) pe_int (nomark _)) (pss_one (ps_ret (pe_op op_sub (C8.pe_c c__law_draw hr (by first | decide | omega) (by rfl) (pa_cons (pv 0) (pa_cons pe_int pa_nil))) pe_int))) pss_nil)
      (pss_cons (ps_if (pt_cmpR op_eq (pv 1) pe_int (nomark _)) (pss_one (ps_ret (C8.pe_c c__law_pick hr (by first | decide | omega) (by rfl) (pa_cons (pv 0) (pa_cons (pe_lst (pa_cons pe_int (pa_cons pe_int (pa_cons (pe_un un_neg pe_int) (pa_cons pe_int (pa_cons pe_int (pa_cons (pe_un un_neg pe_int) (pa_cons pe_int (pa_cons (pe_op op_sub (C8.pe_c c__law_draw hr (by first | decide | omega) (by rfl) (pa_cons (pv 0) (pa_cons pe_int pa_nil))) pe_int) pa_nil))))))))) pa_nil))))) pss_nil)
      (pss_cons (ps_set (i := 2) sc__law_integer.nd rfl (Or.inl rfl) pe_int)
      (pss_cons (ps_for PassesOwn.never rfl (pi_range1 rfl T.b_range (pa_cons (pe_op op_add pe_int (C8.pe_c c__law_draw hr (by first | decide | omega) (by rfl) (pa_cons (pv 0) (pa_cons pe_int pa_nil)))) pa_nil)) (pg_name (i := 3) sc__law_integer.nd rfl (Or.inl rfl)) (pss_one (ps_set (i := 2) sc__law_integer.nd rfl (Or.inl rfl) (pe_op op_add (pe_op op_mul (pv 2) (C8.pe_c c__law_pick hr (by first | decide | omega) (by rfl) (pa_cons (pv 0) (pa_cons (pe_lst (pa_cons (pe_op op_add pe_int (C8.pe_c c__law_draw hr (by first | decide | omega) (by rfl) (pa_cons (pv 0) (pa_cons pe_int pa_nil)))) (pa_cons pe_int pa_nil))) pa_nil)))) (C8.pe_c c__law_draw hr (by first | decide | omega) (by rfl) (pa_cons (pv 0) (pa_cons pe_int pa_nil)))))))
      (pss_one (ps_ret (pe_op op_mul (pv 2) (pe_op op_sub pe_int (pe_op op_mul pe_int (C8.pe_c c__law_draw hr (by first | decide | omega) (by rfl) (pa_cons (pv 0) (pa_cons pe_int pa_nil)))))))))))), ?_⟩
    refine ⟨_, rfl, rfl, _, rfl, ?_⟩
    cases decide (V.int (sz : Int) = V.int 0) with
    | true =>
      refine iteT ⟨_, rfl, t, 13, rfl, hT, by decide, fun H1 r s1 hr1 => ⟨_, _, rfl, rfl, q H1 _ s1 (bdS _ (by omega) (by omega) (by decide))⟩⟩
    | false =>
      refine iteF ⟨_, rfl, rfl, _, rfl, ?_⟩
      cases decide (V.int (sz : Int) = V.int 1) with
      | true =>
        refine iteT ⟨_, rfl, 1, rfl, 12, rfl, _, rfl, t, 1000, rfl, hT, by decide, fun H1 r s1 hr1 => ⟨_, _, rfl, rfl, by show 8 ≤ sizeLine; decide, fun D hD => ?_⟩⟩
        have sD := s1.new (o := .lst [V.int 0, V.int 1, V.int (-1), V.int 2, V.int 6, V.int (-12), V.int 360, V.int ((r : Int) - 500)]) hD
        refine ⟨t, D, _, rfl, sD.at1, upd_same, by show 0 < 8; decide, fun H2 k x s2 hx => ?_⟩
        obtain ⟨z, rfl, hz⟩ : ∃ z, x = V.int z ∧ Bd 111 z := by
          match k, hx with
          | 0, hx => exact ⟨_, (Option.some.inj hx).symm, bdS _ (by decide) (by decide) (by decide)⟩
          | 1, hx => exact ⟨_, (Option.some.inj hx).symm, bdS _ (by decide) (by decide) (by decide)⟩
          | 2, hx => exact ⟨_, (Option.some.inj hx).symm, bdS _ (by decide) (by decide) (by decide)⟩
          | 3, hx => exact ⟨_, (Option.some.inj hx).symm, bdS _ (by decide) (by decide) (by decide)⟩
          | 4, hx => exact ⟨_, (Option.some.inj hx).symm, bdS _ (by decide) (by decide) (by decide)⟩
          | 5, hx => exact ⟨_, (Option.some.inj hx).symm, bdS _ (by decide) (by decide) (by decide)⟩
          | 6, hx => exact ⟨_, (Option.some.inj hx).symm, bdS _ (by decide) (by decide) (by decide)⟩
          | 7, hx => exact ⟨_, (Option.some.inj hx).symm, bdS _ (by omega) (by omega) (by decide)⟩
          | k + 8, hx => cases hx
        exact q _ _ (sD.trans s2) hz
      | false =>
        refine iteF ⟨_, rfl, t, 10, rfl, hT, by decide, fun H1 r s1 hr1 => ⟨_, _, rfl, rfl, _, rfl, by omega, by omega, for_it walk_range (fun i σ H' => ∃ (gr : Nat) (v3 : Option V), σ = [some (.ref t.d), some (.int (sz : Int)), some (.int (gr : Int)), v3] ∧ TSame t H H' ∧ gr < 2 ^ (11 * i + 1))
          ⟨1, none, rfl, s1, by decide⟩ (fun _ _ _ _ _ => trivial) ?_ ?_⟩⟩
        · rintro i x σ Ha Hb hi ⟨gr, v3, rfl, sa, hgr⟩ ⟨rfl, hx⟩
          refine ⟨_, rfl, _, rfl, _, rfl, t, 1000, rfl, sa.at1, by decide, fun H2 r2 s2 hr2 => ⟨_, _, rfl, rfl, by show 2 ≤ sizeLine; decide, fun D hD => ?_⟩⟩
          have sD := (sa.trans s2).new (o := .lst [V.int (1 + (r2 : Int)), V.int 1009]) hD
          refine ⟨t, D, _, rfl, sD.at1, upd_same, by show 0 < 2; decide, fun H3 k x s3 hx3 => ?_⟩
          obtain ⟨p, rfl, hp⟩ : ∃ p : Nat, x = V.int (p : Int) ∧ p ≤ 1009 := by
            match k, hx3 with
            | 0, hx => exact ⟨1 + r2, by rw [← Option.some.inj hx]; congr 1, by omega⟩
            | 1, hx => exact ⟨1009, (Option.some.inj hx).symm, by decide⟩
            | k + 2, hx => cases hx
          refine ⟨_, _, rfl, rfl, .inr ⟨by omega, by omega⟩, _, rfl, t, 1009, rfl, (sD.trans s3).at1, by decide, fun H4 r4 s4 hr4 => ⟨_, _, rfl, rfl, ?_⟩⟩
          refine ⟨gr * p + r4, some x, ?_, (sD.trans s3).trans s4, ?_⟩
          · show [some (V.ref t.d), some (V.int (sz : Int)), some (V.int ((gr : Int) * (p : Int) + (r4 : Int))), some x] = _
            rw [Int.natCast_add, Int.natCast_mul]
          · have h1 : gr * p ≤ gr * 1009 := Nat.mul_le_mul_left _ hp
            have h2 : 2 ^ (11 * (i + 1) + 1) = 2 ^ (11 * i + 1) * 2048 := by rw [show 11 * (i + 1) + 1 = (11 * i + 1) + 11 by omega, Nat.pow_add]
            rw [h2]
            omega
        · rintro σ H5 ⟨gr, v3, rfl, s5, hgr⟩
          have hgr2 : gr < 2 ^ 111 := by
            refine Nat.lt_of_lt_of_le hgr (Nat.pow_le_pow_right (by decide) ?_)
            omega
          refine ⟨_, rfl, _, rfl, t, 2, rfl, s5.at1, by decide, fun H6 r s6 hr => ⟨_, _, rfl, rfl, .inl ⟨by decide, by decide⟩, _, _, rfl, rfl, _, _, rfl, rfl, .inr ⟨by omega, by omega⟩, q _ _ (s5.trans s6) ?_⟩⟩
          show Bd 111 ((gr : Int) * (1 - 2 * (r : Int)))
          have hr' : r = 0 ∨ r = 1 := by omega
          unfold Bd
          rcases hr' with rfl | rfl
          · rw [show (gr : Int) * (1 - 2 * ((0 : Nat) : Int)) = (gr : Int) by simp, Int.natAbs_natCast]; exact hgr2
          · rw [show (gr : Int) * (1 - 2 * ((1 : Nat) : Int)) = -(gr : Int) by simp, Int.natAbs_neg, Int.natAbs_natCast]; exact hgr2
theorem ok_lpair {f : Addr} {fd : FuncData} (F : C8.Fun K "_law_pair" "_law_pair" s__law_pair f fd) (T : Txt K mg) (c__law_draw : C8.Cal P w K mg base 2 "_law_draw" sp_draw []) (c__law_pick : C8.Cal P w K mg base 3 "_law_pick" sp_pick []) (c__law_integer : C8.Cal P w K mg base 4 "_law_integer" sp_linteger []) : FnOk P w K mg base C8.CX0 5 f fd ["tape"] sp_lpair := by
  refine C8.fn0 F sc__law_pair (fun vs H Q E h => ?_) (fun cdv A outer s H vs Q E hr h => ?_)
  · obtain ⟨t, rfl, _⟩ := h; rfl
  · obtain ⟨t, rfl, hT, q⟩ := h
    refine ⟨_, (pss_cons (ps_set (i := 1) sc__law_pair.nd rfl (Or.inl rfl) (C8.pe_c c__law_draw hr (by first | decide | omega) (by rfl) (pa_cons (pv 0) (pa_cons pe_int pa_nil))))
      (pss_cons (ps_set (i := 2) sc__law_pair.nd rfl (Or.inl rfl) (C8.pe_c c__law_integer hr (by first | decide | omega) (by rfl) (pa_cons (pv 0) (pa_cons (pv 1) pa_nil))))
      (pss_cons (ps_set (i := 3) sc__law_pair.nd rfl (Or.inl rfl) (C8.pe_c c__law_integer hr (by first | decide | omega) (by rfl) (pa_cons (pv 0) (pa_cons (C8.pe_c c__law_pick hr (by first | decide | omega) (by rfl) (pa_cons (pv 0) (pa_cons (pe_lst (pa_cons (pv 1) (pa_cons (pv 1) (pa_cons pe_int pa_nil)))) pa_nil))) pa_nil))))
      (pss_cons (ps_if (pt_cmpR op_eq (pv 3) pe_int (nomark _)) (pss_one (ps_set (i := 3) sc__law_pair.nd rfl (Or.inl rfl) (pe_op op_add pe_int (C8.pe_c c__law_draw hr (by first | decide | omega) (by rfl) (pa_cons (pv 0) (pa_cons pe_int pa_nil)))))) pss_nil)
      (pss_cons (ps_set (i := 4) sc__law_pair.nd rfl (Or.inl rfl) (C8.pe_c c__law_pick hr (by first | decide | omega) (by rfl) (pa_cons (pv 0) (pa_cons (pe_lst (pa_cons pe_int (pa_cons pe_int (pa_cons (pe_un un_neg pe_int) (pa_cons pe_int (pa_cons pe_int (pa_cons (pe_op op_sub (pe_op op_sub pe_int pe_int) (C8.pe_c c__law_draw hr (by first | decide | omega) (by rfl) (pa_cons (pv 0) (pa_cons pe_int pa_nil)))) pa_nil))))))) pa_nil))))
      (pss_one (ps_ret (pe_tup (pa_cons (pe_op op_mul (pv 2) (pv 4)) (pa_cons (pe_op op_mul (pv 3) (pv 4)) pa_nil)))))))))), ?_⟩
    refine ⟨_, rfl, t, 3, rfl, hT, by decide, fun H1 sz s1 hsz => ?_⟩
    refine ⟨_, rfl, _, rfl, t, sz, rfl, s1.at1, fun H2 o s2 ho => ?_⟩
    have s12 := s1.trans s2
    refine ⟨_, rfl, _, rfl, _, rfl, _, rfl, by show 3 ≤ sizeLine; decide, fun D hD => ?_⟩
    have sD := s12.new (o := .lst [V.int (sz : Int), V.int (sz : Int), V.int 0]) hD
    refine ⟨t, D, _, rfl, sD.at1, upd_same, by show 0 < 3; decide, fun H3 k x s3 hx => ?_⟩
    obtain ⟨z2, rfl⟩ : ∃ z2 : Nat, x = V.int (z2 : Int) := by
      match k, hx with
      | 0, hx => exact ⟨sz, (Option.some.inj hx).symm⟩
      | 1, hx => exact ⟨sz, (Option.some.inj hx).symm⟩
      | 2, hx => exact ⟨0, (Option.some.inj hx).symm⟩
      | k + 3, hx => cases hx
    have s13 := sD.trans s3
    refine ⟨t, z2, rfl, s13.at1, fun H4 u s4 hu => ?_⟩
    have s14 := s13.trans s4
    refine ⟨_, rfl, rfl, _, rfl, ?_⟩
    generalize hM : tSeq (tAsg (tCall sp_pick _ _ _) _) _ _ = M
    have key : ∀ (H4 : Hp) (u : Int), TSame t H H4 → u ≠ 0 → Bd 111 u → M [some (.ref t.d), some (.int (sz : Int)), some (.int o), some (.int u), none] H4 := by
      clear s14 hu s4
      intro H4 u s14 hu0 hu
      rw [← hM]
      refine ⟨_, rfl, 1, rfl, _, _, rfl, rfl, _, rfl, t, 100, rfl, s14.at1, by decide, fun H5 r s5 hr5 => ⟨_, _, rfl, rfl, by show 6 ≤ sizeLine; decide, fun D2 hD2 => ?_⟩⟩
      have sE := (s14.trans s5).new (o := .lst [V.int 1, V.int 1, V.int (-1), V.int 2, V.int 12, V.int (0 - 1 - (r : Int))]) hD2
      refine ⟨t, D2, _, rfl, sE.at1, upd_same, by show 0 < 6; decide, fun H6 k x s6 hx => ?_⟩
      obtain ⟨z, rfl, hz0, hz1, hz2⟩ : ∃ z, x = V.int z ∧ z ≠ 0 ∧ -128 < z ∧ z < 128 := by
        match k, hx with
        | 0, hx => exact ⟨_, (Option.some.inj hx).symm, by decide, by decide, by decide⟩
        | 1, hx => exact ⟨_, (Option.some.inj hx).symm, by decide, by decide, by decide⟩
        | 2, hx => exact ⟨_, (Option.some.inj hx).symm, by decide, by decide, by decide⟩
        | 3, hx => exact ⟨_, (Option.some.inj hx).symm, by decide, by decide, by decide⟩
        | 4, hx => exact ⟨_, (Option.some.inj hx).symm, by decide, by decide, by decide⟩
        | 5, hx => exact ⟨_, (Option.some.inj hx).symm, by omega, by omega, by omega⟩
        | k + 6, hx => cases hx
      have hzb : Bd 7 z := by show z.natAbs < 128; omega
      refine ⟨_, rfl, _, rfl, _, _, rfl, rfl, .inr ⟨by omega, by omega⟩, _, rfl, _, rfl, _, _, rfl, rfl, .inr ⟨by omega, by omega⟩, by show 2 ≤ sizeLine; decide, fun g hg => ?_⟩
      exact q _ g (o * z, u * z) ((sE.trans s6).new hg) upd_same (fun e => by rcases Int.mul_eq_zero.mp e with e | e <;> contradiction) (ho.mul hzb) (hu.mul hzb)
    by_cases c : u = 0
    · subst c
      rw [decide_eq_true (show V.int 0 = V.int 0 from rfl)]
      refine iteT ⟨_, rfl, t, 1000, rfl, s14.at1, by decide, fun H5 r s5 hr5 => ⟨_, _, rfl, rfl, ?_⟩⟩
      exact key H5 (1 + (r : Int)) (s14.trans s5) (by omega) (bdS _ (by omega) (by omega) (by decide))
    · rw [decide_eq_false (show ¬ V.int u = V.int 0 from fun e => c (V.int.inj e))]
      exact iteF (key H4 u s14 c hu)
end
end RJ
end

section
set_option maxRecDepth 100000
set_option maxHeartbeats 8000000
namespace RJ
open PySem PySem.Spec PyProof.Rows L2
theorem Sb.mono {m n : Nat} {q : Int × Int} (h : Sb m q) (hm : m ≤ n) : Sb n q := ⟨h.1.mono hm, h.2.1.mono hm, h.2.2⟩
theorem red_sb {n : Nat} {o u : Int} (hu : u ≠ 0) (h1 : Bd n o) (h2 : Bd n u) : Sb n (red o u) := ⟨(red_bd hu h1 h2).1, (red_bd hu h1 h2).2, red_pos hu⟩
theorem add_sb {m n : Nat} {a b : Int × Int} (ha : Sb m a) (hb : Sb n b) : Sb (m + n + 1) (addS a b) :=
  red_sb (mul_ne ha.2.2 hb.2.2) ((ha.1.mul hb.2.1).add ((hb.1.mul ha.2.1).mono (by omega))) ((ha.2.1.mul hb.2.1).mono (by omega))
theorem mul_sb {m n : Nat} {a b : Int × Int} (ha : Sb m a) (hb : Sb n b) : Sb (m + n + 1) (mulS a b) :=
  red_sb (mul_ne ha.2.2 hb.2.2) ((ha.1.mul hb.1).mono (by omega)) ((ha.2.1.mul hb.2.1).mono (by omega))
theorem sub_eq {a b : Int × Int} : subS a b = addS a (0 - b.1, b.2) := by
  unfold subS addS
  rw [Int.zero_sub, Int.neg_mul, ← Int.sub_eq_add_neg]
theorem neg_sb {n : Nat} {b : Int × Int} (h : Sb n b) : Sb n (0 - b.1, b.2) := ⟨by rw [Int.zero_sub]; exact h.1.neg, h.2.1, h.2.2⟩
def sp_ltwo (C : Addr) : Sp := fun vs H Q _ => ∃ (p p2 g g2 : Addr) (a b : Int × Int) (m n : Nat), vs = [.ref p, .ref p2, .ref g, .ref g2] ∧ ShareAt C H p a ∧ ShareAt C H p2 b ∧ PrAt H g a ∧ PrAt H g2 b ∧ Sb m a ∧ Sb n b ∧ m + n + 1 ≤ 1900 ∧ 1 ≤ m ∧ 1 ≤ n ∧ ∀ H', Same H H' → Q (.bl true) H'
theorem PrAt.same {H H' : Hp} {g : Addr} {q : Int × Int} (h : PrAt H g q) (s : Same H H') : PrAt H' g q := s _ _ h
section
variable {P : Program} {w : World} {K : PySem.W.Frag} {mg : Str → Option Value} {base : Heap}
theorem ok_ltwo {f C : Addr} {fd : FuncData} (F : C8.Fun K "_law_two_right" "_law_two_right" s__law_two_right f fd) (T : Txt K mg) (J : STxt K C) (hself : PySem.W.selfFirst K C = true) (m___add__ : C8.Met P w K mg base 3 C "__add__" (sp_shop C addS) []) (m___sub__ : C8.Met P w K mg base 3 C "__sub__" (sp_shop C subS) []) (m___mul__ : C8.Met P w K mg base 3 C "__mul__" (sp_shop C mulS) []) (m___eq__ : C8.Met P w K mg base 1 C "__eq__" (sp_sheq C) []) (m_is_below : C8.Met P w K mg base 1 C "is_below" (sp_shbelow C) [])
    (c__law_added : C8.Cal P w K mg base 2 "_law_added" (sp_lop addS) []) (c__law_times : C8.Cal P w K mg base 2 "_law_times" (sp_lop mulS) []) (c__law_one_right : C8.Cal P w K mg base 4 "_law_one_right" (sp_lone C) []) : FnOk P w K mg base C8.CX0 5 f fd ["one", "other", "first", "second"] (sp_ltwo C) := by
  refine C8.fn0 F sc__law_two_right (fun vs H Q E h => ?_) (fun cdv A outer s H vs Q E hr h => ?_)
  · obtain ⟨p, p2, g, g2, a, b, m, n, rfl, _⟩ := h; rfl
  · obtain ⟨p, p2, g, g2, a, b, m, n, rfl, h1, h2, g1, g2', ha, hb, hmn, hm, hn, q⟩ := h
    have hu64 := hu64_of hr
    refine ⟨_, (pss_cons (ps_set (i := 4) sc__law_two_right.nd rfl (Or.inl rfl) (pe_tup (pa_cons (pe_op op_sub pe_int (pe_ix ix_tup (pv 3) pe_int (fun _ _ => rfl))) (pa_cons (pe_ix ix_tup (pv 3) pe_int (fun _ _ => rfl)) pa_nil))))
      (pss_cons (ps_if (PW.pt (pw_or (pt_not (pt_val (C8.pe_c c__law_one_right hr (by first | decide | omega) (by rfl) (pa_cons (pe_op (op_ownB m___add__ hself hr (by first | decide | omega)) (pv 0) (pv 1)) (pa_cons (C8.pe_c c__law_added hr (by first | decide | omega) (by rfl) (pa_cons (pv 2) (pa_cons (pv 3) pa_nil))) pa_nil))))) (pw_or1 (pt_not (pt_val (C8.pe_c c__law_one_right hr (by first | decide | omega) (by rfl) (pa_cons (pe_op (op_ownB m___sub__ hself hr (by first | decide | omega)) (pv 0) (pv 1)) (pa_cons (C8.pe_c c__law_added hr (by first | decide | omega) (by rfl) (pa_cons (pv 2) (pa_cons (pv 4) pa_nil))) pa_nil)))))))) (pss_one (ps_ret pe_bl)) pss_nil)
      (pss_cons (ps_if (pt_not (pt_val (C8.pe_c c__law_one_right hr (by first | decide | omega) (by rfl) (pa_cons (pe_op (op_ownB m___mul__ hself hr (by first | decide | omega)) (pv 0) (pv 1)) (pa_cons (C8.pe_c c__law_times hr (by first | decide | omega) (by rfl) (pa_cons (pv 2) (pa_cons (pv 3) pa_nil))) pa_nil))))) (pss_one (ps_ret pe_bl)) pss_nil)
      (pss_cons (ps_set (i := 5) sc__law_two_right.nd rfl (Or.inl rfl) (pe_cmpR (op_own m___eq__ hr (by first | decide | omega)) (pv 0) (pv 1) (nomark _)))
      (pss_cons (ps_set (i := 6) sc__law_two_right.nd rfl (Or.inl rfl) (C8.pe_mt m_is_below hr (by first | decide | omega) (pv 0) (pa_cons (pv 1) pa_nil)))
      (pss_cons (ps_if (PW.pt (pw_or (pt_not (pt_val (pe_callB call_isi (by rfl) T.b_isinstance (by decide +kernel) (pa_cons (pv 5) (pa_cons (pe_bltn (v := .ty "bool") (u := .type "bool") rfl T.b_bool (by decide +kernel) rfl) pa_nil))))) (pw_or (pt_cmpR op_ne (pv 5) (pe_cmpR (op_eqD hu64) (pv 2) (pv 3) (nomark _)) (nomark _)) (pw_or1 (pt_not (pt_val (pe_callB call_isi (by rfl) T.b_isinstance (by decide +kernel) (pa_cons (pv 6) (pa_cons (pe_bltn (v := .ty "bool") (u := .type "bool") rfl T.b_bool (by decide +kernel) rfl) pa_nil))))))))) (pss_one (ps_ret pe_bl)) pss_nil)
      (pss_one (ps_ret (pe_cmpR op_eq (pv 6) (pe_cmpR op_lt (pe_op op_mulW (pe_ix ix_tup (pv 2) pe_int (fun _ _ => rfl)) (pe_ix ix_tup (pv 3) pe_int (fun _ _ => rfl))) (pe_op op_mulW (pe_ix ix_tup (pv 3) pe_int (fun _ _ => rfl)) (pe_ix ix_tup (pv 2) pe_int (fun _ _ => rfl))) (nomark _)) (nomark _)))))))))), ?_⟩
    refine ⟨_, rfl, g2, _, _, _, rfl, rfl, SqT.of g2', rfl, _, _, rfl, rfl, _, rfl, g2, _, _, _, rfl, rfl, SqT.of g2', rfl, by show 2 ≤ sizeLine; decide, fun gm hgm => ?_⟩
    have sm := same_new (o := .tup [.int (0 - b.1), .int b.2]) hgm
    have gM : PrAt (upd H gm (.tup [.int (0 - b.1), .int b.2])) gm (0 - b.1, b.2) := upd_same
    revert sm gM
    generalize (upd H gm (.tup [.int (0 - b.1), .int b.2])) = H0
    intro sm gM
    have k1 := h1.same sm
    have k2 := h2.same sm
    obtain ⟨dx, e1⟩ := id k1
    obtain ⟨dy, e2⟩ := id k2
    refine ⟨_, rfl, _, rfl, p, p2, dx, dy, _, _, rfl, rfl, e1, e2, p, p2, a, b, m, n, rfl, k1, k2, ha, hb, hmn, hm, hn, fun H1 y s1 hy => ⟨y, rfl, ?_⟩⟩
    have s01 := sm.trans s1
    refine ⟨_, rfl, _, rfl, g, g2, a, b, m, n, rfl, g1.same s01, g2'.same s01, ha, hb, hmn, hm, hn, fun H2 g3 s2 hg3 => ?_⟩
    refine ⟨y, g3, addS a b, rfl, hy.same s2, hg3, (add_sb ha hb).mono (by omega), fun H3 s3 => ⟨_, rfl, iteF ?_⟩⟩
    have s03 := (s1.trans s2).trans s3
    refine ⟨_, rfl, _, rfl, p, p2, dx, dy, _, _, rfl, rfl, s03 _ _ e1, s03 _ _ e2, p, p2, a, b, m, n, rfl, k1.same s03, k2.same s03, ha, hb, hmn, hm, hn, fun H4 y s4 hy => ⟨y, rfl, ?_⟩⟩
    have s04 := s03.trans s4
    refine ⟨_, rfl, _, rfl, g, gm, a, (0 - b.1, b.2), m, n, rfl, g1.same (sm.trans s04), gM.same s04, ha, neg_sb hb, hmn, hm, hn, fun H5 g3 s5 hg3 => ?_⟩
    rw [sub_eq] at hy
    refine ⟨y, g3, _, rfl, hy.same s5, hg3, (add_sb ha (neg_sb hb)).mono (by omega), fun H6 s6 => ⟨_, rfl, iteF ?_⟩⟩
    have s06 := (s04.trans s5).trans s6
    refine ⟨_, rfl, _, rfl, p, p2, dx, dy, _, _, rfl, rfl, s06 _ _ e1, s06 _ _ e2, p, p2, a, b, m, n, rfl, k1.same s06, k2.same s06, ha, hb, hmn, hm, hn, fun H7 y s7 hy => ⟨y, rfl, ?_⟩⟩
    have s07 := s06.trans s7
    refine ⟨_, rfl, _, rfl, g, g2, a, b, m, n, rfl, g1.same (sm.trans s07), g2'.same (sm.trans s07), ha, hb, hmn, hm, hn, fun H8 g3 s8 hg3 => ?_⟩
    refine ⟨y, g3, _, rfl, hy.same s8, hg3, (mul_sb ha hb).mono (by omega), fun H9 s9 => ⟨_, rfl, iteF ?_⟩⟩
    have s09 := (s07.trans s8).trans s9
    have sE := sm.trans s09
    have g9 := g1.same sE
    have g29 := g2'.same sE
    refine ⟨_, rfl, _, rfl, p, p2, dx, dy, _, _, rfl, rfl, s09 _ _ e1, s09 _ _ e2, p, p2, a, b, rfl, k1.same s09, k2.same s09, _, rfl, ?_⟩
    refine ⟨_, rfl, p, dx, _, rfl, s09 _ _ e1, rfl, _, rfl, p, p2, a, b, m, n, rfl, k1.same s09, k2.same s09, ha, hb, hmn, hm, hn, ?_⟩
    refine ⟨_, rfl, _, .ty "bool", .type "bool", .type "bool", true, rfl, .ty _, .base (.bl _), kit_ty (by decide +kernel), _, rfl, iteF ?_⟩
    refine ⟨_, rfl, _, rfl, _, rfl, _, _, prD g9, prD g29, shaped_pr _ _, shaped_pr _ _, rfl, _, rfl, ?_⟩
    rw [eqv_pr, decide_eq_true (show V.bl (decide (a = b)) = V.bl (decide (a = b)) from rfl)]
    refine iteF ⟨_, rfl, _, .ty "bool", .type "bool", .type "bool", true, rfl, .ty _, .base (.bl _), kit_ty (by decide +kernel), _, rfl, iteF ?_⟩
    refine ⟨_, rfl, _, rfl, g, _, _, _, rfl, rfl, SqT.of g9, rfl, _, rfl, g2, _, _, _, rfl, rfl, SqT.of g29, rfl, _, _, rfl, rfl, mulw ha.1 hb.2.1 hm hn (by omega), _, rfl, g2, _, _, _, rfl, rfl, SqT.of g29, rfl, _, rfl, g, _, _, _, rfl, rfl, SqT.of g9, rfl, _, _, rfl, rfl, mulw hb.1 ha.2.1 hn hm (by omega), _, _, rfl, rfl, rfl, ?_⟩
    rw [decide_eq_true (show V.bl (decide (a.1 * b.2 < b.1 * a.2)) = V.bl (decide (a.1 * b.2 < b.1 * a.2)) from rfl)]
    exact q _ sE
end
end RJ
end

section
set_option maxRecDepth 100000
set_option maxHeartbeats 16000000
namespace RJ
open PySem PySem.Spec PyProof.Rows L2
def sp_law (K : PySem.W.Frag) : Sp := fun vs H Q _ => ∃ (a : Addr) (zs : List Int), vs = [.ref a] ∧ SqL K H a (zs.map V.int) ∧ zs.length ≤ 63 ∧ ∀ H', Q (.bl true) H'
def PrL (H : Hp) (us : List V) (qs : List (Int × Int)) : Prop := Paired (fun v q => ∃ g, v = .ref g ∧ PrAt H g q) us qs
def ShL (C : Addr) (H : Hp) (us : List V) (qs : List (Int × Int)) : Prop := Paired (fun v q => ∃ g, v = .ref g ∧ ShareAt C H g q) us qs
theorem PrL.t {t : Tp} {H H' : Hp} {us : List V} {qs : List (Int × Int)} (h : PrL H us qs) (s : TSame t H H') : PrL H' us qs := Paired.mapP h fun _ _ ⟨g, e, hg⟩ => ⟨g, e, s.tup hg⟩
theorem ShL.t {C : Addr} {t : Tp} {H H' : Hp} {us : List V} {qs : List (Int × Int)} (h : ShL C H us qs) (s : TSame t H H') : ShL C H' us qs := Paired.mapP h fun _ _ ⟨g, e, dx, hg⟩ => ⟨g, e, dx, s.o hg (fun _ z => by cases z)⟩
theorem ShareAt.t {C p : Addr} {t : Tp} {H H' : Hp} {q : Int × Int} (h : ShareAt C H p q) (s : TSame t H H') : ShareAt C H' p q := by
  obtain ⟨dx, e⟩ := h
  exact ⟨dx, s.o e (fun _ z => by cases z)⟩
theorem PrAt.t {t : Tp} {H H' : Hp} {g : Addr} {q : Int × Int} (h : PrAt H g q) (s : TSame t H H') : PrAt H' g q := s.tup h
theorem Paired.at_ {α β : Type} {F : α → β → Prop} {xs : List α} {ys : List β} {i : Nat} (h : Paired F xs ys) (hi : i < ys.length) : ∃ x y, xs[i]? = some x ∧ ys[i]? = some y ∧ F x y := by
  obtain ⟨x, hx, hf⟩ := Paired.at2 h (List.getElem?_eq_getElem hi)
  exact ⟨x, _, hx, List.getElem?_eq_getElem hi, hf⟩
theorem Paired.set_ {α β : Type} {F : α → β → Prop} : ∀ {xs : List α} {ys : List β} (i : Nat) {x : α} {y : β}, Paired F xs ys → F x y → Paired F (xs.set i x) (ys.set i y)
  | _, _, _, _, _, .nil, _ => .nil
  | _, _, 0, _, _, .cons _ t, h => .cons h t
  | _, _, i + 1, _, _, .cons f t, h => .cons f (Paired.set_ i t h)
theorem red0 {u : Int} (h : u < 0) : red 0 u = (0, 1) := by
  unfold red
  rw [if_pos h]
  have e : Nat.gcd (0 : Int).natAbs u.natAbs = u.natAbs := Nat.gcd_zero_left _
  rw [e, show -u = ((u.natAbs : Nat) : Int) by omega, Int.ediv_self (by omega)]
  simp
theorem red11 : red 1 1 = (1, 1) := by decide
def PairOk (q : Int × Int) : Prop := q.2 ≠ 0 ∧ Bd 125 q.1 ∧ Bd 125 q.2
theorem ixN_1 {n : Nat} (h : 2 ≤ n) : ixN n 1 = some 1 := by
  unfold ixN
  simp; omega
section
variable {P : Program} {w : World} {K : PySem.W.Frag} {mg : Str → Option Value} {base : Heap}
theorem ok_law {f C : Addr} {fd : FuncData} (F : C8.Fun K "law" "law" s_law f fd) (T : Txt K mg) (J : STxt K C) (PC : PlainC K C) (hself : PySem.W.selfFirst K C = true) (c__law_tape : C8.Cal P w K mg base 1 "_law_tape" (sp_tape K) []) (c__law_draw : C8.Cal P w K mg base 2 "_law_draw" sp_draw []) (c__law_pick : C8.Cal P w K mg base 3 "_law_pick" sp_pick []) (c__law_pair : C8.Cal P w K mg base 5 "_law_pair" sp_lpair [])
    (c__law_share : C8.Cal P w K mg base 1 "_law_share" sp_lshare []) (k_Share : C8.Mak P w K mg base 1 "Share" C (sp_shinit C) []) (c__law_one_right : C8.Cal P w K mg base 4 "_law_one_right" (sp_lone C) []) (c__law_two_right : C8.Cal P w K mg base 5 "_law_two_right" (sp_ltwo C) []) (m___add__ : C8.Met P w K mg base 3 C "__add__" (sp_shop C addS) []) (m___mul__ : C8.Met P w K mg base 3 C "__mul__" (sp_shop C mulS) [])
    (m_eqV : C8.Met P w K mg base 1 C "__eq__" (sp_sheqV C) []) (c__law_added : C8.Cal P w K mg base 2 "_law_added" (sp_lop addS) []) (c__law_times : C8.Cal P w K mg base 2 "_law_times" (sp_lop mulS) []) (c__law_refused : C8.Cal P w K mg base 6 "_law_refused" sp_lref []) : FnOk P w K mg base C8.CX0 8 f fd ["script"] (sp_law K) := by
  refine C8.fn0 F sc_law (fun vs H Q E h => ?_) (fun cdv A outer s H vs Q E hr h => ?_)
  · obtain ⟨a, zs, rfl, _⟩ := h; rfl
  · obtain ⟨a, zs, rfl, hS, hlen, q⟩ := h
    refine ⟨_, (pss_cons (ps_set (i := 1) sc_law.nd rfl (Or.inr rfl) (C8.pe_c c__law_tape hr (by first | decide | omega) (by rfl) (pa_cons (pv 0) pa_nil)))
      (pss_cons (ps_setLc (own := [("k", 6)]) (i := 2) (g := gName 6) (tt := tYes) rfl sc_law.nd rfl rfl (sw_true rfl rfl rfl (by decide +kernel)) (pi_range1 rfl T.b_range (pa_cons (pe_op op_add pe_int (C8.pe_c c__law_draw hr (by first | decide | omega) (by rfl) (pa_cons (pv 1) (pa_cons pe_int pa_nil)))) pa_nil)) (blkOk_by (N := N_law) (sc := C8.fnScope s_law) (by decide +kernel)) (fun _ _ _ _ _ => (pg_name (i := 6) sc_law.nd rfl (Or.inl rfl))) (fun _ _ _ _ _ => pts_nil) (fun _ _ _ _ _ => (C8.pe_c c__law_pair hr (by first | decide | omega) (by rfl) (pa_cons (pv 1) pa_nil))))
      (pss_cons (ps_if (pt_cmpR op_eq (C8.pe_c c__law_draw hr (by first | decide | omega) (by rfl) (pa_cons (pv 1) (pa_cons pe_int pa_nil))) pe_int (nomark _)) (pss_cons (ps_set (i := 3) sc_law.nd rfl (Or.inl rfl) (pe_op op_add pe_int (C8.pe_c c__law_draw hr (by first | decide | omega) (by rfl) (pa_cons (pv 1) (pa_cons pe_int pa_nil)))))
      (pss_one (ps_asg (pe_tup (pa_cons (pe_op op_mul (pe_ix ix_tup (pe_ix ix_list (pv 2) pe_int (fun _ _ => rfl)) pe_int (fun _ _ => rfl)) (pv 3)) (pa_cons (pe_op op_mul (pe_ix ix_tup (pe_ix ix_list (pv 2) pe_int (fun _ _ => rfl)) pe_int (fun _ _ => rfl)) (pv 3)) pa_nil))) (pg_sub (pv 2) pe_int set_list)))) pss_nil)
      (pss_cons (ps_setLc (own := [("pair", 11)]) (i := 4) (g := gName 11) (tt := tYes) rfl sc_law.nd rfl rfl (sw_true rfl rfl rfl (by decide +kernel)) (pi_list (pv 2)) (blkOk_by (N := N_law) (sc := C8.fnScope s_law) (by decide +kernel)) (fun _ _ _ _ _ => (pg_name (i := 11) sc_law.nd rfl (Or.inl rfl))) (fun _ _ _ _ _ => pts_nil) (fun _ _ _ _ _ => (C8.pe_c c__law_share hr (by first | decide | omega) (by rfl) (pa_cons (pe_ix (ix_tupK (K := K) rfl) (pv 11) pe_int (fun _ _ => rfl)) (pa_cons (pe_ix (ix_tupK (K := K) rfl) (pv 11) pe_int (fun _ _ => rfl)) pa_nil)))))
      (pss_cons (ps_setLc (own := [("pair", 11)]) (i := 5) (g := gName 11) (tt := tYes) rfl sc_law.nd rfl rfl (sw_true rfl rfl rfl (by decide +kernel)) (pi_list (pv 2)) (blkOk_by (N := N_law) (sc := C8.fnScope s_law) (by decide +kernel)) (fun _ _ _ _ _ => (pg_name (i := 11) sc_law.nd rfl (Or.inl rfl))) (fun _ _ _ _ _ => pts_nil) (fun _ _ _ _ _ => (C8.pe_mk k_Share hr (by first | decide | omega) (by rfl) (pa_cons (pe_ix (ix_tupK (K := K) rfl) (pv 11) pe_int (fun _ _ => rfl)) (pa_cons (pe_ix (ix_tupK (K := K) rfl) (pv 11) pe_int (fun _ _ => rfl)) pa_nil)))))
      (pss_cons (ps_for PassesOwn.never rfl (pi_range1 rfl T.b_range (pa_cons (pe_callB call_len_seq (by rfl) T.b_len PySem.boot_len (pa_cons (pv 2) pa_nil)) pa_nil)) (pg_name (i := 6) sc_law.nd rfl (Or.inl rfl)) (pss_cons (ps_set (i := 7) sc_law.nd rfl (Or.inl rfl) (C8.pe_c c__law_draw hr (by first | decide | omega) (by rfl) (pa_cons (pv 1) (pa_cons (pe_callB call_len_seq (by rfl) T.b_len PySem.boot_len (pa_cons (pv 2) pa_nil)) pa_nil))))
      (pss_cons (ps_if (PW.pt (pw_or (pt_not (pt_val (C8.pe_c c__law_one_right hr (by first | decide | omega) (by rfl) (pa_cons (pe_ix ix_list (pv 5) (pv 6) (fun _ _ => rfl)) (pa_cons (pe_ix ix_list (pv 4) (pv 6) (fun _ _ => rfl)) pa_nil))))) (pw_or1 (pt_not (pt_val (C8.pe_c c__law_two_right hr (by first | decide | omega) (by rfl) (pa_cons (pe_ix ix_list (pv 5) (pv 6) (fun _ _ => rfl)) (pa_cons (pe_ix ix_list (pv 5) (pv 7) (fun _ _ => rfl)) (pa_cons (pe_ix ix_list (pv 4) (pv 6) (fun _ _ => rfl)) (pa_cons (pe_ix ix_list (pv 4) (pv 7) (fun _ _ => rfl)) pa_nil)))))))))) (pss_one (ps_ret pe_bl)) pss_nil)
      (pss_one (ps_if (pt_not (pt_val (C8.pe_c c__law_two_right hr (by first | decide | omega) (by rfl) (pa_cons (pe_ix ix_list (pv 5) (pv 6) (fun _ _ => rfl)) (pa_cons (pe_ix ix_list (pv 5) (pe_op op_mod (pe_callTy call_int1 (by rfl) T.b_int (by decide +kernel) (pa_cons (pe_op op_add (pv 6) pe_int) pa_nil)) (pe_callB call_len_seq (by rfl) T.b_len PySem.boot_len (pa_cons (pv 2) pa_nil))) (fun _ _ => rfl)) (pa_cons (pe_ix ix_list (pv 4) (pv 6) (fun _ _ => rfl)) (pa_cons (pe_ix ix_list (pv 4) (pe_op op_mod (pe_callTy call_int1 (by rfl) T.b_int (by decide +kernel) (pa_cons (pe_op op_add (pv 6) pe_int) pa_nil)) (pe_callB call_len_seq (by rfl) T.b_len PySem.boot_len (pa_cons (pv 2) pa_nil))) (fun _ _ => rfl)) pa_nil))))))) (pss_one (ps_ret pe_bl)) pss_nil)))))
      (pss_cons (ps_set (i := 8) sc_law.nd rfl (Or.inl rfl) (C8.pe_mk k_Share hr (by first | decide | omega) (by rfl) (pa_cons pe_int (pa_cons (pe_op op_sub (pe_op op_sub pe_int pe_int) (C8.pe_c c__law_draw hr (by first | decide | omega) (by rfl) (pa_cons (pv 1) (pa_cons pe_int pa_nil)))) pa_nil))))
      (pss_cons (ps_set (i := 9) sc_law.nd rfl (Or.inl rfl) (C8.pe_mk k_Share hr (by first | decide | omega) (by rfl) (pa_cons pe_int (pa_cons pe_int pa_nil))))
      (pss_cons (ps_set (i := 10) sc_law.nd rfl (Or.inl rfl) (pe_lst (pa_cons (pe_tup (pa_cons pe_int (pa_cons pe_int pa_nil))) (pa_cons (pe_tup (pa_cons pe_int (pa_cons pe_int pa_nil))) pa_nil))))
      (pss_cons (ps_for PassesOwn.never rfl (pi_range1 rfl T.b_range (pa_cons (pe_callB call_len_seq (by rfl) T.b_len PySem.boot_len (pa_cons (pv 2) pa_nil)) pa_nil)) (pg_name (i := 6) sc_law.nd rfl (Or.inl rfl)) (pss_cons (ps_set (i := 8) sc_law.nd rfl (Or.inl rfl) (pe_op (op_ownB m___add__ hself hr (by first | decide | omega)) (pv 8) (pe_ix ix_list (pv 5) (pv 6) (fun _ _ => rfl))))
      (pss_cons (ps_set (i := 9) sc_law.nd rfl (Or.inl rfl) (pe_op (op_ownB m___mul__ hself hr (by first | decide | omega)) (pv 9) (pe_ix ix_list (pv 5) (pv 6) (fun _ _ => rfl))))
      (pss_one (ps_set (i := 10) sc_law.nd rfl (Or.inl rfl) (pe_lst (pa_cons (C8.pe_c c__law_added hr (by first | decide | omega) (by rfl) (pa_cons (pe_ix ix_list (pv 10) pe_int (fun _ _ => rfl)) (pa_cons (pe_ix ix_list (pv 4) (pv 6) (fun _ _ => rfl)) pa_nil))) (pa_cons (C8.pe_c c__law_times hr (by first | decide | omega) (by rfl) (pa_cons (pe_ix ix_list (pv 10) pe_int (fun _ _ => rfl)) (pa_cons (pe_ix ix_list (pv 4) (pv 6) (fun _ _ => rfl)) pa_nil))) pa_nil))))))))
      (pss_cons (ps_if (PW.pt (pw_or (pt_not (pt_val (C8.pe_c c__law_one_right hr (by first | decide | omega) (by rfl) (pa_cons (pv 8) (pa_cons (pe_ix ix_list (pv 10) pe_int (fun _ _ => rfl)) pa_nil))))) (pw_or1 (pt_not (pt_val (C8.pe_c c__law_one_right hr (by first | decide | omega) (by rfl) (pa_cons (pv 9) (pa_cons (pe_ix ix_list (pv 10) pe_int (fun _ _ => rfl)) pa_nil)))))))) (pss_one (ps_ret pe_bl)) pss_nil)
      (pss_cons (ps_for PassesOwn.never rfl (pi_range1 rfl T.b_range (pa_cons (pe_callB call_len_seq (by rfl) T.b_len PySem.boot_len (pa_cons (pv 2) pa_nil)) pa_nil)) (pg_name (i := 6) sc_law.nd rfl (Or.inl rfl)) (pss_one (ps_if (PW.pt (pw_or (pt_not (pt_val (C8.pe_c c__law_one_right hr (by first | decide | omega) (by rfl) (pa_cons (pe_ix ix_list (pv 5) (pv 6) (fun _ _ => rfl)) (pa_cons (pe_ix ix_list (pv 4) (pv 6) (fun _ _ => rfl)) pa_nil))))) (pw_or1 (pt_cmpR op_isnot_bl (pe_cmpR (op_ownV m_eqV hr (by first | decide | omega)) (pe_ix ix_list (pv 5) (pv 6) (fun _ _ => rfl)) (C8.pe_c c__law_pick hr (by first | decide | omega) (by rfl) (pa_cons (pv 1) (pa_cons (pe_lst (pa_cons pe_non (pa_cons (pe_ix ix_list (pv 4) (pv 6) (fun _ _ => rfl)) (pa_cons (pe_ix ix_tup (pe_ix ix_list (pv 4) (pv 6) (fun _ _ => rfl)) pe_int (fun _ _ => rfl)) (pa_cons pe_str pa_nil))))) pa_nil))) (nomark _)) pe_bl (nomark _))))) (pss_one (ps_ret pe_bl)) pss_nil)))
      (pss_one (ps_ret (C8.pe_c c__law_refused hr (by first | decide | omega) (by rfl) (pa_cons (pe_ix ix_tup (pe_ix ix_list (pv 2) pe_int (fun _ _ => rfl)) pe_int (fun _ _ => rfl)) pa_nil)))))))))))))))), ?_⟩
    refine ⟨_, rfl, a, zs, rfl, hS, by omega, fun H0 d c s0 hT0 => ?_⟩
    refine ⟨_, rfl, ⟨d, c, zs⟩, 4, rfl, hT0, by decide, fun H1 r s1 hr1 => ⟨_, _, rfl, rfl, _, rfl, by omega, by omega, fun D hD => lc_it walk_range (fun i H' => TSame ⟨d, c, zs⟩ H1 H' ∧ ∃ us qs, H' D = some (.lst us) ∧ PrL H' us qs ∧ (∀ q ∈ qs, q.2 ≠ 0 ∧ Bd 118 q.1 ∧ Bd 118 q.2) ∧ qs.length = i) ⟨(TSame.refl s1.at1).new hD, [], [], upd_same, .nil, (fun q hq => by cases hq), rfl⟩ (fun _ _ _ _ => trivial) ?_ ?_⟩⟩
    · rintro i x Ha Hb hi ⟨sa, us, qs, hDa, hP, hq, hl⟩ ⟨rfl, hx⟩
      have hi5 : i < 5 := by omega
      refine ⟨rfl, _, rfl, ⟨d, c, zs⟩, rfl, sa.at1, fun H2 g q2 s2 hg hq0 hb1 hb2 => ?_⟩
      have hD2 := s2.lst hDa
      refine ⟨us, hD2, small1000 (by rw [hP.length]; omega), (sa.trans s2).put hD, us ++ [.ref g], qs ++ [q2], upd_same, ?_, ?_, ?_⟩
      · have sT := SameT.put (o := .lst (us ++ [V.ref g])) hD2
        refine Paired.snoc ⟨g, rfl, sT _ _ hg⟩ (Paired.mapP (hP.t s2) fun _ _ ⟨g', e, hg'⟩ => ⟨g', e, sT _ _ hg'⟩)
      · intro q3 hq3
        rcases List.mem_append.mp hq3 with h | h
        · exact hq _ h
        · rw [List.mem_singleton.mp h]; exact ⟨hq0, hb1, hb2⟩
      · rw [List.length_append, hl]; rfl
    rintro H2 ⟨s2, us, qs, hDa, hP, hq, hl⟩
    have hln : 2 ≤ qs.length ∧ qs.length ≤ 5 := by omega
    clear hl
    dsimp only [gName]
    refine ⟨_, rfl, ⟨d, c, zs⟩, 4, rfl, s2.at1, by decide, fun H3 r3 s3 hr3 => ⟨rfl, _, rfl, ?_⟩⟩
    generalize hM : tSeq (tAsg (tLc _ _ _ _ _) _) _ _ = M
    have key : ∀ (H3 : Hp) (us : List V) (qs : List (Int × Int)) (v3 : Option V), TapeAt ⟨d, c, zs⟩ H3 → H3 D = some (.lst us) → PrL H3 us qs → (∀ q ∈ qs, PairOk q) → 2 ≤ qs.length → qs.length ≤ 5 → M [some (.ref a), some (.ref d), some (.ref D), v3, none, none, none, none, none, none, none, none] H3 := by
      clear hln hq hP hDa s3 s2
      intro H3 us qs v3 hT hD3 hP hq hn2 hn5
      rw [← hM]
      clear hM
      have hul : us.length = qs.length := hP.length
      -- dues
      refine ⟨_, rfl, D, rfl, ⟨_, SqL.of hD3⟩, fun D2 hD2 => lc_it walk_list (fun i H' => Same H3 H' ∧ ∃ ws, H' D2 = some (.lst ws) ∧ PrL H' ws ((qs.take i).map fun q => red q.1 q.2)) ⟨same_new hD2, [], upd_same, .nil⟩ (fun i H' _ ⟨s', _⟩ => SqL.of (s' _ _ hD3)) ?_ ?_⟩
      · rintro i x Ha Hb hi ⟨sa, ws, hws, hW⟩ ⟨rfl, hx⟩
        obtain ⟨y, qq, e1, e2, g, rfl, hg⟩ := Paired.at_ hP (i := i) (by omega)
        obtain rfl : x = V.ref g := Option.some.inj (hx.symm.trans e1)
        have ok := hq qq (List.mem_of_getElem? e2)
        refine ⟨rfl, _, rfl, g, _, _, _, rfl, rfl, SqT.of (sa _ _ hg), rfl, _, rfl, g, _, _, _, rfl, rfl, SqT.of (sa _ _ hg), rfl, _, _, rfl, ok.1, ok.2.1.mono (by decide), ok.2.2.mono (by decide), fun H5 g2 s5 hg2 => ?_⟩
        have hws5 := s5 _ _ hws
        refine ⟨ws, hws5, small1000 (by rw [hW.length, List.length_map, List.length_take]; omega), Same.put (sa.trans s5) hD2, ws ++ [.ref g2], upd_same, ?_⟩
        have sT := SameT.put (o := .lst (ws ++ [V.ref g2])) hws5
        rw [take_succ_of e2, List.map_append]
        exact Paired.snoc ⟨g2, rfl, sT _ _ hg2⟩ (Paired.mapP hW fun _ _ ⟨g', e, hg'⟩ => ⟨g', e, sT _ _ (s5 _ _ hg')⟩)
      rintro H4 ⟨s4, ws, hws, hW⟩
      rw [hul, List.take_length] at hW
      have hT4 := hT.same s4
      have hD4 := s4 _ _ hD3
      have hP4 : PrL H4 us qs := Paired.mapP hP fun _ _ ⟨g', e, hg'⟩ => ⟨g', e, s4 _ _ hg'⟩
      clear hP hT hD3
      -- shares
      refine ⟨_, rfl, D, rfl, ⟨_, SqL.of hD4⟩, fun D3 hD3 => lc_it walk_list (fun i H' => Same H4 H' ∧ ∃ ss, H' D3 = some (.lst ss) ∧ ShL C H' ss ((qs.take i).map fun q => red q.1 q.2)) ⟨same_new hD3, [], upd_same, .nil⟩ (fun i H' _ ⟨s', _⟩ => SqL.of (s' _ _ hD4)) ?_ ?_⟩
      · rintro i x Ha Hb hi ⟨sa, ss, hss, hW2⟩ ⟨rfl, hx⟩
        obtain ⟨y, qq, e1, e2, g, rfl, hg⟩ := Paired.at_ hP4 (i := i) (by omega)
        obtain rfl : x = V.ref g := Option.some.inj (hx.symm.trans e1)
        have ok := hq qq (List.mem_of_getElem? e2)
        refine ⟨rfl, _, rfl, g, _, _, _, rfl, rfl, SqT.of (sa _ _ hg), rfl, _, rfl, g, _, _, _, rfl, rfl, SqT.of (sa _ _ hg), rfl, fun y dy ny ndy ney => ?_⟩
        have sM : ∀ (b : Addr) (o : HO), Hb b = some o → b ≠ y ∧ (upd (upd Hb dy (.own y)) y (.ins C dy [])) b = some o := fun b o e => by
          have hb := ne_of_none e ny
          exact ⟨hb, (upd_ne hb).trans ((upd_ne (ne_of_none e ndy)).trans e)⟩
        refine ⟨y, dy, _, _, rfl, upd_same, ok.1, ok.2.1.mono (by decide), ok.2.2.mono (by decide), fun H5 sx hS5 => ⟨rfl, ?_⟩⟩
        have s5 : Same Hb H5 := fun b o e => sx b o (sM b o e).1 (sM b o e).2
        have hss5 := s5 _ _ hss
        refine ⟨ss, hss5, small1000 (by rw [hW2.length, List.length_map, List.length_take]; omega), Same.put (sa.trans s5) hD3, ss ++ [.ref y], upd_same, ?_⟩
        have sP : ∀ (g' : Addr) (z : Int × Int), ShareAt C H5 g' z → ShareAt C (upd H5 D3 (.lst (ss ++ [V.ref y]))) g' z := fun g' z ⟨dx, e⟩ => ⟨dx, (upd_ne (ne_of e hss5 (fun z => by cases z))).trans e⟩
        rw [take_succ_of e2, List.map_append]
        exact Paired.snoc ⟨y, rfl, sP _ _ hS5⟩ (Paired.mapP hW2 fun _ _ ⟨g', e, hg'⟩ => ⟨g', e, sP _ _ (hg'.same s5)⟩)
      rintro H5 ⟨s5, ss, hss, hW2⟩
      rw [hul, List.take_length] at hW2
      have hT5 := hT4.same s5
      have hD5 := s5 _ _ hD4
      have hws5 := s5 _ _ hws
      have hW5 : PrL H5 ws (qs.map fun q => red q.1 q.2) := Paired.mapP hW fun _ _ ⟨g', e, hg'⟩ => ⟨g', e, s5 _ _ hg'⟩
      have hP5 : PrL H5 us qs := Paired.mapP hP4 fun _ _ ⟨g', e, hg'⟩ => ⟨g', e, s5 _ _ hg'⟩
      clear hW hws hD4 hT4 hP4 s4 s5 hD3 hD2
      obtain ⟨rs, hrs⟩ : ∃ rs, rs = qs.map fun q => red q.1 q.2 := ⟨_, rfl⟩
      rw [← hrs] at hW2 hW5
      have hrl : rs.length = qs.length := by rw [hrs, List.length_map]
      have hrb : ∀ r ∈ rs, Sb 125 r := by
        intro r hr9
        rw [hrs] at hr9
        obtain ⟨q9, h9, rfl⟩ := List.mem_map.mp hr9
        exact red_sb (hq _ h9).1 (hq _ h9).2.1 (hq _ h9).2.2
      have hwl : ws.length = rs.length := hW5.length
      have hsl : ss.length = rs.length := hW2.length
      dsimp only [gName]
      have both : ∀ i, i < rs.length → ∃ (yk gk : Addr) (rk : Int × Int), ss[i]? = some (.ref yk) ∧ ws[i]? = some (.ref gk) ∧ rs[i]? = some rk ∧ ShareAt C H5 yk rk ∧ PrAt H5 gk rk ∧ Sb 125 rk := by
        intro i hi
        obtain ⟨x1, r1, e1, e2, yk, rfl, h1⟩ := Paired.at_ hW2 hi
        obtain ⟨x2, r2, e3, e4, gk, rfl, h2⟩ := Paired.at_ hW5 hi
        obtain rfl : r1 = r2 := Option.some.inj (e2.symm.trans e4)
        exact ⟨yk, gk, r1, e1, e3, e2, h1, h2, hrb _ (List.mem_of_getElem? e2)⟩
      refine ⟨_, rfl, D, us, rfl, .inl (SqL.of hD5), _, rfl, by omega, by omega, for_it walk_range (fun i σ H' => ∃ (v6 v7 : Option V), σ = [some (.ref a), some (.ref d), some (.ref D), v3, some (.ref D2), some (.ref D3), v6, v7, none, none, none, none] ∧ TSame ⟨d, c, zs⟩ H5 H')
        ⟨none, none, rfl, TSame.refl hT5⟩ (fun _ _ _ _ _ => trivial) ?_ ?_⟩
      · rintro i x σ Ha Hb hi ⟨v6, v7, rfl, sa⟩ ⟨rfl, hx⟩
        obtain rfl : x = V.int (i : Int) := hx.trans (congrArg V.int (Int.zero_add _))
        have hin : i < rs.length := by rw [hrl, ← hul]; simpa using hi
        obtain ⟨yk, gk, rk, es, ew, _, hy, hg, hb⟩ := both i hin
        refine ⟨_, rfl, _, rfl, D, us, rfl, .inl (SqL.of (sa.lst hD5)), ⟨d, c, zs⟩, _, rfl, sa.at1, by omega, fun H6 r6 s6 hr6 => ?_⟩
        have hrn : r6 < rs.length := by omega
        obtain ⟨ya, ga, ra, es2, ew2, _, hy2, hg2, hb2⟩ := both r6 hrn
        have t6 := sa.trans s6
        refine ⟨_, rfl, _, rfl, D3, _, _, _, rfl, rfl, SqL.of (t6.lst hss), atI_nat es, _, rfl, _, rfl, D2, _, _, _, rfl, rfl, SqL.of (t6.lst hws5), atI_nat ew, yk, gk, rk, rfl, hy.t t6, hg.t t6, hb.mono (by decide), fun H7 s7 => ⟨_, rfl, iteF ?_⟩⟩
        have t7 := t6.then s7
        refine ⟨_, rfl, _, rfl, D3, _, _, _, rfl, rfl, SqL.of (t7.lst hss), atI_nat es, _, rfl, _, rfl, D3, _, _, _, rfl, rfl, SqL.of (t7.lst hss), atI_nat es2, _, rfl, _, rfl, D2, _, _, _, rfl, rfl, SqL.of (t7.lst hws5), atI_nat ew, _, rfl, _, rfl, D2, _, _, _, rfl, rfl, SqL.of (t7.lst hws5), atI_nat ew2,
          yk, ya, gk, ga, rk, ra, 125, 125, rfl, hy.t t7, hy2.t t7, hg.t t7, hg2.t t7, hb, hb2, by decide, by decide, by decide, fun H8 s8 => ⟨_, rfl, iteF ?_⟩⟩
        have t8 := t7.then s8
        obtain ⟨j, hj, hjn⟩ : ∃ j : Nat, ((i : Int) + 1) % (us.length : Int) = (j : Int) ∧ j < rs.length := by
          refine ⟨(i + 1) % us.length, by rw [Int.natCast_emod, Int.natCast_add]; rfl, ?_⟩
          rw [hrl, ← hul]; exact Nat.mod_lt _ (by omega)
        obtain ⟨ya, ga, ra, es2, ew2, _, hy2, hg2, hb2⟩ := both j hjn
        refine ⟨_, rfl, _, rfl, D3, _, _, _, rfl, rfl, SqL.of (t8.lst hss), atI_nat es, _, rfl, _, rfl, _, _, rfl, rfl, .inl ⟨_, rfl, _, rfl, D, us, rfl, .inl (SqL.of (t8.lst hD5)), _, _, rfl, rfl, by show (0 : Int) < (us.length : Int); omega, D3, _, _, _, rfl, rfl, SqL.of (t8.lst hss), by rw [hj]; exact atI_nat es2, _, rfl, _, rfl, D2, _, _, _, rfl, rfl, SqL.of (t8.lst hws5), atI_nat ew,
          _, rfl, _, rfl, _, _, rfl, rfl, .inl ⟨_, rfl, _, rfl, D, us, rfl, .inl (SqL.of (t8.lst hD5)), _, _, rfl, rfl, by show (0 : Int) < (us.length : Int); omega, D2, _, _, _, rfl, rfl, SqL.of (t8.lst hws5), by rw [hj]; exact atI_nat ew2,
          yk, ya, gk, ga, rk, ra, 125, 125, rfl, hy.t t8, hy2.t t8, hg.t t8, hg2.t t8, hb, hb2, by decide, by decide, by decide, fun H9 s9 => ⟨_, rfl, iteF ?_⟩⟩⟩⟩
        exact ⟨_, _, rfl, t8.then s9⟩
      rintro σ H6 ⟨v6, v7, rfl, s6⟩
      -- the sum and the product of all
      refine ⟨_, _, rfl, rfl, _, rfl, ⟨d, c, zs⟩, 100, rfl, s6.at1, by decide, fun H7 r7 s7 hr7 => ⟨_, _, rfl, rfl, fun y dy ny ndy ney => ?_⟩⟩
      have sM : ∀ (b : Addr) (o : HO), H7 b = some o → b ≠ y ∧ (upd (upd H7 dy (.own y)) y (.ins C dy [])) b = some o := fun b o e => by
        have hb := ne_of_none e ny
        exact ⟨hb, (upd_ne hb).trans ((upd_ne (ne_of_none e ndy)).trans e)⟩
      refine ⟨y, dy, _, _, rfl, upd_same, by omega, bdS _ (by decide) (by decide) (by decide), bdS _ (by omega) (by omega) (by decide), fun H8 sx hS8 => ⟨rfl, ?_⟩⟩
      have s8 : Same H7 H8 := fun b o e => sx b o (sM b o e).1 (sM b o e).2
      have hS8 : ShareAt C H8 y (0, 1) := by
        have e := red0 (u := 0 - 1 - (r7 : Int)) (by omega)
        have hS8' : ShareAt C H8 y (red 0 (0 - 1 - (r7 : Int))) := hS8
        rw [e] at hS8'; exact hS8'
      have t8 := (s6.trans s7).then s8
      clear sM sx ny ndy ney
      refine fun z dz nz ndz nez => ?_
      have sM : ∀ (b : Addr) (o : HO), H8 b = some o → b ≠ z ∧ (upd (upd H8 dz (.own z)) z (.ins C dz [])) b = some o := fun b o e => by
        have hb := ne_of_none e nz
        exact ⟨hb, (upd_ne hb).trans ((upd_ne (ne_of_none e ndz)).trans e)⟩
      refine ⟨z, dz, _, _, rfl, upd_same, by decide, bdS _ (by decide) (by decide) (by decide), bdS _ (by decide) (by decide) (by decide), fun H9 sx hS9 => ⟨rfl, ?_⟩⟩
      have s9 : Same H8 H9 := fun b o e => sx b o (sM b o e).1 (sM b o e).2
      rw [red11] at hS9
      have t9 := t8.then s9
      have hS89 := hS8.same s9
      clear sM sx nz ndz nez
      refine ⟨by show 2 ≤ sizeLine; decide, fun ga hga => ⟨by show 2 ≤ sizeLine; decide, fun gb hgb => ⟨by show 2 ≤ sizeLine; decide, fun L hL => ?_⟩⟩⟩
      have sa := same_new (o := .tup [.int 0, .int 1]) hga
      have sb := same_new (o := .tup [.int 1, .int 1]) hgb
      have sl := same_new (o := .lst [.ref ga, .ref gb]) hL
      have sAll := (sa.trans sb).trans sl
      have hA0 : PrAt (upd (upd (upd H9 ga (.tup [.int 0, .int 1])) gb (.tup [.int 1, .int 1])) L (.lst [.ref ga, .ref gb])) ga (0, 1) := sl _ _ (sb _ _ upd_same)
      have hB0 : PrAt (upd (upd (upd H9 ga (.tup [.int 0, .int 1])) gb (.tup [.int 1, .int 1])) L (.lst [.ref ga, .ref gb])) gb (1, 1) := sl _ _ upd_same
      have sb8 : ∀ z : Int, z = 0 ∨ z = 1 → Sb 8 (z, 1) := fun z hz => ⟨by rcases hz with rfl | rfl <;> (show (_ : Int).natAbs < 256; decide), by show (1 : Int).natAbs < 256; decide, by show (0 : Int) < 1; decide⟩
      refine ⟨_, rfl, D, us, rfl, .inl (SqL.of (sAll _ _ (t9.lst hD5))), _, rfl, by omega, by omega, for_it walk_range (fun i σ H' => ∃ (y z L gA gB : Addr) (A B : Int × Int) (v6 : Option V), σ = [some (.ref a), some (.ref d), some (.ref D), v3, some (.ref D2), some (.ref D3), v6, v7, some (.ref y), some (.ref z), some (.ref L), none] ∧ TSame ⟨d, c, zs⟩ H5 H' ∧ H' L = some (.lst [.ref gA, .ref gB]) ∧ PrAt H' gA A ∧ PrAt H' gB B ∧ ShareAt C H' y A ∧ ShareAt C H' z B ∧ Sb (8 + 126 * i) A ∧ Sb (8 + 126 * i) B)
        ⟨y, z, L, ga, gb, (0, 1), (1, 1), _, rfl, t9.then sAll, upd_same, hA0, hB0, hS89.same sAll, hS9.same sAll, sb8 _ (.inl rfl), sb8 _ (.inr rfl)⟩ (fun _ _ _ _ _ => trivial) ?_ ?_⟩
      · rintro i x σ Ha Hb hi ⟨y, z, L, gA, gB, A, B, v6, rfl, t0, hL0, hgA, hgB, hyA, hzB, hA, hB⟩ ⟨rfl, hx⟩
        obtain rfl : x = V.int (i : Int) := hx.trans (congrArg V.int (Int.zero_add _))
        have hin : i < rs.length := by rw [hrl, ← hul]; simpa using hi
        have hi5 : i < 5 := by omega
        obtain ⟨yk, gk, rk, es, ew, _, hy, hg, hb⟩ := both i hin
        obtain ⟨dA, eA⟩ := id hyA
        obtain ⟨dk, ek⟩ := hy.t t0
        refine ⟨_, rfl, _, rfl, _, rfl, D3, _, _, _, rfl, rfl, SqL.of (t0.lst hss), atI_nat es, y, yk, dA, dk, _, _, rfl, rfl, eA, ek, y, yk, A, rk, 8 + 126 * i, 125, rfl, hyA, hy.t t0, hA, hb, by omega, by omega, by decide, fun Hc y' sc hy' => ⟨y', rfl, ?_⟩⟩
        have tc := t0.then sc
        obtain ⟨dB, eB⟩ := hzB.same sc
        obtain ⟨dk2, ek2⟩ := hy.t tc
        refine ⟨_, rfl, _, rfl, _, rfl, D3, _, _, _, rfl, rfl, SqL.of (tc.lst hss), atI_nat es, z, yk, dB, dk2, _, _, rfl, rfl, eB, ek2, z, yk, B, rk, 8 + 126 * i, 125, rfl, hzB.same sc, hy.t tc, hB, hb, by omega, by omega, by decide, fun Hd z' sd hz' => ⟨z', rfl, ?_⟩⟩
        have td := tc.then sd
        have scd := sc.trans sd
        refine ⟨_, rfl, L, _, _, _, rfl, rfl, SqL.of (scd _ _ hL0), atI_nat (j := 0) rfl, _, rfl, _, rfl, D2, _, _, _, rfl, rfl, SqL.of (td.lst hws5), atI_nat ew, gA, gk, A, rk, 8 + 126 * i, 125, rfl, hgA.same scd, hg.t td, hA, hb, by omega, by omega, by decide, fun He g1 se hg1 => ?_⟩
        have te := td.then se
        have sce := scd.trans se
        refine ⟨_, rfl, L, _, _, _, rfl, rfl, SqL.of (sce _ _ hL0), atI_nat (j := 1) rfl, _, rfl, _, rfl, D2, _, _, _, rfl, rfl, SqL.of (te.lst hws5), atI_nat ew, gB, gk, B, rk, 8 + 126 * i, 125, rfl, hgB.same sce, hg.t te, hB, hb, by omega, by omega, by decide, fun Hf g2 sf hg2 => ⟨by show 2 ≤ sizeLine; decide, fun L2 hL2 => ?_⟩⟩
        have sg := sf.trans (same_new (o := .lst [.ref g1, .ref g2]) hL2)
        have e126 : 8 + 126 * i + 125 + 1 = 8 + 126 * (i + 1) := by omega
        refine ⟨y', z', L2, g1, g2, addS A rk, mulS B rk, _, rfl, te.then sg, upd_same, hg1.same sg, (same_new hL2) _ _ hg2, hy'.same ((sd.trans se).trans sg), hz'.same (se.trans sg), ?_, ?_⟩
        · have := add_sb hA hb; rw [e126] at this; exact this
        · have := mul_sb hB hb; rw [e126] at this; exact this
      · rintro σ H10 ⟨y, z, L, gA, gB, A, B, v6, rfl, t10, hL10, hgA, hgB, hyA, hzB, hA, hB⟩
        have h126 : 8 + 126 * ((us.length : Int)).toNat ≤ 1900 := by omega
        refine ⟨_, rfl, _, rfl, L, _, _, _, rfl, rfl, SqL.of hL10, atI_nat (j := 0) rfl, y, gA, A, rfl, hyA, hgA, hA.mono h126, fun H11 s11 => ⟨_, rfl, iteF ?_⟩⟩
        refine ⟨_, rfl, _, rfl, L, _, _, _, rfl, rfl, SqL.of (s11 _ _ hL10), atI_nat (j := 1) rfl, z, gB, B, rfl, hzB.same s11, hgB.same s11, hB.mono h126, fun H12 s12 => ⟨_, rfl, iteF ?_⟩⟩
        have t12 := t10.then (s11.trans s12)
        refine ⟨_, rfl, D, us, rfl, .inl (SqL.of (t12.lst hD5)), _, rfl, by omega, by omega, for_it walk_range (fun i σ H' => ∃ (v6 : Option V), σ = [some (.ref a), some (.ref d), some (.ref D), v3, some (.ref D2), some (.ref D3), v6, v7, some (.ref y), some (.ref z), some (.ref L), none] ∧ TSame ⟨d, c, zs⟩ H5 H')
          ⟨_, rfl, t12⟩ (fun _ _ _ _ _ => trivial) ?_ ?_⟩
        · rintro i x σ Ha Hb hi ⟨v6, rfl, t0⟩ ⟨rfl, hx⟩
          obtain rfl : x = V.int (i : Int) := hx.trans (congrArg V.int (Int.zero_add _))
          have hin : i < rs.length := by rw [hrl, ← hul]; simpa using hi
          obtain ⟨yk, gk, rk, es, ew, _, hy, hg, hb⟩ := both i hin
          refine ⟨_, rfl, _, rfl, D3, _, _, _, rfl, rfl, SqL.of (t0.lst hss), atI_nat es, _, rfl, _, rfl, D2, _, _, _, rfl, rfl, SqL.of (t0.lst hws5), atI_nat ew, yk, gk, rk, rfl, hy.t t0, hg.t t0, hb.mono (by decide), fun Hc sc => ⟨_, rfl, iteF ?_⟩⟩
          have tc := t0.then sc
          refine ⟨_, rfl, _, rfl, D3, _, _, _, rfl, rfl, SqL.of (tc.lst hss), atI_nat es, _, rfl, _, rfl, _, rfl, D2, _, _, _, rfl, rfl, SqL.of (tc.lst hws5), atI_nat ew, _, rfl, _, rfl, D2, _, _, _, rfl, rfl, SqL.of (tc.lst hws5), atI_nat ew, gk, _, _, _, rfl, rfl, SqT.of (hg.t tc), rfl, by show 4 ≤ sizeLine; decide, fun Lp hLp => ?_⟩
          have tp := tc.new (o := .lst [V.non, V.ref gk, V.int rk.1, V.str "1"]) hLp
          refine ⟨⟨d, c, zs⟩, Lp, _, rfl, tp.at1, upd_same, by show 0 < 4; decide, fun Hd kk x sd hx => ?_⟩
          have td := tp.trans sd
          obtain ⟨Tn, hTn⟩ : ∃ Tn, TyN Hd x Tn := by
            match kk, hx with
            | 0, hx => exact ⟨_, .inl ⟨(Option.some.inj hx).symm, rfl⟩⟩
            | 1, hx => exact ⟨_, .inr (.inr (.inr ⟨gk, _, (Option.some.inj hx).symm, hg.t td, rfl⟩))⟩
            | 2, hx => exact ⟨_, .inr (.inl ⟨_, (Option.some.inj hx).symm, rfl⟩)⟩
            | 3, hx => exact ⟨_, .inr (.inr (.inl ⟨_, (Option.some.inj hx).symm, rfl⟩))⟩
            | kk + 4, hx => cases hx
          obtain ⟨dk, ek⟩ := hy.t td
          refine ⟨yk, dk, _, Tn, rfl, ek, hTn, PC.first hTn, yk, x, Tn, rk, rfl, hy.t td, hTn, _, rfl, _, _, rfl, rfl, _, rfl, iteF ?_⟩
          exact ⟨_, rfl, td⟩
        rintro σ H13 ⟨v6, rfl, t13⟩
        obtain ⟨x0, q0, hx0, hq0, g0, rfl, hg0⟩ := Paired.at_ hP5 (i := 0) (by omega)
        exact ⟨_, rfl, D, _, _, _, rfl, rfl, SqL.of (t13.lst hD5), atI_nat (j := 0) hx0, g0, _, _, _, rfl, rfl, SqT.of (PrAt.t hg0 t13), rfl, _, rfl, fun H' _ => q H'⟩
    have hD3 := s3.lst hDa
    have hP3 := hP.t s3
    have hq3 : ∀ q ∈ qs, PairOk q := fun q h => ⟨(hq q h).1, (hq q h).2.1.mono (by decide), (hq q h).2.2.mono (by decide)⟩
    cases decide (V.int (r3 : Int) = V.int 0) with
    | false => exact iteF (key H3 us qs none s3.at1 hD3 hP3 hq3 hln.1 hln.2)
    | true =>
      refine iteT ⟨_, rfl, ⟨d, c, zs⟩, 50, rfl, s3.at1, by decide, fun H4 r4 s4 hr4 => ⟨_, _, rfl, rfl, ?_⟩⟩
      have hD4 := s4.lst hD3
      have hP4 := hP3.t s4
      obtain ⟨x0, q0, hx0, hq0, g0, rfl, hg0⟩ := Paired.at_ hP4 (i := 0) (by omega)
      have ok0 := hq q0 (List.mem_of_getElem? hq0)
      refine ⟨_, rfl, D, _, _, _, rfl, rfl, SqL.of hD4, atI_nat (j := 0) hx0, g0, _, _, _, rfl, rfl, SqT.of hg0, rfl, _, rfl, _, _, rfl, rfl, .inr ⟨by omega, by omega⟩, _, rfl, D, _, _, _, rfl, rfl, SqL.of hD4, atI_nat (j := 0) hx0, g0, _, _, _, rfl, rfl, SqT.of hg0, rfl, _, rfl, _, _, rfl, rfl, .inr ⟨by omega, by omega⟩, by show 2 ≤ sizeLine; decide, fun g hg => ?_⟩
      have hDg : (upd H4 g (HO.tup [V.int (q0.1 * (1 + (r4 : Int))), V.int (q0.2 * (1 + (r4 : Int)))])) D = some (.lst us) := (upd_ne (ne_of_none hD4 hg)).trans hD4
      have hul : us.length = qs.length := hP4.length
      refine ⟨_, rfl, D, us, 1, 1, rfl, rfl, hDg, by rw [hul]; exact ixN_1 (by omega), ?_⟩
      have hfr := s1.at1.free hD
      have hm7 : Bd 7 (1 + (r4 : Int)) := by show (1 + (r4 : Int)).natAbs < 128; omega
      have sT := SameT.put (o := .lst (us.set 1 (V.ref g))) hDg
      refine key _ (us.set 1 (.ref g)) (qs.set 1 (q0.1 * (1 + (r4 : Int)), q0.2 * (1 + (r4 : Int)))) _ ((s4.at1.same (same_new hg)).put hfr.1 hfr.2) upd_same ?_ ?_ (by rw [List.length_set]; exact hln.1) (by rw [List.length_set]; exact hln.2)
      · refine Paired.set_ 1 (Paired.mapP hP4 fun _ _ ⟨g', e, hg'⟩ => ⟨g', e, sT _ _ (same_new hg _ _ hg')⟩) ⟨g, rfl, sT _ _ upd_same⟩
      · intro q9 h9
        rcases List.mem_or_eq_of_mem_set h9 with h9 | h9
        · exact hq3 _ h9
        · rw [h9]
          exact ⟨(fun e => (Int.mul_eq_zero.mp e).elim ok0.1 (fun e => by omega)), (ok0.2.1.mul hm7).mono (by decide), (ok0.2.2.mul hm7).mono (by decide)⟩
end
end RJ
end

section
set_option maxRecDepth 100000
set_option maxHeartbeats 4000000
namespace RJ
open PySem PySem.Spec PyProof.Rows L2
theorem all_mk {l : PySem.W.OpenLaw} {w : World} {K : PySem.W.Frag} {h : Heap} {mg : Str → Option Value} {fa C f0 f1 f2 f3 f4 f5 f6 f7 f8 f9 f10 f11 f12 f13 f14 f15 f16 f17 f18 f19 f20 f21 f22 : Addr} (X : K.In h) (G : h.Ns mainGlobals mg) (hfa : mg "law" = some (.ref fa))
    {od0 an0 od1 an1 od2 an2 od3 an3 od4 an4 od5 an5 od6 an6 od7 an7 od8 an8 od9 an9 od10 an10 od11 an11 od12 an12 od13 an13 od14 an14 od15 an15 od16 an16 od17 an17 od18 an18 od19 an19 od20 an20 od21 an21 od22 an22 : Option Addr} {sl0 sl1 sl2 sl3 sl4 sl5 sl6 sl7 sl8 sl9 sl10 sl11 sl12 sl13 sl14 sl15 sl16 sl17 sl18 sl19 sl20 sl21 sl22 : Array (Option Value)} {oc0 kV0 dc0 pm0 cd0 ct0 oc1 kV1 dc1 pm1 cd1 ct1 oc2 kV2 dc2 pm2 cd2 ct2 oc3 kV3 dc3 pm3 cd3 ct3 oc4 kV4 dc4 pm4 cd4 ct4 oc5 kV5 dc5 pm5 cd5 ct5 oc6 kV6 dc6 pm6 cd6 ct6 oc7 kV7 dc7 pm7 cd7 ct7 oc8 kV8 dc8 pm8 cd8 ct8 oc9 kV9 dc9 pm9 cd9 ct9 oc10 kV10 dc10 pm10 cd10 ct10 oc11 kV11 dc11 pm11 cd11 ct11 oc12 kV12 dc12 pm12 cd12 ct12 oc13 kV13 dc13 pm13 cd13 ct13 oc14 kV14 dc14 pm14 cd14 ct14 oc15 kV15 dc15 pm15 cd15 ct15 oc16 kV16 dc16 pm16 cd16 ct16 oc17 kV17 dc17 pm17 cd17 ct17 oc18 kV18 dc18 pm18 cd18 ct18 oc19 kV19 dc19 pm19 cd19 ct19 oc20 kV20 dc20 pm20 cd20 ct20 oc21 kV21 dc21 pm21 cd21 ct21 oc22 kV22 dc22 pm22 cd22 ct22 : Value}  {CInvalidNumber CNotCut CJoinError FInvalidNumber cdaInvalidNumber ccInvalidNumber NInvalidNumber : Addr} {odInvalidNumber anInvalidNumber cddInvalidNumber cldInvalidNumber ddInvalidNumber : Option Addr} {slInvalidNumber ccsInvalidNumber cslInvalidNumber : Array (Option Value)} {vsInvalidNumber : Array Value} {ocInvalidNumber kVInvalidNumber dcInvalidNumber pmInvalidNumber ctInvalidNumber cclInvalidNumber clInvalidNumber : Value} {fileInvalidNumber nmInvalidNumber qInvalidNumber : Str} {tfInvalidNumber : Tok} {bsInvalidNumber bmInvalidNumber subInvalidNumber : List Value} {snInvalidNumber : List Str} {abInvalidNumber : Bool} {colInvalidNumber : Option Bool} {k0InvalidNumber k1InvalidNumber k2InvalidNumber k3InvalidNumber k5InvalidNumber : Option Value}
    (aC : PySem.W.nsIn K mainGlobals "Share" = some (some (.ref C))) (a0 : PySem.W.nsIn K mainGlobals "digits_of" = some (some (.ref f0))) (l0 : K.lookup f0 = some ⟨oc0, od0, .func (PySem.W.fnOf "digits_of" "digits_of" (C8.fnArgs s_digits_of) (C8.fnBody s_digits_of) (C8.fnScope s_digits_of) .none kV0 dc0 pm0 an0 cd0 ct0), sl0⟩) (c0 : PySem.W.codeIn K cd0 "digits_of" = true)
    (k0 : PySem.W.keepIn K (.ref f0) = true) (a1 : PySem.W.findIn K (.ref C) "__init__" = some (some (.ref f1))) (i1 : PySem.W.isFn K (.ref f1) = true) (l1 : K.lookup f1 = some ⟨oc1, od1, .func (PySem.W.fnOf "__init__" "Share.__init__" (C8.fnArgs s_Share___init__) (C8.fnBody s_Share___init__) (C8.fnScope s_Share___init__) .none kV1 dc1 pm1 an1 cd1 ct1), sl1⟩)
    (c1 : PySem.W.codeIn K cd1 "Share.__init__" = true) (k1 : PySem.W.keepIn K (.ref f1) = true) (a2 : PySem.W.findIn K (.ref C) "__add__" = some (some (.ref f2))) (i2 : PySem.W.isFn K (.ref f2) = true)
    (l2 : K.lookup f2 = some ⟨oc2, od2, .func (PySem.W.fnOf "__add__" "Share.__add__" (C8.fnArgs s_Share___add__) (C8.fnBody s_Share___add__) (C8.fnScope s_Share___add__) .none kV2 dc2 pm2 an2 cd2 ct2), sl2⟩) (c2 : PySem.W.codeIn K cd2 "Share.__add__" = true) (k2 : PySem.W.keepIn K (.ref f2) = true) (a3 : PySem.W.findIn K (.ref C) "__sub__" = some (some (.ref f3)))
    (i3 : PySem.W.isFn K (.ref f3) = true) (l3 : K.lookup f3 = some ⟨oc3, od3, .func (PySem.W.fnOf "__sub__" "Share.__sub__" (C8.fnArgs s_Share___sub__) (C8.fnBody s_Share___sub__) (C8.fnScope s_Share___sub__) .none kV3 dc3 pm3 an3 cd3 ct3), sl3⟩) (c3 : PySem.W.codeIn K cd3 "Share.__sub__" = true) (k3 : PySem.W.keepIn K (.ref f3) = true)
    (a4 : PySem.W.findIn K (.ref C) "__mul__" = some (some (.ref f4))) (i4 : PySem.W.isFn K (.ref f4) = true) (l4 : K.lookup f4 = some ⟨oc4, od4, .func (PySem.W.fnOf "__mul__" "Share.__mul__" (C8.fnArgs s_Share___mul__) (C8.fnBody s_Share___mul__) (C8.fnScope s_Share___mul__) .none kV4 dc4 pm4 an4 cd4 ct4), sl4⟩) (c4 : PySem.W.codeIn K cd4 "Share.__mul__" = true)
    (k4 : PySem.W.keepIn K (.ref f4) = true) (a5 : PySem.W.findIn K (.ref C) "__eq__" = some (some (.ref f5))) (i5 : PySem.W.isFn K (.ref f5) = true) (l5 : K.lookup f5 = some ⟨oc5, od5, .func (PySem.W.fnOf "__eq__" "Share.__eq__" (C8.fnArgs s_Share___eq__) (C8.fnBody s_Share___eq__) (C8.fnScope s_Share___eq__) .none kV5 dc5 pm5 an5 cd5 ct5), sl5⟩)
    (c5 : PySem.W.codeIn K cd5 "Share.__eq__" = true) (k5 : PySem.W.keepIn K (.ref f5) = true) (a6 : PySem.W.findIn K (.ref C) "is_below" = some (some (.ref f6))) (i6 : PySem.W.isFn K (.ref f6) = true)
    (l6 : K.lookup f6 = some ⟨oc6, od6, .func (PySem.W.fnOf "is_below" "Share.is_below" (C8.fnArgs s_Share_is_below) (C8.fnBody s_Share_is_below) (C8.fnScope s_Share_is_below) .none kV6 dc6 pm6 an6 cd6 ct6), sl6⟩) (c6 : PySem.W.codeIn K cd6 "Share.is_below" = true) (k6 : PySem.W.keepIn K (.ref f6) = true) (a7 : PySem.W.findIn K (.ref C) "written" = some (some (.ref f7)))
    (i7 : PySem.W.isFn K (.ref f7) = true) (l7 : K.lookup f7 = some ⟨oc7, od7, .func (PySem.W.fnOf "written" "Share.written" (C8.fnArgs s_Share_written) (C8.fnBody s_Share_written) (C8.fnScope s_Share_written) .none kV7 dc7 pm7 an7 cd7 ct7), sl7⟩) (c7 : PySem.W.codeIn K cd7 "Share.written" = true) (k7 : PySem.W.keepIn K (.ref f7) = true)
    (a8 : PySem.W.nsIn K mainGlobals "_law_mixed" = some (some (.ref f8))) (l8 : K.lookup f8 = some ⟨oc8, od8, .func (PySem.W.fnOf "_law_mixed" "_law_mixed" (C8.fnArgs s__law_mixed) (C8.fnBody s__law_mixed) (C8.fnScope s__law_mixed) .none kV8 dc8 pm8 an8 cd8 ct8), sl8⟩) (c8 : PySem.W.codeIn K cd8 "_law_mixed" = true) (k8 : PySem.W.keepIn K (.ref f8) = true)
    (a9 : PySem.W.nsIn K mainGlobals "_law_tape" = some (some (.ref f9))) (l9 : K.lookup f9 = some ⟨oc9, od9, .func (PySem.W.fnOf "_law_tape" "_law_tape" (C8.fnArgs s__law_tape) (C8.fnBody s__law_tape) (C8.fnScope s__law_tape) .none kV9 dc9 pm9 an9 cd9 ct9), sl9⟩) (c9 : PySem.W.codeIn K cd9 "_law_tape" = true) (k9 : PySem.W.keepIn K (.ref f9) = true)
    (a10 : PySem.W.nsIn K mainGlobals "_law_draw" = some (some (.ref f10))) (l10 : K.lookup f10 = some ⟨oc10, od10, .func (PySem.W.fnOf "_law_draw" "_law_draw" (C8.fnArgs s__law_draw) (C8.fnBody s__law_draw) (C8.fnScope s__law_draw) .none kV10 dc10 pm10 an10 cd10 ct10), sl10⟩) (c10 : PySem.W.codeIn K cd10 "_law_draw" = true) (k10 : PySem.W.keepIn K (.ref f10) = true)
    (a11 : PySem.W.nsIn K mainGlobals "_law_pick" = some (some (.ref f11))) (l11 : K.lookup f11 = some ⟨oc11, od11, .func (PySem.W.fnOf "_law_pick" "_law_pick" (C8.fnArgs s__law_pick) (C8.fnBody s__law_pick) (C8.fnScope s__law_pick) .none kV11 dc11 pm11 an11 cd11 ct11), sl11⟩) (c11 : PySem.W.codeIn K cd11 "_law_pick" = true) (k11 : PySem.W.keepIn K (.ref f11) = true)
    (a12 : PySem.W.nsIn K mainGlobals "_law_share" = some (some (.ref f12))) (l12 : K.lookup f12 = some ⟨oc12, od12, .func (PySem.W.fnOf "_law_share" "_law_share" (C8.fnArgs s__law_share) (C8.fnBody s__law_share) (C8.fnScope s__law_share) .none kV12 dc12 pm12 an12 cd12 ct12), sl12⟩) (c12 : PySem.W.codeIn K cd12 "_law_share" = true) (k12 : PySem.W.keepIn K (.ref f12) = true)
    (a13 : PySem.W.nsIn K mainGlobals "_law_added" = some (some (.ref f13))) (l13 : K.lookup f13 = some ⟨oc13, od13, .func (PySem.W.fnOf "_law_added" "_law_added" (C8.fnArgs s__law_added) (C8.fnBody s__law_added) (C8.fnScope s__law_added) .none kV13 dc13 pm13 an13 cd13 ct13), sl13⟩) (c13 : PySem.W.codeIn K cd13 "_law_added" = true) (k13 : PySem.W.keepIn K (.ref f13) = true)
    (a14 : PySem.W.nsIn K mainGlobals "_law_times" = some (some (.ref f14))) (l14 : K.lookup f14 = some ⟨oc14, od14, .func (PySem.W.fnOf "_law_times" "_law_times" (C8.fnArgs s__law_times) (C8.fnBody s__law_times) (C8.fnScope s__law_times) .none kV14 dc14 pm14 an14 cd14 ct14), sl14⟩) (c14 : PySem.W.codeIn K cd14 "_law_times" = true) (k14 : PySem.W.keepIn K (.ref f14) = true)
    (a15 : PySem.W.nsIn K mainGlobals "_law_is_share" = some (some (.ref f15))) (l15 : K.lookup f15 = some ⟨oc15, od15, .func (PySem.W.fnOf "_law_is_share" "_law_is_share" (C8.fnArgs s__law_is_share) (C8.fnBody s__law_is_share) (C8.fnScope s__law_is_share) .none kV15 dc15 pm15 an15 cd15 ct15), sl15⟩) (c15 : PySem.W.codeIn K cd15 "_law_is_share" = true) (k15 : PySem.W.keepIn K (.ref f15) = true)
    (a16 : PySem.W.nsIn K mainGlobals "_law_integer" = some (some (.ref f16))) (l16 : K.lookup f16 = some ⟨oc16, od16, .func (PySem.W.fnOf "_law_integer" "_law_integer" (C8.fnArgs s__law_integer) (C8.fnBody s__law_integer) (C8.fnScope s__law_integer) .none kV16 dc16 pm16 an16 cd16 ct16), sl16⟩) (c16 : PySem.W.codeIn K cd16 "_law_integer" = true) (k16 : PySem.W.keepIn K (.ref f16) = true)
    (a17 : PySem.W.nsIn K mainGlobals "_law_pair" = some (some (.ref f17))) (l17 : K.lookup f17 = some ⟨oc17, od17, .func (PySem.W.fnOf "_law_pair" "_law_pair" (C8.fnArgs s__law_pair) (C8.fnBody s__law_pair) (C8.fnScope s__law_pair) .none kV17 dc17 pm17 an17 cd17 ct17), sl17⟩) (c17 : PySem.W.codeIn K cd17 "_law_pair" = true) (k17 : PySem.W.keepIn K (.ref f17) = true)
    (a18 : PySem.W.nsIn K mainGlobals "_law_written" = some (some (.ref f18))) (l18 : K.lookup f18 = some ⟨oc18, od18, .func (PySem.W.fnOf "_law_written" "_law_written" (C8.fnArgs s__law_written) (C8.fnBody s__law_written) (C8.fnScope s__law_written) .none kV18 dc18 pm18 an18 cd18 ct18), sl18⟩) (c18 : PySem.W.codeIn K cd18 "_law_written" = true) (k18 : PySem.W.keepIn K (.ref f18) = true)
    (a19 : PySem.W.nsIn K mainGlobals "_law_refused" = some (some (.ref f19))) (l19 : K.lookup f19 = some ⟨oc19, od19, .func (PySem.W.fnOf "_law_refused" "_law_refused" (C8.fnArgs s__law_refused) (C8.fnBody s__law_refused) (C8.fnScope s__law_refused) .none kV19 dc19 pm19 an19 cd19 ct19), sl19⟩) (c19 : PySem.W.codeIn K cd19 "_law_refused" = true) (k19 : PySem.W.keepIn K (.ref f19) = true)
    (a20 : PySem.W.nsIn K mainGlobals "_law_one_right" = some (some (.ref f20))) (l20 : K.lookup f20 = some ⟨oc20, od20, .func (PySem.W.fnOf "_law_one_right" "_law_one_right" (C8.fnArgs s__law_one_right) (C8.fnBody s__law_one_right) (C8.fnScope s__law_one_right) .none kV20 dc20 pm20 an20 cd20 ct20), sl20⟩) (c20 : PySem.W.codeIn K cd20 "_law_one_right" = true) (k20 : PySem.W.keepIn K (.ref f20) = true)
    (a21 : PySem.W.nsIn K mainGlobals "_law_two_right" = some (some (.ref f21))) (l21 : K.lookup f21 = some ⟨oc21, od21, .func (PySem.W.fnOf "_law_two_right" "_law_two_right" (C8.fnArgs s__law_two_right) (C8.fnBody s__law_two_right) (C8.fnScope s__law_two_right) .none kV21 dc21 pm21 an21 cd21 ct21), sl21⟩) (c21 : PySem.W.codeIn K cd21 "_law_two_right" = true) (k21 : PySem.W.keepIn K (.ref f21) = true)
    (a22 : PySem.W.nsIn K mainGlobals "law" = some (some (.ref f22))) (l22 : K.lookup f22 = some ⟨oc22, od22, .func (PySem.W.fnOf "law" "law" (C8.fnArgs s_law) (C8.fnBody s_law) (C8.fnScope s_law) .none kV22 dc22 pm22 an22 cd22 ct22), sl22⟩) (c22 : PySem.W.codeIn K cd22 "law" = true) (k22 : PySem.W.keepIn K (.ref f22) = true)
    (pgC : PySem.W.plainGet K C Str.empty = true) (hdC : PySem.W.hasDictIn K C = true) (poC : PySem.W.plainOver K C = true) (saC : PySem.W.findIn K (.ref C) "__setattr__" = some (some (.builtin "object.__setattr__")))
    (mkC : PySem.W.makesIn K C = true) (kcC : PySem.W.keepIn K (.ref C) = true) (nC0 : PySem.W.findIn K (.ref C) "over" = some none) (nC1 : PySem.W.findIn K (.ref C) "under" = some none)
    (yjC : PySem.W.findIn K (.ref C) "__class__" = some (some (.builtin "object.__class__"))) (ymC : PySem.W.mroIn K C (.type "object") = some true) (yeC : PySem.W.kitOne K (.ref C) (.ref C) = some true) (AInvalidNumber : PySem.W.nsIn K mainGlobals "InvalidNumber" = some (some (.ref CInvalidNumber)))
    (ANotCut : PySem.W.nsIn K mainGlobals "NotCut" = some (some (.ref CNotCut))) (AJoinError : PySem.W.nsIn K mainGlobals "JoinError" = some (some (.ref CJoinError))) (zsuper : PySem.W.nsIn K mainGlobals "super" = some none) (zopq : PySem.W.nsIn K PySem.cStatics "thirdparty.any" = some none)
    (hn0 : PySem.W.specialIn K (.builtin "object.__class__") "__get__" = some (some (.builtin "getset_descriptor.__get__"))) (ht0 : PySem.W.takesIn K (.builtin "object.__class__") = some true) (pn1 : PySem.W.subIn K (.type "NoneType") (.ref C) = some false) (pn2 : PySem.W.subIn K (.type "int") (.ref C) = some false)
    (pn3 : PySem.W.subIn K (.type "str") (.ref C) = some false) (pn4 : PySem.W.subIn K (.type "tuple") (.ref C) = some false) (pk1 : PySem.W.kitOne K (.type "NoneType") (.ref C) = some false) (pk2 : PySem.W.kitOne K (.type "int") (.ref C) = some false)
    (pk3 : PySem.W.kitOne K (.type "str") (.ref C) = some false) (pk4 : PySem.W.kitOne K (.type "tuple") (.ref C) = some false) (hself : PySem.W.selfFirst K C = true) (xgcd : PySem.W.nsIn K mainGlobals "gcd" = some (some (.builtin "math.gcd")))
    (IInvalidNumber : PySem.W.findIn K (.ref CInvalidNumber) "__init__" = some (some (.ref FInvalidNumber))) (TInvalidNumber : PySem.W.typeIn K (.ref FInvalidNumber) = some (.type "function")) (LInvalidNumber : K.lookup FInvalidNumber = some ⟨ocInvalidNumber, odInvalidNumber, .func (PySem.W.ksFn "__init__" "InvalidNumber.__init__" (C8.fnArgs s_InvalidNumber___init__) (C8.fnBody s_InvalidNumber___init__) (C8.fnScope s_InvalidNumber___init__) .none kVInvalidNumber dcInvalidNumber pmInvalidNumber anInvalidNumber (.ref cdaInvalidNumber) ctInvalidNumber ccInvalidNumber), slInvalidNumber⟩) (DInvalidNumber : PySem.W.codeIn K (.ref cdaInvalidNumber) "InvalidNumber.__init__" = true)
    (KInvalidNumber : K.lookup cdaInvalidNumber = some ⟨cclInvalidNumber, cddInvalidNumber, .fields vsInvalidNumber, ccsInvalidNumber⟩) (VInvalidNumber : vsInvalidNumber[2]? = some (.str fileInvalidNumber tfInvalidNumber)) (QInvalidNumber : ((l.prog.main.file : Str) == fileInvalidNumber) = true) (JInvalidNumber : K.lookup ccInvalidNumber = some ⟨clInvalidNumber, cldInvalidNumber, .cell (some (.ref CInvalidNumber)), cslInvalidNumber⟩)
    (XInvalidNumber : K.lookup CInvalidNumber = some (excClassObj nmInvalidNumber qInvalidNumber CInvalidNumber NInvalidNumber bsInvalidNumber bmInvalidNumber true snInvalidNumber subInvalidNumber abInvalidNumber colInvalidNumber ddInvalidNumber k0InvalidNumber k1InvalidNumber k2InvalidNumber k3InvalidNumber k5InvalidNumber "ValueError.__new__")) (RInvalidNumber : PySem.HandSPX.refsVE bmInvalidNumber = true) (aInvalidNumber : PySem.W.findIn K (.ref CInvalidNumber) "__setattr__" = some (some (.builtin "object.__setattr__"))) (bInvalidNumber : PySem.W.subIn K (.ref CInvalidNumber) (.type "BaseException") = some true)
    (cInvalidNumber : PySem.W.typeIn K (.ref CInvalidNumber) = some (.type "type")) (dInvalidNumber : PySem.W.keepIn K (.ref CInvalidNumber) = true) (eInvalidNumber : PySem.W.ks_superIn K CInvalidNumber CInvalidNumber "__init__" = some (some (.builtin "ValueError.__init__"))) (fInvalidNumber : PySem.W.subIn K (.ref CInvalidNumber) (.type "ValueError") = some true)
    (gInvalidNumber : PySem.W.mroIn K CInvalidNumber (.ref CInvalidNumber) = some true) (hInvalidNumber : PySem.W.findIn K (.ref CInvalidNumber) "__getattribute__" = some (some (.builtin "BaseException.__getattribute__"))) (iInvalidNumber : PySem.W.findIn K (.ref CInvalidNumber) "__getattr__" = some none) (jInvalidNumber : PySem.W.findIn K (.ref CInvalidNumber) "__class__" = some (some (.builtin "object.__class__")))
    (kInvalidNumber : PySem.W.mroIn K CInvalidNumber (.type "object") = some true) (lInvalidNumber : PySem.W.hasDictIn K CInvalidNumber = true) (nInvalidNumber_number : PySem.W.findIn K (.ref CInvalidNumber) "number" = some none) (mInvalidNumberJoinError : PySem.W.subIn K (.ref CInvalidNumber) (.ref CJoinError) = some true)
    (oInvalidNumberInvalidNumber : PySem.W.kitOne K (.ref CInvalidNumber) (.ref CInvalidNumber) = some true) (oInvalidNumberValueError : PySem.W.kitOne K (.ref CInvalidNumber) (.type "ValueError") = some true) (oInvalidNumberNotCut : PySem.W.kitOne K (.ref CInvalidNumber) (.ref CNotCut) = some false) (pJoinError : PySem.W.subIn K (.ref CJoinError) (.type "BaseException") = some true)
    (qJoinError : PySem.W.hasDictIn K CJoinError = true) (rJoinError : PySem.W.typeIn K (.ref CJoinError) = some (.type "type")) (htop : (l.prog.main.scope.names.lookup ("super" : Str)).isSome = false) (z0 : PySem.W.nsIn K mainGlobals "isinstance" = some none)
    (z1 : PySem.W.nsIn K mainGlobals "len" = some none) (z2 : PySem.W.nsIn K mainGlobals "abs" = some none) (z3 : PySem.W.nsIn K mainGlobals "int" = some none) (z4 : PySem.W.nsIn K mainGlobals "bool" = some none)
    (z5 : PySem.W.nsIn K mainGlobals "str" = some none) (z6 : PySem.W.nsIn K mainGlobals "list" = some none) (z7 : PySem.W.nsIn K mainGlobals "range" = some none) (z8 : PySem.W.nsIn K mainGlobals "ValueError" = some none)
    (z9 : PySem.W.nsIn K mainGlobals "divmod" = some none) :
    ∃ fd : FuncData, (∀ (s : Shared) (v : Value), BindsTo s fd ⟨[v], []⟩ [("script", v)]) ∧ ∀ base : Heap, K.In base → base.Ns mainGlobals mg → FnOk l.prog w K mg base C8.CX0 8 fa fd ["script"] (sp_law K) := by
  have e := hfa.symm.trans (PySem.W.mg_of X G a22)
  cases e
  have T : Txt K mg := ⟨PySem.W.mg_none_of X G z0, PySem.W.mg_none_of X G z1, PySem.W.mg_none_of X G z2, PySem.W.mg_none_of X G z3, PySem.W.mg_none_of X G z4, PySem.W.mg_none_of X G z5, PySem.W.mg_none_of X G z6, PySem.W.mg_none_of X G z7, PySem.W.mg_none_of X G z8, PySem.W.mg_none_of X G z9⟩
  have J : STxt K C := ⟨⟨pgC, hdC, poC, saC⟩, nC0, nC1⟩
  have GShare : mg "Share" = some (.ref C) := PySem.W.mg_of X G aC
  have ic : C8.InsC K C := ⟨J.cl, yjC, hn0, ht0, ymC, yeC⟩
  have PC : PlainC K C := ⟨pn1, pn2, pn3, pn4, pk1, pk2, pk3, pk4⟩
  have Ggcd : mg "gcd" = some (.builtin "math.gcd") := PySem.W.mg_of X G xgcd
  have F0 : C8.Fun K "digits_of" "digits_of" s_digits_of f0 _ := ⟨⟨_, _, _, _, _, _, _, _, _, _, rfl, l0, c0⟩⟩
  have b0 := F0.binds rfl (ps := ["number"]) fun _ _ _ _ _ _ us hl => match us, hl with | [_], _ => rfl
  have F1 : C8.Fun K "__init__" "Share.__init__" s_Share___init__ f1 _ := ⟨⟨_, _, _, _, _, _, _, _, _, _, rfl, l1, c1⟩⟩
  have b1 := F1.binds rfl (ps := ["self", "over", "under"]) fun _ _ _ _ _ _ us hl => match us, hl with | [_, _, _], _ => rfl
  have F2 : C8.Fun K "__add__" "Share.__add__" s_Share___add__ f2 _ := ⟨⟨_, _, _, _, _, _, _, _, _, _, rfl, l2, c2⟩⟩
  have b2 := F2.binds rfl (ps := ["self", "other"]) fun _ _ _ _ _ _ us hl => match us, hl with | [_, _], _ => rfl
  have F3 : C8.Fun K "__sub__" "Share.__sub__" s_Share___sub__ f3 _ := ⟨⟨_, _, _, _, _, _, _, _, _, _, rfl, l3, c3⟩⟩
  have b3 := F3.binds rfl (ps := ["self", "other"]) fun _ _ _ _ _ _ us hl => match us, hl with | [_, _], _ => rfl
  have F4 : C8.Fun K "__mul__" "Share.__mul__" s_Share___mul__ f4 _ := ⟨⟨_, _, _, _, _, _, _, _, _, _, rfl, l4, c4⟩⟩
  have b4 := F4.binds rfl (ps := ["self", "other"]) fun _ _ _ _ _ _ us hl => match us, hl with | [_, _], _ => rfl
  have F5 : C8.Fun K "__eq__" "Share.__eq__" s_Share___eq__ f5 _ := ⟨⟨_, _, _, _, _, _, _, _, _, _, rfl, l5, c5⟩⟩
  have b5 := F5.binds rfl (ps := ["self", "other"]) fun _ _ _ _ _ _ us hl => match us, hl with | [_, _], _ => rfl
  have F6 : C8.Fun K "is_below" "Share.is_below" s_Share_is_below f6 _ := ⟨⟨_, _, _, _, _, _, _, _, _, _, rfl, l6, c6⟩⟩
  have b6 := F6.binds rfl (ps := ["self", "other"]) fun _ _ _ _ _ _ us hl => match us, hl with | [_, _], _ => rfl
  have F7 : C8.Fun K "written" "Share.written" s_Share_written f7 _ := ⟨⟨_, _, _, _, _, _, _, _, _, _, rfl, l7, c7⟩⟩
  have b7 := F7.binds rfl (ps := ["self"]) fun _ _ _ _ _ _ us hl => match us, hl with | [_], _ => rfl
  have F8 : C8.Fun K "_law_mixed" "_law_mixed" s__law_mixed f8 _ := ⟨⟨_, _, _, _, _, _, _, _, _, _, rfl, l8, c8⟩⟩
  have b8 := F8.binds rfl (ps := ["number", "turn"]) fun _ _ _ _ _ _ us hl => match us, hl with | [_, _], _ => rfl
  have F9 : C8.Fun K "_law_tape" "_law_tape" s__law_tape f9 _ := ⟨⟨_, _, _, _, _, _, _, _, _, _, rfl, l9, c9⟩⟩
  have b9 := F9.binds rfl (ps := ["script"]) fun _ _ _ _ _ _ us hl => match us, hl with | [_], _ => rfl
  have F10 : C8.Fun K "_law_draw" "_law_draw" s__law_draw f10 _ := ⟨⟨_, _, _, _, _, _, _, _, _, _, rfl, l10, c10⟩⟩
  have b10 := F10.binds rfl (ps := ["tape", "many"]) fun _ _ _ _ _ _ us hl => match us, hl with | [_, _], _ => rfl
  have F11 : C8.Fun K "_law_pick" "_law_pick" s__law_pick f11 _ := ⟨⟨_, _, _, _, _, _, _, _, _, _, rfl, l11, c11⟩⟩
  have b11 := F11.binds rfl (ps := ["tape", "row"]) fun _ _ _ _ _ _ us hl => match us, hl with | [_, _], _ => rfl
  have F12 : C8.Fun K "_law_share" "_law_share" s__law_share f12 _ := ⟨⟨_, _, _, _, _, _, _, _, _, _, rfl, l12, c12⟩⟩
  have b12 := F12.binds rfl (ps := ["over", "under"]) fun _ _ _ _ _ _ us hl => match us, hl with | [_, _], _ => rfl
  have F13 : C8.Fun K "_law_added" "_law_added" s__law_added f13 _ := ⟨⟨_, _, _, _, _, _, _, _, _, _, rfl, l13, c13⟩⟩
  have b13 := F13.binds rfl (ps := ["one", "other"]) fun _ _ _ _ _ _ us hl => match us, hl with | [_, _], _ => rfl
  have F14 : C8.Fun K "_law_times" "_law_times" s__law_times f14 _ := ⟨⟨_, _, _, _, _, _, _, _, _, _, rfl, l14, c14⟩⟩
  have b14 := F14.binds rfl (ps := ["one", "other"]) fun _ _ _ _ _ _ us hl => match us, hl with | [_, _], _ => rfl
  have F15 : C8.Fun K "_law_is_share" "_law_is_share" s__law_is_share f15 _ := ⟨⟨_, _, _, _, _, _, _, _, _, _, rfl, l15, c15⟩⟩
  have b15 := F15.binds rfl (ps := ["actual", "due"]) fun _ _ _ _ _ _ us hl => match us, hl with | [_, _], _ => rfl
  have F16 : C8.Fun K "_law_integer" "_law_integer" s__law_integer f16 _ := ⟨⟨_, _, _, _, _, _, _, _, _, _, rfl, l16, c16⟩⟩
  have b16 := F16.binds rfl (ps := ["tape", "size"]) fun _ _ _ _ _ _ us hl => match us, hl with | [_, _], _ => rfl
  have F17 : C8.Fun K "_law_pair" "_law_pair" s__law_pair f17 _ := ⟨⟨_, _, _, _, _, _, _, _, _, _, rfl, l17, c17⟩⟩
  have b17 := F17.binds rfl (ps := ["tape"]) fun _ _ _ _ _ _ us hl => match us, hl with | [_], _ => rfl
  have F18 : C8.Fun K "_law_written" "_law_written" s__law_written f18 _ := ⟨⟨_, _, _, _, _, _, _, _, _, _, rfl, l18, c18⟩⟩
  have b18 := F18.binds rfl (ps := ["share"]) fun _ _ _ _ _ _ us hl => match us, hl with | [_], _ => rfl
  have F19 : C8.Fun K "_law_refused" "_law_refused" s__law_refused f19 _ := ⟨⟨_, _, _, _, _, _, _, _, _, _, rfl, l19, c19⟩⟩
  have b19 := F19.binds rfl (ps := ["over"]) fun _ _ _ _ _ _ us hl => match us, hl with | [_], _ => rfl
  have F20 : C8.Fun K "_law_one_right" "_law_one_right" s__law_one_right f20 _ := ⟨⟨_, _, _, _, _, _, _, _, _, _, rfl, l20, c20⟩⟩
  have b20 := F20.binds rfl (ps := ["share", "due"]) fun _ _ _ _ _ _ us hl => match us, hl with | [_, _], _ => rfl
  have F21 : C8.Fun K "_law_two_right" "_law_two_right" s__law_two_right f21 _ := ⟨⟨_, _, _, _, _, _, _, _, _, _, rfl, l21, c21⟩⟩
  have b21 := F21.binds rfl (ps := ["one", "other", "first", "second"]) fun _ _ _ _ _ _ us hl => match us, hl with | [_, _, _, _], _ => rfl
  have F22 : C8.Fun K "law" "law" s_law fa _ := ⟨⟨_, _, _, _, _, _, _, _, _, _, rfl, l22, c22⟩⟩
  refine ⟨PySem.W.fnOf "law" "law" (C8.fnArgs s_law) (C8.fnBody s_law) (C8.fnScope s_law) .none kV22 dc22 pm22 an22 cd22 ct22, fun s v => .of_eq rfl, fun base _ _ => ?_⟩
  have GInvalidNumber : mg "InvalidNumber" = some (.ref CInvalidNumber) := PySem.W.mg_of X G AInvalidNumber
  have GNotCut : mg "NotCut" = some (.ref CNotCut) := PySem.W.mg_of X G ANotCut
  have GJoinError : mg "JoinError" = some (.ref CJoinError) := PySem.W.mg_of X G AJoinError
  have hsuper : mg "super" = none := PySem.W.mg_none_of X G zsuper
  have eiInvalidNumber : ErrI K CInvalidNumber := ⟨by unfold PySem.W.clsIn; rw [XInvalidNumber]; rfl, hInvalidNumber, iInvalidNumber, bInvalidNumber, jInvalidNumber, hn0, ht0, kInvalidNumber, lInvalidNumber⟩
  have SInvalidNumber : SupF l.prog K CInvalidNumber "InvalidNumber.__init__" s_InvalidNumber___init__ FInvalidNumber _ := ⟨⟨_, _, _, _, _, _, _, _, _, _, _, rfl, LInvalidNumber, DInvalidNumber, ⟨_, _, _, _, _, _, KInvalidNumber, VInvalidNumber, QInvalidNumber⟩, _, _, _, JInvalidNumber⟩, htop, eInvalidNumber, fInvalidNumber, gInvalidNumber, zopq, ⟨⟨_, _, _, _, _, _, _, _, _, _, _, _, _, _, _, XInvalidNumber, RInvalidNumber⟩, aInvalidNumber, bInvalidNumber, cInvalidNumber, dInvalidNumber⟩⟩
  have e0InvalidNumber : ErrC l.prog w K mg base "InvalidNumber" CInvalidNumber (sp_err1 CInvalidNumber "number" gNum) := ⟨SInvalidNumber.oex, GInvalidNumber, ⟨FInvalidNumber, _, _, IInvalidNumber, TInvalidNumber, ok_InvalidNumber SInvalidNumber T hsuper nInvalidNumber_number, .all fun us hl => match us, hl with | [_, _], _ => rfl⟩⟩
  have MInvalidNumberJoinError := PySem.W.exm_ref pJoinError qJoinError rJoinError mInvalidNumberJoinError
  have c__law_mixed : C8.Cal l.prog w K mg base 1 "_law_mixed" sp_mixed [] := ⟨⟨f8, _, _, _, ok_mixed F8 T, PySem.W.mg_of X G a8, k8, b8, .nil⟩⟩
  have c__law_tape : C8.Cal l.prog w K mg base 1 "_law_tape" (sp_tape K) [] := ⟨⟨f9, _, _, _, ok_tape F9 T, PySem.W.mg_of X G a9, k9, b9, .nil⟩⟩
  have c__law_draw : C8.Cal l.prog w K mg base 2 "_law_draw" sp_draw [] := ⟨⟨f10, _, _, _, ok_draw F10 T c__law_mixed, PySem.W.mg_of X G a10, k10, b10, .nil⟩⟩
  have c__law_pick : C8.Cal l.prog w K mg base 3 "_law_pick" sp_pick [] := ⟨⟨f11, _, _, _, ok_pick F11 T c__law_draw, PySem.W.mg_of X G a11, k11, b11, .nil⟩⟩
  have c__law_pickS : C8.Cal l.prog w K mg base 3 "_law_pick" sp_pickS [] := ⟨⟨f11, _, _, _, ok_pickS F11 T c__law_draw, PySem.W.mg_of X G a11, k11, b11, .nil⟩⟩
  have c_digits_of : C8.Cal l.prog w K mg base 1 "digits_of" sp_digits [] := ⟨⟨f0, _, _, _, ok_digits F0 T, PySem.W.mg_of X G a0, k0, b0, .nil⟩⟩
  have k_Share : C8.Mak l.prog w K mg base 1 "Share" C (sp_shinit C) [] := ⟨⟨f1, _, _, _, ⟨mkC, a1, i1, kcC⟩, ok_shinit F1 T J Ggcd, PySem.W.mg_of X G aC, b1, .nil⟩⟩
  have x_Share : MakX l.prog w K mg base 4 "Share" C (sp_shX C CInvalidNumber) := ⟨⟨f1, _, _, ⟨mkC, a1, i1, kcC⟩, ok_shinitX F1 T J Ggcd e0InvalidNumber, PySem.W.mg_of X G aC, b1⟩⟩
  have m___add__ : C8.Met l.prog w K mg base 3 C "__add__" (sp_shop C addS) [] := ⟨⟨f2, _, _, _, J.cl, ⟨a2, i2, k2⟩, ok_shadd F2 T J k_Share, b2, .nil⟩⟩
  have m___sub__ : C8.Met l.prog w K mg base 3 C "__sub__" (sp_shop C subS) [] := ⟨⟨f3, _, _, _, J.cl, ⟨a3, i3, k3⟩, ok_shsub F3 T J k_Share, b3, .nil⟩⟩
  have m___mul__ : C8.Met l.prog w K mg base 3 C "__mul__" (sp_shop C mulS) [] := ⟨⟨f4, _, _, _, J.cl, ⟨a4, i4, k4⟩, ok_shmul F4 T J k_Share, b4, .nil⟩⟩
  have m___eq__ : C8.Met l.prog w K mg base 1 C "__eq__" (sp_sheq C) [] := ⟨⟨f5, _, _, _, J.cl, ⟨a5, i5, k5⟩, ok_sheq F5 T J GShare ic, b5, .nil⟩⟩
  have m_eqV : C8.Met l.prog w K mg base 1 C "__eq__" (sp_sheqV C) [] := ⟨⟨f5, _, _, _, J.cl, ⟨a5, i5, k5⟩, ok_sheqV F5 T J GShare PC, b5, .nil⟩⟩
  have m_is_below : C8.Met l.prog w K mg base 1 C "is_below" (sp_shbelow C) [] := ⟨⟨f6, _, _, _, J.cl, ⟨a6, i6, k6⟩, ok_shbelow F6 T J, b6, .nil⟩⟩
  have m_written : C8.Met l.prog w K mg base 2 C "written" (sp_shwritten C) [] := ⟨⟨f7, _, _, _, J.cl, ⟨a7, i7, k7⟩, ok_shwritten F7 T J c_digits_of, b7, .nil⟩⟩
  have c__law_share : C8.Cal l.prog w K mg base 1 "_law_share" sp_lshare [] := ⟨⟨f12, _, _, _, ok_lshare F12 T, PySem.W.mg_of X G a12, k12, b12, .nil⟩⟩
  have c__law_added : C8.Cal l.prog w K mg base 2 "_law_added" (sp_lop addS) [] := ⟨⟨f13, _, _, _, ok_ladded F13 T c__law_share, PySem.W.mg_of X G a13, k13, b13, .nil⟩⟩
  have c__law_times : C8.Cal l.prog w K mg base 2 "_law_times" (sp_lop mulS) [] := ⟨⟨f14, _, _, _, ok_ltimes F14 T c__law_share, PySem.W.mg_of X G a14, k14, b14, .nil⟩⟩
  have c__law_is_share : C8.Cal l.prog w K mg base 1 "_law_is_share" (sp_lis C) [] := ⟨⟨f15, _, _, _, ok_lis F15 T J, PySem.W.mg_of X G a15, k15, b15, .nil⟩⟩
  have c__law_written : C8.Cal l.prog w K mg base 1 "_law_written" sp_lwritten [] := ⟨⟨f18, _, _, _, ok_lwritten F18 T, PySem.W.mg_of X G a18, k18, b18, .nil⟩⟩
  have c__law_one_right : C8.Cal l.prog w K mg base 4 "_law_one_right" (sp_lone C) [] := ⟨⟨f20, _, _, _, ok_lone F20 T J m_written c__law_is_share c__law_written, PySem.W.mg_of X G a20, k20, b20, .nil⟩⟩
  have c__law_integer : C8.Cal l.prog w K mg base 4 "_law_integer" sp_linteger [] := ⟨⟨f16, _, _, _, ok_linteger F16 T c__law_draw c__law_pick, PySem.W.mg_of X G a16, k16, b16, .nil⟩⟩
  have c__law_pair : C8.Cal l.prog w K mg base 5 "_law_pair" sp_lpair [] := ⟨⟨f17, _, _, _, ok_lpair F17 T c__law_draw c__law_pick c__law_integer, PySem.W.mg_of X G a17, k17, b17, .nil⟩⟩
  have c__law_refused : C8.Cal l.prog w K mg base 6 "_law_refused" sp_lref [] := ⟨⟨f19, _, _, _, ok_lref F19 T x_Share GJoinError GInvalidNumber GNotCut eiInvalidNumber nInvalidNumber_number MInvalidNumberJoinError oInvalidNumberInvalidNumber oInvalidNumberValueError oInvalidNumberNotCut, PySem.W.mg_of X G a19, k19, b19, .nil⟩⟩
  have c__law_two_right : C8.Cal l.prog w K mg base 5 "_law_two_right" (sp_ltwo C) [] := ⟨⟨f21, _, _, _, ok_ltwo F21 T J hself m___add__ m___sub__ m___mul__ m___eq__ m_is_below c__law_added c__law_times c__law_one_right, PySem.W.mg_of X G a21, k21, b21, .nil⟩⟩
  exact ok_law F22 T J PC hself c__law_tape c__law_draw c__law_pick c__law_pair c__law_share k_Share c__law_one_right c__law_two_right m___add__ m___mul__ m_eqV c__law_added c__law_times c__law_refused
theorem walk {l : PySem.W.OpenLaw} {q : Program} {loose : List Str} {XP : (Str → Option Value) → Heap → Prop} {YP : World → Heap → Prop} {d : DefRec} {K : Params → PySem.W.Frag} (hn : l.most = some 63) (hdf : d.params.defaults = [])
    (hY : ∀ (w : World) (h : Heap), YP w h → (K w.params).In h)
    (F : ∀ (w : World) (mg : Str → Option Value) (fa : Addr) (h : Heap), (K w.params).In h → h.Ns mainGlobals mg → mg d.name = some (.ref fa) →
      ∃ fd : FuncData, (∀ (s : Shared) (u : Value), BindsTo s fd ⟨[u], []⟩ [("script", u)]) ∧ ∀ base : Heap, (K w.params).In base → base.Ns mainGlobals mg → FnOk l.prog w (K w.params) mg base C8.CX0 8 fa fd ["script"] (sp_law (K w.params))) :
    PySem.W.WalkO q loose XP YP l.row.toRowW d [] (fun f vs => PySem.call f vs) :=
  L2.walk_of (n := 63) (k := 8) (x := "script") (CX := fun _ => C8.CX0) (sp := fun w => sp_law (K w.params)) hn (by decide) hdf ⟨rfl, by decide, by decide⟩ hY F (fun _ _ a ns hl _ hS => ⟨a, ns, rfl, hS, hl, fun _ => rfl⟩) fun _ _ _ _ _ z => z
end RJ
end

section
open PySem PySem.W PyProof.Rows
set_option maxRecDepth 100000 in
set_option maxHeartbeats 0 in
theorem PySem.Challenge.cw_rankedjoins_k44_shares_holds : PySem.Challenge.rw_rankedjoins_k44_shares.Holds := by
  w_on; o_law; k_head; (case hw => w_witness2)
  k_fill
  refine RJ.walk (l := PySem.Challenge.rw_rankedjoins_k44_shares) rfl rfl (fun w h Y => PySem.W.kIn_of Y) ?F
  case F =>
    intro w mg fa h KX G hmg
    refine' RJ.all_mk KX G hmg ?aC ?a0 ?l0 ?c0 ?k0 ?a1 ?i1 ?l1 ?c1 ?k1 ?a2 ?i2 ?l2 ?c2 ?k2 ?a3 ?i3 ?l3 ?c3 ?k3 ?a4 ?i4 ?l4 ?c4 ?k4 ?a5 ?i5 ?l5 ?c5 ?k5 ?a6 ?i6 ?l6 ?c6 ?k6 ?a7 ?i7 ?l7 ?c7 ?k7 ?a8 ?l8 ?c8 ?k8 ?a9 ?l9 ?c9 ?k9 ?a10 ?l10 ?c10 ?k10 ?a11 ?l11 ?c11 ?k11 ?a12 ?l12 ?c12 ?k12 ?a13 ?l13 ?c13 ?k13 ?a14 ?l14 ?c14 ?k14 ?a15 ?l15 ?c15 ?k15 ?a16 ?l16 ?c16 ?k16 ?a17 ?l17 ?c17 ?k17 ?a18 ?l18 ?c18 ?k18 ?a19 ?l19 ?c19 ?k19 ?a20 ?l20 ?c20 ?k20 ?a21 ?l21 ?c21 ?k21 ?a22 ?l22 ?c22 ?k22 ?pgC ?hdC ?poC ?saC ?mkC ?kcC ?nC0 ?nC1 ?yjC ?ymC ?yeC ?AInvalidNumber ?ANotCut ?AJoinError ?zsuper ?zopq ?hn0 ?ht0 ?pn1 ?pn2 ?pn3 ?pn4 ?pk1 ?pk2 ?pk3 ?pk4 ?hself ?xgcd ?IInvalidNumber ?TInvalidNumber ?LInvalidNumber ?DInvalidNumber ?KInvalidNumber ?VInvalidNumber ?QInvalidNumber ?JInvalidNumber ?XInvalidNumber ?RInvalidNumber ?aInvalidNumber ?bInvalidNumber ?cInvalidNumber ?dInvalidNumber ?eInvalidNumber ?fInvalidNumber ?gInvalidNumber ?hInvalidNumber ?iInvalidNumber ?jInvalidNumber ?kInvalidNumber ?lInvalidNumber ?nInvalidNumber_number ?mInvalidNumberJoinError ?oInvalidNumberInvalidNumber ?oInvalidNumberValueError ?oInvalidNumberNotCut ?pJoinError ?qJoinError ?rJoinError ?htop ?z0 ?z1 ?z2 ?z3 ?z4 ?z5 ?z6 ?z7 ?z8 ?z9
    (case aC => k_is); (case a0 => k_is); (case l0 => k_is); (case c0 => k_is); (case k0 => k_is); (case a1 => k_is)
    (case i1 => k_is); (case l1 => k_is); (case c1 => k_is); (case k1 => k_is); (case a2 => k_is); (case i2 => k_is)
    (case l2 => k_is); (case c2 => k_is); (case k2 => k_is); (case a3 => k_is); (case i3 => k_is); (case l3 => k_is)
    (case c3 => k_is); (case k3 => k_is); (case a4 => k_is); (case i4 => k_is); (case l4 => k_is); (case c4 => k_is)
    (case k4 => k_is); (case a5 => k_is); (case i5 => k_is); (case l5 => k_is); (case c5 => k_is); (case k5 => k_is)
    (case a6 => k_is); (case i6 => k_is); (case l6 => k_is); (case c6 => k_is); (case k6 => k_is); (case a7 => k_is)
    (case i7 => k_is); (case l7 => k_is); (case c7 => k_is); (case k7 => k_is); (case a8 => k_is); (case l8 => k_is)
    (case c8 => k_is); (case k8 => k_is); (case a9 => k_is); (case l9 => k_is); (case c9 => k_is); (case k9 => k_is)
    (case a10 => k_is); (case l10 => k_is); (case c10 => k_is); (case k10 => k_is); (case a11 => k_is); (case l11 => k_is)
    (case c11 => k_is); (case k11 => k_is); (case a12 => k_is); (case l12 => k_is); (case c12 => k_is); (case k12 => k_is)
    (case a13 => k_is); (case l13 => k_is); (case c13 => k_is); (case k13 => k_is); (case a14 => k_is); (case l14 => k_is)
    (case c14 => k_is); (case k14 => k_is); (case a15 => k_is); (case l15 => k_is); (case c15 => k_is); (case k15 => k_is)
    (case a16 => k_is); (case l16 => k_is); (case c16 => k_is); (case k16 => k_is); (case a17 => k_is); (case l17 => k_is)
    (case c17 => k_is); (case k17 => k_is); (case a18 => k_is); (case l18 => k_is); (case c18 => k_is); (case k18 => k_is)
    (case a19 => k_is); (case l19 => k_is); (case c19 => k_is); (case k19 => k_is); (case a20 => k_is); (case l20 => k_is)
    (case c20 => k_is); (case k20 => k_is); (case a21 => k_is); (case l21 => k_is); (case c21 => k_is); (case k21 => k_is)
    (case a22 => k_is); (case l22 => k_is); (case c22 => k_is); (case k22 => k_is); (case pgC => k_is); (case hdC => k_is)
    (case poC => k_is); (case saC => k_is); (case mkC => k_is); (case kcC => k_is); (case nC0 => k_is); (case nC1 => k_is)
    (case yjC => k_is); (case ymC => k_is); (case yeC => kit_is); (case AInvalidNumber => k_is); (case ANotCut => k_is); (case AJoinError => k_is)
    (case zsuper => k_is); (case zopq => k_is); (case hn0 => k_is); (case ht0 => k_is); (case pn1 => k_is); (case pn2 => k_is)
    (case pn3 => k_is); (case pn4 => k_is); (case pk1 => kit_is); (case pk2 => kit_is); (case pk3 => kit_is); (case pk4 => kit_is)
    (case hself => k_is); (case xgcd => k_is); (case IInvalidNumber => k_is); (case TInvalidNumber => k_is); (case LInvalidNumber => k_is); (case DInvalidNumber => k_is)
    (case KInvalidNumber => k_is); (case VInvalidNumber => exact rfl); (case QInvalidNumber => first | rfl | decide +kernel); (case JInvalidNumber => k_is); (case XInvalidNumber => k_is); (case RInvalidNumber => exact rfl)
    (case aInvalidNumber => k_is); (case bInvalidNumber => k_is); (case cInvalidNumber => k_is); (case dInvalidNumber => k_is); (case eInvalidNumber => ks_is); (case fInvalidNumber => k_is)
    (case gInvalidNumber => k_is); (case hInvalidNumber => k_is); (case iInvalidNumber => k_is); (case jInvalidNumber => k_is); (case kInvalidNumber => k_is); (case lInvalidNumber => k_is)
    (case nInvalidNumber_number => k_is); (case mInvalidNumberJoinError => k_is); (case oInvalidNumberInvalidNumber => kit_is); (case oInvalidNumberValueError => kit_is); (case oInvalidNumberNotCut => kit_is); (case pJoinError => k_is)
    (case qJoinError => k_is); (case rJoinError => k_is); (case htop => decide +kernel); (case z0 => k_is); (case z1 => k_is); (case z2 => k_is)
    (case z3 => k_is); (case z4 => k_is); (case z5 => k_is); (case z6 => k_is); (case z7 => k_is); (case z8 => k_is)
    (case z9 => k_is)
end
