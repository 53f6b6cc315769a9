import PyProof.Rows.All
import Wide.All
import OpenK.AllK
import Wide.FinOn
import HandS.Text
import HandS.ForMost
import HandS.ForExc
import HandS.IsInst
import HandS.Zip
import HandS.Star
import HandS.TupAny
import HandS.Lambda
import HandS.ExcIs
import HandS.ExcCtx
import HandS.HotCalls
import HandS.Wide
import PyProof.CompFree
import PyProof.Conv_int_bool
import PyProof.WalkInts
import PyProof.SumWalkG
import PyProof.Rows.SumAny
import HandS.ExcValue
import HandS.TupMul
import HandS.RaiseMore
import PyProof.FactsAll.list_3
import HandS.List
import HandS.CallLocal
import HandS.EndTab
import KE.KNestM
import PySem.Challenge.RW_foldchains_k08_whole_chains
set_option Elab.async false
set_option linter.all false
set_option maxRecDepth 100000
set_option maxHeartbeats 4000000
/-! The chains and their texts in plain Lean. -/
namespace FC
open PySem L2 TL

/-! ### steps and chains -/
def tab : List (Str × List Str) :=
  [("line", ["a", "b"]), ("turn", ["m", "r", "a", "b"]), ("keep", ["m", "r"]), ("every", ["k", "r"]), ("twice", []), ("sums", []), ("anew", ["m", "r"]), ("gaps", []), ("groups", ["k"]), ("count", [])]
def bnd : List (Str × Int × Int) := [("a", -3, 3), ("b", -9, 9), ("m", 2, 3), ("k", 2, 3)]
def lohi (l : Str) (ahead : Int) : Int × Int := if l = "r" then (0, ahead - 1) else (bnd.lookup l).getD (0, 0)
def within : List Str → List V → Int → Bool
  | [], [], _ => true
  | l :: ls, .int n :: xs, ahead => !(decide (n < (lohi l ahead).1) || decide (n > (lohi l ahead).2)) && within ls xs n
  | _, _, _ => false
def stepOkN (name : Str) (rest : List V) : Bool := match tab.lookup name with
  | some ls => decide (ls.length = rest.length) && within ls rest 0
  | none => false
def stepOk : List V → Bool
  | .str name :: rest => stepOkN name rest
  | _ => false
def lims : List (Nat × List Str) := [(2, ["sums", "anew", "gaps", "groups", "count"]), (2, ["turn", "keep", "anew"]), (1, ["twice"])]
def headIn (names : List Str) : List V → Bool
  | .str n :: _ => decide (n ∈ names)
  | _ => false
def limOk (steps : List (List V)) : Bool := lims.all fun p => decide ((steps.filter (headIn p.2)).length ≤ p.1)
def chainOk (steps : List (List V)) : Bool := decide (steps.length ≤ 4) && (steps.all stepOk && limOk steps)

/-! ### texts -/
def partText : V → Str
  | .str s => s
  | .int i => Str.ofString (toString i)
  | _ => Str.empty
def stepText (ys : List V) : Str := Txt.join " " (ys.map partText)
def chainText (c : List (List V)) : Str := Txt.join " | " (c.map stepText)
def numTab : List (Str × Int) := [("-9", -9), ("-8", -8), ("-7", -7), ("-6", -6), ("-5", -5), ("-4", -4), ("-3", -3), ("-2", -2), ("-1", -1),
  ("0", 0), ("1", 1), ("2", 2), ("3", 3), ("4", 4), ("5", 5), ("6", 6), ("7", 7), ("8", 8), ("9", 9)]
def num (w : Str) : V := match numTab.lookup w with
  | some n => .int n
  | none => .non
def readStep (p : Str) : List V := match Txt.split p " " with
  | name :: ws => .str name :: ws.map num
  | [] => []
def parts (z : Str) : List Str := if z = Str.empty then [] else Txt.split z " | "
def parse (z : Str) : List (List V) := (parts z).map readStep

/-! ### joining what was split, splitting what was joined -/
theorem spl_ne (S : List Nat) : ∀ (k : Nat) (acc l : List Nat), spl S k acc l ≠ []
  | 0, acc, [] => by simp [spl]
  | k + 1, acc, [] => by simp [spl]
  | 0, acc, c :: r => by
    show (if pre S (c :: r) = true then acc :: spl S (S.length - 1) [] r else spl S 0 (acc ++ [c]) r) ≠ []
    split
    · simp
    · exact spl_ne S 0 _ r
  | k + 1, acc, c :: r => spl_ne S k acc r
theorem joinL_cons {S p : List Nat} {r : List (List Nat)} (h : r ≠ []) : joinL S (p :: r) = p ++ (S ++ joinL S r) := by
  cases r with
  | nil => exact absurd rfl h
  | cons q r => rfl
theorem joinL_spl {S : List Nat} (hS : S ≠ []) : ∀ (n : Nat) (acc l : List Nat), l.length ≤ n → joinL S (spl S 0 acc l) = acc ++ l
  | _, acc, [], _ => by simp [spl, joinL]
  | 0, acc, c :: r, h => by simp at h
  | n + 1, acc, c :: r, h => by
    have hr : r.length ≤ n := by simpa using h
    by_cases hp : pre S (c :: r) = true
    · rw [spl_hit hp, joinL_cons (spl_ne _ _ _ _), spl_pass, joinL_spl hS n [] _ (by rw [List.length_drop]; omega), List.nil_append]
      have e : (c :: r).take S.length = S := eq_of_beq hp
      have e2 := List.take_append_drop S.length (c :: r)
      rw [e] at e2
      have hd : (c :: r).drop S.length = r.drop (S.length - 1) := by
        cases S with
        | nil => exact absurd rfl hS
        | cons s S => simp
      rw [hd] at e2
      rw [e2]
    · rw [spl_miss (by simpa using hp), joinL_spl hS n (acc ++ [c]) r hr]
      simp
theorem join_split {y : Str} {s : Nat} {S : List Nat} (ey : tl y = s :: S) (hk : y.cps.all (· < 256) = true) (x : Str) : Txt.join y (Txt.split x y) = x := by
  refine ext_tl ?_
  rw [join_eq, tl_join, split_spl x y (by rw [ey]; simp) (kind_ok hk), joinL_spl (by rw [ey]; simp) _ _ _ (Nat.le_refl _), List.nil_append]
/-- a bar within blanks -/
theorem spl_bar {p rest acc : List Nat} (h : 124 ∉ p) : spl [32, 124, 32] 0 acc (p ++ ([32, 124, 32] ++ rest)) = (acc ++ p) :: spl [32, 124, 32] 0 [] rest := by
  refine spl_part (by simp) fun i hi => ?_
  have hlt : i < (p ++ ([32, 124, 32] ++ rest)).length := by rw [List.length_append]; omega
  cases e : pre [32, 124, 32] ((p ++ ([32, 124, 32] ++ rest)).drop i) with
  | false => rfl
  | true =>
    exfalso
    have e1 : ((p ++ ([32, 124, 32] ++ rest)).drop i).take 3 = [32, 124, 32] := eq_of_beq e
    have e2 := congrArg (fun l => l[1]?) e1
    simp only [List.getElem?_take, List.getElem?_drop] at e2
    by_cases hq : i + 1 < p.length
    · rw [List.getElem?_append_left hq] at e2
      simp at e2
      have : p[i + 1] = 124 := by
        rw [List.getElem?_eq_getElem hq] at e2
        exact Option.some.inj e2
      exact h (this ▸ List.getElem_mem hq)
    · have hq : i + 1 = p.length := by omega
      rw [hq, List.getElem?_append_right (Nat.le_refl _)] at e2
      simp at e2
theorem spl_barLast {p acc : List Nat} (h : 124 ∉ p) : spl [32, 124, 32] 0 acc p = [acc ++ p] := by
  refine spl_last fun i hi => ?_
  cases e : pre [32, 124, 32] (p.drop i) with
  | false => rfl
  | true =>
    exfalso
    have e1 : (p.drop i).take 3 = [32, 124, 32] := eq_of_beq e
    have e2 := congrArg (fun l => l[1]?) e1
    simp only [List.getElem?_take, List.getElem?_drop] at e2
    by_cases hq : i + 1 < p.length
    · rw [List.getElem?_eq_getElem hq] at e2
      simp at e2
      exact h (e2 ▸ List.getElem_mem hq)
    · rw [List.getElem?_eq_none (by omega)] at e2
      simp at e2
theorem spl_barJoin : ∀ {ps : List (List Nat)}, ps ≠ [] → (∀ p ∈ ps, 124 ∉ p) → spl [32, 124, 32] 0 [] (joinL [32, 124, 32] ps) = ps
  | [], h, _ => absurd rfl h
  | [p], _, hp => by
    show spl [32, 124, 32] 0 [] p = [p]
    rw [spl_barLast (hp p (List.mem_singleton.mpr rfl)), List.nil_append]
  | p :: q :: r, _, hp => by
    show spl [32, 124, 32] 0 [] (p ++ ([32, 124, 32] ++ joinL [32, 124, 32] (q :: r))) = p :: q :: r
    rw [spl_bar (hp p (List.mem_cons_self ..)), List.nil_append, spl_barJoin (by simp) fun z hz => hp z (List.mem_cons_of_mem _ hz)]
theorem tl_sp : tl (" " : Str) = 32 :: [] := by decide +kernel
theorem tl_bar : tl (" | " : Str) = [32, 124, 32] := by decide +kernel
theorem all_sp : (" " : Str).cps.all (· < 256) = true := by decide +kernel
theorem all_bar : (" | " : Str).cps.all (· < 256) = true := by decide +kernel
theorem split_bar {ps : List Str} (hne : ps ≠ []) (hp : ∀ p ∈ ps, 124 ∉ tl p) : Txt.split (Txt.join " | " ps) " | " = ps := by
  refine map_tl_inj ?_
  rw [split_spl _ _ (by rw [tl_bar]; simp) (kind_ok all_bar), join_eq, tl_join, tl_bar]
  refine spl_barJoin (fun e => hne (List.map_eq_nil_iff.mp e)) fun p h => ?_
  obtain ⟨z, hz, rfl⟩ := List.mem_map.mp h
  exact hp z hz
theorem split_sp {ps : List Str} (hne : ps ≠ []) (hp : ∀ p ∈ ps, 32 ∉ tl p) : Txt.split (Txt.join " " ps) " " = ps := split_join tl_sp all_sp hne hp
theorem join_sp (x : Str) : Txt.join " " (Txt.split x " ") = x := join_split tl_sp all_sp x
theorem join_bar (x : Str) : Txt.join " | " (Txt.split x " | ") = x := join_split (s := 32) (S := [124, 32]) tl_bar all_bar x
theorem split_ne (x y : Str) : Txt.split x y ≠ [] := by
  unfold Txt.split
  split
  · simp
  · split
    · simp
    · unfold PySem.Builtin.Str.partsBetween
      exact fun z => by
        first
          | exact absurd z (by simp)
          | (cases h : PySem.Builtin.Str.occurrences x y 0 x.length (x.length + 1) <;> simp_all)

/-! ### what a step's numbers are -/
def names : List Str := tab.map (·.1)
theorem lookup_mem {α β : Type} [BEq α] [LawfulBEq α] : ∀ {l : List (α × β)} {k : α} {v : β}, l.lookup k = some v → (k, v) ∈ l
  | [], _, _, h => by simp at h
  | (a, b) :: r, k, v, h => by
    rw [List.lookup_cons] at h
    split at h
    · rename_i e
      have e := eq_of_beq e
      cases h
      subst e
      exact List.mem_cons_self
    · exact List.mem_cons_of_mem _ (lookup_mem h)
theorem lohi_in (l : Str) (a : Int) (ha : a ≤ 9) : -9 ≤ (lohi l a).1 ∧ (lohi l a).2 ≤ 9 := by
  unfold lohi
  split
  · constructor
    · show (-9 : Int) ≤ 0
      decide
    · show a - 1 ≤ 9
      omega
  · cases h : bnd.lookup l with
    | none => exact ⟨by decide, by decide⟩
    | some p =>
      have m := lookup_mem h
      have all : ∀ q ∈ bnd, -9 ≤ q.2.1 ∧ q.2.2 ≤ 9 := by decide +kernel
      exact all _ m
theorem within_ints : ∀ {ls : List Str} {xs : List V} {a : Int}, a ≤ 9 → within ls xs a = true → ∃ ns : List Int, xs = ns.map V.int ∧ (∀ n ∈ ns, -9 ≤ n ∧ n ≤ 9) ∧ ns.length = ls.length
  | [], [], _, _, _ => ⟨[], rfl, by simp, rfl⟩
  | l :: ls, .int n :: xs, a, ha, h => by
    unfold within at h
    simp only [Bool.and_eq_true, Bool.not_eq_true', Bool.or_eq_false_iff, decide_eq_false_iff_not] at h
    obtain ⟨⟨h1, h2⟩, h3⟩ := h
    have b := lohi_in l a ha
    have hn : -9 ≤ n ∧ n ≤ 9 := by omega
    obtain ⟨ns, e, q, hl⟩ := within_ints (ls := ls) (xs := xs) (a := n) hn.2 h3
    exact ⟨n :: ns, by rw [e]; rfl, by
      intro m hm
      rcases List.mem_cons.mp hm with z | z
      · rw [z]; exact hn
      · exact q m z, by simp [hl]⟩
  | [], _ :: _, _, _, h => by simp [within] at h
  | _ :: _, [], _, _, h => by simp [within] at h
  | _ :: _, .non :: _, _, _, h => by simp [within] at h
  | _ :: _, .bl _ :: _, _, _, h => by simp [within] at h
  | _ :: _, .str _ :: _, _, _, h => by simp [within] at h
  | _ :: _, .byt _ :: _, _, _, h => by simp [within] at h
  | _ :: _, .flt _ :: _, _, _, h => by simp [within] at h
  | _ :: _, .ref _ :: _, _, _, h => by simp [within] at h
  | _ :: _, .ty _ :: _, _, _, h => by simp [within] at h
theorem stepOk_shape {ys : List V} (h : stepOk ys = true) : ∃ (name : Str) (ns : List Int), ys = .str name :: ns.map V.int ∧ name ∈ names ∧ (∀ n ∈ ns, -9 ≤ n ∧ n ≤ 9) ∧ ns.length ≤ 4 := by
  match ys, h with
  | .str name :: rest, h =>
    have h : stepOkN name rest = true := h
    unfold stepOkN at h
    cases e : tab.lookup name with
    | none => rw [e] at h; simp at h
    | some ls =>
      rw [e] at h
      simp only [Bool.and_eq_true, decide_eq_true_eq] at h
      obtain ⟨ns, e1, e2, e3⟩ := within_ints (by decide) h.2
      have m := lookup_mem e
      have all : ∀ q ∈ tab, q.2.length ≤ 4 := by decide +kernel
      exact ⟨name, ns, by rw [e1], List.mem_map.mpr ⟨_, m, rfl⟩, e2, by rw [e3]; exact all _ m⟩
  | [], h => simp [stepOk] at h
  | .non :: _, h => simp [stepOk] at h
  | .bl _ :: _, h => simp [stepOk] at h
  | .int _ :: _, h => simp [stepOk] at h
  | .byt _ :: _, h => simp [stepOk] at h
  | .flt _ :: _, h => simp [stepOk] at h
  | .ref _ :: _, h => simp [stepOk] at h
  | .ty _ :: _, h => simp [stepOk] at h
def small : List Int := [-9, -8, -7, -6, -5, -4, -3, -2, -1, 0, 1, 2, 3, 4, 5, 6, 7, 8, 9]
theorem small_of {n : Int} (h : -9 ≤ n ∧ n ≤ 9) : n ∈ small := by
  have : n = -9 ∨ n = -8 ∨ n = -7 ∨ n = -6 ∨ n = -5 ∨ n = -4 ∨ n = -3 ∨ n = -2 ∨ n = -1 ∨ n = 0 ∨ n = 1 ∨ n = 2 ∨ n = 3 ∨ n = 4 ∨ n = 5 ∨ n = 6 ∨ n = 7 ∨ n = 8 ∨ n = 9 := by omega
  simp only [small, List.mem_cons]
  omega
theorem num_back : ∀ n ∈ small, num (partText (.int n)) = .int n ∧ 32 ∉ tl (partText (.int n)) ∧ 124 ∉ tl (partText (.int n)) ∧ (partText (.int n)).length ≤ 2 := by decide +kernel
theorem num_text : ∀ p ∈ numTab, partText (.int p.2) = p.1 := by decide +kernel
theorem names_free : ∀ x ∈ names, 32 ∉ tl x ∧ 124 ∉ tl x ∧ x.length ≤ 6 := by decide +kernel
theorem num_some {w : Str} {n : Int} (h : num w = .int n) : partText (.int n) = w := by
  unfold num at h
  cases e : numTab.lookup w with
  | none => rw [e] at h; cases h
  | some m =>
    rw [e] at h
    cases h
    exact num_text _ (lookup_mem e)
theorem readStep_text {ys : List V} (h : stepOk ys = true) : readStep (stepText ys) = ys := by
  obtain ⟨name, ns, rfl, hn, hs, _⟩ := stepOk_shape h
  have e : Txt.split (stepText (.str name :: ns.map V.int)) " " = (V.str name :: ns.map V.int).map partText := by
    refine split_sp (by simp) fun p hp => ?_
    obtain ⟨v, hv, rfl⟩ := List.mem_map.mp hp
    rcases List.mem_cons.mp hv with z | z
    · rw [z]; exact (names_free _ hn).1
    · obtain ⟨n, hn', rfl⟩ := List.mem_map.mp z
      exact (num_back n (small_of (hs n hn'))).2.1
  unfold readStep
  rw [e]
  show V.str name :: ((ns.map V.int).map partText).map num = _
  rw [List.map_map, List.map_map]
  congr 1
  refine List.map_congr_left fun n hn' => ?_
  exact (num_back n (small_of (hs n hn'))).1
theorem joinL_mem {S : List Nat} {c : Nat} : ∀ {ps : List (List Nat)}, c ∈ joinL S ps → c ∈ S ∨ ∃ p ∈ ps, c ∈ p
  | [], h => by simp [joinL] at h
  | [p], h => .inr ⟨p, by simp, h⟩
  | p :: q :: r, h => by
    have h : c ∈ p ++ (S ++ joinL S (q :: r)) := h
    rw [List.mem_append, List.mem_append] at h
    rcases h with h | h | h
    · exact .inr ⟨p, by simp, h⟩
    · exact .inl h
    · rcases joinL_mem h with z | ⟨p', h1, h2⟩
      · exact .inl z
      · exact .inr ⟨p', List.mem_cons_of_mem _ h1, h2⟩
theorem stepText_free {ys : List V} (h : stepOk ys = true) : 124 ∉ tl (stepText ys) := by
  obtain ⟨name, ns, rfl, hn, hs, _⟩ := stepOk_shape h
  unfold stepText
  rw [join_eq, tl_join, tl_sp]
  intro z
  rcases joinL_mem z with z | ⟨p, hp, hc⟩
  · simp at z
  · obtain ⟨q, hq, rfl⟩ := List.mem_map.mp hp
    obtain ⟨v, hv, rfl⟩ := List.mem_map.mp hq
    rcases List.mem_cons.mp hv with z | z
    · rw [z] at hc; exact (names_free _ hn).2.1 hc
    · obtain ⟨n, hn', rfl⟩ := List.mem_map.mp z
      exact (num_back n (small_of (hs n hn'))).2.2.1 hc
theorem join_cons_ne {S : List Nat} {p : List Nat} {r : List (List Nat)} (h : p ≠ []) : joinL S (p :: r) ≠ [] := by
  cases r with
  | nil => exact h
  | cons q r =>
    show p ++ (S ++ joinL S (q :: r)) ≠ []
    simp [h]
theorem names_ne : ∀ x ∈ names, tl x ≠ [] := by decide +kernel
theorem stepText_ne {ys : List V} (h : stepOk ys = true) : tl (stepText ys) ≠ [] := by
  obtain ⟨name, ns, rfl, hn, hs, _⟩ := stepOk_shape h
  unfold stepText
  rw [join_eq, tl_join]
  exact join_cons_ne (names_ne _ hn)
theorem chainText_ne {c : List (List V)} (hc : c ≠ []) (h : ∀ ys ∈ c, stepOk ys = true) : chainText c ≠ Str.empty := by
  cases c with
  | nil => exact absurd rfl hc
  | cons ys c =>
    intro e
    have e := congrArg tl e
    unfold chainText at e
    rw [join_eq, tl_join] at e
    exact join_cons_ne (stepText_ne (h ys (by simp))) e
theorem chainOk_steps {c : List (List V)} (h : chainOk c = true) : ∀ ys ∈ c, stepOk ys = true := by
  unfold chainOk at h
  simp only [Bool.and_eq_true, List.all_eq_true] at h
  exact h.2.1
theorem chainOk_len {c : List (List V)} (h : chainOk c = true) : c.length ≤ 4 := by
  unfold chainOk at h
  simp only [Bool.and_eq_true, decide_eq_true_eq] at h
  exact h.1
/-- parsing is the inverse of formatting -/
theorem parse_text {c : List (List V)} (h : chainOk c = true) : parse (chainText c) = c := by
  have hs := chainOk_steps h
  unfold parse parts
  by_cases hc : c = []
  · subst hc
    rfl
  · rw [if_neg (chainText_ne hc hs)]
    unfold chainText
    rw [split_bar (by simpa using hc) (fun p hp => by
      obtain ⟨ys, hy, rfl⟩ := List.mem_map.mp hp
      exact stepText_free (hs ys hy)), List.map_map]
    have : ∀ ys ∈ c, (readStep ∘ stepText) ys = ys := fun ys hy => readStep_text (hs ys hy)
    exact (List.map_congr_left this).trans (List.map_id _)
theorem text_readStep {p : Str} (h : stepOk (readStep p) = true) : stepText (readStep p) = p := by
  obtain ⟨name, ns, e, hn, hs, _⟩ := stepOk_shape h
  unfold readStep at e h ⊢
  cases es : Txt.split p " " with
  | nil => exact absurd es (split_ne _ _)
  | cons x ws =>
    rw [es] at e
    injection e with e1 e2
    show Txt.join " " (partText (.str x) :: (ws.map num).map partText) = p
    have : (ws.map num).map partText = ws := by
      rw [List.map_map]
      refine (List.map_congr_left (g := id) fun w hw => ?_).trans (List.map_id _)
      have hm : num w ∈ ns.map V.int := by rw [← e2]; exact List.mem_map.mpr ⟨w, hw, rfl⟩
      obtain ⟨n, _, en⟩ := List.mem_map.mp hm
      show partText (num w) = w
      rw [← en]
      exact num_some en.symm
    rw [this]
    show Txt.join " " (x :: ws) = p
    rw [← es]
    exact join_sp p
/-- what is parsed and is a chain has the text that was parsed -/
theorem text_parse {z : Str} (h : chainOk (parse z) = true) : chainText (parse z) = z := by
  have hs := chainOk_steps h
  unfold parse parts at hs ⊢
  by_cases hz : z = Str.empty
  · rw [if_pos hz, hz]
    rfl
  · rw [if_neg hz] at hs ⊢
    unfold chainText
    rw [List.map_map]
    have : ∀ p ∈ Txt.split z " | ", (stepText ∘ readStep) p = id p := fun p hp => text_readStep (hs _ (List.mem_map.mpr ⟨p, hp, rfl⟩))
    rw [List.map_congr_left this, List.map_id]
    exact join_bar z
end FC
set_option Elab.async false
set_option linter.all false
set_option maxRecDepth 100000
namespace FC
open PySem L2
def top (i : Nat) : Stmt := PySem.Challenge.pw_foldchains_k08_whole_chains.main.body.getD i (.Pass ⟨0, 0, 0, 0⟩)
abbrev sIsChain : Stmt := top 14
abbrev sCheck : Stmt := top 15
abbrev sIsWhole : Stmt := top 16
abbrev sIsStep : Stmt := top 17
abbrev sWithin : Stmt := top 18
abbrev sLimits : Stmt := top 19
abbrev sFormat : Stmt := top 79
-- no sParse
abbrev sStepText : Stmt := top 80
-- no sReadStep
abbrev sCell : Stmt := top 82
abbrev sDrawn : Stmt := top 83
abbrev sRoll : Stmt := top 84
abbrev sRounds : Stmt := top 85
abbrev sTerm : Stmt := top 86
abbrev sTold : Stmt := top 87
abbrev sRest : Stmt := top 88
abbrev sStep : Stmt := top 89
abbrev sChain : Stmt := top 90
abbrev sLaw : Stmt := top 92
/-- the built-in names that the program and the law use -/
structure Blt (mg : Str → Option Value) : Prop where
  isi : mg "isinstance" = none
  int : mg "int" = none
  bool : mg "bool" = none
  str : mg "str" = none
  tuple : mg "tuple" = none
  len : mg "len" = none
  all : mg "all" = none
  zip : mg "zip" = none
  range : mg "range" = none
  max : mg "max" = none
  min : mg "min" = none
  sum : mg "sum" = none
  vErr : mg "ValueError" = none
end FC
namespace FC
open PySem L2
/-- a def that may be called by its name -/
structure Cal (P : Program) (w : World) (K : PySem.W.Frag) (mg : Str → Option Value) (base : Heap) (CX : CXT) (k : Nat) (x : Str) (ps : List Str) (sp : Sp) : Prop where
  ex : ∃ f fd, FnOk P w K mg base CX k f fd ps sp ∧ mg x = some (.ref f) ∧ PySem.W.keepIn K (.ref f) = true ∧ Binds K fd ps []
def tCal (sp : Sp) (E : XK) (t : TA) : TE := fun σ H Q => t σ H fun vs H1 => sp vs H1 Q E
section
variable {X : Cx} {CX : CXT} {k : Nat} {x : Str} {ps : List Str} {sp : Sp} {E : XK} {e : Expr} {es : List Expr} {t : TA} {p pos : Pos}
theorem pe_cal (C : Cal X.prog X.w X.K X.mg X.base CX k x ps sp) (hr : Room k X.A) (hx : Passes CX X E) (ha : PA X (e :: es) t) (hg : Gl X x := by rfl) (hdb : (x == ("__debug__" : Str)) = false := by decide)
    (he : starEach (e :: es) X.env = (false, eval e X.env) :: starEach es X.env := by rfl) (hpl : (backTo pos (starEach es X.env)).any (·.1) = false := by rfl) :
    PE X (.Call (.Name x p) (e :: es) [] pos) (tCal sp E t) := by
  obtain ⟨f, fd, G, m, kp, b⟩ := C.ex
  have h := pe_call (E := E) (pos := pos) (p := p) G hr hg m kp b .nil hx ha hdb he hpl
  refine ⟨fun pins s σ H Q I q => h.run pins s σ H Q I ?_⟩
  have mono := ha
  refine (show tCall sp [] E t σ H Q from ?_)
  unfold tCall
  unfold tCal at q
  simpa using q
end
end FC
namespace FC
open PySem L2
/-! ### the tables of the module as they stand behind the top -/
structure LetT (K : PySem.W.Frag) (w : World) (d : Addr) : Prop where
  kd : ∃ es n, KDict K w d es n
  at_ : ∀ z, ∃ r, PySem.W.nsIn K d z = some r ∧ match tab.lookup z with
    | none => r = none
    | some ls => ∃ a, r = some (.ref a) ∧ ∀ H, SqT K H a (ls.map V.str)
structure BndT (K : PySem.W.Frag) (w : World) (d : Addr) : Prop where
  kd : ∃ es n, KDict K w d es n
  at_ : ∀ p ∈ bnd, ∃ a, PySem.W.nsIn K d p.1 = some (some (.ref a)) ∧ ∀ H, SqT K H a [.int p.2.1, .int p.2.2]
structure NumT (K : PySem.W.Frag) (w : World) (d : Addr) : Prop where
  kd : ∃ es n, KDict K w d es n
  at_ : ∀ z, ∃ r, PySem.W.nsIn K d z = some r ∧ match numTab.lookup z with
    | none => r = none
    | some i => ∃ t, r = some (.int i t)
structure LimT (K : PySem.W.Frag) (a : Addr) : Prop where
  at_ : ∃ rs : List Addr, (∀ H, SqT K H a (rs.map V.ref)) ∧ rs.length = lims.length ∧ ∀ (i : Nat) (p : Nat × List Str) (r : Addr), lims[i]? = some p → rs[i]? = some r →
    ∃ c, (∀ H, SqT K H r [.int (p.1 : Nat), .ref c]) ∧ ∀ H, SqT K H c (p.2.map V.str)
end FC
namespace FC
open PySem L2
/-- an own exception class of the module, told of its written part -/
structure ExcT (K : PySem.W.Frag) (mg : Str → Option Value) (x : Str) (C : Addr) : Prop where
  gC : mg x = some (.ref C)
  q : PySem.W.excIn K C [.type "ValueError", .type "Exception", .type "BaseException", .type "object"] "ValueError.__new__" = true
  kC : PySem.W.keepIn K (.ref C) = true
  bP : PySem.W.subIn K (.ref C) (.type "BaseException") = some true
  tP : PySem.W.typeIn K (.ref C) = some (.type "type")
/-- a def that may let out an exception whose context is None -/
theorem okN {P : Program} {w : World} {K : PySem.W.Frag} {mg : Str → Option Value} {base : Heap} {x : Str} {st : Stmt} {f : Addr} {fd : FuncData} {N ps : List Str} {k : Nat} {sp : Sp} (F : Fun K x x st f fd) (S : FnScope N ps (defScope st))
    (len : ∀ vs H Q E, sp vs H Q E → vs.length = ps.length)
    (body : ∀ (c : Value) (A : Around) (outer : List Env) (s : Shared) (H : Hp) (vs : List V) (Q : VK) (E : XK), Room k (A.deeper (PyProof.Rows.envOfC x (defScope st) s.heap.objs.size f c)) → sp vs H Q E →
      ∃ t, PSs (cxOf (L2N.CX P w) P w K mg base N x (defScope st) f c A outer s H E) (defBody st) t ∧ t { nx := fun _ H' => Q .non H', rt := Q } (start N vs) H) :
    FnOk P w K mg base (L2N.CX P w) (k + 1) f fd ps sp := by
  obtain ⟨oc, od, kV, doc, pm, an, c, ct, osl, rfl, lk, hcd⟩ := F.ex
  exact fn_of lk hcd S len fun A outer s H vs Q E hr h => body c A outer s H vs Q E hr h
/-- none of its exceptions is known here: the call lets none out -/
theorem passN {X : Cx} : Passes (L2N.CX X.prog X.w) X E0 := fun _ _ _ _ _ _ _ h => by
  obtain ⟨_, _, _, _, _, _, _, _, _, _, _, _, z⟩ := h
  exact z.elim
end FC
namespace FC
open PySem L2
/-- an expression told in other words -/
theorem pe_as {X : Cx} {e : Expr} {t t' : TE} (h : PE X e t) (i : ∀ σ H Q, t' σ H Q → t σ H Q) : PE X e t' := ⟨fun pins s σ H Q I q => h.run pins s σ H Q I (i σ H Q q)⟩
end FC
namespace FC
open PySem L2
abbrev sGvLine : Stmt := top 27
abbrev sGvTurn : Stmt := top 28
abbrev sGvKeep : Stmt := top 29
abbrev sGvEvery : Stmt := top 30
abbrev sGvTwice : Stmt := top 31
abbrev sGvSums : Stmt := top 32
abbrev sGvAnew : Stmt := top 33
abbrev sGvGaps : Stmt := top 34
abbrev sGvGroups : Stmt := top 35
abbrev sGvCount : Stmt := top 36
abbrev sStartP : Stmt := top 38
abbrev sAdvance : Stmt := top 39
abbrev sPassT : Stmt := top 40
abbrev sForm : Stmt := top 72
abbrev sJoined : Stmt := top 77
abbrev sBadC : Stmt := top 91
end FC
set_option Elab.async false
set_option linter.all false
set_option maxRecDepth 100000
set_option maxHeartbeats 4000000
namespace FC
open PySem L2
/-! ### kinds of values, by isinstance -/
def kinds : List String := ["NoneType", "bool", "int", "str", "float", "list", "tuple", "dict", "bytes", "set"]
def Nice (K : PySem.W.Frag) (H : Hp) (x : V) : Prop := ∃ T, T ∈ kinds ∧ TyX K H x (.type T)
def isW : V → Bool
  | .int _ => true
  | _ => false
def isS : V → Bool
  | .str _ => true
  | _ => false
theorem kit_int : ∀ T ∈ kinds, kitB T "int" = some (T == "int" || T == "bool") := by decide +kernel
theorem kit_bool : ∀ T ∈ kinds, kitB T "bool" = some (T == "bool") := by decide +kernel
theorem kit_str : ∀ T ∈ kinds, kitB T "str" = some (T == "str") := by decide +kernel
theorem kit_tuple : ∀ T ∈ kinds, kitB T "tuple" = some (T == "tuple") := by decide +kernel
theorem tyX_isW {K : PySem.W.Frag} {H : Hp} {x : V} {u : Value} (t : TyX K H x u) : isW x = (u == .type "int") := by
  cases t with
  | base b => cases b <;> first | rfl | decide +kernel
  | _ => first | rfl | decide +kernel
theorem tyX_isS {K : PySem.W.Frag} {H : Hp} {x : V} {u : Value} (t : TyX K H x u) : isS x = (u == .type "str") := by
  cases t with
  | base b => cases b <;> first | rfl | decide +kernel
  | _ => first | rfl | decide +kernel
theorem ty_beq' (a b : String) : (Value.type a == Value.type b) = (a == b) := by
  have := ty_beq a b
  rw [this]
  by_cases h : a = b
  · subst h; simp
  · rw [decide_eq_false h]; exact (beq_eq_false_iff_ne.mpr h).symm
theorem isW_of {K : PySem.W.Frag} {H : Hp} {x : V} {T : String} (t : TyX K H x (.type T)) : isW x = (T == "int") := by rw [tyX_isW t, ty_beq']
theorem isS_of {K : PySem.W.Frag} {H : Hp} {x : V} {T : String} (t : TyX K H x (.type T)) : isS x = (T == "str") := by rw [tyX_isS t, ty_beq']
theorem tyX_same {K : PySem.W.Frag} {H H' : Hp} {x : V} {u : Value} (e : Same H H') (t : TyX K H x u) : TyX K H' x u := by
  cases t with
  | base b => cases b with
    | non => exact .base .non
    | bl x => exact .base (.bl x)
    | int x => exact .base (.int x)
    | str x => exact .base (.str x)
    | flt x => exact .base (.flt x)
    | lst h => exact .base (.lst (e _ _ h))
    | frz h => exact .base (.frz (e _ _ h))
    | tup h => exact .base (.tup (e _ _ h))
    | dK h => exact .base (.dK (e _ _ h))
    | dT h => exact .base (.dT (e _ _ h))
    | ins h a b c d f => exact .base (.ins (e _ _ h) a b c d f)
  | byt b => exact .byt b
  | set h => exact .set (e _ _ h)
  | kList h c => exact .kList h c
  | kTuple h c => exact .kTuple h c
  | kDict h c => exact .kDict h c
  | fTuple h => exact .fTuple (e _ _ h)
  | fDict h => exact .fDict (e _ _ h)
theorem Nice.same {K : PySem.W.Frag} {H H' : Hp} {x : V} (e : Same H H') (n : Nice K H x) : Nice K H' x := by
  obtain ⟨T, h, t⟩ := n
  exact ⟨T, h, tyX_same e t⟩
theorem Nice.non {K : PySem.W.Frag} {H : Hp} : Nice K H .non := ⟨_, by decide, .base .non⟩
theorem Nice.bl {K : PySem.W.Frag} {H : Hp} (b : Bool) : Nice K H (.bl b) := ⟨_, by decide, .base (.bl b)⟩
theorem Nice.int {K : PySem.W.Frag} {H : Hp} (i : Int) : Nice K H (.int i) := ⟨_, by decide, .base (.int i)⟩
theorem Nice.str {K : PySem.W.Frag} {H : Hp} (z : Str) : Nice K H (.str z) := ⟨_, by decide, .base (.str z)⟩
theorem ty_tup {K : PySem.W.Frag} {H : Hp} {a : Addr} {xs : List V} (h : SqT K H a xs) : TyX K H (.ref a) (.type "tuple") := by
  rcases h with (h | ⟨o, h⟩) | ⟨o, its, n, h, c, _⟩
  · exact .base (.tup h)
  · exact .fTuple h
  · exact .kTuple h c
theorem Nice.tup {K : PySem.W.Frag} {H : Hp} {a : Addr} {xs : List V} (h : SqT K H a xs) : Nice K H (.ref a) := ⟨_, by decide, ty_tup h⟩
theorem sqt_same {K : PySem.W.Frag} {H H' : Hp} {a : Addr} {xs : List V} (e : Same H H') (h : SqT K H a xs) : SqT K H' a xs := by
  rcases h with (h | ⟨o, h⟩) | h
  · exact .inl (.inl (e _ _ h))
  · exact .inl (.inr ⟨o, e _ _ h⟩)
  · exact .inr h
theorem same_upd {H H' : Hp} {p : Addr} {o : HO} (e : Same H H') (h : H' p = none) : Same H (L2.upd H' p o) := fun b u q => by
  have q' := e b u q
  rw [upd_ne (ne_of_none q' h)]
  exact q'
def spIsWhole (K : PySem.W.Frag) : Sp := fun vs H Q _ => ∃ x, vs = [x] ∧ Nice K H x ∧ Q (.bl (isW x)) H
section
variable {P : Program} {w : World} {K : PySem.W.Frag} {mg : Str → Option Value} {base : Heap}
theorem scIsWhole : FnScope ["value"] ["value"] (defScope sIsWhole) := ⟨rfl, rfl, rfl, by decide +kernel, rfl, by decide +kernel, by decide +kernel⟩
theorem ok_isWhole {f : Addr} {fd : FuncData} (F : Fun K "is_whole" "is_whole" sIsWhole f fd) (T : Blt mg) : FnOk P w K mg base CX0 1 f fd ["value"] (spIsWhole K) := by
  refine F.ok scIsWhole (fun vs H Q E h => ?_) (fun cdv A outer s H vs Q E hr h => ?_)
  · obtain ⟨x, rfl, _⟩ := h
    rfl
  · obtain ⟨x, rfl, ⟨t, ht, hx⟩, k⟩ := h
    refine ⟨_, pss_one (ps_ret (pe_and (pe_callB call_isi (by rfl) T.isi (by decide +kernel) (pa_cons (pv 0) (pa_cons (pe_bltn (v := .ty "int") (by rfl) T.int (by decide +kernel) rfl) pa_nil)))
      (pe_one (pe_not (pe_callB call_isi (by rfl) T.isi (by decide +kernel) (pa_cons (pv 0) (pa_cons (pe_bltn (v := .ty "bool") (by rfl) T.bool (by decide +kernel) rfl) pa_nil))))))), ?_⟩
    refine ⟨_, rfl, _, _, _, _, _, rfl, .ty _, hx, kit_ty (kit_int t ht), _, rfl, ?_⟩
    have e := isW_of hx
    rw [e] at k
    refine ite2 (fun h => ?_) (fun h => ?_)
    · refine ⟨_, rfl, _, _, _, _, _, rfl, .ty _, hx, kit_ty (kit_bool t ht), _, rfl, ?_⟩
      have : (!(t == "bool")) = (t == "int") := by
        revert h
        exact (by decide : ∀ t ∈ kinds, (t == "int" || t == "bool") = true → (!(t == "bool")) = (t == "int")) t ht
      rw [this]
      exact k
    · have : (t == "int") = false := by
        revert h
        exact (by decide : ∀ t ∈ kinds, ¬ (t == "int" || t == "bool") = true → (t == "int") = false) t ht
      rw [this] at k
      exact k
end
end FC
set_option Elab.async false
set_option linter.all false
set_option maxRecDepth 100000
set_option maxHeartbeats 4000000
namespace FC
open PySem L2
def letters5 : List Str := ["a", "b", "m", "k", "r"]
def spWithin (K : PySem.W.Frag) : Sp := fun vs H Q _ => ∃ a b ls xs, vs = [.ref a, .ref b] ∧ SqT K H a (ls.map V.str) ∧ SqT K H b xs ∧ (∀ l ∈ ls, l ∈ letters5) ∧ (∀ x ∈ xs, Nice K H x) ∧
  ∀ H', Same H H' → Q (.bl (decide (ls.length = xs.length) && within ls xs 0)) H'
theorem bnd_of {l : Str} (h : l ∈ letters5) (hr : l ≠ "r") : ∃ p ∈ bnd, p.1 = l ∧ ∀ a, lohi l a = p.2 := by
  have all : ∀ l ∈ letters5, l ≠ "r" → ∃ p ∈ bnd, p.1 = l ∧ bnd.lookup l = some p.2 := by decide +kernel
  obtain ⟨p, h1, h2, h3⟩ := all l h hr
  refine ⟨p, h1, h2, fun a => ?_⟩
  unfold lohi
  rw [if_neg hr, h3]
  rfl
theorem within_cons {l : Str} {ls : List Str} {n : Int} {xs : List V} {a lo hi : Int} (el : lohi l a = (lo, hi)) : within (l :: ls) (.int n :: xs) a = (!(decide (n < lo) || decide (hi < n)) && within ls xs n) := by
  show (!(decide (n < (lohi l a).1) || decide ((lohi l a).2 < n)) && within ls xs n) = _
  rw [el]
theorem within_lt {l : Str} {ls : List Str} {n : Int} {xs : List V} {a lo hi : Int} (el : lohi l a = (lo, hi)) (h : decide (n < lo) = true) : within (l :: ls) (.int n :: xs) a = false := by
  rw [within_cons el, h]
  rfl
theorem within_gt {l : Str} {ls : List Str} {n : Int} {xs : List V} {a lo hi : Int} (el : lohi l a = (lo, hi)) (h : decide (hi < n) = true) : within (l :: ls) (.int n :: xs) a = false := by
  rw [within_cons el, h, Bool.or_true]
  rfl
theorem within_ok {l : Str} {ls : List Str} {n : Int} {xs : List V} {a lo hi : Int} (el : lohi l a = (lo, hi)) (h1 : ¬ decide (n < lo) = true) (h2 : ¬ decide (hi < n) = true) : within (l :: ls) (.int n :: xs) a = within ls xs n := by
  rw [within_cons el, eq_false_of_ne_true h1, eq_false_of_ne_true h2]
  rfl
section
variable {P : Program} {w : World} {K : PySem.W.Frag} {mg : Str → Option Value} {base : Heap}
theorem scWithin : FnScope ["letters", "numbers", "ahead", "letter", "number", "low", "high"] ["letters", "numbers"] (defScope sWithin) := ⟨rfl, rfl, rfl, by decide +kernel, rfl, by decide +kernel, by decide +kernel⟩
theorem ok_within {f dB : Addr} {fd : FuncData} (F : Fun K "are_within" "are_within" sWithin f fd) (T : Blt mg) (C : Cal P w K mg base CX0 1 "is_whole" ["value"] (spIsWhole K)) (mB : mg "BOUNDS" = some (.ref dB)) (B : BndT K w dB) :
    FnOk P w K mg base CX0 2 f fd ["letters", "numbers"] (spWithin K) := by
  refine F.ok scWithin (fun vs H Q E h => ?_) (fun cdv A outer s H vs Q E hr h => ?_)
  · obtain ⟨a, b, ls, xs, rfl, _⟩ := h
    rfl
  · obtain ⟨a, b, ls, xs, rfl, hls, hxs, hin, hpl, k⟩ := h
    have nd := scWithin.nd
    refine ⟨_, pss_cons (ps_if (pt_cmpR op_ne (pe_callB call_len (by rfl) T.len PySem.boot_len (pa_cons (pv 0) pa_nil)) (pe_callB call_len (by rfl) T.len PySem.boot_len (pa_cons (pv 1) pa_nil)) (nomark _)) (pss_one (ps_ret pe_bl)) pss_nil)
      (pss_cons (ps_set (i := 2) nd rfl (Or.inl rfl) pe_int)
      (pss_cons (ps_for PassesOwn.never rfl (RZ.pi_zipA (by rfl) T.zip (pa_cons (pv 0) (pa_cons (pv 1) pa_nil))) (pg_tup rfl (pgs_cons (pg_name (i := 3) nd rfl (Or.inl rfl)) (pgs_cons (pg_name (i := 4) nd rfl (Or.inl rfl)) pgs_nil)))
        (pss_cons (ps_if (pt_not (pt_val (pe_cal C hr pass0 (pa_cons (pv 4) pa_nil)))) (pss_one (ps_ret pe_bl)) pss_nil)
        (pss_cons (ps_asg (pe_ifExp (pt_cmpR op_eq (pv 3) pe_str (nomark _)) (pe_tup (pa_cons pe_int (pa_cons (pe_op op_sub (pv 2) pe_int) pa_nil))) (pe_ix ix_kdict (pe_glob (v := .ref dB) rfl mB rfl) (pv 3) (fun _ _ => rfl))) (pg_tup rfl (pgs_cons (pg_name (i := 5) nd rfl (Or.inl rfl)) (pgs_cons (pg_name (i := 6) nd rfl (Or.inl rfl)) pgs_nil))))
        (pss_cons (ps_if (PW.pt (pw_or (pt_cmp (pc_lt (pv 4) (pv 5))) (pw_or1 (pt_cmp (pc_gt (pv 4) (pv 6)))))) (pss_one (ps_ret pe_bl)) pss_nil)
        (pss_one (ps_set (i := 2) nd rfl (Or.inl rfl) (pv 4)))))))
      (pss_one (ps_ret pe_bl)))), ?_⟩
    -- the lengths
    refine ⟨_, rfl, _, (ls.map V.str).length, rfl, .inr ⟨_, hls, rfl⟩, _, rfl, _, xs.length, rfl, .inr ⟨_, hxs, rfl⟩, rfl, _, rfl, ?_⟩
    by_cases hl : ¬ ls.length = xs.length
    · have e : decide (V.int ((ls.map V.str).length : Nat) = V.int (xs.length : Nat)) = false := decide_eq_false fun z => hl (by injection z with z; rw [List.length_map] at z; omega)
      show if (!decide (V.int ((ls.map V.str).length : Nat) = V.int (xs.length : Nat))) = true then _ else _
      rw [e]
      refine iteT ?_
      have := k H (Same.refl H)
      rw [decide_eq_false hl] at this
      exact this
    replace hl : ls.length = xs.length := Decidable.not_not.mp hl
    have e : decide (V.int ((ls.map V.str).length : Nat) = V.int (xs.length : Nat)) = true := decide_eq_true (by rw [List.length_map, hl])
    show if (!decide (V.int ((ls.map V.str).length : Nat) = V.int (xs.length : Nat))) = true then _ else _
    rw [e]
    refine iteF ?_
    have k' : ∀ H', Same H H' → Q (.bl (within ls xs 0)) H' := fun H' z => by
      have := k H' z
      rw [decide_eq_true hl] at this
      exact this
    clear k e
    -- ahead = 0
    refine ⟨_, rfl, _, rfl, a, b, ls.map V.str, xs, rfl, .inr ⟨hls, hxs, RZ.for_zipT (K := K) (xs := ls.map V.str) (ys := xs) (by rw [List.length_map, hl])
      (fun i σ H2 => ∃ (ahead : Int) (v3 v4 v5 v6 : Option V), σ = [some (.ref a), some (.ref b), some (.int ahead), v3, v4, v5, v6] ∧ Same H H2 ∧ within (ls.drop i) (xs.drop i) ahead = within ls xs 0)
      ⟨0, none, none, none, none, rfl, Same.refl H, rfl⟩ (fun i σ H2 ⟨_, _, _, _, _, _, s2, _⟩ => ⟨sqt_same s2 hls, sqt_same s2 hxs⟩) ?_ ?_⟩⟩
    · rintro i x y T σ H2 hx hy ⟨ahead, v3, v4, v5, v6, rfl, s2, hw⟩ hT
      have hi : i < ls.length := by
        have := (List.getElem?_eq_some_iff.mp hx).1
        rwa [List.length_map] at this
      have hi2 : i < xs.length := (List.getElem?_eq_some_iff.mp hy).1
      obtain ⟨l, hl', rfl⟩ : ∃ l, ls[i]? = some l ∧ x = V.str l := by
        rw [List.getElem?_map] at hx
        cases e : ls[i]? with
        | none => rw [e] at hx; cases hx
        | some l => rw [e] at hx; exact ⟨l, rfl, (Option.some.inj hx).symm⟩
      have hlm : l ∈ ls := List.mem_of_getElem? hl'
      have hym : y ∈ xs := List.mem_of_getElem? hy
      have ed : ls.drop i = l :: ls.drop (i + 1) := by
        rw [List.drop_eq_getElem_cons hi]
        congr 1
        rw [List.getElem?_eq_getElem hi] at hl'
        exact Option.some.inj hl'
      have ed2 : xs.drop i = y :: xs.drop (i + 1) := by
        rw [List.drop_eq_getElem_cons hi2]
        congr 1
        rw [List.getElem?_eq_getElem hi2] at hy
        exact Option.some.inj hy
      rw [ed, ed2] at hw
      have s3 : Same H (upd H2 T (.tup [V.str l, y])) := same_upd s2 hT
      refine ⟨T, [V.str l, y], rfl, SqT.of upd_same, rfl, _, _, rfl, _, _, rfl, rfl, ?_⟩
      -- is_whole(number)
      refine ⟨_, rfl, y, rfl, (hpl y hym).same s3, _, rfl, ?_⟩
      by_cases hW : isW y = false
      · rw [hW]
        refine iteT ?_
        have k0 : within (l :: ls.drop (i + 1)) (y :: xs.drop (i + 1)) ahead = false := by
          cases y <;> first | rfl | cases hW
        have := k' _ s3
        rw [← hw, k0] at this
        exact this
      · obtain ⟨n, rfl⟩ : ∃ n, y = V.int n := by
          cases y <;> first | exact ⟨_, rfl⟩ | exact absurd rfl hW
        refine iteF ?_
        -- low, high
        refine ⟨_, rfl, rfl, _, rfl, ?_⟩
        refine ite2 (fun er => ?_) (fun er => ?_)
        · have er : l = "r" := by
            have := of_decide_eq_true er
            injection this
          have el : lohi l ahead = (0, ahead - 1) := by unfold lohi; rw [if_pos er]
          refine ⟨_, rfl, _, _, rfl, rfl, (by show 2 ≤ sizeLine; decide), fun p np => ⟨p, _, rfl, SqT.of upd_same, rfl, _, _, rfl, _, _, rfl, rfl, ?_⟩⟩
          have s4 := same_upd (o := .tup [.int 0, .int (ahead - 1)]) s3 np
          refine ⟨_, rfl, _, rfl, _, _, rfl, rfl, _, rfl, ?_⟩
          refine ite2 (fun h1 => ?_) (fun h1 => ?_)
          · refine iteT ?_
            have := k' _ s4
            rw [← hw, within_lt el h1] at this
            exact this
          refine ⟨_, rfl, _, rfl, _, _, rfl, rfl, _, rfl, ?_⟩
          refine ite2 (fun h2 => ?_) (fun h2 => ?_)
          · have := k' _ s4
            rw [← hw, within_gt el h2] at this
            exact this
          -- ahead = number
          exact ⟨_, rfl, n, _, _, _, _, rfl, s4, by rw [← hw, within_ok el h1 h2]⟩
        · have er : l ≠ "r" := fun z => er (decide_eq_true (by rw [z]))
          obtain ⟨q, hq, hq1, hq2⟩ := bnd_of (hin l hlm) er
          obtain ⟨es, nn, kd⟩ := B.kd
          obtain ⟨c, hc1, hc2⟩ := B.at_ q hq
          rw [hq1] at hc1
          have el : lohi l ahead = (q.2.1, q.2.2) := hq2 ahead
          refine ⟨_, rfl, dB, l, .ref c, rfl, rfl, ⟨es, nn, _, kd.at_, kd.lit, hc1, rfl⟩, ⟨c, _, rfl, hc2 _, rfl, _, _, rfl, _, _, rfl, rfl, ?_⟩⟩
          have s4 := s3
          refine ⟨_, rfl, _, rfl, _, _, rfl, rfl, _, rfl, ?_⟩
          refine ite2 (fun h1 => ?_) (fun h1 => ?_)
          · refine iteT ?_
            have := k' _ s4
            rw [← hw, within_lt el h1] at this
            exact this
          refine ⟨_, rfl, _, rfl, _, _, rfl, rfl, _, rfl, ?_⟩
          refine ite2 (fun h2 => ?_) (fun h2 => ?_)
          · have := k' _ s4
            rw [← hw, within_gt el h2] at this
            exact this
          -- ahead = number
          exact ⟨_, rfl, n, _, _, _, _, rfl, s4, by rw [← hw, within_ok el h1 h2]⟩
    · rintro σ H2 ⟨ahead, v3, v4, v5, v6, rfl, s2, hw⟩
      have := k' _ s2
      rw [← hw, List.length_map, List.drop_of_length_le (Nat.le_refl _), hl, List.drop_of_length_le (Nat.le_refl _)] at this
      exact this
end
end FC
set_option Elab.async false
set_option linter.all false
set_option maxRecDepth 100000
set_option maxHeartbeats 4000000
namespace FC
open PySem L2
/-- a value in a step's place: a tuple of nice values, or another thing -/
def StepV (K : PySem.W.Frag) (H : Hp) (x : V) : Option (List V) → Prop
  | some ys => ∃ b, x = .ref b ∧ SqT K H b ys ∧ ∀ y ∈ ys, Nice K H y
  | none => ∃ T, T ∈ kinds ∧ T ≠ "tuple" ∧ TyX K H x (.type T)
def stepOkO : Option (List V) → Bool
  | some ys => stepOk ys
  | none => false
theorem StepV.same {K : PySem.W.Frag} {H H' : Hp} {x : V} {o : Option (List V)} (e : Same H H') (h : StepV K H x o) : StepV K H' x o := by
  cases o with
  | some ys =>
    obtain ⟨b, h1, h2, h3⟩ := h
    exact ⟨b, h1, sqt_same e h2, fun y hy => (h3 y hy).same e⟩
  | none =>
    obtain ⟨T, h1, h2, h3⟩ := h
    exact ⟨T, h1, h2, tyX_same e h3⟩
def spIsStep (K : PySem.W.Frag) : Sp := fun vs H Q _ => ∃ x o, vs = [x] ∧ StepV K H x o ∧ ∀ H', Same H H' → Q (.bl (stepOkO o)) H'
theorem at0 {α : Type} (y : α) (r : List α) : atI (y :: r) 0 = some y := by
  have h := atI_nat (xs := y :: r) (j := 0) (v := y) rfl
  exact h
theorem cut1 (y : V) (r : List V) : cutV (y :: r) (some 1) none = r := by
  simp [cutV, HT.sIx]
section
variable {P : Program} {w : World} {K : PySem.W.Frag} {mg : Str → Option Value} {base : Heap}
theorem scIsStep : FnScope ["value", "name"] ["value"] (defScope sIsStep) := ⟨rfl, rfl, rfl, by decide +kernel, rfl, by decide +kernel, by decide +kernel⟩
theorem ok_isStep {f dL : Addr} {fd : FuncData} (F : Fun K "is_step" "is_step" sIsStep f fd) (T : Blt mg) (C : Cal P w K mg base CX0 2 "are_within" ["letters", "numbers"] (spWithin K)) (mL : mg "LETTERS" = some (.ref dL)) (B : LetT K w dL) :
    FnOk P w K mg base CX0 3 f fd ["value"] (spIsStep K) := by
  refine F.ok scIsStep (fun vs H Q E h => ?_) (fun cdv A outer s H vs Q E hr h => ?_)
  · obtain ⟨x, o, rfl, _⟩ := h
    rfl
  · obtain ⟨x, o, rfl, hx, k⟩ := h
    have nd := scIsStep.nd
    obtain ⟨es, nn, kd⟩ := B.kd
    refine ⟨_, pss_cons (ps_if (PW.pt (pw_or (pt_not (pt_val (pe_callB call_isi (by rfl) T.isi (by decide +kernel) (pa_cons (pv 0) (pa_cons (pe_bltn (v := .ty "tuple") (by rfl) T.tuple (by decide +kernel) rfl) pa_nil))))) (pw_or1 (pt_cmpR op_eq (pe_callB call_len (by rfl) T.len PySem.boot_len (pa_cons (pv 0) pa_nil)) pe_int (nomark _))))) (pss_one (ps_ret pe_bl)) pss_nil)
      (pss_cons (ps_set (i := 1) nd rfl (Or.inl rfl) (pe_ix ix_tup (pv 0) pe_int (fun _ _ => rfl)))
      (pss_cons (ps_if (PW.pt (pw_or (pt_not (pt_val (pe_callB call_isi (by rfl) T.isi (by decide +kernel) (pa_cons (pv 1) (pa_cons (pe_bltn (v := .ty "str") (by rfl) T.str (by decide +kernel) rfl) pa_nil))))) (pw_or1 (pt_cmpR (op_notIn_kd kd) (pv 1) (pe_glob (v := .ref dL) rfl mL rfl) rfl)))) (pss_one (ps_ret pe_bl)) pss_nil)
      (pss_one (ps_ret (pe_cal C hr pass0 (pa_cons (pe_ix ix_kdict (pe_glob (v := .ref dL) rfl mL rfl) (pv 1) (fun _ _ => rfl)) (pa_cons (pe_slice sl_tup (pv 0) (po_some pe_int) po_none) pa_nil))))))), ?_⟩
    cases o with
    | none =>
      obtain ⟨t, ht, hnt, hty⟩ := hx
      refine ⟨_, rfl, _, _, _, _, _, rfl, .ty _, hty, kit_ty (kit_tuple t ht), _, rfl, ?_⟩
      rw [show (t == "tuple") = false from beq_eq_false_iff_ne.mpr hnt]
      exact iteT (iteT (k H (Same.refl H)))
    | some ys =>
      obtain ⟨b, rfl, hb, hn⟩ := hx
      refine ⟨_, rfl, _, _, _, _, _, rfl, .ty _, ty_tup hb, kit_ty (kit_tuple "tuple" (by decide)), _, rfl, iteF ?_⟩
      refine ⟨_, rfl, _, ys.length, rfl, .inr ⟨_, hb, rfl⟩, rfl, _, rfl, ?_⟩
      cases ys with
      | nil => exact iteT (k H (Same.refl H))
      | cons y r =>
        have e : decide (V.int ((y :: r).length : Nat) = V.int 0) = false := decide_eq_false fun z => by
          injection z with z
          rw [List.length_cons] at z
          omega
        show if decide (V.int ((y :: r).length : Nat) = V.int 0) = true then _ else _
        rw [e]
        refine iteF ?_
        -- name = value[0]
        refine ⟨_, rfl, b, _, _, y, rfl, rfl, hb, at0 y r, ?_⟩
        obtain ⟨t, ht, hty⟩ := hn y (by simp)
        refine ⟨_, rfl, _, _, _, _, _, rfl, .ty _, hty, kit_ty (kit_str t ht), _, rfl, ?_⟩
        by_cases hS : isS y = false
        · rw [isS_of hty] at hS
          rw [hS]
          refine iteT (iteT ?_)
          have := k H (Same.refl H)
          have e2 : stepOkO (some (y :: r)) = false := by
            rw [← isS_of hty] at hS
            cases y <;> first | rfl | cases hS
          rw [e2] at this
          exact this
        · obtain ⟨z, rfl⟩ : ∃ z, y = V.str z := by
            cases y <;> first | exact ⟨_, rfl⟩ | exact absurd rfl hS
          rw [show (t == "str") = true from (isS_of hty).symm]
          refine iteF ?_
          obtain ⟨o, ho, hm⟩ := B.at_ z
          refine ⟨_, rfl, z, o, rfl, rfl, ho, _, rfl, ?_⟩
          cases el : tab.lookup z with
          | none =>
            rw [el] at hm
            rw [hm]
            refine iteT ?_
            have := k H (Same.refl H)
            have e2 : stepOkO (some (V.str z :: r)) = false := by
              show stepOkN z r = false
              unfold stepOkN
              rw [el]
            rw [e2] at this
            exact this
          | some ls =>
            rw [el] at hm
            obtain ⟨a, hm, hls⟩ := hm
            rw [hm]
            refine iteF ?_
            rw [hm] at ho
            refine ⟨_, rfl, dL, z, .ref a, rfl, rfl, ⟨es, nn, _, kd.at_, kd.lit, ho, rfl⟩, ?_⟩
            refine ⟨_, rfl, _, rfl, b, _, rfl, hb, ?_, fun p np => ?_⟩
            · simp [HT.sIx]
            · rw [cut1]
              have s1 := same_upd (o := .tup r) (Same.refl H) np
              have all : ∀ q ∈ tab, ∀ l ∈ q.2, l ∈ letters5 := by decide +kernel
              refine ⟨a, p, ls, r, rfl, hls _, SqT.of upd_same, all _ (lookup_mem el), fun x hx => (hn x (List.mem_cons_of_mem _ hx)).same s1, fun H' s2 => ?_⟩
              have := k H' (Same.trans s1 s2)
              have e2 : stepOkO (some (V.str z :: r)) = (decide (ls.length = r.length) && within ls r 0) := by
                show stepOkN z r = _
                unfold stepOkN
                rw [el]
              rw [e2] at this
              exact this
end
end FC
set_option Elab.async false
set_option linter.all false
set_option maxRecDepth 100000
set_option maxHeartbeats 4000000
namespace FC
open PySem L2
/-- values in the places of a chain's steps -/
structure Steps (K : PySem.W.Frag) (H : Hp) (xs : List V) (os : List (Option (List V))) : Prop where
  len : xs.length = os.length
  at_ : ∀ (i : Nat) (x : V) (o : Option (List V)), xs[i]? = some x → os[i]? = some o → StepV K H x o
theorem Steps.same {K : PySem.W.Frag} {H H' : Hp} {xs : List V} {os : List (Option (List V))} (e : Same H H') (s : Steps K H xs os) : Steps K H' xs os :=
  ⟨s.len, fun i x o h1 h2 => (s.at_ i x o h1 h2).same e⟩
def spLimits (K : PySem.W.Frag) : Sp := fun vs H Q _ => ∃ a xs cs, vs = [.ref a] ∧ SqT K H a xs ∧ Steps K H xs (cs.map some) ∧ xs.length ≤ 1000 ∧ (∀ ys ∈ cs, stepOk ys = true) ∧ ∀ H', Same H H' → Q (.bl (limOk cs)) H'
theorem get_lt {α : Type} {l : List α} {i : Nat} {x : α} (h : l[i]? = some x) : i < l.length := (List.getElem?_eq_some_iff.mp h).1
theorem take_succ_get {α : Type} {l : List α} {i : Nat} {x : α} (h : l[i]? = some x) : l.take (i + 1) = l.take i ++ [x] := by
  rw [List.take_add_one, h]
  rfl
theorem inV_strs (n : Str) (ns : List Str) : inV (.str n) (ns.map V.str) = decide (n ∈ ns) := by
  unfold inV
  induction ns with
  | nil => simp
  | cons m r ih =>
    rw [List.map_cons, List.any_cons, ih]
    show (m == n || decide (n ∈ r)) = _
    by_cases h : n = m
    · subst h; simp
    · have h2 : (m == n) = false := beq_eq_false_iff_ne.mpr (fun z => h z.symm)
      rw [h2]
      simp [h]
theorem flat_strs (ns : List Str) : (ns.map V.str).all flatV = true := by
  simp [flatV]
section
variable {P : Program} {w : World} {K : PySem.W.Frag} {mg : Str → Option Value} {base : Heap}
theorem scLimits : FnScope ["steps", "most", "names", "step"] ["steps"] (defScope sLimits) := ⟨rfl, rfl, rfl, by decide +kernel, rfl, by decide +kernel, by decide +kernel⟩
theorem ok_limits {f dI : Addr} {fd : FuncData} (F : Fun K "keeps_limits" "keeps_limits" sLimits f fd) (T : Blt mg) (mI : mg "LIMITS" = some (.ref dI)) (B : LimT K dI) :
    FnOk P w K mg base CX0 1 f fd ["steps"] (spLimits K) := by
  refine F.ok scLimits (fun vs H Q E h => ?_) (fun cdv A outer s H vs Q E hr h => ?_)
  · obtain ⟨x, o, _, rfl, _⟩ := h
    rfl
  · obtain ⟨a, xs, cs, rfl, ha, hs, hlen, hok, k⟩ := h
    have nd := scLimits.nd
    obtain ⟨rs, hI, hrs, hat⟩ := B.at_
    refine ⟨_, pss_cons (ps_for PassesOwn.never rfl (pi_tup (pe_glob (v := .ref dI) rfl mI rfl)) (pg_tup rfl (pgs_cons (pg_name (i := 1) nd rfl (Or.inl rfl)) (pgs_cons (pg_name (i := 2) nd rfl (Or.inr rfl)) pgs_nil)))
        (pss_one (ps_if (pt_cmp (pc_gt (pe_callB call_len (by rfl) T.len PySem.boot_len (pa_cons
          (pe_lc (own := [("step", 3)]) (g := gName 3) (by rfl) nd (pi_tup (pv 0)) (blkOk_by (own := [("step", 3)]) (N := ["steps", "most", "names", "step"]) (sc := defScope sLimits) (by decide +kernel)) (fun _ _ _ _ _ => pg_name (i := 3) nd rfl (Or.inl rfl))
            (fun _ _ _ _ _ => pts_one (pt_cmpR (r := rIn K false) op_in_seq (pe_ix (r := rIxT K) ix_tup (pv 3) pe_int (fun _ _ => rfl)) (pv 2) rfl)) (fun _ _ _ _ _ => pv 3)) pa_nil)) (pv 1))) (pss_one (ps_ret pe_bl)) pss_nil)))
      (pss_one (ps_ret pe_bl)), ?_⟩
    refine ⟨dI, rfl, ⟨_, hI H⟩, for_tup (K := K) (a := dI) (xs := rs.map V.ref) (fun i σ H2 => ∃ v1 v2 v3 : Option V, σ = [some (.ref a), v1, v2, v3] ∧ Same H H2 ∧ (lims.take i).all (fun p => decide ((cs.filter (headIn p.2)).length ≤ p.1)) = true)
      ⟨none, none, none, rfl, Same.refl H, rfl⟩ (fun i σ H2 _ _ => hI H2) ?_ ?_⟩
    · rintro i x σ H2 hx ⟨v1, v2, v3, rfl, s2, hall⟩
      have hi : i < rs.length := by
        have := get_lt hx
        rwa [List.length_map] at this
      obtain ⟨r, hr', rfl⟩ : ∃ r, rs[i]? = some r ∧ x = V.ref r := ⟨rs[i], List.getElem?_eq_getElem hi, by
        rw [List.getElem?_map, List.getElem?_eq_getElem hi] at hx
        exact (Option.some.inj hx).symm⟩
      obtain ⟨⟨m, names⟩, hp⟩ : ∃ p, lims[i]? = some p := ⟨lims[i]'(by omega), List.getElem?_eq_getElem (by omega)⟩
      obtain ⟨c, h1, h2⟩ := hat i (m, names) r hp hr'
      refine ⟨r, _, rfl, h1 _, rfl, _, _, rfl, _, _, rfl, rfl, ?_⟩
      -- the comprehension
      refine ⟨_, rfl, a, rfl, ⟨_, sqt_same s2 ha⟩, fun D nD => ?_⟩
      have sD : Same H (upd H2 D (.lst [])) := same_upd s2 nD
      refine lc_tup (K := K) (a := a) (xs := xs) (fun j H3 => ∃ acc : List V, H3 D = some (.lst acc) ∧ acc.length = ((cs.take j).filter (headIn names)).length ∧ Same H H3)
        ⟨[], upd_same, rfl, sD⟩ (fun j H3 _ ⟨_, _, _, s3⟩ => sqt_same s3 ha) ?_ ?_
      · rintro j y H3 hy ⟨acc, hD, hacc, s3⟩
        have hj : j < cs.length := by
          have := get_lt hy
          rw [hs.len, List.length_map] at this
          exact this
        have hcj : (cs.map some)[j]? = some (some cs[j]) := by rw [List.getElem?_map, List.getElem?_eq_getElem hj]; rfl
        obtain ⟨b, rfl, hb, hn⟩ := hs.at_ j y _ hy hcj
        have hcm : cs[j] ∈ cs := List.getElem_mem hj
        obtain ⟨name, ns, ec, _⟩ := stepOk_shape (hok _ hcm)
        rw [ec] at hb
        have et : (cs.take (j + 1)).filter (headIn names) = (cs.take j).filter (headIn names) ++ (if name ∈ names then [cs[j]] else []) := by
          rw [take_succ_get (List.getElem?_eq_getElem hj), List.filter_append]
          congr 1
          rw [List.filter_cons, ec]
          show (if decide (name ∈ names) = true then _ else _) = _
          by_cases hm : name ∈ names
          · rw [if_pos hm, if_pos (decide_eq_true hm)]; rfl
          · rw [if_neg hm, if_neg (by simpa using hm)]; rfl
        refine ⟨rfl, _, rfl, b, _, _, .str name, rfl, rfl, sqt_same s3 hb, at0 _ _, _, rfl, c, names.map V.str, rfl, .inr (h2 _), rfl, flat_strs _, _, rfl, ?_⟩
        show if inV (.str name) (names.map V.str) = true then _ else _
        rw [inV_strs]
        refine ite2 (fun hm => ?_) (fun hm => ?_)
        · have hm := of_decide_eq_true hm
          rw [if_pos hm] at et
          have hle : acc.length ≤ j := by
            rw [hacc]
            exact Nat.le_trans (List.length_filter_le _ _) (by rw [List.length_take]; omega)
          have hjx := get_lt hy
          refine ⟨_, rfl, acc, hD, small1000 (by omega), acc ++ [.ref b], upd_same, ?_, ?_⟩
          · rw [et, List.length_append, List.length_append, hacc]
            rfl
          · intro q u hq
            have hqD : q ≠ D := fun z => by
              have := s2 q u hq
              rw [z, nD] at this
              cases this
            rw [upd_ne hqD]
            exact s3 q u hq
        · have hm : ¬ name ∈ names := fun z => hm (decide_eq_true z)
          rw [if_neg hm, List.append_nil] at et
          exact ⟨acc, hD, by rw [et]; exact hacc, s3⟩
      · rintro H3 ⟨acc, hD, hacc, s3⟩
        rw [hs.len, List.length_map, List.take_length] at hacc
        refine ⟨_, acc.length, rfl, .inl ⟨acc, SqL.of hD, rfl⟩, _, rfl, _, _, rfl, rfl, _, rfl, ?_⟩
        refine ite2 (fun hgt => ?_) (fun hgt => ?_)
        · have hgt : ((m : Nat) : Int) < (acc.length : Int) := of_decide_eq_true hgt
          have := k H3 s3
          have e : limOk cs = false := by
            cases el : limOk cs with
            | false => rfl
            | true =>
              unfold limOk at el
              have := List.all_eq_true.mp el (m, names) (List.mem_of_getElem? hp)
              have := of_decide_eq_true this
              have : (cs.filter (headIn names)).length ≤ m := this
              omega
          rw [e] at this
          exact this
        · have hgt : ¬ ((m : Nat) : Int) < (acc.length : Int) := fun z => hgt (decide_eq_true z)
          refine ⟨_, _, _, rfl, s3, ?_⟩
          rw [take_succ_get hp, List.all_append, hall]
          show (true && (decide ((cs.filter (headIn names)).length ≤ m) && true)) = true
          rw [decide_eq_true (by omega)]
          rfl
    · rintro σ H2 ⟨v1, v2, v3, rfl, s2, hall⟩
      have := k H2 s2
      have e : limOk cs = true := by
        unfold limOk
        rw [List.length_map, hrs, List.take_length] at hall
        exact hall
      rw [e] at this
      exact this
end
end FC
set_option Elab.async false
set_option linter.all false
set_option maxRecDepth 100000
set_option maxHeartbeats 4000000
namespace FC
open PySem L2
/-- a value in a chain's place: a tuple, or another thing -/
def ChainV (K : PySem.W.Frag) (H : Hp) (x : V) : Option (List (Option (List V))) → Prop
  | some os => ∃ a xs, x = .ref a ∧ SqT K H a xs ∧ Steps K H xs os
  | none => ∃ T, T ∈ kinds ∧ T ≠ "tuple" ∧ TyX K H x (.type T)
def chainOkL (os : List (Option (List V))) : Bool := decide (os.length ≤ 4) && (os.all stepOkO && limOk (os.filterMap id))
def chainOkO : Option (List (Option (List V))) → Bool
  | some os => chainOkL os
  | none => false
theorem chainOkL_some (cs : List (List V)) : chainOkL (cs.map some) = chainOk cs := by
  unfold chainOkL chainOk
  have e1 : (cs.map some).all stepOkO = cs.all stepOk := by
    rw [List.all_map]
    rfl
  have e2 : (cs.map some).filterMap id = cs := by
    induction cs with
    | nil => rfl
    | cons c r ih =>
      rw [List.map_cons, List.filterMap_cons]
      show c :: _ = _
      rw [ih (by
        rw [List.all_map]
        rfl)]
  rw [e1, e2, List.length_map]
theorem all_somes : ∀ {os : List (Option (List V))}, os.all stepOkO = true → os = (os.filterMap id).map some
  | [], _ => rfl
  | none :: r, h => by simp [stepOkO] at h
  | some c :: r, h => by
    rw [List.all_cons, Bool.and_eq_true] at h
    have ih := all_somes h.2
    show some c :: r = some c :: (r.filterMap id).map some
    rw [← ih]
theorem somes_ok {os : List (Option (List V))} (h : os.all stepOkO = true) : ∀ ys ∈ os.filterMap id, stepOk ys = true := fun ys hy => by
  obtain ⟨o, ho, e⟩ := List.mem_filterMap.mp hy
  have e : o = some ys := e
  have := List.all_eq_true.mp h o ho
  rw [e] at this
  exact this
def spIsChain (K : PySem.W.Frag) : Sp := fun vs H Q _ => ∃ x oo, vs = [x] ∧ ChainV K H x oo ∧ ∀ H', Same H H' → Q (.bl (chainOkO oo)) H'
section
variable {P : Program} {w : World} {K : PySem.W.Frag} {mg : Str → Option Value} {base : Heap}
theorem scIsChain : FnScope ["value", "step"] ["value"] (defScope sIsChain) := ⟨rfl, rfl, rfl, by decide +kernel, rfl, by decide +kernel, by decide +kernel⟩
theorem ok_isChain {f : Addr} {tM : Tok} {fd : FuncData} (F : Fun K "is_chain" "is_chain" sIsChain f fd) (T : Blt mg) (CS : Cal P w K mg base CX0 3 "is_step" ["value"] (spIsStep K)) (CL : Cal P w K mg base CX0 1 "keeps_limits" ["steps"] (spLimits K))
    (mM : mg "MOST_STEPS" = some (.int 4 tM)) : FnOk P w K mg base CX0 4 f fd ["value"] (spIsChain K) := by
  refine F.ok scIsChain (fun vs H Q E h => ?_) (fun cdv A outer s H vs Q E hr h => ?_)
  · obtain ⟨x, o, rfl, _⟩ := h
    rfl
  · obtain ⟨x, oo, rfl, hx, k⟩ := h
    have nd := scIsChain.nd
    have hr1 : Room 1 _ := hr.mono (by decide)
    refine ⟨_, pss_cons (ps_if (PW.pt (pw_or (pt_not (pt_val (pe_callB call_isi (by rfl) T.isi (by decide +kernel) (pa_cons (pv 0) (pa_cons (pe_bltn (v := .ty "tuple") (by rfl) T.tuple (by decide +kernel) rfl) pa_nil)))))
          (pw_or1 (pt_cmp (pc_gt (pe_callB call_len (by rfl) T.len PySem.boot_len (pa_cons (pv 0) pa_nil)) (pe_glob (v := .int 4) rfl mM ⟨_, rfl⟩)))))) (pss_one (ps_ret pe_bl)) pss_nil)
      (pss_one (ps_ret (pe_and (pe_callB (cr_all rfl) (by rfl) T.all (by decide +kernel) (pa_cons
          (pe_lc (own := [("step", 1)]) (g := gName 1) (by rfl) nd (pi_tup (pv 0)) (blkOk_by (own := [("step", 1)]) (N := ["value", "step"]) (sc := defScope sIsChain) (by decide +kernel)) (fun _ _ _ _ _ => pg_name (i := 1) nd rfl (Or.inl rfl))
            (fun _ _ _ _ _ => pts_nil) (fun _ _ _ _ _ => pe_cal CS hr pass0 (pa_cons (pv 1) pa_nil))) pa_nil)) (pe_one (pe_cal CL hr1 pass0 (pa_cons (pv 0) pa_nil)))))), ?_⟩
    cases oo with
    | none =>
      obtain ⟨t, ht, hnt, hty⟩ := hx
      refine ⟨_, rfl, _, _, _, _, _, rfl, .ty _, hty, kit_ty (kit_tuple t ht), _, rfl, ?_⟩
      rw [show (t == "tuple") = false from beq_eq_false_iff_ne.mpr hnt]
      exact iteT (iteT (k H (Same.refl H)))
    | some os =>
      obtain ⟨a, xs, rfl, ha, hs⟩ := hx
      refine ⟨_, rfl, _, _, _, _, _, rfl, .ty _, ty_tup ha, kit_ty (kit_tuple "tuple" (by decide)), _, rfl, iteF ?_⟩
      refine ⟨_, rfl, _, xs.length, rfl, .inr ⟨_, ha, rfl⟩, _, _, rfl, rfl, _, rfl, ?_⟩
      refine ite2 (fun hgt => ?_) (fun hgt => ?_)
      · have hgt : (4 : Int) < (xs.length : Int) := of_decide_eq_true hgt
        have := k H (Same.refl H)
        have e : chainOkO (some os) = false := by
          show chainOkL os = false
          unfold chainOkL
          rw [decide_eq_false (by rw [← hs.len]; omega)]
          rfl
        rw [e] at this
        exact this
      · have hgt : xs.length ≤ 4 := by
          have : ¬ (4 : Int) < (xs.length : Int) := fun z => hgt (decide_eq_true z)
          omega
        have k' : ∀ H', Same H H' → Q (.bl (os.all stepOkO && limOk (os.filterMap id))) H' := fun H' z => by
          have := k H' z
          have e : chainOkO (some os) = (os.all stepOkO && limOk (os.filterMap id)) := by
            show chainOkL os = _
            unfold chainOkL
            rw [decide_eq_true (by rw [← hs.len]; omega)]
            rfl
          rw [e] at this
          exact this
        refine ⟨_, rfl, a, rfl, ⟨_, ha⟩, fun D nD => ?_⟩
        have sD : Same H (upd H D (.lst [])) := same_upd (Same.refl H) nD
        refine lc_tup (K := K) (a := a) (xs := xs) (fun j H3 => H3 D = some (.lst (((os.take j).map stepOkO).map V.bl)) ∧ Same H H3) ⟨upd_same, sD⟩ (fun j H3 _ ⟨_, s3⟩ => sqt_same s3 ha) ?_ ?_
        · rintro j y H3 hy ⟨hD, s3⟩
          have hj : j < os.length := by
            have := get_lt hy
            rw [hs.len] at this
            exact this
          have ho : os[j]? = some os[j] := List.getElem?_eq_getElem hj
          refine ⟨rfl, ⟨_, rfl, y, _, rfl, (hs.at_ j y _ hy ho).same s3, fun H4 s4 => ⟨_, s4 _ _ hD, ?_, ?_, ?_⟩⟩⟩
          · rw [List.length_map, List.length_map, List.length_take]
            exact small1000 (by have := get_lt hy; omega)
          · rw [upd_same, take_succ_get ho, List.map_append, List.map_append]
            rfl
          · intro q u hq
            have hqD : q ≠ D := fun z => by
              rw [z, nD] at hq
              cases hq
            rw [upd_ne hqD]
            exact s4 q u (s3 q u hq)
        · rintro H3 ⟨hD, s3⟩
          rw [hs.len, List.take_length] at hD
          refine ⟨D, _, rfl, SqL.of hD, ?_⟩
          refine ⟨_, rfl, ?_⟩
          have ea : (os.map stepOkO).all id = os.all stepOkO := by
            rw [List.all_map]
            rfl
          rw [ea]
          cases hall : os.all stepOkO with
          | false =>
            refine iteF ?_
            have := k' H3 s3
            rw [hall] at this
            exact this
          | true =>
            refine iteT ?_
            have e2 := all_somes hall
            refine ⟨_, rfl, a, xs, os.filterMap id, rfl, sqt_same s3 ha, ?_, by omega, somes_ok hall, fun H4 s4 => ?_⟩
            · rw [← e2]
              exact hs.same s3
            · have := k' H4 (Same.trans s3 s4)
              rw [hall] at this
              exact this
end
end FC
set_option Elab.async false
set_option linter.all false
set_option maxRecDepth 100000
set_option maxHeartbeats 4000000
namespace FC
open PySem L2
/-- nothing, or InvalidChain -/
def spCheck (K : PySem.W.Frag) (C : Addr) : Sp := fun vs H Q E => ∃ x oo, vs = [x] ∧ ChainV K H x oo ∧ ∀ H', Same H H' → (chainOkO oo = true → Q .non H') ∧ (chainOkO oo = false → E (.ref C) none H')
section
variable {P : Program} {w : World} {K : PySem.W.Frag} {mg : Str → Option Value} {base : Heap}
theorem scCheck : FnScope ["value"] ["value"] (defScope sCheck) := ⟨rfl, rfl, rfl, by decide +kernel, rfl, by decide +kernel, by decide +kernel⟩
theorem ok_check {f C : Addr} {fd : FuncData} (F : Fun K "check_chain" "check_chain" sCheck f fd) (CC : Cal P w K mg base CX0 4 "is_chain" ["value"] (spIsChain K)) (T : ExcT K mg "InvalidChain" C) :
    FnOk P w K mg base (L2N.CX P w) 5 f fd ["value"] (spCheck K C) := by
  refine okN F scCheck (fun vs H Q E h => ?_) (fun cdv A outer s H vs Q E hr h => ?_)
  · obtain ⟨x, o, rfl, _⟩ := h
    rfl
  · obtain ⟨x, oo, rfl, hx, k⟩ := h
    refine ⟨_, pss_one (ps_if (pt_not (pt_val (pe_cal CC hr pass0 (pa_cons (pv 0) pa_nil)))) (pss_one (L2N.ps_raise rfl (L2N.takes_of rfl rfl rfl rfl) (L2N.pmk_own PySem.F.excBase_ValueError T.q T.gC T.kC (raises_own T.bP T.tP) rfl))) pss_nil), ?_⟩
    refine ⟨_, rfl, x, oo, rfl, hx, fun H1 s1 => ⟨_, rfl, ?_⟩⟩
    cases h : chainOkO oo with
    | false => exact iteT ((k H1 s1).2 h)
    | true => exact iteF ((k H1 s1).1 h)
end
end FC
set_option Elab.async false
set_option linter.all false
set_option maxRecDepth 100000
namespace FC
open PySem L2
/-- at a stands a chain of these steps -/
def ChainAt (K : PySem.W.Frag) (H : Hp) (a : Addr) (cs : List (List V)) : Prop := ∃ xs, SqT K H a xs ∧ Steps K H xs (cs.map some)
theorem ChainAt.v {K : PySem.W.Frag} {H : Hp} {a : Addr} {cs : List (List V)} (h : ChainAt K H a cs) : ChainV K H (.ref a) (some (cs.map some)) := by
  obtain ⟨xs, h1, h2⟩ := h
  exact ⟨a, xs, rfl, h1, h2⟩
theorem ChainAt.same {K : PySem.W.Frag} {H H' : Hp} {a : Addr} {cs : List (List V)} (e : Same H H') (h : ChainAt K H a cs) : ChainAt K H' a cs := by
  obtain ⟨xs, h1, h2⟩ := h
  exact ⟨xs, sqt_same e h1, h2.same e⟩
end FC
set_option Elab.async false
set_option linter.all false
set_option maxRecDepth 100000
set_option maxHeartbeats 4000000
/-! form on what is no chain; joined. -/
namespace FC
open PySem L2
def spFormE (K : PySem.W.Frag) (c0 : Addr) : Sp := fun vs H Q E => ∃ x oo, vs = [x] ∧ ChainV K H x oo ∧ chainOkO oo = false ∧ ∀ H', Same H H' → E (.ref c0) none H'
def spJoined (K : PySem.W.Frag) (c0 c4 : Addr) : Sp := fun vs H Q E => ∃ x y, vs = [x, y] ∧
  ((∃ oo, ChainV K H x oo ∧ chainOkO oo = false ∧ ∀ H', Same H H' → E (.ref c0) none H') ∨
   (∃ oo pp, ChainV K H x oo ∧ chainOkO oo = true ∧ ChainV K H y pp ∧ chainOkO pp = false ∧ ∀ H', Same H H' → E (.ref c0) none H') ∨
   (∃ a b cs ds, x = .ref a ∧ y = .ref b ∧ ChainAt K H a cs ∧ ChainAt K H b ds ∧ chainOk cs = true ∧ chainOk ds = true ∧ ∀ H', Same H H' → (chainOk (cs ++ ds) = true → ∀ t, ChainAt K H' t (cs ++ ds) → Q (.ref t) H') ∧ (chainOk (cs ++ ds) = false → E (.ref c4) none H')))
theorem chainV_same {K : PySem.W.Frag} {H H' : Hp} {x : V} {oo : Option (List (Option (List V)))} (h : ChainV K H x oo) (s : Same H H') : ChainV K H' x oo := by
  cases oo with
  | some os =>
    obtain ⟨a, xs, h1, h2, h3⟩ := h
    exact ⟨a, xs, h1, sqt_same s h2, h3.same s⟩
  | none =>
    obtain ⟨T, h1, h2, h3⟩ := h
    exact ⟨T, h1, h2, tyX_same s h3⟩
section
variable {P : Program} {w : World} {K : PySem.W.Frag} {mg : Str → Option Value} {base : Heap}
theorem scForm : FnScope ["chain", "table", "counts", "line"] ["chain"] (defScope sForm) := ⟨rfl, rfl, rfl, by decide +kernel, rfl, by decide +kernel, by decide +kernel⟩
theorem ok_formE {f c0 : Addr} {fd : FuncData} (F : Fun K "form" "form" sForm f fd) (CK : Cal P w K mg base (L2N.CX P w) 5 "check_chain" ["value"] (spCheck K c0)) : FnOk P w K mg base (L2N.CX P w) 9 f fd ["chain"] (spFormE K c0) := by
  refine okN F scForm (fun vs H Q E h => ?_) (fun cdv A outer s H vs Q E hr h => ?_)
  · obtain ⟨x, o, rfl, _⟩ := h
    rfl
  · obtain ⟨x, oo, rfl, hx, hf, k⟩ := h
    have hr5 : Room 5 _ := hr.mono (by decide)
    refine ⟨_, pss_cons (ps_expr (pe_cal CK hr5 (L2N.passes_call (W := fun cls d _ H => E cls d H) (L2N.takes_of rfl rfl rfl rfl) (fun _ _ _ _ h => h)) (pa_cons (pv 0) pa_nil))) pss_never, ?_⟩
    exact ⟨_, rfl, x, oo, rfl, hx, fun H1 s1 => ⟨fun z => (by rw [hf] at z; cases z), fun _ => k H1 s1⟩⟩
theorem Steps.cat {K : PySem.W.Frag} {H : Hp} {xs ys : List V} {cs ds : List (List V)} (h1 : Steps K H xs (cs.map some)) (h2 : Steps K H ys (ds.map some)) : Steps K H (xs ++ ys) ((cs ++ ds).map some) := by
  refine ⟨by rw [List.length_append, List.map_append, List.length_append, h1.len, h2.len], fun i x o hx ho => ?_⟩
  rw [List.map_append] at ho
  by_cases hi : i < xs.length
  · rw [List.getElem?_append_left hi] at hx
    rw [List.getElem?_append_left (by rw [← h1.len]; exact hi)] at ho
    exact h1.at_ i x o hx ho
  · rw [List.getElem?_append_right (by omega)] at hx
    rw [List.getElem?_append_right (by rw [← h1.len]; omega), ← h1.len] at ho
    exact h2.at_ _ x o hx ho
theorem scJoined : FnScope ["chain", "other", "steps"] ["chain", "other"] (defScope sJoined) := ⟨rfl, rfl, rfl, by decide +kernel, rfl, by decide +kernel, by decide +kernel⟩
theorem ok_joined {f c0 c4 : Addr} {fd : FuncData} (F : Fun K "joined" "joined" sJoined f fd) (CK : Cal P w K mg base (L2N.CX P w) 5 "check_chain" ["value"] (spCheck K c0)) (CI : Cal P w K mg base CX0 4 "is_chain" ["value"] (spIsChain K)) (X : ExcT K mg "TooMany" c4) : FnOk P w K mg base (L2N.CX P w) 9 f fd ["chain", "other"] (spJoined K c0 c4) := by
  refine okN F scJoined (fun vs H Q E h => ?_) (fun cdv A outer s H vs Q E hr h => ?_)
  · obtain ⟨x, y, rfl, _⟩ := h
    rfl
  · obtain ⟨x, y, rfl, h⟩ := h
    have nd := scJoined.nd
    have hr5 : Room 5 _ := hr.mono (by decide)
    have hr4 : Room 4 _ := hr.mono (by decide)
    refine ⟨_, pss_cons (ps_expr (pe_cal CK hr5 (L2N.passes_call (W := fun cls d _ H => E cls d H) (L2N.takes_of rfl rfl rfl rfl) (fun _ _ _ _ h => h)) (pa_cons (pv 0) pa_nil)))
      (pss_cons (ps_expr (pe_cal CK hr5 (L2N.passes_call (W := fun cls d _ H => E cls d H) (L2N.takes_of rfl rfl rfl rfl) (fun _ _ _ _ h => h)) (pa_cons (pv 1) pa_nil)))
      (pss_cons (ps_set (i := 2) nd rfl (Or.inl rfl) (pe_op op_catA (pv 0) (pv 1)))
      (pss_cons (ps_if (pt_not (pt_val (pe_cal CI hr4 pass0 (pa_cons (pv 2) pa_nil)))) (pss_one (L2N.ps_raise rfl (L2N.takes_of rfl rfl rfl rfl) (L2N.pmk_own PySem.F.excBase_ValueError X.q X.gC X.kC (raises_own X.bP X.tP) rfl))) pss_nil)
      (pss_one (ps_ret (pv 2)))))), ?_⟩
    rcases h with ⟨oo, hx, hf, k⟩ | ⟨oo, pp, hx, hf, hy, hg, k⟩ | ⟨a, b, cs, ds, rfl, rfl, ha, hb, hc, hd, k⟩
    · exact ⟨_, rfl, x, oo, rfl, hx, fun H1 s1 => ⟨fun z => (by rw [hf] at z; cases z), fun _ => k H1 s1⟩⟩
    · refine ⟨_, rfl, x, oo, rfl, hx, fun H1 s1 => ⟨fun _ => ?_, fun z => (by rw [hf] at z; cases z)⟩⟩
      exact ⟨_, rfl, y, pp, rfl, chainV_same hy s1, fun H2 s2 => ⟨fun z => (by rw [hg] at z; cases z), fun _ => k H2 (Same.trans s1 s2)⟩⟩
    · have e1 : chainOkO (some (cs.map some)) = true := (chainOkL_some _).trans hc
      have e2 : chainOkO (some (ds.map some)) = true := (chainOkL_some _).trans hd
      refine ⟨_, rfl, _, _, rfl, ha.v, fun H1 s1 => ⟨fun _ => ?_, fun z => (by rw [e1] at z; cases z)⟩⟩
      refine ⟨_, rfl, _, _, rfl, (hb.same s1).v, fun H2 s2 => ⟨fun _ => ?_, fun z => (by rw [e2] at z; cases z)⟩⟩
      have s12 := Same.trans s1 s2
      obtain ⟨xs, x1, x2⟩ := ha.same s12
      obtain ⟨ys, y1, y2⟩ := hb.same s12
      have l1 : xs.length ≤ 4 := by
        have := chainOk_len hc
        have e := x2.len
        rw [List.length_map] at e
        omega
      have l2 : ys.length ≤ 4 := by
        have := chainOk_len hd
        have e := y2.len
        rw [List.length_map] at e
        omega
      have hsl : 100 < sizeLine := by decide
      refine ⟨_, rfl, _, rfl, a, b, xs, ys, rfl, rfl, x1, y1, by omega, fun e => ?_, fun _ e => ?_, fun _ _ t nt => ?_⟩
      · skip
        have s3 := Same.refl H2
        have ht : SqT K H2 b (xs ++ ys) := by rw [e]; exact y1
        have hat : ChainAt K _ b (cs ++ ds) := ⟨xs ++ ys, ht, Steps.cat (x2.same s3) (y2.same s3)⟩
        refine ⟨_, rfl, .ref b, _, rfl, hat.v, fun H4 s4 => ⟨_, rfl, ?_⟩⟩
        have kk := k H4 (Same.trans (Same.trans s12 s3) s4)
        rw [show chainOkO (some ((cs ++ ds).map some)) = chainOk (cs ++ ds) from chainOkL_some _]
        cases hcd : chainOk (cs ++ ds) with
        | false => exact iteT (kk.2 hcd)
        | true => exact iteF ⟨_, rfl, kk.1 hcd b (hat.same s4)⟩
      · skip
        have s3 := Same.refl H2
        have ht : SqT K H2 a (xs ++ ys) := by rw [e, List.append_nil]; exact x1
        have hat : ChainAt K _ a (cs ++ ds) := ⟨xs ++ ys, ht, Steps.cat (x2.same s3) (y2.same s3)⟩
        refine ⟨_, rfl, .ref a, _, rfl, hat.v, fun H4 s4 => ⟨_, rfl, ?_⟩⟩
        have kk := k H4 (Same.trans (Same.trans s12 s3) s4)
        rw [show chainOkO (some ((cs ++ ds).map some)) = chainOk (cs ++ ds) from chainOkL_some _]
        cases hcd : chainOk (cs ++ ds) with
        | false => exact iteT (kk.2 hcd)
        | true => exact iteF ⟨_, rfl, kk.1 hcd a (hat.same s4)⟩
      · skip
        have s3 := same_upd (o := .tup (xs ++ ys)) (Same.refl H2) nt
        have ht := (SqT.of upd_same : SqT K (upd H2 t (.tup (xs ++ ys))) t (xs ++ ys))
        have hat : ChainAt K _ t (cs ++ ds) := ⟨xs ++ ys, ht, Steps.cat (x2.same s3) (y2.same s3)⟩
        refine ⟨_, rfl, .ref t, _, rfl, hat.v, fun H4 s4 => ⟨_, rfl, ?_⟩⟩
        have kk := k H4 (Same.trans (Same.trans s12 s3) s4)
        rw [show chainOkO (some ((cs ++ ds).map some)) = chainOk (cs ++ ds) from chainOkL_some _]
        cases hcd : chainOk (cs ++ ds) with
        | false => exact iteT (kk.2 hcd)
        | true => exact iteF ⟨_, rfl, kk.1 hcd t (hat.same s4)⟩
end
end FC
set_option Elab.async false
set_option linter.all false
set_option maxRecDepth 100000
set_option maxHeartbeats 4000000
namespace FC
open PySem L2
/-! ### the law's draws -/
def spCellL (K : PySem.W.Frag) : Sp := fun vs H Q _ => ∃ (a : Addr) (ns : List Int) (k : Int), vs = [.ref a, .int k] ∧ SqL K H a (ns.map V.int) ∧ ns.length ≤ 63 ∧ ∀ n H', Same H H' → Q (.int n) H'
def spDrawn : Sp := fun vs H Q _ => ∃ c k : Int, vs = [.int c, .int k] ∧ ∀ r : Int, 0 ≤ r → Q (.int r) H
/-- two numbers that are used up -/
def Dice (H : Hp) (d : Addr) : Prop := ∃ a b : Int, H d = some (.lst [.int a, .int b])
/-- all but d is as it was -/
def SameX (d : Addr) (H H' : Hp) : Prop := ∀ b o, H b = some o → b ≠ d → H' b = some o
def spRoll : Sp := fun vs H Q _ => ∃ (d : Addr) (m : Int), vs = [.ref d, .int m] ∧ Dice H d ∧ 1 ≤ m ∧ m < 1606938044258990275541962092341162602522202993782792835301376 ∧ ∀ (r : Int) H', 0 ≤ r → r < m → Dice H' d → SameX d H H' → Q (.int r) H'
theorem SameX.refl (d : Addr) (H : Hp) : SameX d H H := fun _ _ h _ => h
theorem SameX.trans {d : Addr} {H H1 H2 : Hp} (a : SameX d H H1) (b : SameX d H1 H2) : SameX d H H2 := fun c o h n => b c o (a c o h n) n
theorem SameX.of {d : Addr} {H H' : Hp} (e : Same H H') : SameX d H H' := fun b o h _ => e b o h
theorem mod_nat {x m : Int} {n : Nat} (h : 0 < m) (hm : m.natAbs ≤ 2 ^ n) : (x % m).natAbs < 2 ^ n := by
  have h1 := Int.emod_nonneg x (Int.ne_of_gt h)
  have h2 := Int.emod_lt_of_pos x h
  omega
theorem div_nat {x m : Int} {n : Nat} (h0 : 0 ≤ x) (h : 0 < m) (hx : x.natAbs < 2 ^ n) : (x / m).natAbs < 2 ^ n := by
  have h1 := Int.ediv_nonneg h0 (Int.le_of_lt h)
  have h2 := Int.ediv_le_self m h0
  omega
theorem plus_nat {x : Int} {n : Nat} (hx : x.natAbs < 2 ^ n) : (x + 1).natAbs < 2 ^ (n + 1) := by
  have : 1 ≤ 2 ^ n := Nat.one_le_two_pow
  rw [Nat.pow_succ]
  omega
theorem dp_ints {K : PySem.W.Frag} {H : Hp} : ∀ ns : List Int, DpAll K H (ns.map V.int) (ns.map PyData.int)
  | [] => .nil
  | n :: r => .cons (.int n) (dp_ints r)
section
variable {P : Program} {w : World} {K : PySem.W.Frag} {mg : Str → Option Value} {base : Heap}
theorem scCell : FnScope ["_law_script", "_law_k"] ["_law_script", "_law_k"] (defScope sCell) := ⟨rfl, rfl, rfl, by decide +kernel, rfl, by decide +kernel, by decide +kernel⟩
theorem ok_cell {f : Addr} {fd : FuncData} (F : Fun K "_law_cell" "_law_cell" sCell f fd) (T : Blt mg) : FnOk P w K mg base CX0 1 f fd ["_law_script", "_law_k"] (spCellL K) := by
  refine F.ok scCell (fun vs H Q E h => ?_) (fun cdv A outer s H vs Q E hr h => ?_)
  · obtain ⟨a, ns, k, rfl, _⟩ := h
    rfl
  · obtain ⟨a, ns, k, rfl, ha, hl, q⟩ := h
    have nd := scCell.nd
    refine ⟨_, pss_cons (ps_if (pt_cmpR (op_eqD hr.units) (pv 0) (pe_lst pa_nil) (nomark _)) (pss_one (ps_ret (pe_op op_mul (pv 1) pe_int))) pss_nil)
      (pss_one (ps_ret (pe_op op_add (pe_ix ix_list (pv 0) (pe_op op_mod (pv 1) (pe_callB call_len (by rfl) T.len PySem.boot_len (pa_cons (pv 0) pa_nil))) (fun _ _ => rfl))
        (pe_op op_mul (pe_op op_fdiv (pv 1) (pe_callB call_len (by rfl) T.len PySem.boot_len (pa_cons (pv 0) pa_nil))) pe_int)))), ?_⟩
    refine ⟨_, rfl, by decide, fun p np => ?_⟩
    have s1 := same_upd (o := .lst []) (Same.refl H) np
    have ha1 := Same.seq s1 ha
    refine ⟨.list (ns.map .int), .list [], .lst ha1 (dp_ints ns), .lst (SqL.of upd_same) .nil, PySem.W.ke_shaped_ints ns, by decide, _, rfl, ?_⟩
    cases ns with
    | nil => exact iteT ⟨_, rfl, _, _, rfl, rfl, .inr (by decide), q _ _ s1⟩
    | cons n r =>
      refine iteF ?_
      have hpos : (0 : Int) < (((n :: r).map V.int).length : Nat) := by
        rw [List.length_map, List.length_cons]
        omega
      have hlt : (((n :: r).map V.int).length : Int) < 1073741824 := by
        rw [List.length_map]
        omega
      have h0 := Int.emod_nonneg k (Int.ne_of_gt hpos)
      have h1 := Int.emod_lt_of_pos k hpos
      obtain ⟨j, hj⟩ := Int.eq_ofNat_of_zero_le h0
      have hjl : j < ((n :: r).map V.int).length := by omega
      obtain ⟨v, hv⟩ : ∃ v : Int, ((n :: r).map V.int)[j]? = some (V.int v) := by
        rw [List.length_map] at hjl
        exact ⟨(n :: r)[j], by rw [List.getElem?_map, List.getElem?_eq_getElem hjl]; rfl⟩
      refine ⟨_, rfl, _, rfl, _, rfl, _, ((n :: r).map V.int).length, rfl, .inl ⟨_, ha1, rfl⟩, _, _, rfl, rfl, hpos, ?_⟩
      refine ⟨a, _, _, .int v, rfl, rfl, ha1, ?_, ?_⟩
      · rw [hj]
        exact atI_nat hv
      · refine ⟨_, rfl, _, rfl, _, ((n :: r).map V.int).length, rfl, .inl ⟨_, ha1, rfl⟩, _, _, rfl, rfl, ⟨hpos, hlt⟩, _, _, rfl, rfl, .inr (by decide), _, _, rfl, rfl, q _ _ s1⟩
theorem scDrawn : FnScope ["_law_cell_here", "_law_k", "_law_more"] ["_law_cell_here", "_law_k"] (defScope sDrawn) := ⟨rfl, rfl, rfl, by decide +kernel, rfl, by decide +kernel, by decide +kernel⟩
theorem ok_drawn {f : Addr} {fd : FuncData} (F : Fun K "_law_drawn" "_law_drawn" sDrawn f fd) : FnOk P w K mg base CX0 1 f fd ["_law_cell_here", "_law_k"] spDrawn := by
  refine F.ok scDrawn (fun vs H Q E h => ?_) (fun cdv A outer s H vs Q E hr h => ?_)
  · obtain ⟨c, k, rfl, _⟩ := h
    rfl
  · obtain ⟨c, k, rfl, q⟩ := h
    have nd := scDrawn.nd
    refine ⟨_, pss_cons (ps_set (i := 2) nd rfl (Or.inl rfl) (pe_op op_mod (pe_op op_add (pe_op op_mul (pv 0) pe_int) (pe_op op_mul (pe_op op_add (pv 1) pe_int) pe_int)) pe_int))
      (pss_cons (ps_set (i := 2) nd rfl (Or.inl rfl) (pe_op op_mod (pe_op op_mulW (pv 2) (pv 2)) pe_int))
      (pss_cons (ps_set (i := 2) nd rfl (Or.inl rfl) (pe_op op_mulW (pe_op op_mulW (pe_op op_add (pe_op op_mod (pv 2) pe_int) pe_int) (pe_op op_add (pe_op op_fdivW (pv 2) pe_int) pe_int)) (pv 2)))
      (pss_one (ps_ret (pe_op op_mod (pv 2) pe_int))))), ?_⟩
    refine ⟨_, rfl, _, _, rfl, rfl, .inr (by decide), _, rfl, _, _, rfl, rfl, _, _, rfl, rfl, .inr (by decide), _, _, rfl, rfl, _, _, rfl, rfl, (by decide : (0 : Int) < 340282366920938463463374607431768211507), ?_⟩
    have bx : ((c * 6364136223846793005 + (k + 1) * 1442695040888963407) % 340282366920938463463374607431768211507).natAbs < 2 ^ 129 := mod_nat (by decide) (by decide)
    refine ⟨_, rfl, _, rfl, _, _, rfl, rfl, wide_mul bx bx (by decide) (by decide) (by decide), _, _, rfl, rfl, (by decide : (0 : Int) < 340282366920938463463374607431768211297), ?_⟩
    have c1 := Int.emod_nonneg ((c * 6364136223846793005 + (k + 1) * 1442695040888963407) % 340282366920938463463374607431768211507 * ((c * 6364136223846793005 + (k + 1) * 1442695040888963407) % 340282366920938463463374607431768211507)) (by decide : (340282366920938463463374607431768211297 : Int) ≠ 0)
    have by_ : ((c * 6364136223846793005 + (k + 1) * 1442695040888963407) % 340282366920938463463374607431768211507 * ((c * 6364136223846793005 + (k + 1) * 1442695040888963407) % 340282366920938463463374607431768211507) % 340282366920938463463374607431768211297).natAbs < 2 ^ 129 := mod_nat (by decide) (by decide)
    have bu := plus_nat (mod_nat (x := (c * 6364136223846793005 + (k + 1) * 1442695040888963407) % 340282366920938463463374607431768211507 * ((c * 6364136223846793005 + (k + 1) * 1442695040888963407) % 340282366920938463463374607431768211507) % 340282366920938463463374607431768211297) (m := 18446744073709551557) (n := 64) (by decide) (by decide))
    have bv := plus_nat (div_nat (m := 18446744073709551557) c1 (by decide) by_)
    refine ⟨_, rfl, _, _, rfl, rfl, (by decide : (0 : Int) < 18446744073709551557), _, _, rfl, rfl, _, rfl, _, _, rfl, rfl, wide_div (b := 64) (by decide) (by decide) (by decide) (by decide), _, _, rfl, rfl, _, _, rfl, rfl, wide_mul bu bv (by decide) (by decide) (by decide), ?_⟩
    have bw := wide_lt bu bv
    refine ⟨_, rfl, _, _, rfl, rfl, wide_mul bw by_ (by decide) (by decide) (by decide), ?_⟩
    exact ⟨_, rfl, _, _, rfl, rfl, (by decide : (0 : Int) < 340282366920938463463374607431768211507), q _ (Int.emod_nonneg _ (by decide))⟩
end
end FC
set_option Elab.async false
set_option linter.all false
set_option maxRecDepth 100000
set_option maxHeartbeats 4000000
namespace FC
open PySem L2
/-- 2 or 3, and a remainder by it -/
def spRest : Sp := fun vs H Q _ => ∃ d : Addr, vs = [.ref d] ∧ Dice H d ∧ ∀ (t : Addr) (m r : Int) H', (m = 2 ∨ m = 3) → 0 ≤ r → r < m → Dice H' d → SameX d H H' → H t = none → H' t = some (.tup [.int m, .int r]) → Q (.ref t) H'
theorem SameX.upd {d p : Addr} {H H' : Hp} {o : HO} (e : SameX d H H') (h : H' p = none) : SameX d H (L2.upd H' p o) := fun b u q n => by
  have q' := e b u q n
  rw [upd_ne (ne_of_none q' h)]
  exact q'
theorem SameX.free {d l : Addr} {H H' : Hp} (e : SameX d H H') (hd : l ≠ d) (h : H' l = none) : H l = none := by
  cases q : H l with
  | none => rfl
  | some o =>
    rw [e l o q hd] at h
    cases h
theorem Dice.same {d : Addr} {H H' : Hp} (s : Same H H') (h : Dice H d) : Dice H' d := by
  obtain ⟨a, b, e⟩ := h
  exact ⟨a, b, s _ _ e⟩
theorem Dice.ne {d p : Addr} {H : Hp} (h : Dice H d) (n : H p = none) : d ≠ p := by
  obtain ⟨a, b, e⟩ := h
  exact ne_of_none e n
section
variable {P : Program} {w : World} {K : PySem.W.Frag} {mg : Str → Option Value} {base : Heap}
theorem scRoll : FnScope ["_law_dice", "_law_many", "_law_told_here"] ["_law_dice", "_law_many"] (defScope sRoll) := ⟨rfl, rfl, rfl, by decide +kernel, rfl, by decide +kernel, by decide +kernel⟩
theorem ok_roll {f : Addr} {fd : FuncData} (F : Fun K "_law_roll" "_law_roll" sRoll f fd) (CD : Cal P w K mg base CX0 1 "_law_drawn" ["_law_cell_here", "_law_k"] spDrawn) : FnOk P w K mg base CX0 2 f fd ["_law_dice", "_law_many"] spRoll := by
  refine F.ok scRoll (fun vs H Q E h => ?_) (fun cdv A outer s H vs Q E hr h => ?_)
  · obtain ⟨a, k, rfl, _⟩ := h
    rfl
  · obtain ⟨d, m, rfl, ⟨a, b, hd⟩, h1, h2, q⟩ := h
    have nd := scRoll.nd
    refine ⟨_, pss_cons (ps_if (pt_cmp (pc_ge (pe_ix ix_list (pv 0) pe_int (fun _ _ => rfl)) (pe_op op_pow pe_int pe_int)))
        (pss_cons (ps_set (i := 2) nd rfl (Or.inl rfl) (pe_op op_mod (pe_ix ix_list (pv 0) pe_int (fun _ _ => rfl)) (pv 1)))
        (pss_cons (ps_asg (pe_op op_fdivW (pe_ix ix_list (pv 0) pe_int (fun _ _ => rfl)) (pv 1)) (pg_sub (pv 0) pe_int set_list))
        (pss_one (ps_ret (pv 2))))) pss_nil)
      (pss_cons (ps_asg (pe_op op_add (pe_ix ix_list (pv 0) pe_int (fun _ _ => rfl)) pe_int) (pg_sub (pv 0) pe_int set_list))
      (pss_one (ps_ret (pe_op op_mod (pe_op op_fdiv (pe_cal CD hr pass0 (pa_cons (pe_ix ix_list (pv 0) pe_int (fun _ _ => rfl)) (pa_cons (pe_ix ix_list (pv 0) pe_int (fun _ _ => rfl)) pa_nil))) pe_int) (pv 1))))), ?_⟩
    have at0' : ∀ x y : Int, atI [V.int x, V.int y] 0 = some (V.int x) := fun x y => at0 _ _
    have at1' : ∀ x y : Int, atI [V.int x, V.int y] 1 = some (V.int y) := fun x y => by
      have h := atI_nat (xs := [V.int x, V.int y]) (j := 1) (v := V.int y) rfl
      exact h
    have only : ∀ (o : HO), SameX d H (upd H d o) := fun o c u e n => by
      rw [upd_ne n]
      exact e
    have hm : (0 : Int) < m := by omega
    have hb200 : m.natAbs < 2 ^ 200 := by
      have e : (2 : Nat) ^ 200 = 1606938044258990275541962092341162602522202993782792835301376 := by decide +kernel
      rw [e]
      omega
    refine ⟨_, rfl, d, _, _, _, rfl, rfl, SqL.of hd, at0' a b, _, _, rfl, rfl, ⟨by decide, by decide, by decide⟩, _, _, rfl, rfl, _, rfl, ?_⟩
    refine ite2 (fun _ => ?_) (fun _ => ?_)
    · refine ⟨_, rfl, d, _, _, _, rfl, rfl, SqL.of hd, at0' a b, _, rfl, _, _, rfl, rfl, hm, ?_⟩
      refine ⟨_, rfl, d, _, _, _, rfl, rfl, SqL.of hd, at0' a b, _, rfl, _, _, rfl, rfl, wide_div hm (b := 200) hb200 (by decide) (by decide), ?_⟩
      refine ⟨_, rfl, d, _, _, 0, rfl, rfl, hd, rfl, ?_⟩
      exact ⟨_, rfl, q _ _ (Int.emod_nonneg _ (Int.ne_of_gt hm)) (Int.emod_lt_of_pos _ hm) ⟨_, _, upd_same⟩ (only _)⟩
    · refine ⟨_, rfl, d, _, _, _, rfl, rfl, SqL.of hd, at1' a b, _, _, rfl, rfl, ?_⟩
      refine ⟨_, rfl, d, _, _, 1, rfl, rfl, hd, rfl, ?_⟩
      have hd2 : upd H d (.lst ([V.int a, V.int b].set 1 (V.int (b + 1)))) d = some (.lst [V.int a, V.int (b + 1)]) := upd_same
      refine ⟨_, rfl, d, _, _, _, rfl, rfl, SqL.of hd2, at0' a (b + 1), _, rfl, d, _, _, _, rfl, rfl, SqL.of hd2, at1' a (b + 1), a, b + 1, rfl, fun r hr0 => ?_⟩
      refine ⟨_, _, rfl, rfl, ⟨by decide, by decide⟩, _, rfl, _, _, rfl, rfl, hm, ?_⟩
      exact q _ _ (Int.emod_nonneg _ (Int.ne_of_gt hm)) (Int.emod_lt_of_pos _ hm) ⟨_, _, upd_same⟩ (only _)
theorem scRest : FnScope ["_law_dice", "_law_by"] ["_law_dice"] (defScope sRest) := ⟨rfl, rfl, rfl, by decide +kernel, rfl, by decide +kernel, by decide +kernel⟩
theorem ok_rest {f : Addr} {fd : FuncData} (F : Fun K "_law_rest" "_law_rest" sRest f fd) (CR : Cal P w K mg base CX0 2 "_law_roll" ["_law_dice", "_law_many"] spRoll) : FnOk P w K mg base CX0 3 f fd ["_law_dice"] spRest := by
  refine F.ok scRest (fun vs H Q E h => ?_) (fun cdv A outer s H vs Q E hr h => ?_)
  · obtain ⟨a, rfl, _⟩ := h
    rfl
  · obtain ⟨d, rfl, hd, q⟩ := h
    have nd := scRest.nd
    refine ⟨_, pss_cons (ps_set (i := 1) nd rfl (Or.inl rfl) (pe_op op_add pe_int (pe_cal CR hr pass0 (pa_cons (pv 0) (pa_cons pe_int pa_nil)))))
      (pss_one (ps_ret (pe_tup (pa_cons (pv 1) (pa_cons (pe_cal CR hr pass0 (pa_cons (pv 0) (pa_cons (pv 1) pa_nil))) pa_nil))))), ?_⟩
    refine ⟨_, rfl, d, 2, rfl, hd, by decide, by decide, fun r H1 r0 r1 d1 s1 => ⟨_, _, rfl, rfl, ?_⟩⟩
    refine ⟨_, rfl, _, rfl, _, rfl, d, 2 + r, rfl, d1, by omega, by omega, fun r2 H2 r3 r4 d2 s2 => ⟨(by show 2 ≤ sizeLine; decide), fun t nt => ?_⟩⟩
    have nt' : t ≠ d := (d2.ne nt).symm
    have s3 := s1.trans s2
    exact q t (2 + r) r2 _ (by omega) r3 r4 (by obtain ⟨x, y, e⟩ := d2; exact ⟨x, y, by rw [upd_ne (Ne.symm nt')]; exact e⟩) (s3.upd nt) (s3.free nt' nt) upd_same
end
end FC
set_option Elab.async false
set_option linter.all false
set_option maxRecDepth 100000
set_option maxHeartbeats 4000000
namespace FC
open PySem L2
def spRounds (K : PySem.W.Frag) : Sp := fun vs H Q _ => ∃ (a : Addr) (ns : List Int), vs = [.ref a, .int 4] ∧ SqL K H a (ns.map V.int) ∧ ns.length ≤ 63 ∧
  ∀ (t : Addr) (ds : List Addr) H', Same H H' → ds.length ≤ 4 → H' t = some (.lst (ds.map V.ref)) → (∀ d ∈ ds, Dice H' d ∧ H d = none) → H t = none → Q (.ref t) H'
section
variable {P : Program} {w : World} {K : PySem.W.Frag} {mg : Str → Option Value} {base : Heap}
theorem scRounds : FnScope ["_law_script", "_law_most", "_law_k"] ["_law_script", "_law_most"] (defScope sRounds) := ⟨rfl, rfl, rfl, by decide +kernel, rfl, by decide +kernel, by decide +kernel⟩
theorem ok_rounds {f : Addr} {fd : FuncData} (F : Fun K "_law_rounds" "_law_rounds" sRounds f fd) (T : Blt mg) (CC : Cal P w K mg base CX0 1 "_law_cell" ["_law_script", "_law_k"] (spCellL K)) : FnOk P w K mg base CX0 2 f fd ["_law_script", "_law_most"] (spRounds K) := by
  refine F.ok scRounds (fun vs H Q E h => ?_) (fun cdv A outer s H vs Q E hr h => ?_)
  · obtain ⟨a, k, rfl, _⟩ := h
    rfl
  · obtain ⟨a, ns, rfl, ha, hl, q⟩ := h
    have nd := scRounds.nd
    refine ⟨_, pss_one (ps_ret (pe_lc (own := [("_law_k", 2)]) (g := gName 2) (by rfl) nd
      (pi_range1 (by rfl) T.range (pa_cons (pe_callB (call_max2 rfl) (by rfl) T.max (by decide +kernel) (pa_cons pe_int (pa_cons (pe_callB (call_min2 rfl) (by rfl) T.min (by decide +kernel) (pa_cons (pv 1) (pa_cons (pe_callB call_len (by rfl) T.len PySem.boot_len (pa_cons (pv 0) pa_nil)) pa_nil))) pa_nil))) pa_nil))
      (blkOk_by (own := [("_law_k", 2)]) (N := ["_law_script", "_law_most", "_law_k"]) (sc := defScope sRounds) (by decide +kernel)) (fun _ _ _ _ _ => pg_name (i := 2) nd rfl (Or.inl rfl))
      (fun _ _ _ _ _ => pts_nil) (fun _ _ _ _ _ => pe_lst (pa_cons (pe_cal CC hr pass0 (pa_cons (pv 0) (pa_cons (pv 2) pa_nil))) (pa_cons pe_int pa_nil))))), ?_⟩
    have hN : ∃ N : Nat, (if (if (ns.length : Int) < 4 then (ns.length : Int) else 4) > 1 then (if (ns.length : Int) < 4 then (ns.length : Int) else 4) else 1) = (N : Int) ∧ N ≤ 4 := by
      by_cases h1 : (ns.length : Int) < 4
      · rw [if_pos h1]
        by_cases h2 : (ns.length : Int) > 1
        · rw [if_pos h2]
          exact ⟨ns.length, rfl, by omega⟩
        · rw [if_neg h2]
          exact ⟨1, rfl, by decide⟩
      · rw [if_neg h1]
        exact ⟨4, by decide, by decide⟩
    obtain ⟨N, eN, hN⟩ := hN
    have eL : ((ns.map V.int).length : Int) = (ns.length : Int) := by rw [List.length_map]
    refine ⟨_, rfl, _, rfl, _, (ns.map V.int).length, rfl, .inl ⟨_, ha, rfl⟩, _, _, rfl, _, _, rfl, (N : Int), ?_, by omega, by omega, fun D nD => ?_⟩
    · rw [eL, eN]
    have s1 := same_upd (o := .lst []) (Same.refl H) nD
    have eT : ((N : Int)).toNat = N := by omega
    rw [eT]
    refine lc_range (lo := 0) (n := N) (fun j H3 => ∃ ds : List Addr, ds.length = j ∧ H3 D = some (.lst (ds.map V.ref)) ∧ Same H H3 ∧ ∀ d ∈ ds, Dice H3 d ∧ H d = none ∧ d ≠ D)
      ⟨[], rfl, upd_same, s1, fun d hd => by simp at hd⟩ ?_ ?_
    · rintro j H3 hj ⟨ds, hds, hD, s3, each⟩
      refine ⟨rfl, ?_⟩
      have nDH : ∀ b o, H b = some o → b ≠ D := fun b o e => ne_of_none e nD
      refine ⟨_, rfl, _, rfl, a, ns, _, rfl, Same.seq s3 ha, hl, fun n H4 s4 => ⟨(by show 2 ≤ sizeLine; decide), fun d nd' => ⟨ds.map V.ref, ?_, ?_, ds ++ [d], ?_, ?_, ?_, ?_⟩⟩⟩
      · have h4 := s4 _ _ hD
        rw [upd_ne (ne_of_none h4 nd')]
        exact h4
      · rw [List.length_map]
        exact small1000 (by omega)
      · rw [List.length_append, hds]
        rfl
      · rw [upd_same, List.map_append]
        rfl
      · intro b o e
        have e4 := s4 _ _ (s3 b o e)
        rw [upd_ne (nDH b o e), upd_ne (ne_of_none e4 nd')]
        exact e4
      · intro c hc
        have dD : d ≠ D := fun z => by
          have h4 := s4 _ _ hD
          rw [← z, nd'] at h4
          cases h4
        rcases List.mem_append.mp hc with z | z
        · obtain ⟨⟨x, y, e1⟩, e2, e3⟩ := each c z
          have e4 := s4 _ _ e1
          refine ⟨⟨x, y, ?_⟩, e2, e3⟩
          rw [upd_ne e3, upd_ne (ne_of_none e4 nd')]
          exact e4
        · rw [List.mem_singleton.mp z]
          refine ⟨⟨n, 0, ?_⟩, ?_, dD⟩
          · rw [upd_ne dD]
            exact upd_same
          · exact Same.free (Same.trans s3 s4) nd'
    · rintro H3 ⟨ds, hds, hD, s3, each⟩
      exact q D ds H3 s3 (by omega) hD (fun d hd => ⟨(each d hd).1, (each d hd).2.1⟩) nD
end
end FC
set_option Elab.async false
set_option linter.all false
set_option maxRecDepth 100000
set_option maxHeartbeats 4000000
namespace FC
open PySem L2
def strInt : V → Bool
  | .str _ => true
  | .int _ => true
  | _ => false
theorem strInt_nice {K : PySem.W.Frag} {H : Hp} {y : V} (h : strInt y = true) : Nice K H y := by
  cases y <;> first | exact Nice.str _ | exact Nice.int _ | cases h
/-- a drawn step: a tuple of a name and numbers, new -/
def spStepL : Sp := fun vs H Q _ => ∃ d : Addr, vs = [.ref d] ∧ Dice H d ∧ ∀ (t : Addr) (ys : List V) H', ys.length ≤ 10 → (∀ y ∈ ys, strInt y = true) → Dice H' d → SameX d H H' → H' t = some (.tup ys) → Q (.ref t) H'
def kindsL : List Str := ["line", "sums", "gaps", "anew", "keep", "turn", "every", "groups", "count", "twice", "line", "sums"]
section
variable {P : Program} {w : World} {K : PySem.W.Frag} {mg : Str → Option Value} {base : Heap}
theorem scStep : FnScope ["_law_dice", "_law_kinds", "_law_kind", "_law_factor", "_law_more"] ["_law_dice"] (defScope sStep) := ⟨rfl, rfl, rfl, by decide +kernel, rfl, by decide +kernel, by decide +kernel⟩
theorem ok_step {f : Addr} {fd : FuncData} (F : Fun K "_law_step" "_law_step" sStep f fd) (CR : Cal P w K mg base CX0 2 "_law_roll" ["_law_dice", "_law_many"] spRoll) (CT : Cal P w K mg base CX0 3 "_law_rest" ["_law_dice"] spRest) : FnOk P w K mg base CX0 4 f fd ["_law_dice"] spStepL := by
  refine F.ok scStep (fun vs H Q E h => ?_) (fun cdv A outer s H vs Q E hr h => ?_)
  · obtain ⟨a, rfl, _⟩ := h
    rfl
  · obtain ⟨d, rfl, hd, q⟩ := h
    have nd := scStep.nd
    have hr2 : Room 2 _ := hr.mono (by decide)
    refine ⟨_, pss_cons (ps_set (i := 1) nd rfl (Or.inl rfl) (pe_lst (pa_cons pe_str (pa_cons pe_str (pa_cons pe_str (pa_cons pe_str (pa_cons pe_str (pa_cons pe_str (pa_cons pe_str (pa_cons pe_str (pa_cons pe_str (pa_cons pe_str (pa_cons pe_str (pa_cons pe_str pa_nil))))))))))))))
      (pss_cons (ps_set (i := 2) nd rfl (Or.inl rfl) (pe_ix ix_list (pv 1) (pe_cal CR hr2 pass0 (pa_cons (pv 0) (pa_cons pe_int pa_nil))) (fun _ _ => rfl)))
      (pss_cons (ps_if (pt_cmpR op_in_seq (pv 2) (pe_tup (pa_cons pe_str (pa_cons pe_str (pa_cons pe_str (pa_cons pe_str pa_nil))))) rfl) (pss_one (ps_ret (pe_tup (pa_cons (pv 2) pa_nil)))) pss_nil)
      (pss_cons (ps_if (pt_cmpR op_eq (pv 2) pe_str (nomark _)) (pss_one (ps_ret (pe_tup (pa_cons (pv 2) (pa_cons (pe_op op_add pe_int (pe_cal CR hr2 pass0 (pa_cons (pv 0) (pa_cons pe_int pa_nil)))) pa_nil))))) pss_nil)
      (pss_cons (ps_par (i := 3) (j := 4) (by rfl) nd rfl rfl (by decide) rfl rfl (pa_cons (pe_ix ix_list (pe_lst (pa_cons pe_int (pa_cons (pe_un un_neg pe_int) (pa_cons pe_int (pa_cons pe_int (pa_cons pe_int (pa_cons pe_int pa_nil))))))) (pe_cal CR hr2 pass0 (pa_cons (pv 0) (pa_cons pe_int pa_nil))) (fun _ _ => rfl))
          (pa_cons (pe_op op_sub (pe_cal CR hr2 pass0 (pa_cons (pv 0) (pa_cons pe_int pa_nil))) pe_int) pa_nil)) (by rfl))
      (pss_cons (ps_if (pt_cmpR op_eq (pv 2) pe_str (nomark _)) (pss_one (ps_ret (pe_tup (pa_cons (pv 2) (pa_cons (pv 3) (pa_cons (pv 4) pa_nil)))))) pss_nil)
      (pss_cons (ps_if (pt_cmpR op_eq (pv 2) pe_str (nomark _)) (pss_one (ps_ret (pe_op op_catT (pe_op op_catT (pe_tup (pa_cons (pv 2) pa_nil)) (pe_cal CT hr pass0 (pa_cons (pv 0) pa_nil))) (pe_tup (pa_cons (pv 3) (pa_cons (pv 4) pa_nil)))))) pss_nil)
      (pss_one (ps_ret (pe_op op_catT (pe_tup (pa_cons (pv 2) pa_nil)) (pe_cal CT hr pass0 (pa_cons (pv 0) pa_nil))))))))))), ?_⟩
    -- the kinds
    refine ⟨(by show 12 ≤ sizeLine; decide), fun p np => ?_⟩
    have hp1 : upd H p (.lst (kindsL.map V.str)) p = some (.lst (kindsL.map V.str)) := upd_same
    have s1 : Same H (upd H p (.lst (kindsL.map V.str))) := same_upd (Same.refl H) np
    have npd : p ≠ d := (hd.ne np).symm
    have d1 := hd.same s1
    show (tSeq _ _) _ _ (upd H p (.lst (kindsL.map V.str)))
    generalize upd H p (.lst (kindsL.map V.str)) = H1 at hp1 s1 d1 ⊢
    refine ⟨_, rfl, _, rfl, d, 12, rfl, d1, by decide, by decide, fun r H2 r0 r1 d2 s2 => ?_⟩
    obtain ⟨j, rfl⟩ := Int.eq_ofNat_of_zero_le r0
    have hj : j < kindsL.length := by
      show j < 12
      omega
    have hk : (kindsL.map V.str)[j]? = some (V.str kindsL[j]) := by rw [List.getElem?_map, List.getElem?_eq_getElem hj]; rfl
    have hp2 := s2 _ _ hp1 npd
    refine ⟨p, _, _, .str kindsL[j], rfl, rfl, SqL.of hp2, atI_nat hk, ?_⟩
    have s2' : SameX d H H2 := (SameX.of s1).trans s2
    generalize kindsL[j] = z at *
    have two : ∀ n : Nat, n ≤ 10 → n ≤ sizeLine := fun n h => Nat.le_trans h (by decide)
    have keepD : ∀ {H' : Hp} {t : Addr} {o : HO}, Dice H' d → H' t = none → Dice (upd H' t o) d := fun {H' t o} h n => by
      obtain ⟨x, y, e⟩ := h
      exact ⟨x, y, by rw [upd_ne (ne_of_none e n)]; exact e⟩
    -- a lone name
    refine ⟨_, rfl, two 4 (by decide), fun t nt => ⟨t, _, rfl, .inr (SqT.of upd_same), rfl, by decide, _, rfl, ?_⟩⟩
    have d3 := keepD (o := .tup [.str "sums", .str "gaps", .str "count", .str "twice"]) d2 nt
    have s3 := s2'.upd (o := .tup [.str "sums", .str "gaps", .str "count", .str "twice"]) nt
    show if inV _ _ = true then tRet _ _ _ (upd H2 t (.tup [.str "sums", .str "gaps", .str "count", .str "twice"])) else tNext _ _ (upd H2 t (.tup [.str "sums", .str "gaps", .str "count", .str "twice"]))
    generalize upd H2 t (.tup [.str "sums", .str "gaps", .str "count", .str "twice"]) = H3 at d3 s3 ⊢
    refine ite2 (fun _ => ?_) (fun _ => ?_)
    · refine ⟨_, rfl, two 1 (by decide), fun b nb => ?_⟩
      exact q b [.str z] _ (by show 1 ≤ 10; decide) (by intro y hy; rw [List.mem_singleton.mp hy]; rfl) (keepD d3 nb) (s3.upd nb) upd_same
    -- groups
    refine ⟨_, rfl, rfl, _, rfl, ?_⟩
    refine ite2 (fun _ => ?_) (fun _ => ?_)
    · refine ⟨_, rfl, _, rfl, d, 2, rfl, d3, by decide, by decide, fun r H4 r0 r1 d4 s4 => ⟨_, _, rfl, rfl, two 2 (by decide), fun b nb => ?_⟩⟩
      refine q b [.str z, .int (2 + r)] _ (by show 2 ≤ 10; decide) ?_ (keepD d4 nb) ((s3.trans s4).upd nb) upd_same
      intro y hy
      simp only [List.mem_cons, List.not_mem_nil, or_false] at hy
      rcases hy with rfl | rfl <;> rfl
    -- factor, more
    refine ⟨_, rfl, two 6 (by decide), fun l nl => ?_⟩
    have d4 := keepD (o := .lst ([1, -1, 2, 0, 3, 1].map V.int)) d3 nl
    have s4 := s3.upd (o := .lst ([1, -1, 2, 0, 3, 1].map V.int)) nl
    have hl : upd H3 l (.lst ([1, -1, 2, 0, 3, 1].map V.int)) l = some (.lst ([1, -1, 2, 0, 3, 1].map V.int)) := upd_same
    have nld : l ≠ d := (d3.ne nl).symm
    refine ⟨_, rfl, d, 6, rfl, d4, by decide, by decide, fun r H5 r0 r1 d5 s5 => ?_⟩
    obtain ⟨i, rfl⟩ := Int.eq_ofNat_of_zero_le r0
    have hi : i < ([1, -1, 2, 0, 3, 1] : List Int).length := by
      show i < 6
      omega
    have hm : (([1, -1, 2, 0, 3, 1] : List Int).map V.int)[i]? = some (V.int (([1, -1, 2, 0, 3, 1] : List Int)[i])) := by rw [List.getElem?_map, List.getElem?_eq_getElem hi]; rfl
    have hl5 := s5 _ _ hl nld
    refine ⟨l, _, _, _, rfl, rfl, SqL.of hl5, atI_nat hm, ?_⟩
    generalize ([1, -1, 2, 0, 3, 1] : List Int)[i] = x
    refine ⟨_, rfl, d, 7, rfl, d5, by decide, by decide, fun r2 H6 _ _ d6 s6 => ⟨_, _, rfl, rfl, _, _, rfl, ?_⟩⟩
    have sX : SameX d H H6 := (s4.trans s5).trans s6
    clear hl hl5 hm s4 s5 s6 d3 d4 d5 s3
    -- line
    refine ⟨_, rfl, rfl, _, rfl, ?_⟩
    refine ite2 (fun _ => ?_) (fun _ => ?_)
    · refine ⟨_, rfl, _, rfl, _, rfl, two 3 (by decide), fun b nb => ?_⟩
      refine q b [.str z, .int x, .int (r2 - 3)] _ (by show 3 ≤ 10; decide) ?_ (keepD d6 nb) (sX.upd nb) upd_same
      intro y hy
      simp only [List.mem_cons, List.not_mem_nil, or_false] at hy
      rcases hy with rfl | rfl | rfl <;> rfl
    -- turn
    refine ⟨_, rfl, rfl, _, rfl, ?_⟩
    refine ite2 (fun _ => ?_) (fun _ => ?_)
    · refine ⟨_, rfl, two 1 (by decide), fun b nb => ?_⟩
      have d7 := keepD (o := .tup [.str z]) d6 nb
      have s7 := sX.upd (o := .tup [.str z]) nb
      have hb7 : upd H6 b (.tup [.str z]) b = some (.tup [.str z]) := upd_same
      have nbd : b ≠ d := (d6.ne nb).symm
      refine ⟨_, rfl, d, rfl, d7, fun t m r H8 _ _ _ d8 s8 _ ht => ?_⟩
      have hb8 := s8 _ _ hb7 nbd
      refine ⟨b, t, _, _, rfl, rfl, SqT.of hb8, SqT.of ht, by simp, two 3 (by decide), (fun z => by cases z), fun _ c nc => ?_⟩
      have d9 := keepD (o := .tup ([V.str z] ++ [V.int m, V.int r])) d8 nc
      have s9 := (s7.trans s8).upd (o := .tup ([V.str z] ++ [V.int m, V.int r])) nc
      have hc9 : upd H8 c (.tup ([V.str z] ++ [V.int m, V.int r])) c = some (.tup [.str z, .int m, .int r]) := upd_same
      refine ⟨_, rfl, _, rfl, two 2 (by decide), fun e ne => ?_⟩
      refine ⟨c, e, _, _, rfl, rfl, SqT.of ((upd_ne (ne_of_none hc9 ne)).trans hc9), SqT.of upd_same, by simp, two 5 (by decide), (fun z => by cases z), fun _ g ng => ?_⟩
      refine q g [.str z, .int m, .int r, .int x, .int (r2 - 3)] _ (by show 5 ≤ 10; decide) ?_ (keepD (keepD d9 ne) ng) ((s9.upd ne).upd ng) upd_same
      intro y hy
      simp only [List.mem_cons, List.not_mem_nil, or_false] at hy
      rcases hy with rfl | rfl | rfl | rfl | rfl <;> rfl
    -- the others
    · refine ⟨_, rfl, two 1 (by decide), fun b nb => ?_⟩
      have d7 := keepD (o := .tup [.str z]) d6 nb
      have s7 := sX.upd (o := .tup [.str z]) nb
      have hb7 : upd H6 b (.tup [.str z]) b = some (.tup [.str z]) := upd_same
      have nbd : b ≠ d := (d6.ne nb).symm
      refine ⟨_, rfl, d, rfl, d7, fun t m r H8 _ _ _ d8 s8 _ ht => ?_⟩
      have hb8 := s8 _ _ hb7 nbd
      refine ⟨b, t, _, _, rfl, rfl, SqT.of hb8, SqT.of ht, by simp, two 3 (by decide), (fun z => by cases z), fun _ c nc => ?_⟩
      refine q c [.str z, .int m, .int r] _ (by show 3 ≤ 10; decide) ?_ (keepD d8 nc) ((s7.trans s8).upd nc) upd_same
      intro y hy
      simp only [List.mem_cons, List.not_mem_nil, or_false] at hy
      rcases hy with rfl | rfl | rfl <;> rfl
end
end FC
set_option Elab.async false
set_option linter.all false
set_option maxRecDepth 100000
set_option maxHeartbeats 4000000
namespace FC
open PySem L2
theorem sqt_sameX {K : PySem.W.Frag} {H H' : Hp} {a d : Addr} {xs : List V} (h : SqT K H a xs) (hd : Dice H d) (s : SameX d H H') : SqT K H' a xs := by
  obtain ⟨x, y, e⟩ := hd
  rcases h with (h | ⟨o, h⟩) | h
  · exact .inl (.inl (s _ _ h (ne_of h e (by intro z; cases z))))
  · exact .inl (.inr ⟨o, s _ _ h (ne_of h e (by intro z; cases z))⟩)
  · exact .inr h
theorem stepOk_strInt {ys : List V} (h : stepOk ys = true) : ∀ y ∈ ys, strInt y = true := by
  obtain ⟨name, ns, rfl, _⟩ := stepOk_shape h
  intro y hy
  rcases List.mem_cons.mp hy with z | z
  · rw [z]
    rfl
  · obtain ⟨n, _, rfl⟩ := List.mem_map.mp z
    rfl
theorem chainAt_sameX {K : PySem.W.Frag} {H H' : Hp} {a d : Addr} {cs : List (List V)} (h : ChainAt K H a cs) (hc : chainOk cs = true) (hd : Dice H d) (s : SameX d H H') : ChainAt K H' a cs := by
  obtain ⟨xs, h1, h2⟩ := h
  refine ⟨xs, sqt_sameX h1 hd s, h2.len, fun i x o hx ho => ?_⟩
  have hi := get_lt ho
  rw [List.length_map] at hi
  have e : (cs.map some)[i]? = some (some cs[i]) := by rw [List.getElem?_map, List.getElem?_eq_getElem hi]; rfl
  rw [e] at ho
  have ho : some cs[i] = o := Option.some.inj ho
  subst ho
  obtain ⟨b, e1, e2, _⟩ := h2.at_ i x _ hx e
  exact ⟨b, e1, sqt_sameX e2 hd s, fun y hy => strInt_nice (stepOk_strInt (chainOk_steps hc _ (List.getElem_mem hi)) y hy)⟩
theorem Steps.snoc {K : PySem.W.Frag} {H : Hp} {xs : List V} {os : List (Option (List V))} {x : V} {o : Option (List V)} (h : Steps K H xs os) (hx : StepV K H x o) : Steps K H (xs ++ [x]) (os ++ [o]) := by
  refine ⟨by rw [List.length_append, List.length_append, h.len]; rfl, fun i y p hy hp => ?_⟩
  by_cases hi : i < xs.length
  · rw [List.getElem?_append_left hi] at hy
    rw [List.getElem?_append_left (by rw [← h.len]; exact hi)] at hp
    exact h.at_ i y p hy hp
  · have hi2 := get_lt hy
    rw [List.length_append] at hi2
    have hi2 : i < xs.length + 1 := hi2
    have ei : i = xs.length := by omega
    subst ei
    rw [List.getElem?_append_right (Nat.le_refl _), Nat.sub_self] at hy
    rw [h.len, List.getElem?_append_right (Nat.le_refl _), Nat.sub_self] at hp
    have hy : x = y := Option.some.inj hy
    have hp : o = p := Option.some.inj hp
    rw [← hy, ← hp]
    exact hx
/-- a drawn chain -/
def spChainL (K : PySem.W.Frag) : Sp := fun vs H Q _ => ∃ d : Addr, vs = [.ref d, .int 4] ∧ Dice H d ∧ ∀ (a : Addr) (cs : List (List V)) H', chainOk cs = true → ChainAt K H' a cs → Dice H' d → SameX d H H' → Q (.ref a) H'
section
variable {P : Program} {w : World} {K : PySem.W.Frag} {mg : Str → Option Value} {base : Heap}
theorem scChain : FnScope ["_law_dice", "_law_most", "_law_found", "_law_turn", "_law_more"] ["_law_dice", "_law_most"] (defScope sChain) := ⟨rfl, rfl, rfl, by decide +kernel, rfl, by decide +kernel, by decide +kernel⟩
theorem ok_chain {f : Addr} {fd : FuncData} (F : Fun K "_law_chain" "_law_chain" sChain f fd) (T : Blt mg) (CR : Cal P w K mg base CX0 2 "_law_roll" ["_law_dice", "_law_many"] spRoll) (CS : Cal P w K mg base CX0 4 "_law_step" ["_law_dice"] spStepL)
    (CC : Cal P w K mg base CX0 4 "is_chain" ["value"] (spIsChain K)) : FnOk P w K mg base CX0 5 f fd ["_law_dice", "_law_most"] (spChainL K) := by
  refine F.ok scChain (fun vs H Q E h => ?_) (fun cdv A outer s H vs Q E hr h => ?_)
  · obtain ⟨a, rfl, _⟩ := h
    rfl
  · obtain ⟨d, rfl, hd, q⟩ := h
    have nd := scChain.nd
    have hr2 : Room 2 _ := hr.mono (by decide)
    refine ⟨_, pss_cons (ps_set (i := 2) nd rfl (Or.inl rfl) (pe_tup pa_nil))
      (pss_cons (ps_for PassesOwn.never rfl (pi_range1 (by rfl) T.range (pa_cons (pe_cal CR hr2 pass0 (pa_cons (pv 0) (pa_cons (pe_op op_add (pv 1) pe_int) pa_nil))) pa_nil)) (pg_name (i := 3) nd rfl (Or.inl rfl))
        (pss_cons (ps_set (i := 4) nd rfl (Or.inl rfl) (pe_op op_catA (pv 2) (pe_tup (pa_cons (pe_cal CS hr pass0 (pa_cons (pv 0) pa_nil)) pa_nil))))
        (pss_one (ps_set (i := 2) nd rfl (Or.inl rfl) (pe_ifExp (pt_val (pe_cal CC hr pass0 (pa_cons (pv 4) pa_nil))) (pv 4) (pv 2))))))
      (pss_one (ps_ret (pv 2)))), ?_⟩
    have keepD : ∀ {H' : Hp} {t : Addr} {o : HO}, Dice H' d → H' t = none → Dice (upd H' t o) d := fun {H' t o} h n => by
      obtain ⟨x, y, e⟩ := h
      exact ⟨x, y, by rw [upd_ne (ne_of_none e n)]; exact e⟩
    refine ⟨(by show 0 ≤ sizeLine; decide), fun p np => ?_⟩
    have d1 := keepD (o := .tup []) hd np
    have s1 := (SameX.refl d H).upd (o := .tup []) np
    have c1 : ChainAt K (upd H p (.tup [])) p [] := ⟨[], SqT.of upd_same, rfl, fun i x o hx _ => by simp at hx⟩
    generalize upd H p (.tup []) = H1 at d1 s1 c1 ⊢
    refine ⟨_, rfl, _, rfl, _, _, rfl, rfl, d, 5, rfl, d1, by decide, by decide, fun r H2 r0 r1 d2 s2 => ?_⟩
    have c2 := chainAt_sameX c1 (by rfl) d1 s2
    have s2' := s1.trans s2
    clear c1 d1 s1 s2
    refine ⟨r, rfl, by omega, by omega, for_range (lo := 0) (n := r.toNat) (fun i σ H3 => ∃ (a : Addr) (cs : List (List V)) (v3 v4 : Option V), σ = [some (.ref d), some (.int 4), some (.ref a), v3, v4] ∧ chainOk cs = true ∧ ChainAt K H3 a cs ∧ Dice H3 d ∧ SameX d H H3)
      ⟨p, [], none, none, rfl, rfl, c2, d2, s2'⟩ ?_ ?_⟩
    · rintro i σ H3 hi ⟨a, cs, v3, v4, rfl, hc, hca, d3, s3⟩
      -- found + (a step,)
      refine ⟨_, rfl, _, rfl, d, rfl, d3, fun t ys H4 hy1 hy2 d4 s4 ht => ⟨(by show 1 ≤ sizeLine; decide), fun b nb => ?_⟩⟩
      have hca4 := chainAt_sameX hca hc d3 s4
      have s5 : Same H4 (upd H4 b (.tup [.ref t])) := same_upd (Same.refl H4) nb
      obtain ⟨xs, hxs, hst⟩ := hca4.same s5
      have hl := chainOk_len hc
      have hlx : xs.length ≤ 4 := by
        rw [hst.len, List.length_map]
        exact hl
      have d5 := keepD (o := .tup [.ref t]) d4 nb
      have ht5 : upd H4 b (.tup [.ref t]) t = some (.tup ys) := s5 _ _ ht
      have sX : SameX d H (upd H4 b (.tup [.ref t])) := (s3.trans s4).upd nb
      have hb5 : upd H4 b (.tup [.ref t]) b = some (.tup [.ref t]) := upd_same
      have stv : ∀ {H' : Hp}, Same (upd H4 b (.tup [.ref t])) H' → StepV K H' (.ref t) (some ys) := fun {H'} s => ⟨t, rfl, SqT.of (s _ _ ht5), fun y hy => strInt_nice (hy2 y hy)⟩
      -- what follows, for the longer tuple at m
      have fin : ∀ (D : Ends) (m : Addr) (H6 : Hp), Same (upd H4 b (.tup [.ref t])) H6 → ChainAt K H6 m (cs ++ [ys]) → Dice H6 d → SameX d H H6 →
          (∀ (a' : Addr) (cs' : List (List V)) (H7 : Hp), chainOk cs' = true → ChainAt K H7 a' cs' → Dice H7 d → SameX d H H7 → D.nx [some (.ref d), some (.int 4), some (.ref a'), some (.int (0 + i)), some (.ref m)] H7) →
          tAsg (tIf (tB (tCal (spIsChain K) E0 (tCons (tVar 4) tNil))) (tVar 4) (tVar 2)) (gName 2) D [some (.ref d), some (.int 4), some (.ref a), some (.int (0 + i)), some (.ref m)] H6 := by
        intro D m H6 s6 cm d6 sX6 go
        have cm' := cm.v
        refine ⟨_, rfl, .ref m, _, rfl, cm', fun H7 s7 => ⟨_, rfl, ?_⟩⟩
        show if chainOkL ((cs ++ [ys]).map some) = true then _ else _
        rw [chainOkL_some]
        refine ite2 (fun hok => ?_) (fun _ => ?_)
        · exact ⟨_, rfl, go m (cs ++ [ys]) H7 hok (cm.same s7) (d6.same s7) (sX6.trans (SameX.of s7))⟩
        · exact ⟨_, rfl, go a cs H7 hc ((hca4.same (Same.trans s5 s6)).same s7) (d6.same s7) (sX6.trans (SameX.of s7))⟩
      refine ⟨a, b, xs, [.ref t], rfl, rfl, hxs, SqT.of hb5, ?_, fun e => ?_, fun _ e => by simp at e, fun hx _ m nm => ?_⟩
      · show xs.length + 1 ≤ sizeLine
        exact Nat.le_of_lt (small1000 (by omega))
      · subst e
        refine fin _ b _ (Same.refl _) ⟨[.ref t], SqT.of hb5, ?_⟩ d5 sX (fun a' cs' H7 h1 h2 h3 h4 => ⟨a', cs', _, _, rfl, h1, h2, h3, h4⟩)
        have e0 : cs = [] := by
          have := hst.len
          rw [List.length_map] at this
          exact List.length_eq_zero_iff.mp this.symm
        subst e0
        exact Steps.snoc (xs := []) (os := []) hst (stv (Same.refl _))
      · have s6 := same_upd (o := .tup (xs ++ [.ref t])) (Same.refl (upd H4 b (.tup [.ref t]))) nm
        refine fin _ m _ s6 ⟨_, SqT.of upd_same, ?_⟩ (keepD d5 nm) (sX.upd nm) (fun a' cs' H7 h1 h2 h3 h4 => ⟨a', cs', _, _, rfl, h1, h2, h3, h4⟩)
        rw [List.map_append]
        exact (hst.same s6).snoc (stv s6)
    · rintro σ H3 ⟨a, cs, v3, v4, rfl, hc, hca, d3, s3⟩
      exact ⟨_, rfl, q a cs H3 hc hca d3 s3⟩
end
end FC
set_option Elab.async false
set_option linter.all false
set_option maxRecDepth 100000
set_option maxHeartbeats 4000000
/-! While an exception is handled: a list's iterator at its end, sums, a comprehension of numbers of truth values, isinstance of the exception itself. -/
namespace FC
open PySem PySem.Spec PyProof.Rows L2
section
variable {prog : Program} {w : World} {A : Around} {E : Value → Shared → Prop} {s : Shared}
/-- the iterator has nothing more to give -/
theorem list_out_hot {it l x1 : Addr} {i : Nat} {items : Array Value} {Q : Option Value → Shared → Prop} (hot : HotX.HotAt A x1 s.heap) (apart : x1 ≠ it) (p : s.heap.IsListIter it l i) (q : s.heap.IsList l items) (out : items[i]? = none)
    (go : ∀ h', Heap.ExtBut it s.heap h' → Q none { s with heap := h' }) : wpAny (model prog w) A (pyNext (.ref it)) Q E s := by
  obtain ⟨o, a1, a2, a3⟩ := id p
  obtain ⟨ol, b1, _, n, b3⟩ := q
  obtain ⟨hh, ox, vx, c1, c2, c3⟩ := hot
  unfold pyNext
  refine wpAny_bind (wpAny_attempt (wpAny_callSpecial?_slot (name := Str.ofString "__next__") p.typeIs slot_listiter_next (wpAny_call_entry slot_listiter_next p.typeIs entry_listiter_next ?_ (args_listiter_next _))))
  show wpAny _ _ (field (.ref it) 0 >>= fun _ => _) _ _ s
  refine wpAny_bind (wpAny_field a1 a3 (x := .ref l) rfl ?_)
  show wpAny _ _ (if (Value.ref l == Value.none) = true then _ else _) _ _ s
  rw [if_neg (fun z : (Value.ref l == Value.none) = true => Bool.noConfusion z)]
  show wpAny _ _ (field (.ref it) 1 >>= fun _ => _) _ _ s
  refine wpAny_bind (wpAny_field a1 a3 (x := .int i 0) rfl ?_)
  show wpAny _ _ (seqItems? (.ref l) >>= fun _ => _) _ _ s
  refine wpAny_bind (wpAny_seqItems b1 b3 ?_)
  simp only [Int.toNat_natCast, out]
  refine wpAny_bind (wpAny_rule (wpAny_bind (wpAny_setField a1 a3 (by simp) ?_)))
  show wpAny _ _ (newExc (.type "StopIteration") [] >>= fun _ => _) _ _ _
  refine wpAny_bind ?_
  simp only [newExc, newTuple]
  refine wpAny_bind (wpAny_newObj_type ?_ (by size_fits))
  refine wpAny_bind (m := firstArgMember _ _) (wpAny_of_eq (a := Value.none) (by first | rfl | (simp only [firstArgMember]; rfl)) ?_)
  refine wpAny_newObj_type ?_ (by size_fits)
  have up := fun (b : Addr) (u : Obj) (hb : it ≠ b) (e : s.heap.get? b = some u) => (Heap.get?_update_other s.heap (Obj.mapFields fun x => x.setIfInBounds 0 Value.none) hb).trans e
  refine HotX.raiseNew_hot ⟨hh, ox, vx, Heap.get?_push_of_some _ (Heap.get?_push_of_some _ (up x1 ox apart.symm c1)), c2, c3⟩ (Nat.ne_of_lt (Heap.lt_size (Heap.get?_push_of_some _ (up x1 ox apart.symm c1)))) (Heap.get?_push_size _ rfl) rfl
    (by first | (simp; done) | (simp; omega) | (simp only [Array.size_append]; simp; omega)) ?_
  refine wpAny_bind (wpAny_isInstance (T := "StopIteration") (b := true) ⟨_, Heap.get?_update_self _ (Heap.get?_push_size _ rfl) rfl, rfl⟩ isSubtype_stop ?_)
  refine wpAny_pure (go _ fun b u hb e => ?_)
  have e2 := up b u (fun z => hb z.symm) e
  rw [Heap.get?_update_other _ _ (Nat.ne_of_gt (Heap.lt_size (Heap.get?_push_of_some _ e2)))]
  exact Heap.get?_push_of_some _ (Heap.get?_push_of_some _ e2)
/-- a list's items, one after the other, while the exception at x1 is handled -/
theorem walk_hot {I l x1 : Addr} {items : Array Value} (apart : x1 ≠ I) (other : l ≠ I) :
    Walks prog w A I [I, l, x1] [I] items.size (fun i v => items[i]? = some v) (fun i h => h.IsListIter I l i ∧ h.IsList l items ∧ HotX.HotAt A x1 h) where
  sub := fun b hb => by
    rw [List.mem_singleton.mp hb]
    simp
  frame := fun i h h' st keep => by
    obtain ⟨⟨o, a1, a2, a3⟩, ⟨u, b1, b2⟩, hh, ox, vx, c1, c2⟩ := st
    exact ⟨⟨o, keep I (by simp) o a1, a2, a3⟩, ⟨u, keep l (by simp) u b1, b2⟩, hh, ox, vx, keep x1 (by simp) ox c1, c2⟩
  item := fun i s Q E hi st go => by
    obtain ⟨p, q, hh, ox, vx, c1, c2⟩ := st
    refine wpAny_pyNext_list_item p q (x := items[i]) (by simp [hi]) fun h' p' same => ?_
    exact go _ h' s.toks (by simp [hi]) ⟨p', q.extBut same.extBut other, hh, ox, vx, (same.2 x1 apart).trans c1, c2⟩ fun b o hb e => (same.2 b (fun z => hb (by simp [z]))).trans e
  done := fun s Q E st go => list_out_hot st.2.2 apart st.1 st.2.1 (by simp) fun h' ext => go h' s.toks fun b o hb e => ext b o (fun z => hb (by simp [z])) e
  self := fun _ _ _ _ st go => wpAny_pyIter_listiter st.1 go
theorem hot_fresh {x1 : Addr} {h : Heap} (hot : HotX.HotAt A x1 h) : x1 < h.objs.size := by
  obtain ⟨_, _, _, e, _⟩ := hot
  exact Heap.lt_size e
theorem hot_push {x1 : Addr} {h : Heap} {o : Obj} (hot : HotX.HotAt A x1 h) : HotX.HotAt A x1 (h.push o) := by
  obtain ⟨a, u, v, e, c⟩ := hot
  exact ⟨a, u, v, Heap.get?_push_of_some _ e, c⟩
theorem list_lt {l : Addr} {items : Array Value} {h : Heap} (hl : h.IsList l items) : l < h.objs.size := by
  obtain ⟨_, e, _⟩ := hl
  exact Heap.lt_size e
end
section
variable {X : Cx}
/-- sum of a list of numbers -/
theorem sum_hot (hc : L2H.HotC X) : CallR X (.builtin "sum") (rSum X.K) := by
  intro pins s σ H vs us Q I r h
  obtain ⟨a, ns, rfl, hs, q⟩ := h
  obtain ⟨its, rv, hl, _⟩ := I.list hs
  rw [Vals.ref1 r]
  obtain ⟨x1, hot⟩ := hc.at I
  obtain ⟨xs, e⟩ := rv.ints.allInts.items
  have hn : numsOf (intItems xs).toList = ns := by
    rw [← e]
    exact rv.ints.numsOf
  rw [nums_intItems] at hn
  have hl' := hl.isList
  rw [e] at hl'
  have l1 := hot_fresh hot
  have l2 := list_lt hl'
  refine PySem.call_sum_walkG (wpAny_pyIter_list hl' ?_)
  refine ⟨s.heap.objs.size, [s.heap.objs.size, a, x1], [s.heap.objs.size], _, _, _, numAt xs, rfl, walk_hot (Nat.ne_of_lt l1) (Nat.ne_of_lt l2), ⟨⟨_, Heap.get?_push_size _ rfl, rfl, rfl⟩, hl'.push _, hot_push hot⟩, fun b hb => ?_, fun _ _ => intItems_at, fun h' tk t' keep => ?_⟩
  · show b < (s.heap.push _).objs.size
    rw [Heap.size_push]
    have hb : b = s.heap.objs.size ∨ b = a ∨ b = x1 := by simpa using hb
    rcases hb with z | z | z
    · rw [z]
      exact Nat.lt_succ_self _
    · rw [z]
      exact Nat.lt_succ_of_lt l2
    · rw [z]
      exact Nat.lt_succ_of_lt l1
  · have ev : preSum (numAt xs) (intItems xs).size = ns.sum := by
      have : (intItems xs).size = xs.size := by simp [intItems]
      rw [this, preSum_eq, List.take_of_length_le (by simp), hn]
    rw [ev]
    refine ⟨.int ns.sum, H, I.kept (t' := tk) fun b o e2 => keep b o (fun z => ?_) (Heap.get?_push_of_some _ e2), ⟨_, rfl⟩, q⟩
    rw [List.mem_singleton.mp z] at e2
    exact Nat.lt_irrefl _ (Heap.lt_size e2)
/-- isinstance of the exception that is handled -/
theorem isi_hot {p : Addr × Obj} {D : Addr} (hp : p ∈ X.pn) (C : ExcC X.K D) (hz : Zc (.ref D) none p.2) (hf : ∃ vs, p.2.data = .fields vs) : CallR X (.builtin "isinstance") (rIsE X.K D p.1) := by
  intro pins s σ H xs us Q I r h
  obtain ⟨c, u, b, rfl, hu, e, q⟩ := h
  obtain ⟨u1, u2, rfl, r1, r2⟩ := vals2 r
  cases (show u1 = Value.ref p.1 from r1)
  have e2 := hu _ r2
  subst e2
  have at_ := (I.pin p (List.mem_append_left _ hp)).1
  obtain ⟨vs, hv⟩ := hf
  have J : PySem.W.InstAt s.heap p.1 p.2 D none := by
    obtain ⟨a, oc, od, oda, osl⟩ := p
    obtain ⟨h1, h2⟩ := hz
    dsimp only at h1 h2 hv at_ ⊢
    subst h1 h2 hv
    exact ⟨at_, rfl, rfl, trivial⟩
  exact PySem.W.kia_one (PySem.W.handS_kitx_exc C.hg C.hk C.hs C.hd C.ha C.hn C.ht C.hm) I.kIn J e (fun z => nomatch z) fun tk => ⟨.bl b, H, I.kept (t' := tk) fun _ _ z => z, rfl, q⟩
end
end FC
set_option Elab.async false
set_option linter.all false
set_option maxRecDepth 100000
set_option maxHeartbeats 4000000
namespace FC
open PySem PySem.Spec PyProof.Rows L2
def b01 (b : Bool) : Int := if b then 1 else 0
/-- [int(x) for x in flags], flags in slot i -/
def tInts (K : PySem.W.Frag) (i : Nat) : TE := fun σ H Q => ∃ (a : Addr) (bs : List Bool), σ[i]? = some (some (.ref a)) ∧ SqL K H a (bs.map V.bl) ∧ ∀ D, H D = Option.none → Q (.ref D) (upd H D (.lst ((bs.map b01).map V.int)))
theorem bools_of : ∀ {bs : List Bool} {us : List Value}, Vals (bs.map V.bl) us → us = bs.map Value.bool
  | [], _, .nil => rfl
  | b :: r, _, .cons h t => by
    rw [bools_of (bs := r) t]
    cases h
    rfl
section
variable {X : Cx}
theorem pe_ints_hot {i : Nat} {x y : Str} {scope : Scope} {p1 p2 p3 p4 p5 pos : Pos} (hc : L2H.HotC X) (hi : X.mg "int" = Option.none) (hN : X.N[i]? = some y) (hv : Vis X.env.scope y) (hd : (y == ("__debug__" : Str)) = false) (hcd : (y == ("__classdict__" : Str)) = false)
    (hkind : scope.kind = .function) (hcell : ∀ z ∈ scope.names, z.2 ≠ .cell) (hfree : ∀ z ∈ scope.names, z.2 ≠ .free) (hnames : ∀ z ∈ scope.names, z.2 = .local → scope.names.lookup z.1 = some .local) (hx : scope.names.lookup x = some .local) (hxd : (x == ("__debug__" : Str)) = false)
    (hint : ∀ C cl, (compEnvC scope cl C X.env).kindOf "int" = some .globalImplicit) (hxl : ∀ C cl, (compEnvC scope cl C X.env).kindOf x = some .local)
    (hst : ∀ C cl, starEach [.Name x p2] (compEnvC scope cl C X.env) = (false, eval (.Name x p2) (compEnvC scope cl C X.env)) :: starEach [] (compEnvC scope cl C X.env)) :
    PE X (.ListComp (.Call (.Name "int" p1) [.Name x p2] [] p3) [⟨.Name x p4, .Name y p5, [], 0⟩] scope pos) (tInts X.K i) := by
  refine ⟨fun pins s σ H Q I h => ?_⟩
  obtain ⟨a, bs, hs, ha, q⟩ := h
  obtain ⟨its, rv, hl, hz⟩ := I.list ha
  have eits := bools_of rv
  obtain ⟨x1, hot⟩ := hc.at I
  have l1 := hot_fresh hot
  have l2 := list_lt hl.isList
  have noF : ∀ z ∈ scope.names, z.2 = .free → ∃ c, X.env.cells.lookup z.1 = some c := fun z hz e => absurd e (hfree z hz)
  obtain ⟨mb, hb1, hb2⟩ := I.mod.blt
  refine wpAny_ListComp_free (fun _ => true) (fun v u => ∃ b t, v = Value.bool b ∧ u = Value.int (b01 b) t) (closure_ok noF) hcell hkind hnames hx ?_
  refine thn ((pe_var (pos := p5) hN hv hd hcd).run pins s σ H (fun v H1 => v = .ref a ∧ H1 = H) I ⟨.ref a, hs, rfl, rfl⟩) fun u s1 ⟨v, H1, I1, r1, e1, e2⟩ => ?_
  subst e1 e2
  obtain rfl : u = Value.ref a := r1
  obtain ⟨its1, rv1, hl1, _⟩ := I1.list ha
  have eits1 := bools_of rv1
  obtain ⟨x2, hot1⟩ := hc.at I1
  have l3 := hot_fresh hot1
  have l4 := list_lt hl1.isList
  refine wpAny_pyIter_list hl1.isList ?_
  refine ⟨s1.heap.objs.size, [s1.heap.objs.size, a, x2], [s1.heap.objs.size], _, _, _, rfl, walk_hot (Nat.ne_of_lt l3) (Nat.ne_of_lt l4), ?_, ⟨⟨_, Heap.get?_push_size _ rfl, rfl, rfl⟩, hl1.isList.push _, hot_push hot1⟩, fun b hb => ?_, ⟨?_, ?_⟩, ?_⟩
  · have := rv1.length
    simp only [List.size_toArray]
    omega
  · show b < (s1.heap.push _).objs.size
    rw [Heap.size_push]
    have hb : b = s1.heap.objs.size ∨ b = a ∨ b = x2 := by simpa using hb
    rcases hb with z | z | z
    · rw [z]
      exact Nat.lt_succ_self _
    · rw [z]
      exact Nat.lt_succ_of_lt l4
    · rw [z]
      exact Nat.lt_succ_of_lt l3
  · intro C j v s3 m3 E' _ _ _ _ _ _
    exact wpAny_tests_nil ⟨rfl, s3.heap, s3.toks, rfl, fun _ _ e => e⟩
  · intro C j v s3 m3 E' hC hj _ hn hm keep tk
    have kb : ∀ b o, X.base.get? b = some o → s3.heap.get? b = some o := fun b o e => keep b o (fun z => by
      have := Heap.lt_size (I1.bk b o e)
      rw [List.mem_singleton.mp z] at this
      exact Nat.lt_irrefl _ this) (Heap.get?_push_of_some _ (I1.bk b o e))
    obtain ⟨b, rfl⟩ : ∃ b, v = Value.bool b := by
      rw [eits1] at hj
      simp only [List.getElem?_toArray, List.getElem?_map] at hj
      cases e : bs[j]? with
      | none =>
        rw [e] at hj
        cases hj
      | some b =>
        rw [e] at hj
        exact ⟨b, (Option.some.inj hj).symm⟩
    have hk : (compEnvC scope (cloFrom X.env.cells scope.names []) C X.env).scope.kind = .function := hkind
    refine wpAny_Call_Name_kw (Calls.Name_function_global hk (hint C _) (Calls.loadGlobal_builtin (by show s3.heap.Ns X.env.globals X.mg; rw [I1.ok.glob]; exact I1.mod.glob.keeps kb) hi (by show s3.heap.Ns X.env.builtins mb; rw [I1.ok.blt]; exact hb1.keeps kb) ((hb2 "int" (by decide)).trans (show bootBuiltins "int" = some (.type "int") by decide +kernel)) ?_))
    refine PyProof.Rows.callWith_type1 (Calls.spliced_cons (wpAny_Name (wpAny_loadName_local hk (hxl C _) hn hm ?_) hxd)) (hst C _) (by rfl)
    refine Calls.spliced_nil (call_int_bool ⟨⟨b, _, rfl, rfl⟩, s3.heap, s3.toks + 1, rfl, fun _ _ e => e⟩)
  · intro D h' tk ys vs hD _ hp hlen hP hF keep
    have evs : vs = bs.map Value.bool := by
      rw [← eits1]
      refine List.ext_getElem? fun j => ?_
      by_cases hj : j < vs.length
      · have e1 : vs[j]? = some vs[j] := List.getElem?_eq_getElem hj
        have e2 := hP j _ e1
        rw [e1]
        simpa using e2.symm
      · rw [List.getElem?_eq_none (by omega), List.getElem?_eq_none (by simpa [hlen] using hj)]
    have hF' : Paired (fun v u => ∃ b t, v = Value.bool b ∧ u = Value.int (b01 b) t) vs ys.toList := by
      have e : vs.filter (fun _ => true) = vs := List.filter_eq_self.mpr fun _ _ => rfl
      rw [← e]
      exact hF
    rw [evs] at hF'
    have rvals : Vals ((bs.map b01).map V.int) ys.toList := by
      have all : ∀ (bs : List Bool) (us : List Value), Paired (fun v u => ∃ b t, v = Value.bool b ∧ u = Value.int (b01 b) t) (bs.map Value.bool) us → Vals ((bs.map b01).map V.int) us := by
        intro bs
        induction bs with
        | nil =>
          intro us h
          cases h
          exact .nil
        | cons b r ih =>
          intro us h
          cases h with
          | cons h t =>
            obtain ⟨b', t', e1, e2⟩ := h
            cases e1
            rw [e2]
            exact .cons ⟨_, rfl⟩ (ih _ t)
      exact all bs _ hF'
    obtain ⟨n, hp⟩ := hp
    have kk : ∀ b o, s1.heap.get? b = some o → h'.get? b = some o := fun b o e => keep b o (fun z => by
      have := Heap.lt_size e
      rw [List.mem_singleton.mp z] at this
      exact Nat.lt_irrefl _ this) (Heap.get?_push_of_some _ e)
    have hD1 : s1.heap.get? D = Option.none := by
      cases e : s1.heap.get? D with
      | none => rfl
      | some o =>
        have := Heap.get?_push_of_some (h := s1.heap) { cls := .type "list_iterator", data := .fields #[.ref a, .int 0 0] } e
        have h2 : (s1.heap.push { cls := .type "list_iterator", data := .fields #[.ref a, .int 0 0] }).get? D = Option.none := hD
        rw [h2] at this
        cases this
    have hDn : H1 D = Option.none := I1.hok.gone hD1
    have I2 : Inv X pins σ (upd H1 D (.lst ((bs.map b01).map V.int))) { s1 with heap := h', toks := tk } := by
      refine I1.laidN (t' := tk) kk hD1 hDn ⟨?_, ys.toList, n, rvals, ?_⟩
      · have := rv1.length
        rw [List.length_map, List.length_map]
        rw [List.length_map] at this hz
        omega
      · simpa using hp
    exact ⟨.ref D, _, I2, rfl, q D hDn⟩
end
end FC
set_option Elab.async false
set_option linter.all false
set_option maxRecDepth 100000
set_option maxHeartbeats 4000000
/-! A def that is called within an except suite and is told of the exception that is handled. -/
namespace FC
open PySem PySem.Spec PyProof.Rows L2
structure FnP (P : Program) (w : World) (K : PySem.W.Frag) (mg : Str → Option Value) (base : Heap) (k : Nat) (f : Addr) (fd : FuncData) (ps : List Str) (sp : Addr × Obj → Sp) : Prop where
  len : ∀ p vs H Q E, sp p vs H Q E → vs.length = ps.length
  run : ∀ (p : Addr × Obj) (A : Around) (out : List Env) (s : Shared) (H : Hp) (args : Args) (us : List Value) (vs : List V) (Q : VK) (E : XK), L2H.RoomH k A → L2H.Hot1 A p → L2H.PinOk out H s p → Env0 P w K mg base A out s H →
    BindsTo s fd args (ps.zip us) → Vals vs us → sp p vs H Q E → codeAny (model P w) A (.call (.ref f) args) (CR CX0 out P w H s Q E) s
theorem okP {P : Program} {w : World} {K : PySem.W.Frag} {mg : Str → Option Value} {base : Heap} {x : Str} {st : Stmt} {f : Addr} {fd : FuncData} {N ps : List Str} {k : Nat} {sp : Addr × Obj → Sp} (F : Fun K x x st f fd) (S : FnScope N ps (defScope st))
    (len : ∀ p vs H Q E, sp p vs H Q E → vs.length = ps.length)
    (body : ∀ (c : Value) (p : Addr × Obj) (A : Around) (out : List Env) (s : Shared) (H : Hp) (vs : List V) (Q : VK) (E : XK), L2H.Hot1 A p → L2H.RoomH k (A.deeper (envOfC x (defScope st) s.heap.objs.size f c)) → sp p vs H Q E →
      ∃ t, PSs (L2H.cxH CX0 P w K mg base N x (defScope st) f c A out s H E p) (defBody st) t ∧ t { nx := fun _ H' => Q .non H', rt := Q } (L2.start N vs) H) : FnP P w K mg base (k + 1) f fd ps sp := by
  obtain ⟨oc, od, kV, doc, pm, an, c, ct, osl, rfl, lk, code⟩ := F.ex
  refine ⟨len, fun p A out s H args us vs Q E room hot pin e0 bind rel told => ?_⟩
  have old : ∀ b o, base.get? b = some o → s.heap.get? b = some o := fun b o e => (e0.bs b o e).1
  have KX : K.In s.heap := e0.mod.kin.keeps old
  have kinds : ∀ y ∈ ps.zip us, (defScope st).names.lookup y.1 = some .local ∨ ((defScope st).names.lookup y.1 = some .cell ∧ ((cellsFrom (s.heap.objs.size + 1) (defScope st).names []).lookup y.1).isSome = true) := by
    rintro ⟨n, u⟩ hy
    exact (S.par n (List.of_mem_zip hy).1).elim .inl fun q => .inr ⟨q, PySem.W.cellsFrom_some _ _ _ (.inl q)⟩
  refine codeAny_call_function room.depth (KX _ _ lk) rfl S.co S.gen rfl (PySem.W.codeRec_of KX code) (bind _ _ _ _ (wpAny_newFunctionEnv_cells S.kind kinds fun env he s1 x => ?_))
  subst he
  refine ⟨(e0.mod.nolimit.keeps old).keeps x.toInCall.keep, codeAny_func ?_⟩
  obtain ⟨t, run, told'⟩ := body c p A out s H vs Q E hot (room.deeper _) told
  have I := L2H.inv_startH (CX := CX0) (E := E) S pin e0 (len _ _ _ _ _ told) rel x
  refine wpAny_mono (run.run [] s1 (L2.start N vs) H _ I told') (fun fl s' hs => ?_) fun _ _ hs => hs
  cases fl with
  | ret u =>
    obtain ⟨v, σ', H', J, rv, q⟩ := hs
    exact ⟨v, H', J.os, J.bare, J.base, J.hok, rv, q⟩
  | next =>
    obtain ⟨σ', H', J, q⟩ := hs
    exact ⟨V.non, H', J.os, J.bare, J.base, J.hok, rfl, q⟩
  | brk =>
    obtain ⟨_, _, _, q⟩ := hs
    exact q.elim
  | cont =>
    obtain ⟨_, _, _, q⟩ := hs
    exact q.elim
section
variable {X : Cx} {k : Nat} {f : Addr} {fd : FuncData} {ps : List Str} {sp : Addr × Obj → Sp} {x : Str} {e : Expr} {es : List Expr} {t : TA} {q pos : Pos} {p : Addr × Obj}
theorem pe_callP (F : FnP X.prog X.w X.K X.mg X.base k f fd ps sp) (hr : L2H.RoomH k X.A) (hot : L2H.Hot1 X.A p) (hp : p ∈ X.pn) (hg : Gl X x) (hm : X.mg x = some (.ref f)) (hk : PySem.W.keepIn X.K (.ref f) = true) (hb : Binds X.K fd ps []) (ha : PA X (e :: es) t)
    (hd : (x == ("__debug__" : Str)) = false := by decide) (he : starEach (e :: es) X.env = (false, eval e X.env) :: starEach es X.env := by rfl) (hpl : (backTo pos (starEach es X.env)).any (·.1) = false := by rfl) :
    PE X (.Call (.Name x q) (e :: es) [] pos) (tCal (sp p) E0 t) := by
  refine ⟨fun pins s σ H Q I told => wpAny_Call_Name_kw (ld_glob I hg hm ?_ hd)⟩
  refine PySem.W.callWith_K (h₀ := X.base) I.ok.mod.kin hk (thn (ha.run pos pins s σ H _ I told) fun us s1 hh => ?_) he hpl
  obtain ⟨vs, H1, I1, rel, told1⟩ := hh
  refine ⟨I1.kIn, ?_⟩
  have bind := hb s1 us I1.kIn (by rw [List.append_nil, ← rel.length]; exact F.len _ _ _ _ _ told1)
  rw [List.append_nil] at bind
  obtain ⟨a1, a2, a3, a4, a5⟩ := I1.pin p (List.mem_append_left _ hp)
  have pin : L2H.PinOk X.stack H1 s1 p := ⟨a1, a2, fun z => (List.mem_cons.mp (I1.stkSub p.1 z)).elim a3 a4, a5⟩
  refine wpAny_call (codeAny_mono (F.run p X.A X.stack s1 H1 ⟨us, []⟩ us vs Q E0 hr hot pin I1.env0 bind rel told1) fun r s' hq => ?_)
  cases r with
  | error e => exact (show False from hq).elim
  | ok fl =>
    cases fl with
    | ret u => exact I1.after hq
    | next => exact False.elim hq
    | brk => exact False.elim hq
    | cont => exact False.elim hq
end
end FC
set_option Elab.async false
set_option linter.all false
set_option maxRecDepth 100000
set_option maxHeartbeats 4000000
namespace FC
open PySem L2
def termNames : List Str := ["InvalidChain", "InvalidRow", "InvalidNumber", "InvalidText", "TooMany", "NothingToUndo"]
/-- the six classes stand at c0 .. c5 -/
structure SixT (mg : Str → Option Value) (c0 c1 c2 c3 c4 c5 : Addr) : Prop where
  g0 : mg "InvalidChain" = some (.ref c0)
  g1 : mg "InvalidRow" = some (.ref c1)
  g2 : mg "InvalidNumber" = some (.ref c2)
  g3 : mg "InvalidText" = some (.ref c3)
  g4 : mg "TooMany" = some (.ref c4)
  g5 : mg "NothingToUndo" = some (.ref c5)
/-- D is the i-th of them -/
structure OneT (K : PySem.W.Frag) (D : Addr) (i : Nat) (c0 c1 c2 c3 c4 c5 : Addr) : Prop where
  lt : i < 6
  ex : ExcC K D
  k0 : PySem.W.kitOne K (.ref D) (.ref c0) = some (decide (0 = i))
  k1 : PySem.W.kitOne K (.ref D) (.ref c1) = some (decide (1 = i))
  k2 : PySem.W.kitOne K (.ref D) (.ref c2) = some (decide (2 = i))
  k3 : PySem.W.kitOne K (.ref D) (.ref c3) = some (decide (3 = i))
  k4 : PySem.W.kitOne K (.ref D) (.ref c4) = some (decide (4 = i))
  k5 : PySem.W.kitOne K (.ref D) (.ref c5) = some (decide (5 = i))
  kv : PySem.W.kitOne K (.ref D) (.type "ValueError") = some true
def spTerm (K : PySem.W.Frag) (c0 c1 c2 c3 c4 c5 : Addr) : Addr × Obj → Sp := fun p vs H Q _ => ∃ (D : Addr) (i : Nat) (z : Str), vs = [.ref p.1] ∧ Zc (.ref D) none p.2 ∧ (∃ us, p.2.data = .fields us) ∧ OneT K D i c0 c1 c2 c3 c4 c5 ∧ termNames[i]? = some z ∧
  ∀ t H', Same H H' → H' t = some (.tup [.str "error", .str z]) → Q (.ref t) H'
section
variable {P : Program} {w : World} {K : PySem.W.Frag} {mg : Str → Option Value} {base : Heap} {c0 c1 c2 c3 c4 c5 : Addr}
theorem scTerm : FnScope ["_law_e", "_law_flags", "_law_kinds"] ["_law_e"] (defScope sTerm) := ⟨rfl, rfl, rfl, by decide +kernel, rfl, by decide +kernel, by decide +kernel⟩
theorem ok_term {f : Addr} {fd : FuncData} (F : Fun K "_law_term" "_law_term" sTerm f fd) (T : Blt mg) (G : SixT mg c0 c1 c2 c3 c4 c5) : FnP P w K mg base 1 f fd ["_law_e"] (spTerm K c0 c1 c2 c3 c4 c5) := by
  refine okP F scTerm (fun p vs H Q E h => ?_) (fun cdv p A outer s H vs Q E hot hr h => ?_)
  · obtain ⟨_, _, _, rfl, _⟩ := h
    rfl
  · obtain ⟨D, i, z, rfl, hz, hf, O, hzi, k⟩ := h
    have nd := scTerm.nd
    have hc : L2H.HotC (L2H.cxH CX0 P w K mg base ["_law_e", "_law_flags", "_law_kinds"] "_law_term" (defScope sTerm) f cdv A outer s H E p) := ⟨p, hot, List.mem_cons_self⟩
    have hI := isi_hot (X := L2H.cxH CX0 P w K mg base ["_law_e", "_law_flags", "_law_kinds"] "_law_term" (defScope sTerm) f cdv A outer s H E p) (p := p) (D := D) List.mem_cons_self O.ex hz hf
    refine ⟨_, pss_cons (ps_set (i := 1) nd rfl (Or.inl rfl) (pe_lst (pa_cons (pe_callB hI (by rfl) T.isi (by decide +kernel) (pa_cons (pv 0) (pa_cons (pe_glob (v := .ref c0) rfl G.g0 rfl) pa_nil)))
          (pa_cons (pe_callB hI (by rfl) T.isi (by decide +kernel) (pa_cons (pv 0) (pa_cons (pe_glob (v := .ref c1) rfl G.g1 rfl) pa_nil))) (pa_cons (pe_callB hI (by rfl) T.isi (by decide +kernel) (pa_cons (pv 0) (pa_cons (pe_glob (v := .ref c2) rfl G.g2 rfl) pa_nil))) pa_nil)))))
      (pss_cons (ps_set (i := 1) nd rfl (Or.inl rfl) (pe_op op_cat (pv 1) (pe_lst (pa_cons (pe_callB hI (by rfl) T.isi (by decide +kernel) (pa_cons (pv 0) (pa_cons (pe_glob (v := .ref c3) rfl G.g3 rfl) pa_nil)))
          (pa_cons (pe_callB hI (by rfl) T.isi (by decide +kernel) (pa_cons (pv 0) (pa_cons (pe_glob (v := .ref c4) rfl G.g4 rfl) pa_nil))) (pa_cons (pe_callB hI (by rfl) T.isi (by decide +kernel) (pa_cons (pv 0) (pa_cons (pe_glob (v := .ref c5) rfl G.g5 rfl) pa_nil))) pa_nil))))))
      (pss_cons (ps_set (i := 2) nd rfl (Or.inl rfl) (pe_lst (pa_cons pe_str (pa_cons pe_str (pa_cons pe_str (pa_cons pe_str (pa_cons pe_str (pa_cons pe_str pa_nil))))))))
      (pss_cons (ps_if (PW.pt (pw_or (pt_cmpR op_ne (pe_callB (sum_hot hc) (by rfl) T.sum (by decide +kernel) (pa_cons (pe_ints_hot (i := 1) hc T.int rfl (Or.inl rfl) (by decide) (by decide) rfl (by decide +kernel) (by decide +kernel) (by decide +kernel) (by decide +kernel) (by decide)
            (fun _ _ => by rfl) (fun _ _ => by rfl) (fun _ _ => by rfl)) pa_nil)) pe_int (nomark _))
          (pw_or1 (pt_not (pt_val (pe_callB hI (by rfl) T.isi (by decide +kernel) (pa_cons (pv 0) (pa_cons (pe_bltn (v := .ty "ValueError") (by rfl) T.vErr (by decide +kernel) rfl) pa_nil)))))))) (pss_one (ps_ret (pe_tup (pa_cons pe_str (pa_cons pe_str pa_nil))))) pss_nil)
      (pss_one (ps_ret (pe_tup (pa_cons pe_str (pa_cons (pe_ix ix_list (pv 2) (pe_bm PySem.F.plainAttrs_list PySem.F.slot_list_index PySem.F.type_list_index mt_index (pv 1) (pa_cons pe_bl pa_nil)) (fun _ _ => rfl)) pa_nil)))))))), ?_⟩
    have two : ∀ n : Nat, n ≤ 10 → n ≤ sizeLine := fun n h => Nat.le_trans h (by decide)
    have one : ∀ {a : Addr} {u : Value}, RelV (.ref a) u → u = .ref a := fun h => h
    refine ⟨_, rfl, _, _, _, rfl, fun u h => h, O.k0, _, rfl, _, _, _, rfl, fun u h => h, O.k1, _, rfl, _, _, _, rfl, fun u h => h, O.k2, two 3 (by decide), fun a na => ?_⟩
    have s1 := same_upd (o := .lst [.bl (decide (0 = i)), .bl (decide (1 = i)), .bl (decide (2 = i))]) (Same.refl H) na
    have ha : upd H a (.lst [.bl (decide (0 = i)), .bl (decide (1 = i)), .bl (decide (2 = i))]) a = some (.lst [.bl (decide (0 = i)), .bl (decide (1 = i)), .bl (decide (2 = i))]) := upd_same
    refine ⟨_, rfl, _, rfl, _, _, _, rfl, fun u h => h, O.k3, _, rfl, _, _, _, rfl, fun u h => h, O.k4, _, rfl, _, _, _, rfl, fun u h => h, O.k5, two 3 (by decide), fun b nb => ?_⟩
    have s2 := same_upd (o := .lst [.bl (decide (3 = i)), .bl (decide (4 = i)), .bl (decide (5 = i))]) s1 nb
    refine ⟨a, b, _, _, rfl, rfl, (upd_ne (ne_of_none ha nb)).trans ha, upd_same, two 6 (by decide), fun c nc => ?_⟩
    have s3 := same_upd (o := .lst ([0, 1, 2, 3, 4, 5].map fun j => V.bl (decide (j = i)))) s2 nc
    have hc3 : upd (upd (upd H a (.lst [.bl (decide (0 = i)), .bl (decide (1 = i)), .bl (decide (2 = i))])) b (.lst [.bl (decide (3 = i)), .bl (decide (4 = i)), .bl (decide (5 = i))])) c (.lst ([0, 1, 2, 3, 4, 5].map fun j => V.bl (decide (j = i)))) c = some (.lst ([0, 1, 2, 3, 4, 5].map fun j => V.bl (decide (j = i)))) := upd_same
    refine ⟨two 6 (by decide), fun d nd' => ?_⟩
    have s4 := same_upd (o := .lst (termNames.map V.str)) s3 nd'
    have hc4 : upd (upd (upd (upd H a (.lst [.bl (decide (0 = i)), .bl (decide (1 = i)), .bl (decide (2 = i))])) b (.lst [.bl (decide (3 = i)), .bl (decide (4 = i)), .bl (decide (5 = i))])) c (.lst ([0, 1, 2, 3, 4, 5].map fun j => V.bl (decide (j = i))))) d (.lst (termNames.map V.str)) c = some (.lst (([0, 1, 2, 3, 4, 5].map fun j => decide (j = i)).map V.bl)) := (upd_ne (ne_of_none hc3 nd')).trans hc3
    have hd4 : upd (upd (upd (upd H a (.lst [.bl (decide (0 = i)), .bl (decide (1 = i)), .bl (decide (2 = i))])) b (.lst [.bl (decide (3 = i)), .bl (decide (4 = i)), .bl (decide (5 = i))])) c (.lst ([0, 1, 2, 3, 4, 5].map fun j => V.bl (decide (j = i))))) d (.lst (termNames.map V.str)) d = some (.lst (termNames.map V.str)) := upd_same
    show tSeq _ _ _ _ (upd (upd (upd (upd H a (.lst [.bl (decide (0 = i)), .bl (decide (1 = i)), .bl (decide (2 = i))])) b (.lst [.bl (decide (3 = i)), .bl (decide (4 = i)), .bl (decide (5 = i))])) c (.lst ([0, 1, 2, 3, 4, 5].map fun j => V.bl (decide (j = i))))) d (.lst (termNames.map V.str)))
    generalize upd (upd (upd (upd H a (.lst [.bl (decide (0 = i)), .bl (decide (1 = i)), .bl (decide (2 = i))])) b (.lst [.bl (decide (3 = i)), .bl (decide (4 = i)), .bl (decide (5 = i))])) c (.lst ([0, 1, 2, 3, 4, 5].map fun j => V.bl (decide (j = i))))) d (.lst (termNames.map V.str)) = H4 at s4 hc4 hd4 ⊢
    clear s1 s2 s3 hc3 ha
    -- the sum is 1
    refine ⟨c, _, rfl, SqL.of hc4, fun e ne => ?_⟩
    have s5 := same_upd (o := .lst ((([0, 1, 2, 3, 4, 5].map fun j => decide (j = i)).map b01).map V.int)) s4 ne
    have hc5 : upd H4 e (.lst ((([0, 1, 2, 3, 4, 5].map fun j => decide (j = i)).map b01).map V.int)) c = some (.lst (([0, 1, 2, 3, 4, 5].map fun j => decide (j = i)).map V.bl)) := (upd_ne (ne_of_none hc4 ne)).trans hc4
    have hd5 : upd H4 e (.lst ((([0, 1, 2, 3, 4, 5].map fun j => decide (j = i)).map b01).map V.int)) d = some (.lst (termNames.map V.str)) := (upd_ne (ne_of_none hd4 ne)).trans hd4
    have hsum : (([0, 1, 2, 3, 4, 5].map fun j => decide (j = i)).map b01).sum = 1 := by
      have hi := O.lt
      have all : ∀ i < 6, (([0, 1, 2, 3, 4, 5].map fun j => decide (j = i)).map b01).sum = 1 := by decide
      exact all i hi
    refine ⟨e, _, rfl, SqL.of upd_same, ?_⟩
    rw [hsum]
    refine ⟨rfl, _, rfl, iteF ?_⟩
    refine ⟨_, rfl, _, _, _, rfl, fun u h => h, O.kv, _, rfl, iteF ?_⟩
    -- the name
    have hl := O.lt
    have hidx : ([0, 1, 2, 3, 4, 5].map fun j => decide (j = i))[i]? = some true := by
      have all : ∀ i < 6, ([0, 1, 2, 3, 4, 5].map fun j => decide (j = i))[i]? = some true := by decide
      exact all i hl
    have hbef : ∀ m, m < i → ∀ b, ([0, 1, 2, 3, 4, 5].map fun j => decide (j = i))[m]? = some b → b = false := by
      have all : ∀ i < 6, ∀ m < i, ([0, 1, 2, 3, 4, 5].map fun j => decide (j = i))[m]? = some false := by decide
      intro m hm b hb
      rw [all i hl m hm] at hb
      exact (Option.some.inj hb).symm
    refine ⟨_, rfl, _, rfl, .inl ⟨rfl, _, SqL.of hc5⟩, c, _, .bl true, i, .bl true, rfl, rfl, SqL.of hc5, rfl, ?_, ?_, rfl, ?_, ?_⟩
    · simp [flatV]
    · rw [List.getElem?_map, hidx]
      rfl
    · intro m z' hm hz'
      rw [List.getElem?_map] at hz'
      cases e1 : ([0, 1, 2, 3, 4, 5].map fun j => decide (j = i))[m]? with
      | none =>
        rw [e1] at hz'
        cases hz'
      | some b =>
        rw [e1] at hz'
        have e2 := hbef m hm b e1
        have e3 : V.bl b = z' := Option.some.inj hz'
        rw [← e3, e2]
        rfl
    · have hz2 : (termNames.map V.str)[i]? = some (.str z) := by rw [List.getElem?_map, hzi]; rfl
      refine ⟨d, _, _, _, rfl, rfl, SqL.of hd5, atI_nat hz2, two 2 (by decide), fun t nt => ?_⟩
      exact k t _ (same_upd s5 nt) upd_same
end
end FC
set_option Elab.async false
set_option linter.all false
set_option maxRecDepth 100000
set_option maxHeartbeats 1000000
/-! _law_told(lambda: ..): the lambda's exceptions bear no context. -/
namespace FC
open PySem PySem.Spec PyProof.Rows L2
/-- another wish of what leaves the code -/
theorem inv_xe {X : Cx} {pins : List (Addr × Obj)} {σ : L2.St} {H : Hp} {s : Shared} {xe : Value → Shared → Prop} (I : Inv X pins σ H s) : Inv { X with xe := xe } pins σ H s :=
  ⟨⟨I.ok.mod, I.ok.kind, I.ok.glob, I.ok.blt, I.ok.above, I.ok.inj, I.ok.has, I.ok.cab, I.ok.hd, I.ok.frames, I.ok.stk, I.ok.exf, I.ok.bs, I.ok.bsz, I.ok.noex, I.ok.exfs, I.ok.funs, I.ok.frf⟩,
    I.os, I.bare, I.base, I.loc, I.cell, I.free, I.freeC, I.pin, I.hok, I.len⟩
/-- the lambda's body, entered at s from the frames out -/
def lamN (X : Cx) (A : Around) (out : List Env) (s : Shared) (H : Hp) (E : XK) (scope : Scope) (f c : Addr) : Cx :=
  { LamX.lamCx X A out s H E scope f c with
    xe := fun e s1 => wpAny (model X.prog X.w) (A.deeper (LamX.lamEnv X scope s.heap.objs.size f c)) (leaving (LamX.lamEnv X scope s.heap.objs.size f c) e) (fun _ s2 => L2N.CX X.prog X.w out H s E e s2) (fun e2 s2 => L2N.CX X.prog X.w out H s E e2 s2) s1 }
section
variable {X : Cx} {pins : List (Addr × Obj)} {σ : L2.St} {H : Hp} {s : Shared}
/-- the lambda at f is called while the frame env runs above X's -/
theorem lam_run {env : Env} {A : Around} {f c : Addr} {pm ctv : Value} {params : Arguments} {body : Expr} {scope : Scope} {k : Nat} {E : XK} {tb : TE} {s1 : Shared} {HZ : Hp} {Q : VK} (I : Inv X pins σ H s) (L : LamX.LamS X.env.scope scope)
    (here : s1.heap.get? f = some (PySem.W.kla_obj "<lambda>" (X.env.qual ++ "<lambda>") params body scope (cloFrom X.env.cells scope.names []) pm c ctv))
    (bind : bindArgs (PySem.W.kla_fn "<lambda>" (X.env.qual ++ "<lambda>") params body scope (cloFrom X.env.cells scope.names []) pm (.ref c) ctv) ⟨[], []⟩ = pure []) (e1 : Env0 X.prog X.w X.K X.mg X.base A (env :: X.stack) s1 HZ) (lim : s1.heap.NoLimit)
    (un : Un (frs X.stack) [] H HZ s.heap s1.heap) (hr : Room (k + 1) A) (hc : HZ c = some (LamX.CodeO c (X.env.qual ++ "<lambda>")))
    (hbody : ∀ (A : Around) (out : List Env) (s : Shared) (H : Hp), Room k (A.deeper (LamX.lamEnv X scope s.heap.objs.size f c)) → PE (lamN X A out s H E scope f c) body tb) (told : tb σ HZ Q) :
    codeAny (model X.prog X.w) A (.call (.ref f) ⟨[], []⟩) (CR (L2N.CX X.prog X.w) (env :: X.stack) X.prog X.w HZ s1 Q E) s1 := by
  obtain ⟨⟨oc, vs, t, o1, o2, o3⟩, _, _⟩ := e1.hok c _ hc
  refine PySem.W.kla_callFunE hr.depth here rfl L.co L.gen rfl ⟨c, oc, vs, t, rfl, o1, o2, o3⟩ ?_
  rw [bind]
  refine wpAny_pure (wpAny_newFunctionEnv (fun y hy => (L.own y hy).2) (fun y hy => absurd hy (by simp)) (fun h1 ns ext => ⟨lim.fresh _ ext, ?_⟩) L.kind)
  have kp : ∀ b o, s1.heap.get? b = some o → h1.get? b = some o := fun b o e => ext.extBut b o (Nat.ne_of_lt (Heap.lt_size e)) (Heap.get?_push_of_some _ e)
  have J := inv_xe (xe := (lamN X A (env :: X.stack) s1 HZ E scope f c).xe) (LamX.lam_start2 (tk := s1.toks + ([] : List (Str × Value)).length) (E := E) (f := f) (c' := c) I L e1 hr.hd un ns kp)
  refine PySem.W.kla_codeExpr (wpAny_mono ((hbody A (env :: X.stack) s1 HZ (hr.deeper _)).run [] _ _ HZ Q J told) (fun v s2 hq => ?_) fun _ _ hq => hq)
  obtain ⟨u, H', J', rv, q⟩ := hq
  exact ⟨u, H', J'.os, J'.bare, J'.base, J'.hok, rv, q⟩
end
theorem takes0N {X : Cx} : L2N.Takes X (fun _ _ _ _ => False) := fun _ _ h => by
  obtain ⟨_, _, _, _, _, _, _, _, _, _, _, _, _, _, _, _, z⟩ := h
  exact z.elim
theorem scTold : FnScope ["_law_deed", "_law_e"] ["_law_deed"] (defScope sTold) := ⟨rfl, rfl, rfl, by decide +kernel, rfl, by decide +kernel, by decide +kernel⟩
/-- what is wanted of an exception of the lambda: its name is told -/
def wishE (K : PySem.W.Frag) (CE c0 c1 c2 c3 c4 c5 : Addr) (Q : VK) : XK := fun cls d H => ∃ (D : Addr) (i : Nat) (z : Str), cls = .ref D ∧ d = Option.none ∧ PySem.W.exmOne K (.ref D) (.ref CE) = some true ∧ OneT K D i c0 c1 c2 c3 c4 c5 ∧ termNames[i]? = some z ∧
  ∀ t H', Same H H' → H' t = some (.tup [.str "error", .str z]) → Q (.ref t) H'
/-- _law_told(lambda: body), body's reading t -/
def tTold (K : PySem.W.Frag) (T : List (Addr × Str)) (CE c0 c1 c2 c3 c4 c5 : Addr) (t : XK → TE) : TE := fun σ H Q => LamX.Tabs T H ∧ ∀ H1, LamX.ExtN H H1 → LamX.Tabs T H1 → t (wishE K CE c0 c1 c2 c3 c4 c5 Q) σ H1 Q
section
variable {X : Cx}
theorem pe_told {T : List (Addr × Str)} {g c P f2 CE c0 c1 c2 c3 c4 c5 : Addr} {fdg fd2 : FuncData} {k : Nat} {params : Arguments} {body : Expr} {scope : Scope} {t : XK → TE} {p lpos pos : Pos}
    (Fg : Fun X.K "_law_told" "_law_told" sTold g fdg) (bg : Binds X.K fdg ["_law_deed"] []) (mg : X.mg "_law_told" = some (.ref g)) (hg : Gl X "_law_told")
    (F2 : FnP X.prog X.w X.K X.mg X.base 1 f2 fd2 ["_law_e"] (spTerm X.K c0 c1 c2 c3 c4 c5)) (m2 : X.mg "_law_term" = some (.ref f2)) (k2 : PySem.W.keepIn X.K (.ref f2) = true) (b2 : Binds X.K fd2 ["_law_e"] []) (mE : X.mg "ChainError" = some (.ref CE))
    (TB : LamX.TabB X.base X.mg c P) (hcode : X.env.code = .ref c) (hmT : (P, X.env.qual ++ "<lambda>") ∈ T) (hu : ∀ p ∈ T, p.1 = P → p.2 = X.env.qual ++ "<lambda>") (hr : Room (k + 3) X.A) (L : LamX.LamS X.env.scope scope) (hdef : defaultsOf params X.env = ([], []))
    (bind : ∀ (q : Str) (cl : List (Str × Addr)) (pm cv ctv : Value), bindArgs (PySem.W.kla_fn "<lambda>" q params body scope cl pm cv ctv) ⟨[], []⟩ = pure [])
    (hbody : ∀ (A : Around) (out : List Env) (s : Shared) (H : Hp) (E : XK) (f c : Addr), Room (k + 1) (A.deeper (LamX.lamEnv X scope s.heap.objs.size f c)) → PE (lamN X A out s H E scope f c) body (t E)) :
    PE X (.Call (.Name "_law_told" p) [.Lambda params body scope lpos] [] pos) (tTold X.K T CE c0 c1 c2 c3 c4 c5 t) := by
  refine ⟨fun pins s σ H Q I h => ?_⟩
  obtain ⟨hT, h⟩ := h
  refine wpAny_Call_Name_kw (ld_glob I hg mg ?_ (by decide))
  refine PySem.W.callWith_K (h₀ := X.base) I.ok.mod.kin Fg.kp ?_ (by rfl) (by rfl)
  show wpAny _ _ (spliced ((false, eval (.Lambda params body scope lpos) X.env) :: backTo pos (starEach [] X.env))) _ _ s
  refine Calls.spliced_cons (LamX.lam_make2 I TB hcode hmT hu hT hdef (L.has I.ok) fun f c' pm' ctv H1 s1 I1 eN T1 hf hfn hfr hco => ?_)
  refine Calls.spliced_nil ⟨I1.kIn, ?_⟩
  have told := h H1 eN T1
  obtain ⟨oc, od, kV, doc, pm, an, cdv, ct, osl, rfl, lk, hcd⟩ := Fg.ex
  have rc : codeAny (model X.prog X.w) X.A (.call (.ref g) ⟨[.ref f], []⟩) (CR CX0 X.stack X.prog X.w H1 s1 Q E0) s1 := by
    refine LamX.run_ofS (N := ["_law_deed", "_law_e"]) (ps := ["_law_deed"]) (us := [.ref f]) (vs := [.ref f]) (CX := CX0) lk hcd scTold hr I1.env0 (bg s1 [.ref f] I1.kIn rfl) (.cons rfl .nil) rfl fun hr' => ?_
    have nd := scTold.nd
    -- deed()
    have act : ∀ (W : WX) (pn : List (Addr × Obj)) (xe : Value → Shared → Prop) (p1 p2 : Pos), L2N.Takes ((cxOf CX0 X.prog X.w X.K X.mg X.base ["_law_deed", "_law_e"] "_law_told" (defScope sTold) g cdv X.A X.stack s1 H1 E0).tr pn xe) W → (∀ cls d σ' H', wishE X.K CE c0 c1 c2 c3 c4 c5 Q cls d H' → W cls d σ' H') →
        PE ((cxOf CX0 X.prog X.w X.K X.mg X.base ["_law_deed", "_law_e"] "_law_told" (defScope sTold) g cdv X.A X.stack s1 H1 E0).tr pn xe) (.Call (.Name "_law_deed" p1) [] [] p2)
          (fun σZ HZ Q' => σZ[0]? = some (some (.ref f)) ∧ HZ c' = some (LamX.CodeO c' (X.env.qual ++ "<lambda>")) ∧ t (wishE X.K CE c0 c1 c2 c3 c4 c5 Q) σ HZ Q') := by
      intro W pn xe p1 p2 tk hW
      refine ⟨fun pinsZ sZ σZ HZ Q' IZ h' => ?_⟩
      obtain ⟨h0, hcZ, ht⟩ := h'
      refine wpAny_Call_Name_kw (thn ((pv (pos := p1) 0).run pinsZ sZ σZ HZ (fun v H2 => v = .ref f ∧ H2 = HZ) IZ ⟨.ref f, h0, rfl, rfl⟩) fun u s2 ⟨v, H2, I2, r2, e1, e2⟩ => ?_)
      subst e1 e2
      obtain rfl : u = Value.ref f := r2
      have here := I2.base.keep f _ hf hfn hfr (fun z => nomatch (show f ∈ ([] : List Addr) from z))
      refine PySem.W.callWith_F0 ⟨_, _, _, _, here⟩ ?_
      have un : Un (frs X.stack) [] H1 H2 s1.heap s2.heap := I2.base
      have go := lam_run (X := X) (env := envOfC "_law_told" (defScope sTold) s1.heap.objs.size g cdv) (A := X.A.deeper (envOfC "_law_told" (defScope sTold) s1.heap.objs.size g cdv)) (E := wishE X.K CE c0 c1 c2 c3 c4 c5 Q) (s1 := s2) (HZ := H2) (Q := Q') I1 L here (bind _ _ _ _ _)
        I2.env0 I2.nolimit un hr' hcZ (fun A out s H hr2 => hbody A out s H _ f c' hr2) ht
      refine wpAny_call (codeAny_mono go fun r s3 hq => ?_)
      cases r with
      | error e => exact L2N.passes_call tk hW pinsZ σZ H2 s2 e s3 I2 hq
      | ok fl =>
        cases fl with
        | ret u => exact I2.after hq
        | next => exact False.elim hq
        | brk => exact False.elim hq
        | cont => exact False.elim hq
    refine ⟨_, (pss_one (L2N.ps_try_as (X := (cxOf CX0 X.prog X.w X.K X.mg X.base ["_law_deed", "_law_e"] "_law_told" (defScope sTold) g cdv X.A X.stack s1 H1 E0)) (i := 1) (c := .ref CE)
        (tb := fun W D σZ HZ => (∀ cls d σ' H', wishE X.K CE c0 c1 c2 c3 c4 c5 Q cls d H' → W cls d σ' H') ∧ σZ[0]? = some (some (.ref f)) ∧ HZ c' = some (LamX.CodeO c' (X.env.qual ++ "<lambda>")) ∧ t (wishE X.K CE c0 c1 c2 c3 c4 c5 Q) σ HZ D.rt)
        (ts := fun a cls d D σZ HZ => (∃ σ0 : L2.St, σZ = σ0.set 1 (some (.ref a))) ∧ ∃ (Dc : Addr) (i : Nat) (z : Str), cls = .ref Dc ∧ d = Option.none ∧ OneT X.K Dc i c0 c1 c2 c3 c4 c5 ∧ termNames[i]? = some z ∧ ∀ t H', Same HZ H' → H' t = some (.tup [.str "error", .str z]) → D.rt (.ref t) H')
        (Wout := fun _ _ _ _ => False) rfl rfl nd rfl rfl ⟨rfl, by decide, .inl mE⟩ takes0N (fun W pn xe tk _ => ⟨fun pinsB sB σB HB D IB hB => ?_⟩) (fun a oe cls d pn hz hf => ⟨fun pinsB sB σB HB D IB hB => ?_⟩))), ?_⟩
    · obtain ⟨hW, h0, h1, h2⟩ := hB
      exact (pss_one (ps_ret (act W pn xe _ _ tk hW))).run pinsB sB σB HB D IB ⟨h0, h1, h2⟩
    · obtain ⟨⟨σ0, e0⟩, Dc, i, z, rfl, rfl, O, hzi, k⟩ := hB
      have hlen := IB.len
      rw [e0, List.length_set] at hlen
      have hlen : σ0.length = 2 := hlen
      have h1 : σB[1]? = some (some (.ref a)) := by
        rw [e0, List.getElem?_set_self (by omega)]
      obtain ⟨us, hus⟩ := hf
      refine (pss_one (ps_ret (pe_callP (X := (cxOf CX0 X.prog X.w X.K X.mg X.base ["_law_deed", "_law_e"] "_law_told" (defScope sTold) g cdv X.A X.stack s1 H1 E0).suite a ((a, oe) :: pn)) (p := (a, oe)) F2 ⟨?_, ?_⟩ ⟨rfl, us, hus, hz.2.2 us hus⟩ List.mem_cons_self (by rfl) m2 k2 b2 (pa_cons (pv 1) pa_nil)))).run pinsB sB σB HB D IB ⟨.ref a, h1, Dc, i, z, rfl, hz.zc, ⟨us, hus⟩, O, hzi, k⟩
      · have := hr'.dp
        show (X.A.deeper (envOfC "_law_told" (defScope sTold) s1.heap.objs.size g cdv)).depth + 3 * 1 + 5 < _
        omega
      · have := hr'.un
        show (X.A.deeper (envOfC "_law_told" (defScope sTold) s1.heap.objs.size g cdv)).units + 16 * 1 + 200 < _
        omega
    · refine ⟨fun cls d σ' H' hw => ?_, rfl, hco, told⟩
      obtain ⟨Dc, i, z, rfl, rfl, em, O, hzi, k⟩ := hw
      exact ⟨true, em, fun _ a _ => ⟨⟨σ', rfl⟩, Dc, i, z, rfl, rfl, O, hzi, k⟩, fun z => by cases z⟩
  refine wpAny_call (codeAny_mono rc fun r s2 hq => ?_)
  cases r with
  | error e => exact (show False from hq).elim
  | ok fl =>
    cases fl with
    | ret u => exact I1.after hq
    | next => exact False.elim hq
    | brk => exact False.elim hq
    | cont => exact False.elim hq
end
end FC
set_option Elab.async false
set_option linter.all false
set_option maxRecDepth 100000
set_option maxHeartbeats 1000000
/-! Displays of constants, nested, and what they are as chains. -/
namespace FC
open PySem PySem.Spec PyProof.Rows L2
inductive Lit where
  | non
  | bl (b : Bool)
  | int (i : Int)
  | neg (i : Int)
  | str (z : Str)
  | var (i : Nat) (z : Str)
  | tup (ls : List Lit)
  | lst (ls : List Lit)
mutual
def LitAt (H : Hp) : V → Lit → Prop
  | x, .non => x = .non
  | x, .bl b => x = .bl b
  | x, .int i => x = .int i
  | x, .neg i => x = .int (-i)
  | x, .str z => x = .str z
  | x, .var _ z => x = .str z
  | x, .tup ls => ∃ a xs, x = .ref a ∧ H a = some (.tup xs) ∧ LitsAt H xs ls
  | x, .lst ls => ∃ a xs, x = .ref a ∧ H a = some (.lst xs) ∧ LitsAt H xs ls
def LitsAt (H : Hp) : List V → List Lit → Prop
  | xs, [] => xs = []
  | xs, l :: ls => ∃ y ys, xs = y :: ys ∧ LitAt H y l ∧ LitsAt H ys ls
end
mutual
theorem LitAt.ext {H H' : Hp} (e : LamX.ExtN H H') : ∀ {x : V} {l : Lit}, LitAt H x l → LitAt H' x l
  | x, .non, h => by unfold LitAt at h ⊢; exact h
  | x, .bl _, h => by unfold LitAt at h ⊢; exact h
  | x, .int _, h => by unfold LitAt at h ⊢; exact h
  | x, .neg _, h => by unfold LitAt at h ⊢; exact h
  | x, .str _, h => by unfold LitAt at h ⊢; exact h
  | x, .var _ _, h => by unfold LitAt at h ⊢; exact h
  | x, .tup ls, h => by
    unfold LitAt at h ⊢
    obtain ⟨a, xs, h1, h2, h3⟩ := h
    exact ⟨a, xs, h1, e _ _ h2 (fun ps z => by cases z), LitsAt.ext e h3⟩
  | x, .lst ls, h => by
    unfold LitAt at h ⊢
    obtain ⟨a, xs, h1, h2, h3⟩ := h
    exact ⟨a, xs, h1, e _ _ h2 (fun ps z => by cases z), LitsAt.ext e h3⟩
theorem LitsAt.ext {H H' : Hp} (e : LamX.ExtN H H') : ∀ {xs : List V} {ls : List Lit}, LitsAt H xs ls → LitsAt H' xs ls
  | xs, [], h => by unfold LitsAt at h ⊢; exact h
  | xs, l :: ls, h => by
    unfold LitsAt at h ⊢
    obtain ⟨y, ys, h1, h2, h3⟩ := h
    exact ⟨y, ys, h1, LitAt.ext e h2, LitsAt.ext e h3⟩
end
mutual
def tLit : Lit → TE
  | .non => tC .non
  | .bl b => tC (.bl b)
  | .int i => tC (.int i)
  | .neg i => tUn (rU fun i => .int (-i)) (tC (.int i))
  | .str z => tC (.str z)
  | .var i _ => tVar i
  | .tup ls => tTup (tLits ls)
  | .lst ls => tLst (tLits ls)
def tLits : List Lit → TA
  | [] => tNil
  | l :: ls => tCons (tLit l) (tLits ls)
end
mutual
/-- the slots that it names hold what it says, no display is long -/
def Fits (σ : L2.St) : Lit → Prop
  | .var i z => σ[i]? = some (some (.str z))
  | .tup ls => ls.length ≤ 1000 ∧ FitsAll σ ls
  | .lst ls => ls.length ≤ 1000 ∧ FitsAll σ ls
  | _ => True
def FitsAll (σ : L2.St) : List Lit → Prop
  | [] => True
  | l :: ls => Fits σ l ∧ FitsAll σ ls
end
mutual
theorem lit_reads : ∀ (l : Lit) (σ : L2.St) (H : Hp) (Q : VK), Fits σ l → (∀ x H', Same H H' → LitAt H' x l → Q x H') → tLit l σ H Q
  | .non, σ, H, Q, _, k => by unfold tLit; exact k _ H (Same.refl H) (by unfold LitAt; rfl)
  | .bl _, σ, H, Q, _, k => by unfold tLit; exact k _ H (Same.refl H) (by unfold LitAt; rfl)
  | .int _, σ, H, Q, _, k => by unfold tLit; exact k _ H (Same.refl H) (by unfold LitAt; rfl)
  | .neg i, σ, H, Q, _, k => by unfold tLit; exact ⟨i, rfl, k _ H (Same.refl H) (by unfold LitAt; rfl)⟩
  | .str _, σ, H, Q, _, k => by unfold tLit; exact k _ H (Same.refl H) (by unfold LitAt; rfl)
  | .var i z, σ, H, Q, f, k => by unfold tLit; unfold Fits at f; exact ⟨_, f, k _ H (Same.refl H) (by unfold LitAt; rfl)⟩
  | .tup ls, σ, H, Q, f, k => by
    unfold tLit
    unfold Fits at f
    refine lits_reads ls σ H _ f.2 fun xs H1 s1 h1 hlen => ⟨by
      have h4 : 4000 < sizeLine := by decide
      have := f.1
      omega, fun p np => k _ _ (same_upd s1 np) ?_⟩
    unfold LitAt
    exact ⟨p, xs, rfl, upd_same, LitsAt.ext (LamX.ExtN.of (same_upd (Same.refl H1) np)) h1⟩
  | .lst ls, σ, H, Q, f, k => by
    unfold tLit
    unfold Fits at f
    refine lits_reads ls σ H _ f.2 fun xs H1 s1 h1 hlen => ⟨by
      have h4 : 4000 < sizeLine := by decide
      have := f.1
      omega, fun p np => k _ _ (same_upd s1 np) ?_⟩
    unfold LitAt
    exact ⟨p, xs, rfl, upd_same, LitsAt.ext (LamX.ExtN.of (same_upd (Same.refl H1) np)) h1⟩
theorem lits_reads : ∀ (ls : List Lit) (σ : L2.St) (H : Hp) (Q : List V → Hp → Prop), FitsAll σ ls → (∀ xs H', Same H H' → LitsAt H' xs ls → xs.length = ls.length → Q xs H') → tLits ls σ H Q
  | [], σ, H, Q, _, k => by unfold tLits; exact k [] H (Same.refl H) (by unfold LitsAt; rfl) rfl
  | l :: ls, σ, H, Q, f, k => by
    unfold tLits
    unfold FitsAll at f
    refine lit_reads l σ H _ f.1 fun x H1 s1 h1 => lits_reads ls σ H1 _ f.2 fun xs H2 s2 h2 hl => k (x :: xs) H2 (Same.trans s1 s2) ?_ (by rw [List.length_cons, List.length_cons, hl])
    unfold LitsAt
    exact ⟨x, xs, rfl, LitAt.ext (LamX.ExtN.of s2) h1, h2⟩
end
/-! ### as chains -/
def litV : Lit → V
  | .non => .non
  | .bl b => .bl b
  | .int i => .int i
  | .neg i => .int (-i)
  | .str z => .str z
  | .var _ z => .str z
  | .tup _ => .ref 0
  | .lst _ => .ref 0
def litStep : Lit → Option (List V)
  | .tup ls => some (ls.map litV)
  | _ => none
def litOo : Lit → Option (List (Option (List V)))
  | .tup ls => some (ls.map litStep)
  | _ => none
def erase : V → V
  | .ref _ => .ref 0
  | x => x
theorem within_erase : ∀ (ls : List Str) (xs : List V) (a : Int), within ls (xs.map erase) a = within ls xs a
  | [], [], _ => rfl
  | [], x :: r, _ => by cases x <;> rfl
  | l :: ls, [], _ => rfl
  | l :: ls, x :: r, a => by
    cases x <;> first | rfl | skip
    rename_i n
    show (!(decide (n < (lohi l a).1) || decide (n > (lohi l a).2)) && within ls (r.map erase) n) = (!(decide (n < (lohi l a).1) || decide (n > (lohi l a).2)) && within ls r n)
    rw [within_erase ls r n]
theorem stepOk_erase (ys : List V) : stepOk (ys.map erase) = stepOk ys := by
  match ys with
  | [] => rfl
  | x :: r =>
    cases x <;> first | rfl | skip
    rename_i name
    show stepOkN name (r.map erase) = stepOkN name r
    unfold stepOkN
    cases tab.lookup name with
    | none => rfl
    | some ls =>
      show (decide (ls.length = (r.map erase).length) && within ls (r.map erase) 0) = (decide (ls.length = r.length) && within ls r 0)
      rw [List.length_map, within_erase]
theorem headIn_erase (names : List Str) (ys : List V) : headIn names (ys.map erase) = headIn names ys := by
  match ys with
  | [] => rfl
  | x :: r => cases x <;> rfl
def eraseO (o : Option (List V)) : Option (List V) := o.map (·.map erase)
theorem stepOkO_erase (o : Option (List V)) : stepOkO (eraseO o) = stepOkO o := by
  cases o with
  | none => rfl
  | some ys => exact stepOk_erase ys
theorem filt_erase (p : Nat × List Str) : ∀ os : List (Option (List V)), (((os.map eraseO).filterMap id).filter (headIn p.2)).length = ((os.filterMap id).filter (headIn p.2)).length
  | [] => rfl
  | none :: r => filt_erase p r
  | some ys :: r => by
    have ih := filt_erase p r
    have e1 : ((some ys :: r).map eraseO).filterMap id = (ys.map erase) :: (r.map eraseO).filterMap id := rfl
    have e2 : (some ys :: r).filterMap id = ys :: r.filterMap id := rfl
    rw [e1, e2, List.filter_cons, List.filter_cons, headIn_erase]
    cases headIn p.2 ys with
    | true =>
      show (_ :: _).length = (_ :: _).length
      rw [List.length_cons, List.length_cons, ih]
    | false => exact ih
theorem limOk_erase (os : List (Option (List V))) : limOk ((os.map eraseO).filterMap id) = limOk (os.filterMap id) := by
  unfold limOk
  congr 1
  funext p
  rw [filt_erase]
theorem chainOkL_erase (os : List (Option (List V))) : chainOkL (os.map eraseO) = chainOkL os := by
  unfold chainOkL
  rw [List.length_map, limOk_erase]
  congr 2
  induction os with
  | nil => rfl
  | cons o r ih => rw [List.map_cons, List.all_cons, List.all_cons, stepOkO_erase, ih]
theorem flat_at {K : PySem.W.Frag} {H : Hp} : ∀ {xs : List V} {ls : List Lit}, LitsAt H xs ls → xs.map erase = ls.map litV ∧ ∀ x ∈ xs, Nice K H x
  | xs, [], h => by
    unfold LitsAt at h
    subst h
    exact ⟨rfl, fun x h => by cases h⟩
  | xs, l :: ls, h => by
    unfold LitsAt at h
    obtain ⟨y, ys, rfl, h1, h2⟩ := h
    obtain ⟨i1, i2⟩ := flat_at (K := K) h2
    have hy : erase y = litV l ∧ Nice K H y := by
      cases l <;> unfold LitAt at h1
      · subst h1; exact ⟨rfl, Nice.non⟩
      · subst h1; exact ⟨rfl, Nice.bl _⟩
      · subst h1; exact ⟨rfl, Nice.int _⟩
      · subst h1; exact ⟨rfl, Nice.int _⟩
      · subst h1; exact ⟨rfl, Nice.str _⟩
      · subst h1; exact ⟨rfl, Nice.str _⟩
      · obtain ⟨a, zs, rfl, h3, _⟩ := h1
        exact ⟨rfl, Nice.tup (SqT.of h3)⟩
      · obtain ⟨a, zs, rfl, h3, _⟩ := h1
        exact ⟨rfl, ⟨"list", by decide, .base (.lst h3)⟩⟩
    refine ⟨by rw [List.map_cons, List.map_cons, hy.1, i1], fun x hx => ?_⟩
    rcases List.mem_cons.mp hx with e | e
    · rw [e]
      exact hy.2
    · exact i2 x e
theorem step_at {K : PySem.W.Frag} {H : Hp} {x : V} {l : Lit} (h : LitAt H x l) : ∃ o, StepV K H x o ∧ eraseO o = litStep l := by
  cases l <;> unfold LitAt at h
  · subst h; exact ⟨none, ⟨"NoneType", by decide, by decide, .base .non⟩, rfl⟩
  · subst h; exact ⟨none, ⟨"bool", by decide, by decide, .base (.bl _)⟩, rfl⟩
  · subst h; exact ⟨none, ⟨"int", by decide, by decide, .base (.int _)⟩, rfl⟩
  · subst h; exact ⟨none, ⟨"int", by decide, by decide, .base (.int _)⟩, rfl⟩
  · subst h; exact ⟨none, ⟨"str", by decide, by decide, .base (.str _)⟩, rfl⟩
  · subst h; exact ⟨none, ⟨"str", by decide, by decide, .base (.str _)⟩, rfl⟩
  · obtain ⟨a, xs, rfl, h1, h2⟩ := h
    obtain ⟨i1, i2⟩ := flat_at (K := K) h2
    exact ⟨some xs, ⟨a, rfl, SqT.of h1, i2⟩, by show some (xs.map erase) = some _; rw [i1]⟩
  · obtain ⟨a, xs, rfl, h1, h2⟩ := h
    exact ⟨none, ⟨"list", by decide, by decide, .base (.lst h1)⟩, rfl⟩
theorem steps_at {K : PySem.W.Frag} {H : Hp} : ∀ {xs : List V} {ls : List Lit}, LitsAt H xs ls → ∃ os, Steps K H xs os ∧ os.map eraseO = ls.map litStep
  | xs, [], h => by
    unfold LitsAt at h
    subst h
    exact ⟨[], ⟨rfl, fun i x o h _ => by simp at h⟩, rfl⟩
  | xs, l :: ls, h => by
    unfold LitsAt at h
    obtain ⟨y, ys, rfl, h1, h2⟩ := h
    obtain ⟨o, o1, o2⟩ := step_at (K := K) h1
    obtain ⟨os, i1, i2⟩ := steps_at (K := K) h2
    refine ⟨o :: os, ⟨by rw [List.length_cons, List.length_cons, i1.len], fun i x p hx hp => ?_⟩, by rw [List.map_cons, List.map_cons, o2, i2]⟩
    match i, hx, hp with
    | 0, hx, hp =>
      cases hx
      cases hp
      exact o1
    | i + 1, hx, hp => exact i1.at_ i x p (by simpa using hx) (by simpa using hp)
/-- a display is a chain just if its own words say so -/
theorem lit_chain {K : PySem.W.Frag} {H : Hp} {x : V} {l : Lit} (h : LitAt H x l) : ∃ oo, ChainV K H x oo ∧ chainOkO oo = chainOkO (litOo l) := by
  cases l <;> unfold LitAt at h
  · subst h; exact ⟨none, ⟨"NoneType", by decide, by decide, .base .non⟩, rfl⟩
  · subst h; exact ⟨none, ⟨"bool", by decide, by decide, .base (.bl _)⟩, rfl⟩
  · subst h; exact ⟨none, ⟨"int", by decide, by decide, .base (.int _)⟩, rfl⟩
  · subst h; exact ⟨none, ⟨"int", by decide, by decide, .base (.int _)⟩, rfl⟩
  · subst h; exact ⟨none, ⟨"str", by decide, by decide, .base (.str _)⟩, rfl⟩
  · subst h; exact ⟨none, ⟨"str", by decide, by decide, .base (.str _)⟩, rfl⟩
  · obtain ⟨a, xs, rfl, h1, h2⟩ := h
    obtain ⟨os, i1, i2⟩ := steps_at (K := K) h2
    exact ⟨some os, ⟨a, xs, rfl, SqT.of h1, i1⟩, by show chainOkL os = chainOkL _; rw [← i2, chainOkL_erase]⟩
  · obtain ⟨a, xs, rfl, h1, h2⟩ := h
    exact ⟨none, ⟨"list", by decide, by decide, .base (.lst h1)⟩, rfl⟩
/-- no chain, as long as no known object changes -/
def BadC (K : PySem.W.Frag) (H : Hp) (x : V) : Prop := ∀ H', LamX.ExtN H H' → ∃ oo, ChainV K H' x oo ∧ chainOkO oo = false
theorem BadC.ext {K : PySem.W.Frag} {H H' : Hp} {x : V} (b : BadC K H x) (e : LamX.ExtN H H') : BadC K H' x := fun H2 e2 => b H2 (e.trans e2)
theorem badC_lit {K : PySem.W.Frag} {H : Hp} {x : V} {l : Lit} (h : LitAt H x l) (hb : chainOkO (litOo l) = false) : BadC K H x := fun H' e => by
  obtain ⟨oo, h1, h2⟩ := lit_chain (K := K) (LitAt.ext e h)
  exact ⟨oo, h1, h2.trans hb⟩
theorem badC_lits {K : PySem.W.Frag} {H : Hp} : ∀ {xs : List V} {ls : List Lit}, LitsAt H xs ls → (ls.all fun l => !chainOkO (litOo l)) = true → ∀ x ∈ xs, BadC K H x
  | xs, [], h, _, x, hx => by
    unfold LitsAt at h
    subst h
    cases hx
  | xs, l :: ls, h, hb, x, hx => by
    unfold LitsAt at h
    obtain ⟨y, ys, rfl, h1, h2⟩ := h
    rw [List.all_cons, Bool.and_eq_true] at hb
    rcases List.mem_cons.mp hx with e | e
    · rw [e]
      exact badC_lit h1 (by simpa using hb.1)
    · exact badC_lits h2 hb.2 x e
theorem bad_appC {K : PySem.W.Frag} {H : Hp} {xs ys : List V} (h : ∀ v ∈ xs, BadC K H v) (t : ∀ v ∈ ys, BadC K H v) : ∀ v ∈ xs ++ ys, BadC K H v := fun v hv => (List.mem_append.mp hv).elim (h v) (t v)
/-- bad = bad + [..] -/
theorem cat_lits {K : PySem.W.Frag} {i : Nat} {σ : L2.St} {H : Hp} {D : Ends} {l : Addr} {L : List V} (ls : List Lit) (hσ : σ[i]? = some (some (.ref l))) (hl : H l = some (.lst L)) (hL : ∀ v ∈ L, BadC K H v) (hlen : L.length ≤ 1000) (h1 : ls.length ≤ 1000) (f : FitsAll σ ls) (hb : (ls.all fun l => !chainOkO (litOo l)) = true)
    (go : ∀ p L' Hm H', Same H Hm → Same Hm H' → Hm p = none → H' p = some (.lst L') → (∀ v ∈ L', BadC K Hm v) → L'.length = L.length + ls.length → D.nx (σ.set i (some (.ref p))) H') : tAsg (tOp rCat (tVar i) (tLst (tLits ls))) (gName i) D σ H := by
  have hsl : 4000 < sizeLine := by decide
  refine ⟨_, hσ, lits_reads ls σ H _ f fun xs H1 s1 h1' hx => ⟨by omega, fun q nq => ⟨l, q, L, xs, rfl, rfl, (upd_ne (ne_of_none (s1 _ _ hl) nq)).trans (s1 _ _ hl), upd_same, by omega, fun p np => ?_⟩⟩⟩
  have s2 := same_upd (o := .lst xs) s1 nq
  have s3 := same_upd (o := .lst xs) (Same.refl H1) nq
  exact go p (L ++ xs) _ _ s2 (same_upd (Same.refl _) np) np upd_same (bad_appC (fun v hv => (hL v hv).ext (LamX.ExtN.of s2)) (badC_lits (LitsAt.ext (LamX.ExtN.of s3) h1') hb)) (by rw [List.length_append, hx])
mutual
/-- no lists in it -/
def noL : Lit → Bool
  | .lst _ => false
  | .tup ls => noLs ls
  | _ => true
def noLs : List Lit → Bool
  | [] => true
  | l :: ls => noL l && noLs ls
end
mutual
theorem LitAt.keepL {H H' : Hp} {d : Addr} {L : List V} (hd : H d = some (.lst L)) (e : ∀ b o, H b = some o → b ≠ d → H' b = some o) : ∀ {x : V} {l : Lit}, noL l = true → LitAt H x l → LitAt H' x l
  | x, .non, _, h => by unfold LitAt at h ⊢; exact h
  | x, .bl _, _, h => by unfold LitAt at h ⊢; exact h
  | x, .int _, _, h => by unfold LitAt at h ⊢; exact h
  | x, .neg _, _, h => by unfold LitAt at h ⊢; exact h
  | x, .str _, _, h => by unfold LitAt at h ⊢; exact h
  | x, .var _ _, _, h => by unfold LitAt at h ⊢; exact h
  | x, .tup ls, n, h => by
    unfold LitAt at h ⊢
    unfold noL at n
    obtain ⟨a, xs, h1, h2, h3⟩ := h
    exact ⟨a, xs, h1, e _ _ h2 (ne_of h2 hd (by intro z; cases z)), LitsAt.keepL hd e n h3⟩
  | x, .lst ls, n, h => by
    unfold noL at n
    cases n
theorem LitsAt.keepL {H H' : Hp} {d : Addr} {L : List V} (hd : H d = some (.lst L)) (e : ∀ b o, H b = some o → b ≠ d → H' b = some o) : ∀ {xs : List V} {ls : List Lit}, noLs ls = true → LitsAt H xs ls → LitsAt H' xs ls
  | xs, [], _, h => by unfold LitsAt at h ⊢; exact h
  | xs, l :: ls, n, h => by
    unfold LitsAt at h ⊢
    unfold noLs at n
    rw [Bool.and_eq_true] at n
    obtain ⟨y, ys, h1, h2, h3⟩ := h
    exact ⟨y, ys, h1, LitAt.keepL hd e n.1 h2, LitsAt.keepL hd e n.2 h3⟩
end
theorem LitsAt.get {H : Hp} : ∀ {xs : List V} {ls : List Lit}, LitsAt H xs ls → xs.length = ls.length ∧ ∀ (i : Nat) (x : V) (l : Lit), xs[i]? = some x → ls[i]? = some l → LitAt H x l
  | xs, [], h => by
    unfold LitsAt at h
    subst h
    exact ⟨rfl, fun i x l h _ => by simp at h⟩
  | xs, l :: ls, h => by
    unfold LitsAt at h
    obtain ⟨y, ys, rfl, h1, h2⟩ := h
    obtain ⟨i1, i2⟩ := LitsAt.get h2
    refine ⟨by rw [List.length_cons, List.length_cons, i1], fun i x m hx hm => ?_⟩
    match i, hx, hm with
    | 0, hx, hm =>
      cases hx
      cases hm
      exact h1
    | i + 1, hx, hm => exact i2 i x m (by simpa using hx) (by simpa using hm)
theorem LitsAt.snoc {H : Hp} : ∀ {xs : List V} {ls : List Lit} {x : V} {l : Lit}, LitsAt H xs ls → LitAt H x l → LitsAt H (xs ++ [x]) (ls ++ [l])
  | xs, [], x, l, h, hx => by
    unfold LitsAt at h
    subst h
    show LitsAt H [x] [l]
    unfold LitsAt
    exact ⟨x, [], rfl, hx, by unfold LitsAt; rfl⟩
  | xs, m :: ls, x, l, h, hx => by
    unfold LitsAt at h
    obtain ⟨y, ys, rfl, h1, h2⟩ := h
    show LitsAt H (y :: (ys ++ [x])) (m :: (ls ++ [l]))
    unfold LitsAt
    exact ⟨y, ys ++ [x], rfl, h1, LitsAt.snoc h2 hx⟩
theorem LitsAt.append {H : Hp} : ∀ {xs ys : List V} {ls ms : List Lit}, LitsAt H xs ls → LitsAt H ys ms → LitsAt H (xs ++ ys) (ls ++ ms)
  | xs, ys, [], ms, h, h2 => by
    unfold LitsAt at h
    subst h
    exact h2
  | xs, ys, l :: ls, ms, h, h2 => by
    unfold LitsAt at h
    obtain ⟨x, r, rfl, h1, h3⟩ := h
    show LitsAt H (x :: (r ++ ys)) (l :: (ls ++ ms))
    unfold LitsAt
    exact ⟨x, r ++ ys, rfl, h1, LitsAt.append h3 h2⟩
/-- x = [..] -/
theorem set_lits {i : Nat} {σ : L2.St} {H : Hp} {D : Ends} (ls : List Lit) (f : FitsAll σ ls) (h1 : ls.length ≤ 1000) (go : ∀ p xs H1, Same H H1 → LitsAt H1 xs ls → xs.length = ls.length → H1 p = none → D.nx (σ.set i (some (.ref p))) (upd H1 p (.lst xs))) :
    tAsg (tLst (tLits ls)) (gName i) D σ H := by
  have hsl : 4000 < sizeLine := by decide
  exact lits_reads ls σ H _ f fun xs H1 s1 h2 hx => ⟨by omega, fun p np => go p xs H1 s1 h2 hx np⟩
end FC
set_option Elab.async false
set_option linter.all false
set_option maxRecDepth 100000
set_option maxHeartbeats 1000000
namespace FC
open PySem PySem.Spec PyProof.Rows L2
/-! ### data of chains, for == -/
def vData : V → PyData
  | .str z => .str z
  | .int i => .int i
  | _ => .none
def stepData (ys : List V) : PyData := .tuple (ys.map vData)
def chainData (cs : List (List V)) : PyData := .tuple (cs.map stepData)
theorem dp_flat {K : PySem.W.Frag} {H : Hp} : ∀ {ys : List V}, (∀ y ∈ ys, strInt y = true) → DpAll K H ys (ys.map vData)
  | [], _ => .nil
  | y :: r, h => by
    have h1 := h y (by simp)
    refine .cons ?_ (dp_flat fun z hz => h z (List.mem_cons_of_mem _ hz))
    cases y <;> first | exact .str _ | exact .int _ | cases h1
theorem dp_steps {K : PySem.W.Frag} {H : Hp} : ∀ {xs : List V} {cs : List (List V)}, xs.length = cs.length → (∀ (i : Nat) (x : V) (ys : List V), xs[i]? = some x → cs[i]? = some ys → Dp K H x (stepData ys)) → DpAll K H xs (cs.map stepData)
  | [], [], _, _ => .nil
  | x :: r, ys :: s, hl, h => .cons (h 0 x ys rfl rfl) (dp_steps (by simpa using hl) fun i x ys h1 h2 => h (i + 1) x ys (by simpa using h1) (by simpa using h2))
  | [], _ :: _, hl, _ => by simp at hl
  | _ :: _, [], hl, _ => by simp at hl
theorem chain_dp {K : PySem.W.Frag} {H : Hp} {a : Addr} {cs : List (List V)} (h : ChainAt K H a cs) (hc : chainOk cs = true) : Dp K H (.ref a) (chainData cs) := by
  obtain ⟨xs, h1, h2⟩ := h
  refine .tup h1 (dp_steps (by rw [h2.len, List.length_map]) fun i x ys hx hy => ?_)
  obtain ⟨b, rfl, hb, _⟩ := h2.at_ i x (some ys) hx (by rw [List.getElem?_map, hy]; rfl)
  exact .tup hb (dp_flat (stepOk_strInt (chainOk_steps hc ys (List.mem_of_getElem? hy))))
theorem lay_all : ∀ {ds : List PyData}, (∀ d ∈ ds, d.canLay0 = true) → PyData.canLayAll0 ds = true
  | [], _ => rfl
  | d :: r, h => by
    show (d.canLay0 && PyData.canLayAll0 r) = true
    rw [h d (by simp), lay_all fun z hz => h z (List.mem_cons_of_mem _ hz)]
    rfl
theorem depth_all {n : Nat} : ∀ {ds : List PyData}, (∀ d ∈ ds, d.depth ≤ n) → PyData.depthAll ds ≤ n
  | [], _ => Nat.zero_le _
  | d :: r, h => by
    show max d.depth (PyData.depthAll r) ≤ n
    have h1 := h d (by simp)
    have h2 := depth_all (n := n) fun z hz => h z (List.mem_cons_of_mem _ hz)
    omega
theorem step_shaped {ys : List V} (h : stepOk ys = true) : (stepData ys).canLay0 = true ∧ (stepData ys).depth ≤ 1 := by
  obtain ⟨name, ns, rfl, hn, _⟩ := stepOk_shape h
  have hk : PyData.strOk name = true := by
    have all : ∀ x ∈ names, PyData.strOk x = true := by decide +kernel
    exact all _ hn
  constructor
  · refine lay_all fun d hd => ?_
    obtain ⟨v, hv, rfl⟩ := List.mem_map.mp hd
    rcases List.mem_cons.mp hv with z | z
    · rw [z]
      exact hk
    · obtain ⟨n, _, rfl⟩ := List.mem_map.mp z
      rfl
  · show PyData.depthAll _ + 1 ≤ 1
    have := depth_all (n := 0) (ds := (V.str name :: ns.map V.int).map vData) fun d hd => by
      obtain ⟨v, hv, rfl⟩ := List.mem_map.mp hd
      rcases List.mem_cons.mp hv with z | z
      · rw [z]
        exact Nat.le_refl _
      · obtain ⟨n, _, rfl⟩ := List.mem_map.mp z
        exact Nat.le_refl _
    omega
theorem chain_shaped {cs : List (List V)} (h : chainOk cs = true) : SeqAt.shaped (chainData cs) = true := by
  have hs := chainOk_steps h
  show (PyData.canLayAll0 (cs.map stepData) && decide (PyData.depthAll (cs.map stepData) + 1 ≤ 64)) = true
  rw [lay_all fun d hd => by
    obtain ⟨ys, hy, rfl⟩ := List.mem_map.mp hd
    exact (step_shaped (hs ys hy)).1]
  have := depth_all (n := 1) (ds := cs.map stepData) fun d hd => by
    obtain ⟨ys, hy, rfl⟩ := List.mem_map.mp hd
    exact (step_shaped (hs ys hy)).2
  rw [decide_eq_true (by omega)]
  rfl
def errData (z : Str) : PyData := .tuple [.str "error", .str z]
theorem err_shaped : SeqAt.shaped (errData "InvalidText") = true := by decide +kernel
theorem err_dp {K : PySem.W.Frag} {H : Hp} {t : Addr} {z : Str} (h : H t = some (.tup [.str "error", .str z])) : Dp K H (.ref t) (errData z) := .tup (SqT.of h) (.cons (.str _) (.cons (.str _) .nil))
theorem chain_not_err {cs : List (List V)} (z : Str) : PyData.eqv (chainData cs) (errData z) = false := by
  match cs with
  | [] => rfl
  | [] :: r => rfl
  | (y :: s) :: r => rfl
end FC
set_option Elab.async false
set_option linter.all false
set_option maxRecDepth 100000
set_option maxHeartbeats 1000000
namespace FC
open PySem PySem.Spec PyProof.Rows L2
/-- all but d and the tables of code objects is as it was -/
def Keep (d : Addr) (H H' : Hp) : Prop := ∀ b o, H b = some o → b ≠ d → (∀ ps, o ≠ .tbl ps) → H' b = some o
theorem Keep.refl (d : Addr) (H : Hp) : Keep d H H := fun _ _ h _ _ => h
theorem Keep.trans {d : Addr} {H H1 H2 : Hp} (a : Keep d H H1) (b : Keep d H1 H2) : Keep d H H2 := fun c o h n m => b c o (a c o h n m) n m
theorem Keep.same {d : Addr} {H H' : Hp} (e : Same H H') : Keep d H H' := fun b o h _ _ => e b o h
theorem Keep.sameX {d : Addr} {H H' : Hp} (e : SameX d H H') : Keep d H H' := fun b o h n _ => e b o h n
theorem Keep.ext {d : Addr} {H H' : Hp} (e : LamX.ExtN H H') : Keep d H H' := fun b o h _ m => e b o h m
theorem sqt_keep {K : PySem.W.Frag} {H H' : Hp} {a d : Addr} {xs : List V} (h : SqT K H a xs) (hd : Dice H d) (s : Keep d H H') : SqT K H' a xs := by
  obtain ⟨x, y, e⟩ := hd
  rcases h with (h | ⟨o, h⟩) | h
  · exact .inl (.inl (s _ _ h (ne_of h e (by intro z; cases z)) (fun ps z => by cases z)))
  · exact .inl (.inr ⟨o, s _ _ h (ne_of h e (by intro z; cases z)) (fun ps z => by cases z)⟩)
  · exact .inr h
theorem chain_keep {K : PySem.W.Frag} {H H' : Hp} {a d : Addr} {cs : List (List V)} (h : ChainAt K H a cs) (hc : chainOk cs = true) (hd : Dice H d) (s : Keep d H H') : ChainAt K H' a cs := by
  obtain ⟨xs, h1, h2⟩ := h
  refine ⟨xs, sqt_keep h1 hd s, h2.len, fun i x o hx ho => ?_⟩
  have hi := get_lt ho
  rw [List.length_map] at hi
  have e : (cs.map some)[i]? = some (some cs[i]) := by rw [List.getElem?_map, List.getElem?_eq_getElem hi]; rfl
  rw [e] at ho
  have ho : some cs[i] = o := Option.some.inj ho
  subst ho
  obtain ⟨b, e1, e2, _⟩ := h2.at_ i x _ hx e
  exact ⟨b, e1, sqt_keep e2 hd s, fun y hy => strInt_nice (stepOk_strInt (chainOk_steps hc _ (List.getElem_mem hi)) y hy)⟩
theorem tabs_sameX {T : List (Addr × Str)} {H H' : Hp} {d : Addr} (h : LamX.Tabs T H) (hd : Dice H d) (s : SameX d H H') : LamX.Tabs T H' := fun p hp => by
  obtain ⟨x, y, e⟩ := hd
  obtain ⟨ps, h1, h2, h3⟩ := h p hp
  refine ⟨ps, s _ _ h1 (ne_of h1 e (by intro z; cases z)), h2, fun pos cv hc => ?_⟩
  obtain ⟨c, e1, e2⟩ := h3 pos cv hc
  exact ⟨c, e1, s _ _ e2 (ne_of e2 e (by unfold LamX.CodeO; intro z; cases z))⟩
/-- what stands through a round of the law: the dice of all rounds at t, one of them d, the lambdas' table -/
structure Rd (T : List (Addr × Str)) (t d : Addr) (ds : List Addr) (H : Hp) : Prop where
  tl : H t = some (.lst (ds.map V.ref))
  all : ∀ c ∈ ds, Dice H c
  me : d ∈ ds
  tb : LamX.Tabs T H
theorem Rd.d {T : List (Addr × Str)} {t d : Addr} {ds : List Addr} {H : Hp} (r : Rd T t d ds H) : Dice H d := r.all d r.me
theorem Rd.step {T : List (Addr × Str)} {t d : Addr} {ds : List Addr} {H H' : Hp} (r : Rd T t d ds H) (k : Keep d H H') (hd : Dice H' d) (tb : LamX.Tabs T H') : Rd T t d ds H' := by
  have td : t ≠ d := fun z => by
    obtain ⟨x, y, e⟩ := r.d
    rw [← z, r.tl] at e
    have e := Option.some.inj e
    injection e with e
    match ds, e with
    | c :: _, e => injection e with e; cases e
  refine ⟨k _ _ r.tl td (fun ps z => by cases z), fun c hc => ?_, r.me, tb⟩
  by_cases h : c = d
  · rw [h]
    exact hd
  · obtain ⟨x, y, e⟩ := r.all c hc
    exact ⟨x, y, k _ _ e h (fun ps z => by cases z)⟩
theorem Rd.same {T : List (Addr × Str)} {t d : Addr} {ds : List Addr} {H H' : Hp} (r : Rd T t d ds H) (s : Same H H') : Rd T t d ds H' := r.step (Keep.same s) (r.d.same s) (r.tb.ext s)
theorem Rd.roll {T : List (Addr × Str)} {t d : Addr} {ds : List Addr} {H H' : Hp} (r : Rd T t d ds H) (s : SameX d H H') (hd : Dice H' d) : Rd T t d ds H' := r.step (Keep.sameX s) hd (tabs_sameX r.tb r.d s)
theorem Rd.ext {T : List (Addr × Str)} {t d : Addr} {ds : List Addr} {H H' : Hp} (r : Rd T t d ds H) (s : LamX.ExtN H H') (tb : LamX.Tabs T H') : Rd T t d ds H' := by
  obtain ⟨x, y, e⟩ := r.d
  exact r.step (Keep.ext s) ⟨x, y, s _ _ e (fun ps z => by cases z)⟩ tb
/-- what stands through the law: the dice of all rounds at t, the lambdas' table -/
structure Rt (T : List (Addr × Str)) (t : Addr) (ds : List Addr) (H : Hp) : Prop where
  tl : H t = some (.lst (ds.map V.ref))
  all : ∀ c ∈ ds, Dice H c
  tb : LamX.Tabs T H
theorem Rt.rd {T : List (Addr × Str)} {t d : Addr} {ds : List Addr} {H : Hp} (r : Rt T t ds H) (h : d ∈ ds) : Rd T t d ds H := ⟨r.tl, r.all, h, r.tb⟩
theorem Rd.rt {T : List (Addr × Str)} {t d : Addr} {ds : List Addr} {H : Hp} (r : Rd T t d ds H) : Rt T t ds H := ⟨r.tl, r.all, r.tb⟩
theorem ifNe {x y : V} {A B : Prop} (h : x = y) (hb : B) : if (!decide (x = y)) = true then A else B := by
  rw [decide_eq_true h, if_neg (by decide)]
  exact hb
theorem ifEqvT {x y : PyData} {A B : Prop} (h : PyData.eqv x y = true) (hb : B) : if (!PyData.eqv x y) = true then A else B := by
  rw [h, if_neg (by decide)]
  exact hb
theorem ifEqvF {x y : PyData} {A B : Prop} (h : PyData.eqv x y = false) (hb : A) : if (!PyData.eqv x y) = true then A else B := by
  rw [h, if_pos (by decide)]
  exact hb
theorem ifNot {c : Bool} {A B : Prop} (h : c = true) (hb : B) : if (!c) = true then A else B := by
  rw [h, if_neg (by decide)]
  exact hb
end FC
set_option Elab.async false
set_option linter.all false
set_option maxRecDepth 100000
set_option maxHeartbeats 4000000
namespace FC
open PySem PySem.Spec PyProof.Rows L2
abbrev NB : List Str := ["_law_chain_here", "_law_bad", "_law_cases", "_law_step_here", "_law_kind"]
def w1 : List Lit := [.tup [.non], .tup [.str "sums"], .tup [.tup []], .tup [.lst [.str "sums"]], .tup [.tup [.str "sums", .int 0]]]
def w2 : List Lit := [.tup [.tup [.str "mean"]], .tup [.tup [.int 1, .int 2]]]
def w3 : List Lit := [.tup [.str "line", .int 4, .int 0], .tup [.str "line", .neg 4, .int 0], .tup [.str "line", .int 0, .int 10], .tup [.str "line", .int 0, .neg 10], .tup [.str "line", .int 1]]
def w4 : List Lit := [.tup [.str "line", .int 1, .int 0, .int 0], .tup [.str "line", .bl true, .int 0]]
def w5 (z : Str) : List Lit := [.tup [.tup [.var 4 z, .int 4, .int 0]], .tup [.tup [.var 4 z, .int 1, .int 0]], .tup [.tup [.var 4 z, .int 2, .int 2]], .tup [.tup [.var 4 z, .int 3, .neg 1]], .tup [.tup [.var 4 z, .int 2]]]
def w6 (z : Str) : List Lit := [.tup [.tup [.var 4 z, .int 2, .non]], .tup [.tup [.var 4 z, .int 2, .int 0, .int 0]]]
def w7 : List Lit := [.tup [.tup [.str "groups", .int 4]], .tup [.tup [.str "groups", .int 1]], .tup [.tup [.str "groups"]], .tup [.tup [.str "turn", .int 2, .int 0, .int 1]]]
def w8 : List Lit := [.tup [.tup [.str "turn", .int 2, .int 2, .int 1, .int 0]], .tup [.tup [.str "turn", .int 2, .int 0, .int 4, .int 0]]]
def w9 : List Lit := [.tup [.tup [.str "sums"], .tup [.str "gaps"], .tup [.str "count"]]]
def w10 : List Lit := [.tup [.tup [.str "keep", .int 2, .int 0], .tup [.str "anew", .int 2, .int 0], .tup [.str "turn", .int 2, .int 0, .int 1, .int 0]]]
def w11 : List Lit := [.tup [.tup [.str "twice"], .tup [.str "twice"]], .tup [.tup [.str "groups", .int 2], .tup [.str "anew", .int 3, .int 0], .tup [.str "sums"]]]
/-- no chains -/
def spBadC (K : PySem.W.Frag) : Sp := fun vs H Q _ => ∃ (c : Addr) (xs : List V), vs = [.ref c] ∧ SqT K H c xs ∧ ∀ p L H', Same H H' → H' p = some (.lst L) → (∀ v ∈ L, BadC K H' v) → L.length ≤ 200 → Q (.ref p) H'
section
variable {P : Program} {w : World} {K : PySem.W.Frag} {mg : Str → Option Value} {base : Heap}
theorem scBadC : FnScope NB ["_law_chain_here"] (defScope sBadC) := ⟨rfl, rfl, rfl, by decide +kernel, rfl, by decide +kernel, by decide +kernel⟩
theorem ok_badC {f : Addr} {fd : FuncData} (F : Fun K "_law_bad_chains" "_law_bad_chains" sBadC f fd) (hL : mg "list" = none) : FnOk P w K mg base CX0 1 f fd ["_law_chain_here"] (spBadC K) := by
  refine F.ok scBadC (fun vs H Q E h => ?_) (fun cdv A outer s H vs Q E hr h => ?_)
  · obtain ⟨c, xs, rfl, _⟩ := h
    rfl
  · obtain ⟨c, xs, rfl, hc, k⟩ := h
    have nd := scBadC.nd
    refine ⟨_, (pss_cons (ps_set (i := 1) nd rfl (Or.inl rfl) (pe_lst (pa_cons pe_non (pa_cons pe_int (pa_cons pe_str (pa_cons (pe_callTy call_list_of (by rfl) hL (by decide +kernel) (pa_cons (pv 0) pa_nil)) (pa_cons (pe_tup (pa_cons pe_non pa_nil)) (pa_cons (pe_tup (pa_cons pe_str pa_nil)) (pa_cons (pe_tup (pa_cons (pe_tup pa_nil) pa_nil)) (pa_cons (pe_tup (pa_cons (pe_lst (pa_cons pe_str pa_nil)) pa_nil)) (pa_cons (pe_tup (pa_cons (pe_tup (pa_cons pe_str (pa_cons pe_int pa_nil))) pa_nil)) pa_nil)))))))))))
    (pss_cons (ps_set (i := 1) nd rfl (Or.inl rfl) (pe_op op_cat (pv 1) (pe_lst (pa_cons (pe_tup (pa_cons (pe_tup (pa_cons pe_str pa_nil)) pa_nil)) (pa_cons (pe_tup (pa_cons (pe_tup (pa_cons pe_int (pa_cons pe_int pa_nil))) pa_nil)) pa_nil)))))
    (pss_cons (ps_set (i := 2) nd rfl (Or.inl rfl) (pe_lst (pa_cons (pe_tup (pa_cons pe_str (pa_cons pe_int (pa_cons pe_int pa_nil)))) (pa_cons (pe_tup (pa_cons pe_str (pa_cons (pe_un un_neg pe_int) (pa_cons pe_int pa_nil)))) (pa_cons (pe_tup (pa_cons pe_str (pa_cons pe_int (pa_cons pe_int pa_nil)))) (pa_cons (pe_tup (pa_cons pe_str (pa_cons pe_int (pa_cons (pe_un un_neg pe_int) pa_nil)))) (pa_cons (pe_tup (pa_cons pe_str (pa_cons pe_int pa_nil))) pa_nil)))))))
    (pss_cons (ps_set (i := 2) nd rfl (Or.inl rfl) (pe_op op_cat (pv 2) (pe_lst (pa_cons (pe_tup (pa_cons pe_str (pa_cons pe_int (pa_cons pe_int (pa_cons pe_int pa_nil))))) (pa_cons (pe_tup (pa_cons pe_str (pa_cons pe_bl (pa_cons pe_int pa_nil)))) pa_nil)))))
    (pss_cons (ps_for PassesOwn.never rfl (pi_list (pv 2)) (pg_name (i := 3) nd rfl (Or.inl rfl))
   (pss_one (ps_expr (pe_bm PySem.F.plainAttrs_list PySem.F.slot_list_append PySem.F.type_list_append mt_append (pv 1) (pa_cons (pe_tup (pa_cons (pv 3) pa_nil)) pa_nil)))))
    (pss_cons (ps_for PassesOwn.never rfl (pi_tup (pe_tup (pa_cons pe_str (pa_cons pe_str (pa_cons pe_str pa_nil))))) (pg_name (i := 4) nd rfl (Or.inl rfl))
   (pss_cons (ps_set (i := 1) nd rfl (Or.inl rfl) (pe_op op_cat (pv 1) (pe_lst (pa_cons (pe_tup (pa_cons (pe_tup (pa_cons (pv 4) (pa_cons pe_int (pa_cons pe_int pa_nil)))) pa_nil)) (pa_cons (pe_tup (pa_cons (pe_tup (pa_cons (pv 4) (pa_cons pe_int (pa_cons pe_int pa_nil)))) pa_nil)) (pa_cons (pe_tup (pa_cons (pe_tup (pa_cons (pv 4) (pa_cons pe_int (pa_cons pe_int pa_nil)))) pa_nil)) (pa_cons (pe_tup (pa_cons (pe_tup (pa_cons (pv 4) (pa_cons pe_int (pa_cons (pe_un un_neg pe_int) pa_nil)))) pa_nil)) (pa_cons (pe_tup (pa_cons (pe_tup (pa_cons (pv 4) (pa_cons pe_int pa_nil))) pa_nil)) pa_nil))))))))
    (pss_one (ps_set (i := 1) nd rfl (Or.inl rfl) (pe_op op_cat (pv 1) (pe_lst (pa_cons (pe_tup (pa_cons (pe_tup (pa_cons (pv 4) (pa_cons pe_int (pa_cons pe_non pa_nil)))) pa_nil)) (pa_cons (pe_tup (pa_cons (pe_tup (pa_cons (pv 4) (pa_cons pe_int (pa_cons pe_int (pa_cons pe_int pa_nil))))) pa_nil)) pa_nil))))))))
    (pss_cons (ps_set (i := 1) nd rfl (Or.inl rfl) (pe_op op_cat (pv 1) (pe_lst (pa_cons (pe_tup (pa_cons (pe_tup (pa_cons pe_str (pa_cons pe_int pa_nil))) pa_nil)) (pa_cons (pe_tup (pa_cons (pe_tup (pa_cons pe_str (pa_cons pe_int pa_nil))) pa_nil)) (pa_cons (pe_tup (pa_cons (pe_tup (pa_cons pe_str pa_nil)) pa_nil)) (pa_cons (pe_tup (pa_cons (pe_tup (pa_cons pe_str (pa_cons pe_int (pa_cons pe_int (pa_cons pe_int pa_nil))))) pa_nil)) pa_nil)))))))
    (pss_cons (ps_set (i := 1) nd rfl (Or.inl rfl) (pe_op op_cat (pv 1) (pe_lst (pa_cons (pe_tup (pa_cons (pe_tup (pa_cons pe_str (pa_cons pe_int (pa_cons pe_int (pa_cons pe_int (pa_cons pe_int pa_nil)))))) pa_nil)) (pa_cons (pe_tup (pa_cons (pe_tup (pa_cons pe_str (pa_cons pe_int (pa_cons pe_int (pa_cons pe_int (pa_cons pe_int pa_nil)))))) pa_nil)) pa_nil)))))
    (pss_cons (ps_set (i := 1) nd rfl (Or.inl rfl) (pe_op op_cat (pv 1) (pe_lst (pa_cons (pe_op op_repT (pe_tup (pa_cons (pe_tup (pa_cons pe_str (pa_cons pe_int (pa_cons pe_int pa_nil)))) pa_nil)) pe_int) (pa_cons (pe_tup (pa_cons (pe_tup (pa_cons pe_str pa_nil)) (pa_cons (pe_tup (pa_cons pe_str pa_nil)) (pa_cons (pe_tup (pa_cons pe_str pa_nil)) pa_nil)))) pa_nil)))))
    (pss_cons (ps_set (i := 1) nd rfl (Or.inl rfl) (pe_op op_cat (pv 1) (pe_lst (pa_cons (pe_tup (pa_cons (pe_tup (pa_cons pe_str (pa_cons pe_int (pa_cons pe_int pa_nil)))) (pa_cons (pe_tup (pa_cons pe_str (pa_cons pe_int (pa_cons pe_int pa_nil)))) (pa_cons (pe_tup (pa_cons pe_str (pa_cons pe_int (pa_cons pe_int (pa_cons pe_int (pa_cons pe_int pa_nil)))))) pa_nil)))) pa_nil))))
    (pss_one (ps_ret (pe_op op_cat (pv 1) (pe_lst (pa_cons (pe_tup (pa_cons (pe_tup (pa_cons pe_str pa_nil)) (pa_cons (pe_tup (pa_cons pe_str pa_nil)) pa_nil))) (pa_cons (pe_tup (pa_cons (pe_tup (pa_cons pe_str (pa_cons pe_int pa_nil))) (pa_cons (pe_tup (pa_cons pe_str (pa_cons pe_int (pa_cons pe_int pa_nil)))) (pa_cons (pe_tup (pa_cons pe_str pa_nil)) pa_nil)))) pa_nil)))))))))))))))), ?_⟩
    have hsl : 4000 < sizeLine := by decide
    have lstBad : ∀ {H' : Hp} {a : Addr} {L : List V}, H' a = some (.lst L) → BadC K H' (.ref a) := fun {H' a L} e H2 x => ⟨none, ⟨"list", by decide, by decide, .base (.lst (x _ _ e (fun ps z => by cases z)))⟩, rfl⟩
    have litBad : ∀ {H' : Hp} (l : Lit) {x : V}, LitAt H' x l → chainOkO (litOo l) = false → BadC K H' x := fun {H'} l {x} h hb => badC_lit h hb
    -- the first list
    refine ⟨_, rfl, c, xs, rfl, .inr hc, fun l0 n0 => ?_⟩
    have s0 := same_upd (o := .lst xs) (Same.refl H) n0
    have e0 : upd H l0 (.lst xs) l0 = some (.lst xs) := upd_same
    generalize upd H l0 (.lst xs) = H1 at s0 e0 ⊢
    refine lits_reads w1 _ _ _ (by unfold w1; simp [FitsAll, Fits]) fun ys H2 s2 h2 hl2 => ?_
    have hw1 : w1.length = 5 := rfl
    refine ⟨(by show ys.length + 4 ≤ sizeLine; omega), fun p1 np1 => ?_⟩
    have bad1 : ∀ v ∈ V.non :: .int 5 :: .str "sums" :: .ref l0 :: ys, BadC K H2 v := fun v hv => by
      simp only [List.mem_cons] at hv
      rcases hv with rfl | rfl | rfl | rfl | hv
      · exact litBad .non (by unfold LitAt; rfl) rfl
      · exact litBad (.int 5) (by unfold LitAt; rfl) rfl
      · exact litBad (.str "sums") (by unfold LitAt; rfl) rfl
      · exact lstBad (s2 _ _ e0)
      · exact badC_lits h2 (by decide +kernel) v hv
    have len1 : (V.non :: .int 5 :: .str "sums" :: .ref l0 :: ys).length = 9 := by simp [hl2, hw1]
    have sA : Same H H2 := Same.trans s0 s2
    clear h2 hl2 e0 s0 s2
    generalize V.non :: .int 5 :: .str "sums" :: .ref l0 :: ys = L1 at bad1 len1 ⊢
    have e1 : upd H2 p1 (.lst L1) p1 = some (.lst L1) := upd_same
    have s3 := same_upd (o := .lst L1) (Same.refl H2) np1
    replace bad1 : ∀ v ∈ L1, BadC K (upd H2 p1 (.lst L1)) v := fun v hv => (bad1 v hv).ext (LamX.ExtN.of s3)
    replace sA := Same.trans sA s3
    show tSeq _ _ _ _ (upd H2 p1 (.lst L1))
    generalize upd H2 p1 (.lst L1) = H3 at e1 bad1 sA ⊢
    refine cat_lits w2 rfl e1 bad1 (by omega) (by decide) (by unfold w2; simp [FitsAll, Fits]) (by decide +kernel) fun p2 L2 Hm H4 sm sm2 npm e2 bad2 len2 => ?_
    have hw2 : w2.length = 2 := rfl
    have sB : Same H Hm := Same.trans sA sm
    clear sA e1 bad1 sm s3
    -- the cases
    refine set_lits w3 (by unfold w3; simp [FitsAll, Fits]) (by decide) fun p3 c3 H5 s5 h5 hl5 np3 => ?_
    have s6 := same_upd (o := .lst c3) (Same.refl H5) np3
    have e3 : upd H5 p3 (.lst c3) p3 = some (.lst c3) := upd_same
    replace h5 := LitsAt.ext (LamX.ExtN.of s6) h5
    replace e2 := s6 _ _ (s5 _ _ e2)
    replace sm2 := Same.trans (Same.trans sm2 s5) s6
    generalize upd H5 p3 (.lst c3) = H6 at s6 e3 h5 e2 sm2 ⊢
    refine ⟨_, rfl, lits_reads w4 _ _ _ (by unfold w4; simp [FitsAll, Fits]) fun c4 H7 s7 h7 hl7 => ⟨(by have : w4.length = 2 := rfl; omega), fun p4 np4 => ?_⟩⟩
    have hw3 : w3.length = 5 := rfl
    have hw4 : w4.length = 2 := rfl
    refine ⟨p3, p4, c3, c4, rfl, rfl, (upd_ne (ne_of_none (s7 _ _ e3) np4)).trans (s7 _ _ e3), upd_same, by omega, fun p5 np5 => ?_⟩
    have s8 := same_upd (o := .lst (c3 ++ c4)) (same_upd (o := .lst c4) (Same.refl H7) np4) np5
    have hC := LitsAt.append (LitsAt.ext (LamX.ExtN.of s8) (LitsAt.ext (LamX.ExtN.of s7) h5)) (LitsAt.ext (LamX.ExtN.of s8) h7)
    have e5 : upd (upd H7 p4 (.lst c4)) p5 (.lst (c3 ++ c4)) p5 = some (.lst (c3 ++ c4)) := upd_same
    have e2' := s8 _ _ (s7 _ _ e2)
    have p52 : p5 ≠ p2 := fun z => by
      have := ne_of_none ((same_upd (o := .lst c4) (Same.refl H7) np4) _ _ (s7 _ _ e2)) np5
      exact this z.symm
    have sM := Same.trans (Same.trans sm2 s7) s8
    generalize upd (upd H7 p4 (.lst c4)) p5 (.lst (c3 ++ c4)) = H8 at hC e5 e2' sM ⊢
    have hlC : (c3 ++ c4).length = 7 := by rw [List.length_append]; omega
    generalize c3 ++ c4 = C at hC e5 hlC ⊢
    clear e2 e3 s5 s6 s7 s8 h5 h7 np3 np4 np5 sm2 hl5 hl7
    refine ⟨_, rfl, p5, rfl, ⟨_, SqL.of e5⟩, for_list (K := K) (a := p5) (xs := C) (fun i σ H9 => (∃ v3 v4 : Option V, σ = [some (.ref c), some (.ref p2), some (.ref p5), v3, v4]) ∧ Same Hm H9 ∧ H9 p5 = some (.lst C) ∧ LitsAt H9 C (w3 ++ w4) ∧ ∃ zs, H9 p2 = some (.lst (L2 ++ zs)) ∧ LitsAt H9 zs (((w3 ++ w4).take i).map fun l => .tup [l]))
      ⟨⟨_, _, rfl⟩, sM, e5, hC, [], by rw [List.append_nil]; exact e2', by unfold LitsAt; rfl⟩ (fun i σ H9 _ ⟨_, _, h, _⟩ => SqL.of h) ?_ ?_⟩
    · clear sM e5 hC e2'
      rintro i x σ H9 hx ⟨⟨v3, v4, rfl⟩, sM, e5, hC, zs, e2, hz⟩
      have hg := LitsAt.get hC
      have hi := get_lt hx
      obtain ⟨l, hl⟩ : ∃ l, (w3 ++ w4)[i]? = some l := ⟨(w3 ++ w4)[i]'(by rw [← hg.1]; exact hi), List.getElem?_eq_getElem (by rw [← hg.1]; exact hi)⟩
      have hxl := hg.2 i x l hx hl
      have hzl : zs.length = i := by
        have := (LitsAt.get hz).1
        rw [this, List.length_map, List.length_take, ← hg.1]
        omega
      have et : (w3 ++ w4).take (i + 1) = (w3 ++ w4).take i ++ [l] := take_succ_get hl
      refine ⟨_, rfl, .inl ⟨rfl, _, SqL.of e2⟩, _, rfl, (by show 1 ≤ sizeLine; omega), fun q nq => ?_⟩
      have s10 := same_upd (o := .tup [x]) (Same.refl H9) nq
      have e2q := s10 _ _ e2
      have e5q := s10 _ _ e5
      have eq : upd H9 q (.tup [x]) q = some (.tup [x]) := upd_same
      have hCq := LitsAt.ext (LamX.ExtN.of s10) hC
      have hzq := LitsAt.ext (LamX.ExtN.of s10) hz
      have hxq := LitAt.ext (LamX.ExtN.of s10) hxl
      have sMq := Same.trans sM s10
      generalize upd H9 q (.tup [x]) = HA at s10 e2q e5q eq hCq hzq hxq sMq ⊢
      refine ⟨p2, _, _, rfl, rfl, e2q, by rw [List.length_append]; omega, ?_⟩
      have ek : ∀ b o, HA b = some o → b ≠ p2 → upd HA p2 (.lst (L2 ++ zs ++ [.ref q])) b = some o := fun b o h n => by
        rw [upd_ne n]
        exact h
      have nC : noLs (w3 ++ w4) = true := by decide +kernel
      have nZ : noLs (((w3 ++ w4).take i ++ [l]).map fun l => Lit.tup [l]) = true := by
        rw [← et]
        have all : ∀ j ≤ 7, noLs (((w3 ++ w4).take j).map fun l => Lit.tup [l]) = true := by decide +kernel
        have hle : i + 1 ≤ 7 := by omega
        exact all _ hle
      have hz2 : LitsAt HA (zs ++ [.ref q]) (((w3 ++ w4).take i ++ [l]).map fun l => Lit.tup [l]) := by
        rw [List.map_append]
        refine LitsAt.snoc hzq ?_
        unfold LitAt
        exact ⟨q, [x], rfl, eq, by unfold LitsAt; exact ⟨x, [], rfl, hxq, by unfold LitsAt; rfl⟩⟩
      refine ⟨⟨_, _, rfl⟩, fun b o h => ?_, ek _ _ e5q p52, LitsAt.keepL e2q ek nC hCq, zs ++ [.ref q], by rw [upd_same, List.append_assoc], ?_⟩
      · have bn : b ≠ p2 := ne_of_none h npm
        exact ek _ _ (sMq _ _ h) bn
      · rw [et]
        exact LitsAt.keepL e2q ek nZ hz2
    · clear sM e5 hC e2'
      rintro σ H9 ⟨⟨v3, v4, rfl⟩, sM, _, _, zs, e2, hz⟩
      rw [hlC, show (w3 ++ w4).take 7 = w3 ++ w4 from rfl] at hz
      have hzl := (LitsAt.get hz).1
      have hzl : zs.length = 7 := hzl
      have bad9 : ∀ v ∈ L2 ++ zs, BadC K H9 v := bad_appC (fun v hv => (bad2 v hv).ext (LamX.ExtN.of sM)) (badC_lits hz (by decide +kernel))
      have len9 : (L2 ++ zs).length = 18 := by rw [List.length_append]; omega
      have s9 := Same.trans sB sM
      generalize L2 ++ zs = L9 at e2 bad9 len9
      clear bad2 hz hzl sM npm len2 len1 p52
      -- the kinds
      refine ⟨(by show 3 ≤ sizeLine; omega), fun pk npk => ?_⟩
      have s10 := same_upd (o := .tup [V.str "keep", .str "anew", .str "every"]) (Same.refl H9) npk
      have ek : upd H9 pk (.tup [V.str "keep", .str "anew", .str "every"]) pk = some (.tup [V.str "keep", .str "anew", .str "every"]) := upd_same
      replace e2 := s10 _ _ e2
      replace bad9 : ∀ v ∈ L9, BadC K (upd H9 pk (.tup [V.str "keep", .str "anew", .str "every"])) v := fun v hv => (bad9 v hv).ext (LamX.ExtN.of s10)
      replace s9 := Same.trans s9 s10
      generalize upd H9 pk (.tup [V.str "keep", .str "anew", .str "every"]) = HB at s10 ek e2 bad9 s9 ⊢
      clear s10 npk
      refine ⟨pk, rfl, ⟨_, SqT.of ek⟩, for_tup (K := K) (a := pk) (xs := [V.str "keep", .str "anew", .str "every"]) (fun i σ HC => ∃ (p : Addr) (v4 : Option V) (L : List V), σ = [some (.ref c), some (.ref p), some (.ref p5), v3, v4] ∧ Same H HC ∧ HC pk = some (.tup [V.str "keep", .str "anew", .str "every"]) ∧ HC p = some (.lst L) ∧ (∀ v ∈ L, BadC K HC v) ∧ L.length = 18 + 7 * i)
        ⟨p2, _, L9, rfl, s9, ek, e2, bad9, len9⟩ (fun i σ HC _ ⟨_, _, _, _, _, h, _⟩ => SqT.of h) ?_ ?_⟩
      · clear s9 ek e2 bad9 len9
        rintro i x σ HC hx ⟨p, v4, L, rfl, sC, ek, eL, bL, lL⟩
        have hi := get_lt hx
        have hi : i < 3 := hi
        obtain ⟨z, rfl, hz⟩ : ∃ z : Str, x = .str z ∧ z ∈ (["keep", "anew", "every"] : List Str) := by
          have := List.mem_of_getElem? hx
          simp only [List.mem_cons, List.mem_nil_iff, or_false] at this
          rcases this with rfl | rfl | rfl
          · exact ⟨_, rfl, by decide +kernel⟩
          · exact ⟨_, rfl, by decide +kernel⟩
          · exact ⟨_, rfl, by decide +kernel⟩
        have a5 : ∀ z ∈ (["keep", "anew", "every"] : List Str), ((w5 z).all fun l => !chainOkO (litOo l)) = true := by decide +kernel
        have a6 : ∀ z ∈ (["keep", "anew", "every"] : List Str), ((w6 z).all fun l => !chainOkO (litOo l)) = true := by decide +kernel
        have l5 : (w5 z).length = 5 := rfl
        have l6 : (w6 z).length = 2 := rfl
        refine cat_lits (w5 z) rfl eL bL (by omega) (by omega) (by unfold w5; simp [FitsAll, Fits]) (a5 z hz) fun q1 M1 Hm HD t1 t2 n1 f1 g1 k1 => ?_
        refine cat_lits (w6 z) rfl f1 (fun v hv => (g1 v hv).ext (LamX.ExtN.of t2)) (by omega) (by omega) (by unfold w6; simp [FitsAll, Fits]) (a6 z hz) fun q2 M2 Hm2 HE t3 t4 n2 f2 g2 k2 => ?_
        have sE := Same.trans (Same.trans t1 t2) (Same.trans t3 t4)
        exact ⟨q2, _, M2, rfl, Same.trans sC sE, sE _ _ ek, f2, fun v hv => (g2 v hv).ext (LamX.ExtN.of t4), by omega⟩
      · clear s9 ek e2 bad9 len9
        rintro σ HC ⟨p, v4, L, rfl, sC, _, eL, bL, lL⟩
        have lL : L.length = 39 := lL
        have l7 : w7.length = 4 := rfl
        have l8 : w8.length = 2 := rfl
        have l10 : w10.length = 1 := rfl
        have l11 : w11.length = 2 := rfl
        refine cat_lits w7 rfl eL bL (by omega) (by omega) (by unfold w7; simp [FitsAll, Fits]) (by decide +kernel) fun q1 M1 Hm HD t1 t2 n1 f1 g1 k1 => ?_
        refine cat_lits w8 rfl f1 (fun v hv => (g1 v hv).ext (LamX.ExtN.of t2)) (by omega) (by omega) (by unfold w8; simp [FitsAll, Fits]) (by decide +kernel) fun q2 M2 Hm2 HE t3 t4 n2 f2 g2 k2 => ?_
        have g2 : ∀ v ∈ M2, BadC K HE v := fun v hv => (g2 v hv).ext (LamX.ExtN.of t4)
        have sE := Same.trans sC (Same.trans (Same.trans t1 t2) (Same.trans t3 t4))
        clear t1 t2 t3 t4 n1 n2 f1 g1 eL bL sC
        refine ⟨_, rfl, (by show 3 ≤ sizeLine; omega), fun a0 na0 => ⟨(by show 1 ≤ sizeLine; omega), fun a1 na1 => ?_⟩⟩
        have u1 := same_upd (o := .tup [V.ref a0]) (same_upd (o := .tup [V.str "line", .int 1, .int 0]) (Same.refl HE) na0) na1
        have ea : upd (upd HE a0 (.tup [V.str "line", .int 1, .int 0])) a1 (.tup [V.ref a0]) a1 = some (.tup [V.ref a0]) := upd_same
        have hy : LitAt (upd (upd HE a0 (.tup [V.str "line", .int 1, .int 0])) a1 (.tup [V.ref a0])) (.ref a0) (.tup [.str "line", .int 1, .int 0]) := by
          have e0 : upd HE a0 (.tup [V.str "line", .int 1, .int 0]) a0 = some (.tup [V.str "line", .int 1, .int 0]) := upd_same
          unfold LitAt
          exact ⟨a0, _, rfl, (upd_ne (ne_of_none e0 na1)).trans e0, by simp [LitsAt, LitAt]⟩
        generalize upd (upd HE a0 (.tup [V.str "line", .int 1, .int 0])) a1 (.tup [V.ref a0]) = HF at u1 ea hy ⊢
        generalize V.ref a0 = y at ea hy ⊢
        refine ⟨a1, 5, [y], rfl, rfl, SqT.of ea, by simp, by decide, by decide, by show 1 ≤ 1000; decide, fun p6 np6 => ?_⟩
        have u2 := same_upd (o := .tup (List.replicate (5 : Int).toNat [y]).flatten) (Same.refl HF) np6
        have e6 : upd HF p6 (.tup (List.replicate (5 : Int).toNat [y]).flatten) p6 = some (.tup [y, y, y, y, y]) := upd_same
        replace hy := LitAt.ext (LamX.ExtN.of u2) hy
        have g6 : LitAt (upd HF p6 (.tup (List.replicate (5 : Int).toNat [y]).flatten)) (.ref p6) (.tup [.tup [.str "line", .int 1, .int 0], .tup [.str "line", .int 1, .int 0], .tup [.str "line", .int 1, .int 0], .tup [.str "line", .int 1, .int 0], .tup [.str "line", .int 1, .int 0]]) := by
          unfold LitAt
          refine ⟨p6, _, rfl, e6, ?_⟩
          unfold LitsAt
          refine ⟨_, _, rfl, hy, ?_⟩
          unfold LitsAt
          refine ⟨_, _, rfl, hy, ?_⟩
          unfold LitsAt
          refine ⟨_, _, rfl, hy, ?_⟩
          unfold LitsAt
          refine ⟨_, _, rfl, hy, ?_⟩
          unfold LitsAt
          refine ⟨_, _, rfl, hy, ?_⟩
          unfold LitsAt
          rfl
        have b6 : BadC K _ (.ref p6) := badC_lit (K := K) g6 (by decide +kernel)
        have u12 := Same.trans u1 u2
        generalize upd HF p6 (.tup (List.replicate (5 : Int).toNat [y]).flatten) = HG at u2 e6 hy g6 b6 u12 ⊢
        clear u1 u2 e6 g6 hy np6 ea
        refine lits_reads w9 _ _ _ (by unfold w9; simp [FitsAll, Fits]) fun ys9 HI u3 h9 l9 => ⟨(by have : w9.length = 1 := rfl; show ys9.length + 1 ≤ sizeLine; omega), fun q3 nq3 => ?_⟩
        have hw9 : w9.length = 1 := rfl
        have f2' := u3 _ _ (u12 _ _ f2)
        refine ⟨_, q3, M2, _, rfl, rfl, (upd_ne (ne_of_none f2' nq3)).trans f2', upd_same, (by show M2.length + (ys9.length + 1) ≤ sizeLine; omega), fun q4 nq4 => ?_⟩
        have u4 := same_upd (o := .lst (M2 ++ .ref p6 :: ys9)) (same_upd (o := .lst (.ref p6 :: ys9)) (Same.refl HI) nq3) nq4
        have bM : ∀ v ∈ M2 ++ .ref p6 :: ys9, BadC K (upd (upd HI q3 (.lst (.ref p6 :: ys9))) q4 (.lst (M2 ++ .ref p6 :: ys9))) v := bad_appC (fun v hv => (g2 v hv).ext ((LamX.ExtN.of u12).trans ((LamX.ExtN.of u3).trans (LamX.ExtN.of u4)))) fun v hv => by
          rcases List.mem_cons.mp hv with e | e
          · rw [e]
            exact b6.ext ((LamX.ExtN.of u3).trans (LamX.ExtN.of u4))
          · exact badC_lits (LitsAt.ext (LamX.ExtN.of u4) h9) (by decide +kernel) v e
        have eM : upd (upd HI q3 (.lst (.ref p6 :: ys9))) q4 (.lst (M2 ++ .ref p6 :: ys9)) q4 = some (.lst (M2 ++ .ref p6 :: ys9)) := upd_same
        have lM : (M2 ++ V.ref p6 :: ys9).length = 47 := by rw [List.length_append, List.length_cons]; omega
        have sJ := Same.trans sE (Same.trans u12 (Same.trans u3 u4))
        show tSeq _ _ _ _ (upd (upd HI q3 (.lst (.ref p6 :: ys9))) q4 (.lst (M2 ++ .ref p6 :: ys9)))
        generalize upd (upd HI q3 (.lst (.ref p6 :: ys9))) q4 (.lst (M2 ++ .ref p6 :: ys9)) = HJ at u4 bM eM sJ ⊢
        generalize M2 ++ V.ref p6 :: ys9 = MM at bM eM lM
        clear u4 u3 u12 sE b6 g2 h9 f2' f2 nq3 nq4
        refine cat_lits w10 rfl eM bM (by omega) (by omega) (by unfold w10; simp [FitsAll, Fits]) (by decide +kernel) fun q5 M5 Hm5 HK t5 t6 n5 f5 g5 k5 => ?_
        have sK := Same.trans sJ (Same.trans t5 t6)
        refine ⟨_, rfl, lits_reads w11 _ _ _ (by unfold w11; simp [FitsAll, Fits]) fun ys11 HL t7 h11 l11' => ⟨by omega, fun q6 nq6 => ?_⟩⟩
        have f5' := t7 _ _ f5
        refine ⟨_, q6, M5, ys11, rfl, rfl, (upd_ne (ne_of_none f5' nq6)).trans f5', upd_same, by omega, fun q7 nq7 => ?_⟩
        have t8 := same_upd (o := .lst (M5 ++ ys11)) (same_upd (o := .lst ys11) (Same.refl HL) nq6) nq7
        exact k q7 (M5 ++ ys11) _ (Same.trans sK (Same.trans t7 t8)) upd_same (bad_appC (fun v hv => (g5 v hv).ext ((LamX.ExtN.of t6).trans ((LamX.ExtN.of t7).trans (LamX.ExtN.of t8)))) (badC_lits (LitsAt.ext (LamX.ExtN.of t8) h11) (by decide +kernel))) (by rw [List.length_append]; omega)
end
end FC
set_option Elab.async false
set_option linter.all false
set_option maxRecDepth 100000
set_option maxHeartbeats 4000000
namespace FC
open PySem L2
theorem sum_bound {ys : List Str} {m : Nat} (h : ∀ y ∈ ys, y.length ≤ m) : (ys.map (·.length)).sum ≤ m * ys.length := by
  induction ys with
  | nil => simp
  | cons y r ih =>
    have h1 := h y (by simp)
    have h2 := ih fun z hz => h z (List.mem_cons_of_mem _ hz)
    rw [List.map_cons, List.sum_cons, List.length_cons, Nat.mul_succ]
    omega
theorem part_len {ys : List V} (h : stepOk ys = true) : ∀ y ∈ ys.map partText, y.length ≤ 6 := by
  obtain ⟨name, ns, rfl, hn, hs, _⟩ := stepOk_shape h
  intro y hy
  obtain ⟨v, hv, rfl⟩ := List.mem_map.mp hy
  rcases List.mem_cons.mp hv with z | z
  · rw [z]
    exact (names_free _ hn).2.2
  · obtain ⟨n, hn', rfl⟩ := List.mem_map.mp z
    exact Nat.le_trans (num_back n (small_of (hs n hn'))).2.2.2 (by decide)
theorem stepText_len {ys : List V} (h : stepOk ys = true) : (stepText ys).length ≤ 100 := by
  have h1 := StrLaws.join_length_le " " (ys.map partText)
  have h2 := sum_bound (part_len h)
  obtain ⟨name, ns, rfl, hn, hs, hl⟩ := stepOk_shape h
  unfold stepText
  rw [TL.join_eq]
  have e : ((V.str name :: ns.map V.int).map partText).length ≤ 5 := by
    simp
    omega
  have e2 : (" " : Str).length = 1 := by decide +kernel
  rw [e2] at h1
  omega
theorem chainText_len {c : List (List V)} (h : chainOk c = true) : (chainText c).length ≤ 500 := by
  have h1 := StrLaws.join_length_le " | " (c.map stepText)
  have h2 : ((c.map stepText).map (·.length)).sum ≤ 100 * (c.map stepText).length := sum_bound fun y hy => by
    obtain ⟨ys, hy', rfl⟩ := List.mem_map.mp hy
    exact stepText_len (chainOk_steps h ys hy')
  have h3 := chainOk_len h
  unfold chainText
  rw [TL.join_eq]
  have e2 : (" | " : Str).length = 3 := by decide +kernel
  rw [e2] at h1
  rw [List.length_map] at h1 h2
  omega
def spStepText (K : PySem.W.Frag) : Sp := fun vs H Q _ => ∃ b ys, vs = [.ref b] ∧ SqT K H b ys ∧ stepOk ys = true ∧ ∀ H', Same H H' → Q (.str (stepText ys)) H'
/-- the text, or InvalidChain -/
def spFormat (K : PySem.W.Frag) (C : Addr) : Sp := fun vs H Q E => ∃ x oo, vs = [x] ∧ ChainV K H x oo ∧ ∀ H', Same H H' →
  (∀ cs, oo = some (cs.map some) → chainOk cs = true → Q (.str (chainText cs)) H') ∧ (chainOkO oo = false → E (.ref C) none H')
theorem chainOkO_true {oo : Option (List (Option (List V)))} (h : chainOkO oo = true) : ∃ cs, oo = some (cs.map some) ∧ chainOk cs = true := by
  cases oo with
  | none => cases h
  | some os =>
    have h : chainOkL os = true := h
    have h2 := h
    unfold chainOkL at h2
    rw [Bool.and_eq_true, Bool.and_eq_true] at h2
    have e := all_somes h2.2.1
    refine ⟨os.filterMap id, by rw [← e], ?_⟩
    rw [← chainOkL_some, ← e]
    exact h
section
variable {P : Program} {w : World} {K : PySem.W.Frag} {mg : Str → Option Value} {base : Heap}
theorem scStepText : FnScope ["step", "part"] ["step"] (defScope sStepText) := ⟨rfl, rfl, rfl, by decide +kernel, rfl, by decide +kernel, by decide +kernel⟩
theorem ok_stepText {f : Addr} {fd : FuncData} (F : Fun K "step_text" "step_text" sStepText f fd) (T : Blt mg) : FnOk P w K mg base CX0 1 f fd ["step"] (spStepText K) := by
  refine F.ok scStepText (fun vs H Q E h => ?_) (fun cdv A outer s H vs Q E hr h => ?_)
  · obtain ⟨x, o, rfl, _⟩ := h
    rfl
  · obtain ⟨b, ys, rfl, hb, hok, k⟩ := h
    have nd := scStepText.nd
    refine ⟨_, pss_one (ps_ret (pe_join pe_str (pe_lc (own := [("part", 1)]) (g := gName 1) (by rfl) nd (pi_tup (pv 0)) (blkOk_by (own := [("part", 1)]) (N := ["step", "part"]) (sc := defScope sStepText) (by decide +kernel)) (fun _ _ _ _ _ => pg_name (i := 1) nd rfl (Or.inl rfl))
      (fun _ _ _ _ _ => pts_nil) (fun _ _ _ _ _ => pe_callTy (CallR.or call_str_int SkE.call_str_str) (by rfl) T.str (by decide +kernel) (pa_cons (pv 1) pa_nil))))), ?_⟩
    refine ⟨⟨_, rfl⟩, _, rfl, b, rfl, ⟨_, hb⟩, fun D nD => ?_⟩
    have sD : Same H (upd H D (.lst [])) := same_upd (Same.refl H) nD
    obtain ⟨name, ns, ey, hn, hs, hl⟩ := stepOk_shape hok
    have hlen : ys.length ≤ 5 := by
      rw [ey]
      simp
      omega
    refine lc_tup (K := K) (a := b) (xs := ys) (fun j H3 => H3 D = some (.lst (((ys.take j).map partText).map V.str)) ∧ Same H H3) ⟨upd_same, sD⟩ (fun j H3 _ ⟨_, s3⟩ => sqt_same s3 hb) ?_ ?_
    · rintro j y H3 hy ⟨hD, s3⟩
      have hj := get_lt hy
      have fin : ∃ acc, H3 D = some (.lst acc) ∧ acc.length < sizeLine ∧ upd H3 D (.lst (acc ++ [.str (partText y)])) D = some (.lst (((ys.take (j + 1)).map partText).map V.str)) ∧ Same H (upd H3 D (.lst (acc ++ [.str (partText y)]))) := by
        refine ⟨_, hD, ?_, ?_, ?_⟩
        · rw [List.length_map, List.length_map, List.length_take]
          exact small1000 (by omega)
        · rw [upd_same, take_succ_get hy, List.map_append, List.map_append]
          rfl
        · intro q u hq
          have hqD : q ≠ D := fun z => by
            rw [z, nD] at hq
            cases hq
          rw [upd_ne hqD]
          exact s3 q u hq
      have hym : y ∈ ys := List.mem_of_getElem? hy
      rw [ey] at hym
      rcases List.mem_cons.mp hym with z | z
      · subst z
        exact ⟨rfl, ⟨_, rfl, .inr ⟨_, rfl, fin⟩⟩⟩
      · obtain ⟨n, hn', rfl⟩ := List.mem_map.mp z
        have hb9 := hs n hn'
        refine ⟨rfl, ⟨_, rfl, .inl ⟨n, rfl, ?_, fin⟩⟩⟩
        have : n.natAbs ≤ 9 := by omega
        have all : ∀ m ≤ 9, Nat.log2 m < 1920 := by decide
        exact all _ this
    · rintro H3 ⟨hD, s3⟩
      rw [List.take_length] at hD
      refine ⟨_, D, ys.map partText, rfl, rfl, .inl (SqL.of hD), ?_, k H3 s3⟩
      have h2 := sum_bound (part_len hok)
      have e2 : (" " : Str).length = 1 := by decide +kernel
      rw [List.length_map] at h2
      rw [List.length_map, e2]
      omega
theorem scFormat : FnScope ["chain", "step"] ["chain"] (defScope sFormat) := ⟨rfl, rfl, rfl, by decide +kernel, rfl, by decide +kernel, by decide +kernel⟩
theorem ok_format {f C : Addr} {fd : FuncData} (F : Fun K "format_chain" "format_chain" sFormat f fd) (CC : Cal P w K mg base (L2N.CX P w) 5 "check_chain" ["value"] (spCheck K C)) (CT : Cal P w K mg base CX0 1 "step_text" ["step"] (spStepText K)) :
    FnOk P w K mg base (L2N.CX P w) 6 f fd ["chain"] (spFormat K C) := by
  refine okN F scFormat (fun vs H Q E h => ?_) (fun cdv A outer s H vs Q E hr h => ?_)
  · obtain ⟨x, o, rfl, _⟩ := h
    rfl
  · obtain ⟨x, oo, rfl, hx, k⟩ := h
    have nd := scFormat.nd
    have hr1 : Room 1 _ := hr.mono (by decide)
    refine ⟨_, pss_cons (ps_expr (pe_cal CC hr (L2N.passes_call (W := fun cls d _ H => E cls d H) (L2N.takes_of rfl rfl rfl rfl) (fun _ _ _ _ h => h)) (pa_cons (pv 0) pa_nil)))
      (pss_one (ps_ret (pe_join pe_str (pe_lc (own := [("step", 1)]) (g := gName 1) (by rfl) nd (pi_tup (pv 0)) (blkOk_by (own := [("step", 1)]) (N := ["chain", "step"]) (sc := defScope sFormat) (by decide +kernel)) (fun _ _ _ _ _ => pg_name (i := 1) nd rfl (Or.inl rfl))
      (fun _ _ _ _ _ => pts_nil) (fun _ _ _ _ _ => pe_cal CT hr1 pass0 (pa_cons (pv 1) pa_nil)))))), ?_⟩
    refine ⟨_, rfl, x, oo, rfl, hx, fun H1 s1 => ⟨fun ht => ?_, fun hf => (k H1 s1).2 hf⟩⟩
    obtain ⟨cs, rfl, hc⟩ := chainOkO_true ht
    obtain ⟨a, xs, rfl, ha, hs⟩ := hx
    refine ⟨⟨_, rfl⟩, _, rfl, a, rfl, ⟨_, sqt_same s1 ha⟩, fun D nD => ?_⟩
    have sD : Same H (upd H1 D (.lst [])) := same_upd s1 nD
    have hlen : cs.length ≤ 4 := chainOk_len hc
    refine lc_tup (K := K) (a := a) (xs := xs) (fun j H3 => H3 D = some (.lst (((cs.take j).map stepText).map V.str)) ∧ Same H H3) ⟨upd_same, sD⟩ (fun j H3 _ ⟨_, s3⟩ => sqt_same s3 ha) ?_ ?_
    · rintro j y H3 hy ⟨hD, s3⟩
      have hj : j < cs.length := by
        have := get_lt hy
        rw [hs.len, List.length_map] at this
        exact this
      have hcj : (cs.map some)[j]? = some (some cs[j]) := by rw [List.getElem?_map, List.getElem?_eq_getElem hj]; rfl
      obtain ⟨b, rfl, hb, hn⟩ := hs.at_ j y _ hy hcj
      have hcm : cs[j] ∈ cs := List.getElem_mem hj
      refine ⟨rfl, ⟨_, rfl, b, cs[j], rfl, sqt_same s3 hb, chainOk_steps hc _ hcm, fun H4 s4 => ⟨_, s4 _ _ hD, ?_, ?_, ?_⟩⟩⟩
      · rw [List.length_map, List.length_map, List.length_take]
        exact small1000 (by omega)
      · rw [upd_same, take_succ_get (List.getElem?_eq_getElem hj), List.map_append, List.map_append]
        rfl
      · intro q u hq
        have hqD : q ≠ D := fun z => by
          have := s1 q u hq
          rw [z, nD] at this
          cases this
        rw [upd_ne hqD]
        exact s4 q u (s3 q u hq)
    · rintro H3 ⟨hD, s3⟩
      rw [hs.len, List.length_map, List.take_length] at hD
      refine ⟨_, D, cs.map stepText, rfl, rfl, .inl (SqL.of hD), ?_, (k H3 s3).1 cs rfl hc⟩
      have h2 : ((cs.map stepText).map (·.length)).sum ≤ 100 * (cs.map stepText).length := sum_bound fun y hy => by
        obtain ⟨ys, hy', rfl⟩ := List.mem_map.mp hy
        exact stepText_len (chainOk_steps hc ys hy')
      have e2 : (" | " : Str).length = 3 := by decide +kernel
      rw [List.length_map] at h2
      rw [List.length_map, e2]
      omega
end
end FC
set_option Elab.async false
set_option linter.all false
set_option maxRecDepth 100000
set_option maxHeartbeats 4000000
namespace FC
open PySem PySem.Spec PyProof.Rows L2
def good0 : List Lit := [.tup [.tup [.str "line", .neg 3, .int 9], .tup [.str "line", .int 3, .neg 9], .tup [.str "every", .int 3, .int 2], .tup [.str "twice"]]]
def good1 : List Lit := [.tup [.tup [.str "sums"], .tup [.str "gaps"], .tup [.str "keep", .int 3, .int 2], .tup [.str "turn", .int 2, .int 1, .neg 3, .int 9]]]
def good2 : List Lit := [.tup [.tup [.str "anew", .int 2, .int 1], .tup [.str "anew", .int 3, .int 2], .tup [.str "line", .int 0, .int 0], .tup [.str "every", .int 2, .int 1]]]
def good3 : List Lit := [.tup [.tup [.str "groups", .int 3], .tup [.str "count"], .tup [.str "twice"], .tup [.str "keep", .int 2, .int 0]]]
/-- form of what is no chain -/
structure Lib8 (P : Program) (w : World) (K : PySem.W.Frag) (mg : Str → Option Value) (base : Heap) (g f2 CE c0 c1 c2 c3 c4 c5 : Addr) (fdg fd2 : FuncData) : Prop where
  blt : Blt mg
  rounds : Cal P w K mg base CX0 2 "_law_rounds" ["_law_script", "_law_most"] (spRounds K)
  chain : Cal P w K mg base CX0 5 "_law_chain" ["_law_dice", "_law_most"] (spChainL K)
  isChain : Cal P w K mg base CX0 4 "is_chain" ["value"] (spIsChain K)
  badc : Cal P w K mg base CX0 1 "_law_bad_chains" ["_law_chain_here"] (spBadC K)
  format : Cal P w K mg base (L2N.CX P w) 6 "format_chain" ["chain"] (spFormat K c0)
  form : Cal P w K mg base (L2N.CX P w) 9 "form" ["chain"] (spFormE K c0)
  joined : Cal P w K mg base (L2N.CX P w) 9 "joined" ["chain", "other"] (spJoined K c0 c4)
  Fg : Fun K "_law_told" "_law_told" sTold g fdg
  bg : Binds K fdg ["_law_deed"] []
  mg_ : mg "_law_told" = some (.ref g)
  F2 : FnP P w K mg base 1 f2 fd2 ["_law_e"] (spTerm K c0 c1 c2 c3 c4 c5)
  m2 : mg "_law_term" = some (.ref f2)
  k2 : PySem.W.keepIn K (.ref f2) = true
  b2 : Binds K fd2 ["_law_e"] []
  mE : mg "ChainError" = some (.ref CE)
  one0 : OneT K c0 0 c0 c1 c2 c3 c4 c5
  em0 : PySem.W.exmOne K (.ref c0) (.ref CE) = some true
  one4 : OneT K c4 4 c0 c1 c2 c3 c4 c5
  em4 : PySem.W.exmOne K (.ref c4) (.ref CE) = some true
abbrev NL : List Str := ["_law_script", "_law_dice", "_law_chain_here", "_law_bad", "_law_good", "_law_one", "_law_other", "_law_made"]
def qL : Str := "law" ++ ".<locals>." ++ "<lambda>"
def spLaw (K : PySem.W.Frag) (Pt : Addr) : Sp := fun vs H Q _ => ∃ (a : Addr) (ns : List Int), vs = [.ref a] ∧ SqL K H a (ns.map V.int) ∧ ns.length ≤ 63 ∧ H Pt = some (.tbl #[]) ∧ ∀ H', Q (.bl true) H'
theorem erd_shaped (z : Str) (h : PyData.strOk z = true) : SeqAt.shaped (errData z) = true := by
  show (PyData.canLayAll0 [.str "error", .str z] && decide (PyData.depthAll [.str "error", .str z] + 1 ≤ 64)) = true
  have e1 : PyData.canLayAll0 [.str "error", .str z] = true := lay_all fun d hd => by
    rcases List.mem_cons.mp hd with e | e
    · rw [e]
      show PyData.strOk "error" = true
      decide +kernel
    · rw [List.mem_singleton.mp e]
      exact h
  rw [e1]
  rfl
theorem ifB {c : Bool} {A B : Prop} (h : c = false) (hB : B) : if c = true then A else B := by
  rw [h]
  exact iteF hB
theorem step_low {ys : List V} (h : stepOk ys = true) : ∀ c ∈ TL.tl (stepText ys), c < 256 := by
  obtain ⟨name, ns, rfl, hn, hs, _⟩ := stepOk_shape h
  unfold stepText
  rw [TL.join_eq, TL.tl_join, tl_sp]
  intro c z
  have a1 : ∀ x ∈ names, ∀ c ∈ TL.tl x, c < 256 := by decide +kernel
  have a2 : ∀ n ∈ small, ∀ c ∈ TL.tl (partText (.int n)), c < 256 := by decide +kernel
  rcases joinL_mem z with z | ⟨p, hp, hc⟩
  · have : c = 32 := by simpa using z
    omega
  · obtain ⟨q, hq, rfl⟩ := List.mem_map.mp hp
    obtain ⟨v, hv, rfl⟩ := List.mem_map.mp hq
    rcases List.mem_cons.mp hv with e | e
    · rw [e] at hc
      exact a1 _ hn c hc
    · obtain ⟨n, hn', rfl⟩ := List.mem_map.mp e
      exact a2 n (small_of (hs n hn')) c hc
theorem text_strOk {cs : List (List V)} (h : chainOk cs = true) : PyData.strOk (chainText cs) = true := by
  have hs := chainOk_steps h
  have low : ∀ c ∈ TL.tl (chainText cs), c < 256 := by
    unfold chainText
    rw [TL.join_eq, TL.tl_join, tl_bar]
    intro c z
    rcases joinL_mem z with z | ⟨p, hp, hc⟩
    · have : c = 32 ∨ c = 124 ∨ c = 32 := by simpa using z
      omega
    · obtain ⟨q, hq, rfl⟩ := List.mem_map.mp hp
      obtain ⟨ys, hy, rfl⟩ := List.mem_map.mp hq
      exact step_low (hs ys hy) c hc
  show (chainText cs).cps.all (fun c => decide (c < 0x110000)) = true
  rw [Array.all_eq_true_iff_forall_mem]
  intro c hc
  have := low c (Array.mem_toList_iff.mpr hc)
  exact decide_eq_true (by omega)
theorem ifA {c : Bool} {A B : Prop} (h : c = true) (hA : A) : if c = true then A else B := by
  rw [h]
  exact iteT hA
theorem Steps.append {K : PySem.W.Frag} {H : Hp} {xs ys : List V} {os ps : List (Option (List V))} (h : Steps K H xs os) (g : Steps K H ys ps) : Steps K H (xs ++ ys) (os ++ ps) := by
  refine ⟨by rw [List.length_append, List.length_append, h.len, g.len], fun i x o hx ho => ?_⟩
  by_cases hi : i < xs.length
  · rw [List.getElem?_append_left hi] at hx
    rw [List.getElem?_append_left (by rw [← h.len]; exact hi)] at ho
    exact h.at_ i x o hx ho
  · rw [List.getElem?_append_right (by omega)] at hx
    rw [List.getElem?_append_right (by rw [← h.len]; omega), ← h.len] at ho
    exact g.at_ _ x o hx ho
theorem cat_chains {K : PySem.W.Frag} {H : Hp} {a b : Addr} {cs ds : List (List V)} {Q : VK} (h : ChainAt K H a cs) (g : ChainAt K H b ds) (l1 : cs.length ≤ 4) (l2 : ds.length ≤ 4) (go : ∀ t H', Same H H' → ChainAt K H' t (cs ++ ds) → Q (.ref t) H') : rCatA K (.ref a) (.ref b) H Q := by
  have hsl : 4000 < sizeLine := by decide
  obtain ⟨xs, h1, h2⟩ := id h
  obtain ⟨ys, g1, g2⟩ := id g
  have hx := h2.len
  have hy := g2.len
  rw [List.length_map] at hx hy
  refine ⟨a, b, xs, ys, rfl, rfl, h1, g1, by omega, fun e => ?_, fun _ e => ?_, fun _ _ p np => ?_⟩
  · have : cs = [] := List.eq_nil_of_length_eq_zero (by rw [← hx, e]; rfl)
    refine go b H (Same.refl H) ?_
    rw [this]
    exact g
  · have : ds = [] := List.eq_nil_of_length_eq_zero (by rw [← hy, e]; rfl)
    refine go a H (Same.refl H) ?_
    rw [this, List.append_nil]
    exact h
  · have s := same_upd (o := .tup (xs ++ ys)) (Same.refl H) np
    refine go p _ s ⟨xs ++ ys, SqT.of upd_same, ?_⟩
    rw [List.map_append]
    exact Steps.append (h2.same s) (g2.same s)
theorem told_wish {K : PySem.W.Frag} {T : List (Addr × Str)} {CE c0 c1 c2 c3 c4 c5 : Addr} {σ : L2.St} {H : Hp} {Q : VK} {sp : Sp} {ta : TA} {xs : List V} (hta : ∀ H1 R, R xs H1 → ta σ H1 R) (tb : LamX.Tabs T H) (h : ∀ H1, LamX.ExtN H H1 → LamX.Tabs T H1 → sp xs H1 Q (wishE K CE c0 c1 c2 c3 c4 c5 Q)) :
    tTold K T CE c0 c1 c2 c3 c4 c5 (fun E => tCal sp E ta) σ H Q := ⟨tb, fun H1 e1 t1 => hta H1 _ (h H1 e1 t1)⟩
/-- good = good + [..] -/
theorem cat_any {i : Nat} {σ : L2.St} {H : Hp} {D : Ends} {l : Addr} {L : List V} {ls0 : List Lit} (ls : List Lit) (hσ : σ[i]? = some (some (.ref l))) (hl : H l = some (.lst L)) (hL : LitsAt H L ls0) (h0 : ls0.length ≤ 1000) (h1 : ls.length ≤ 1000) (f : FitsAll σ ls)
    (go : ∀ p L' H', Same H H' → H' p = some (.lst L') → LitsAt H' L' (ls0 ++ ls) → D.nx (σ.set i (some (.ref p))) H') : tAsg (tOp rCat (tVar i) (tLst (tLits ls))) (gName i) D σ H := by
  have hsl : 4000 < sizeLine := by decide
  have hlen := (LitsAt.get hL).1
  refine ⟨_, hσ, lits_reads ls σ H _ f fun xs H1 s1 h1' hx => ⟨by omega, fun q nq => ⟨l, q, L, xs, rfl, rfl, (upd_ne (ne_of_none (s1 _ _ hl) nq)).trans (s1 _ _ hl), upd_same, by omega, fun p np => ?_⟩⟩⟩
  have s2 := same_upd (o := .lst (L ++ xs)) (same_upd (o := .lst xs) s1 nq) np
  have s3 := same_upd (o := .lst (L ++ xs)) (same_upd (o := .lst xs) (Same.refl H1) nq) np
  exact go p (L ++ xs) _ s2 upd_same (LitsAt.append (LitsAt.ext (LamX.ExtN.of s2) hL) (LitsAt.ext (LamX.ExtN.of s3) h1'))
section
variable {P : Program} {w : World} {K : PySem.W.Frag} {mg : Str → Option Value} {base : Heap}
theorem scLaw : FnScope NL ["_law_script"] (defScope sLaw) := ⟨rfl, rfl, rfl, by decide +kernel, rfl, by decide +kernel, by decide +kernel⟩
theorem ok_law {f c Pt g f2 CE c0 c1 c2 c3 c4 c5 : Addr} {fdg fd2 : FuncData} {dV kV doc pm ct oc : Value} {an od : Option Addr} {osl : Array (Option Value)} (B : Lib8 P w K mg base g f2 CE c0 c1 c2 c3 c4 c5 fdg fd2) (TB : LamX.TabB base mg c Pt)
    (lk : K.lookup f = some ⟨oc, od, .func (PySem.W.fnOf "law" "law" (defArgs sLaw) (defBody sLaw) (defScope sLaw) dV kV doc pm an (.ref c) ct), osl⟩) (hcd : PySem.W.codeIn K (.ref c) "law" = true) :
    FnOk P w K mg base CX0 12 f (PySem.W.fnOf "law" "law" (defArgs sLaw) (defBody sLaw) (defScope sLaw) dV kV doc pm an (.ref c) ct) ["_law_script"] (spLaw K Pt) := by
  refine fn_of lk hcd scLaw (fun vs H Q E h => ?_) (fun A outer s H vs Q E hr h => ?_)
  · obtain ⟨a, ns, rfl, _⟩ := h
    rfl
  · obtain ⟨a, ns, rfl, ha, hl, hP, q⟩ := h
    have nd := scLaw.nd
    have hr1 : Room 1 _ := hr.mono (by decide)
    have hr2 : Room 2 _ := hr.mono (by decide)
    have hr4 : Room 4 _ := hr.mono (by decide)
    have hr5 : Room 5 _ := hr.mono (by decide)
    have T := B.blt
    refine ⟨_, PSs.nox ((pss_cons (ps_for PassesOwn.never rfl (pi_list (pe_cal B.rounds hr2 pass0 (pa_cons (pv 0) (pa_cons pe_int pa_nil)))) (pg_name (i := 1) nd rfl (Or.inl rfl))
   (pss_cons (ps_set (i := 2) nd rfl (Or.inr rfl) (pe_cal B.chain hr5 pass0 (pa_cons (pv 1) (pa_cons pe_int pa_nil))))
    (pss_cons (ps_if (pt_not (pt_val (pe_cal B.isChain hr4 pass0 (pa_cons (pv 2) pa_nil)))) (pss_one (ps_ret pe_bl)) pss_nil)
    (pss_cons (ps_for PassesOwn.never rfl (pi_list (pe_cal B.badc hr1 pass0 (pa_cons (pv 2) pa_nil))) (pg_name (i := 3) nd rfl (Or.inr rfl))
   (pss_cons (ps_if (PW.pt (pw_or (pt_val (pe_cal B.isChain hr4 pass0 (pa_cons (pv 3) pa_nil))) (pw_or1 (pt_cmpR (op_neD hr.units) (pe_told (k := 8) (T := [(Pt, qL)]) B.Fg B.bg B.mg_ rfl B.F2 B.m2 B.k2 B.b2 B.mE TB rfl (List.mem_singleton.mpr rfl) (fun p hp _ => by rw [List.mem_singleton.mp hp]; rfl) hr (show LamX.LamS (defScope sLaw) _ from LamX.lamS_by (by decide +kernel)) rfl (fun _ _ _ _ _ => rfl)
          (fun A out s H E f c hr => pe_cal B.form hr (L2N.passes_call (W := fun cls d _ H => E cls d H) (L2N.takes_of rfl rfl rfl rfl) (fun _ _ _ _ h => h)) (pa_cons (pv 3) pa_nil))) (pe_tup (pa_cons pe_str (pa_cons pe_str pa_nil))) (nomark _))))) (pss_one (ps_ret pe_bl)) pss_nil)
    (pss_one (ps_if (pt_cmpR (op_neD hr.units) (pe_told (k := 8) (T := [(Pt, qL)]) B.Fg B.bg B.mg_ rfl B.F2 B.m2 B.k2 B.b2 B.mE TB rfl (List.mem_singleton.mpr rfl) (fun p hp _ => by rw [List.mem_singleton.mp hp]; rfl) hr (show LamX.LamS (defScope sLaw) _ from LamX.lamS_by (by decide +kernel)) rfl (fun _ _ _ _ _ => rfl)
          (fun A out s H E f c hr => pe_cal B.joined hr (L2N.passes_call (W := fun cls d _ H => E cls d H) (L2N.takes_of rfl rfl rfl rfl) (fun _ _ _ _ h => h)) (pa_cons (pv 2) (pa_cons (pv 3) pa_nil)))) (pe_tup (pa_cons pe_str (pa_cons pe_str pa_nil))) (nomark _)) (pss_one (ps_ret pe_bl)) pss_nil))))
    (pss_cons (ps_set (i := 4) nd rfl (Or.inl rfl) (pe_lst (pa_cons (pe_tup (pa_cons (pe_tup (pa_cons pe_str (pa_cons (pe_un un_neg pe_int) (pa_cons pe_int pa_nil)))) (pa_cons (pe_tup (pa_cons pe_str (pa_cons pe_int (pa_cons (pe_un un_neg pe_int) pa_nil)))) (pa_cons (pe_tup (pa_cons pe_str (pa_cons pe_int (pa_cons pe_int pa_nil)))) (pa_cons (pe_tup (pa_cons pe_str pa_nil)) pa_nil))))) pa_nil)))
    (pss_cons (ps_set (i := 4) nd rfl (Or.inl rfl) (pe_op op_cat (pv 4) (pe_lst (pa_cons (pe_tup (pa_cons (pe_tup (pa_cons pe_str pa_nil)) (pa_cons (pe_tup (pa_cons pe_str pa_nil)) (pa_cons (pe_tup (pa_cons pe_str (pa_cons pe_int (pa_cons pe_int pa_nil)))) (pa_cons (pe_tup (pa_cons pe_str (pa_cons pe_int (pa_cons pe_int (pa_cons (pe_un un_neg pe_int) (pa_cons pe_int pa_nil)))))) pa_nil))))) pa_nil))))
    (pss_cons (ps_set (i := 4) nd rfl (Or.inl rfl) (pe_op op_cat (pv 4) (pe_lst (pa_cons (pe_tup (pa_cons (pe_tup (pa_cons pe_str (pa_cons pe_int (pa_cons pe_int pa_nil)))) (pa_cons (pe_tup (pa_cons pe_str (pa_cons pe_int (pa_cons pe_int pa_nil)))) (pa_cons (pe_tup (pa_cons pe_str (pa_cons pe_int (pa_cons pe_int pa_nil)))) (pa_cons (pe_tup (pa_cons pe_str (pa_cons pe_int (pa_cons pe_int pa_nil)))) pa_nil))))) pa_nil))))
    (pss_cons (ps_set (i := 4) nd rfl (Or.inl rfl) (pe_op op_cat (pv 4) (pe_lst (pa_cons (pe_tup (pa_cons (pe_tup (pa_cons pe_str (pa_cons pe_int pa_nil))) (pa_cons (pe_tup (pa_cons pe_str pa_nil)) (pa_cons (pe_tup (pa_cons pe_str pa_nil)) (pa_cons (pe_tup (pa_cons pe_str (pa_cons pe_int (pa_cons pe_int pa_nil)))) pa_nil))))) pa_nil))))
    (pss_cons (ps_for PassesOwn.never rfl (pi_list (pv 4)) (pg_name (i := 5) nd rfl (Or.inr rfl))
   (pss_one (ps_if (PW.pt (pw_or (pt_not (pt_val (pe_cal B.isChain hr4 pass0 (pa_cons (pv 5) pa_nil)))) (pw_or1 (pt_cmpR (op_eqD hr.units) (pe_told (k := 8) (T := [(Pt, qL)]) B.Fg B.bg B.mg_ rfl B.F2 B.m2 B.k2 B.b2 B.mE TB rfl (List.mem_singleton.mpr rfl) (fun p hp _ => by rw [List.mem_singleton.mp hp]; rfl) hr (show LamX.LamS (defScope sLaw) _ from LamX.lamS_by (by decide +kernel)) rfl (fun _ _ _ _ _ => rfl)
          (fun A out s H E f c hr => pe_cal B.format (hr.mono (by decide)) (L2N.passes_call (W := fun cls d _ H => E cls d H) (L2N.takes_of rfl rfl rfl rfl) (fun _ _ _ _ h => h)) (pa_cons (pv 5) pa_nil))) (pe_tup (pa_cons pe_str (pa_cons pe_str pa_nil))) (nomark _))))) (pss_one (ps_ret pe_bl)) pss_nil)))
    (pss_cons (ps_set (i := 6) nd rfl (Or.inr rfl) (pe_cal B.chain hr5 pass0 (pa_cons (pv 1) (pa_cons pe_int pa_nil))))
    (pss_cons (ps_set (i := 7) nd rfl (Or.inl rfl) (pe_told (k := 8) (T := [(Pt, qL)]) B.Fg B.bg B.mg_ rfl B.F2 B.m2 B.k2 B.b2 B.mE TB rfl (List.mem_singleton.mpr rfl) (fun p hp _ => by rw [List.mem_singleton.mp hp]; rfl) hr (show LamX.LamS (defScope sLaw) _ from LamX.lamS_by (by decide +kernel)) rfl (fun _ _ _ _ _ => rfl)
          (fun A out s H E f c hr => pe_cal B.joined hr (L2N.passes_call (W := fun cls d _ H => E cls d H) (L2N.takes_of rfl rfl rfl rfl) (fun _ _ _ _ h => h)) (pa_cons (pv 2) (pa_cons (pv 6) pa_nil)))))
    (pss_one (ps_if (pt_cmpR (op_neD hr.units) (pv 7) (pe_ifExp (pt_val (pe_cal B.isChain hr4 pass0 (pa_cons (pe_op op_catA (pv 2) (pv 6)) pa_nil))) (pe_op op_catA (pv 2) (pv 6)) (pe_tup (pa_cons pe_str (pa_cons pe_str pa_nil)))) (nomark _)) (pss_one (ps_ret pe_bl)) pss_nil)))))))))))))
    (pss_one (ps_ret pe_bl)))), ?_⟩
    have hsl : 8000 < sizeLine := by decide
    have esh := erd_shaped "InvalidChain" (by decide +kernel)
    have erf : PyData.eqv (errData "InvalidChain") (errData "InvalidChain") = true := SeqAt.eqv_refl _ (SeqAt.canLay_of_shaped esh)
    have esh4 := erd_shaped "TooMany" (by decide +kernel)
    have erf4 : PyData.eqv (errData "TooMany") (errData "TooMany") = true := SeqAt.eqv_refl _ (SeqAt.canLay_of_shaped esh4)
    refine ⟨_, rfl, a, ns, rfl, ha, hl, fun t ds H1 s1 hds ht hall nt => ⟨t, rfl, ⟨_, SqL.of ht⟩, ?_⟩⟩
    have r1 : Rt [(Pt, qL)] t ds H1 := ⟨ht, fun c hc => (hall c hc).1, fun p hp => by rw [List.mem_singleton.mp hp]; exact LamX.TabS.nil (s1 _ _ hP)⟩
    refine for_list (K := K) (a := t) (xs := ds.map V.ref) (fun i σ H2 => (∃ v1 v2 v3 v4 v5 v6 v7 : Option V, σ = [some (.ref a), v1, v2, v3, v4, v5, v6, v7]) ∧ Rt [(Pt, qL)] t ds H2)
      ⟨⟨_, _, _, _, _, _, _, rfl⟩, r1⟩ (fun i σ H2 _ ⟨_, r⟩ => SqL.of r.tl) ?_ ?_
    · clear r1 hall nt s1 ht ha hP hds H1
      rintro i x σ H2 hx ⟨⟨v1, v2, v3, v4, v5, v6, v7, rfl⟩, r2⟩
      obtain ⟨d, hd, rfl⟩ : ∃ d, d ∈ ds ∧ x = .ref d := by
        obtain ⟨d, hd, e⟩ := List.mem_map.mp (List.mem_of_getElem? hx)
        exact ⟨d, hd, e.symm⟩
      have d2 := r2.rd hd
      refine ⟨_, rfl, d, rfl, d2.d, fun b cs H3 hc hca dd3 s3 => ?_⟩
      have d3 := d2.roll s3 dd3
      clear s3 dd3 d2 r2
      refine ⟨_, rfl, .ref b, _, rfl, hca.v, fun H4 s4 => ⟨_, rfl, ifNot ((chainOkL_some _).trans hc) ?_⟩⟩
      have d4 := d3.same s4
      have ca4 := hca.same s4
      clear d3 hca s4
      obtain ⟨xs, hxs, _⟩ := id ca4
      refine ⟨_, rfl, b, xs, rfl, hxs, fun p L H5 s5 eL bL lL => ⟨p, rfl, ⟨_, SqL.of eL⟩, for_list (K := K) (a := p) (xs := L) (fun _ σ H8 => (∃ v3 v4 v5 v6 v7 : Option V, σ = [some (.ref a), some (.ref d), some (.ref b), v3, v4, v5, v6, v7]) ∧ H8 p = some (.lst L) ∧ (∀ v ∈ L, BadC K H8 v) ∧ Rd [(Pt, qL)] t d ds H8 ∧ ChainAt K H8 b cs)
        ⟨⟨_, _, _, _, _, rfl⟩, eL, bL, d4.same s5, ca4.same s5⟩ (fun i σ H8 _ ⟨_, h, _⟩ => SqL.of h) ?_ ?_⟩⟩
      · clear eL bL s5 d4 ca4 hxs
        rintro j x σ H8 hx ⟨⟨v3, v4, v5, v6, v7, rfl⟩, e8, bd, d8, ca8⟩
        have hb := bd x (List.mem_of_getElem? hx)
        obtain ⟨oo, hv, hoo⟩ := hb H8 (LamX.ExtN.of (Same.refl H8))
        refine ⟨_, rfl, x, oo, rfl, hv, fun H9 s9 => ⟨_, rfl, ifB hoo ?_⟩⟩
        replace d8 := d8.same s9
        replace ca8 := ca8.same s9
        replace e8 := s9 _ _ e8
        replace bd : ∀ v ∈ L, BadC K H9 v := fun v hv => (bd v hv).ext (LamX.ExtN.of s9)
        replace hb := hb.ext (LamX.ExtN.of s9)
        clear hv hoo oo s9
        refine told_wish (K := K) (CE := CE) (c0 := c0) (c1 := c1) (c2 := c2) (c3 := c3) (c4 := c4) (c5 := c5) (xs := [x]) (fun H1 R h => ⟨_, rfl, h⟩) d8.tb fun HA eA tA => ?_
        obtain ⟨oo, hv, hoo⟩ := hb HA eA
        refine ⟨x, oo, rfl, hv, hoo, fun HB sB => ⟨c0, 0, "InvalidChain", rfl, rfl, B.em0, B.one0, rfl, fun t9 HC sC ht9 => ?_⟩⟩
        have xC := (eA.trans (LamX.ExtN.of sB)).trans (LamX.ExtN.of sC)
        have tC' := (tA.ext sB).ext sC
        refine ⟨(by show 2 ≤ sizeLine; omega), fun p3 np3 => ?_⟩
        have s12 := same_upd (o := .tup [.str "error", .str "InvalidChain"]) (Same.refl HC) np3
        refine ⟨errData "InvalidChain", errData "InvalidChain", err_dp (s12 _ _ ht9), err_dp upd_same, esh, esh, _, rfl, ifEqvT erf ?_⟩
        have cb := (chain_keep ca8 hc d8.d (Keep.ext xC)).same s12
        have d9 := (d8.ext xC tC').same s12
        have e9 := s12 _ _ (xC p _ e8 (fun ps z => by cases z))
        replace bd : ∀ v ∈ L, BadC K _ v := fun v hv => ((bd v hv).ext xC).ext (LamX.ExtN.of s12)
        replace hb := (hb.ext xC).ext (LamX.ExtN.of s12)
        generalize upd HC p3 _ = HD at s12 cb d9 e9 bd hb ⊢
        clear hv hoo oo eA tA sB sC xC tC' ht9 np3 s12 d8 ca8 e8
        -- the bad one behind
        refine told_wish (K := K) (CE := CE) (c0 := c0) (c1 := c1) (c2 := c2) (c3 := c3) (c4 := c4) (c5 := c5) (xs := [.ref b, x]) (fun H1 R h => ⟨_, rfl, _, rfl, h⟩) d9.tb fun HA eA tA => ?_
        obtain ⟨oo, hv, hoo⟩ := hb HA eA
        have caA := chain_keep cb hc d9.d (Keep.ext eA)
        refine ⟨.ref b, x, rfl, .inr (.inl ⟨_, oo, caA.v, (chainOkL_some _).trans hc, hv, hoo, fun HB sB => ⟨c0, 0, "InvalidChain", rfl, rfl, B.em0, B.one0, rfl, fun t9 HC sC ht9 => ?_⟩⟩)⟩
        have xC := (eA.trans (LamX.ExtN.of sB)).trans (LamX.ExtN.of sC)
        have tC' := (tA.ext sB).ext sC
        refine ⟨(by show 2 ≤ sizeLine; omega), fun p3 np3 => ?_⟩
        have s12 := same_upd (o := .tup [.str "error", .str "InvalidChain"]) (Same.refl HC) np3
        refine ⟨errData "InvalidChain", errData "InvalidChain", err_dp (s12 _ _ ht9), err_dp upd_same, esh, esh, _, rfl, ifEqvT erf ?_⟩
        exact ⟨⟨_, _, _, _, _, rfl⟩, s12 _ _ (xC p _ e9 (fun ps z => by cases z)), fun v hv => ((bd v hv).ext xC).ext (LamX.ExtN.of s12), (d9.ext xC tC').same s12, (chain_keep cb hc d9.d (Keep.ext xC)).same s12⟩
      · clear eL bL s5 d4 ca4 hxs
        rintro σ H8 ⟨⟨v3, v4, v5, v6, v7, rfl⟩, _, _, d8, ca8⟩
        have g0 : good0.length = 1 := rfl
        have g1 : good1.length = 1 := rfl
        have g2 : good2.length = 1 := rfl
        have g3 : good3.length = 1 := rfl
        refine set_lits good0 (by unfold good0; simp [FitsAll, Fits]) (by decide) fun p0 x0 HA sA hA lA nA => ?_
        have sA' := same_upd (o := .lst x0) sA nA
        have hA' := LitsAt.ext (LamX.ExtN.of (same_upd (o := .lst x0) (Same.refl HA) nA)) hA
        have eA : upd HA p0 (.lst x0) p0 = some (.lst x0) := upd_same
        show tSeq _ _ _ _ (upd HA p0 (.lst x0))
        generalize upd HA p0 (.lst x0) = HB at sA' hA' eA ⊢
        refine cat_any good1 rfl eA hA' (by omega) (by omega) (by unfold good1; simp [FitsAll, Fits]) fun p1 L1 HC s1 e1 h1 => ?_
        refine cat_any good2 rfl e1 h1 (by rw [List.length_append]; omega) (by omega) (by unfold good2; simp [FitsAll, Fits]) fun p2 L2 HD s2 e2 h2 => ?_
        refine cat_any good3 rfl e2 h2 (by rw [List.length_append, List.length_append]; omega) (by omega) (by unfold good3; simp [FitsAll, Fits]) fun p3 L3 HE s3 e3 h3 => ?_
        have sE := Same.trans (Same.trans (Same.trans sA' s1) s2) s3
        have dE := d8.same sE
        have cE := ca8.same sE
        clear sA sA' hA hA' eA s1 e1 h1 s2 e2 h2 s3 sE d8 ca8 nA lA
        generalize hG : good0 ++ good1 ++ good2 ++ good3 = G at h3
        have okG : (G.all fun l => chainOkO (litOo l)) = true := by rw [← hG]; decide +kernel
        refine ⟨_, rfl, p3, rfl, ⟨_, SqL.of e3⟩, for_list (K := K) (a := p3) (xs := L3) (fun _ σ H8 => (∃ v5 v6 v7 : Option V, σ = [some (.ref a), some (.ref d), some (.ref b), v3, some (.ref p3), v5, v6, v7]) ∧ H8 p3 = some (.lst L3) ∧ LitsAt H8 L3 G ∧ Rd [(Pt, qL)] t d ds H8 ∧ ChainAt K H8 b cs)
          ⟨⟨_, _, _, rfl⟩, e3, h3, dE, cE⟩ (fun i σ H8 _ ⟨_, h, _⟩ => SqL.of h) ?_ ?_⟩
        · clear e3 h3 dE cE
          rintro j x σ H8 hx ⟨⟨v5, v6, v7, rfl⟩, e8, h8, d8, ca8⟩
          have hg := LitsAt.get h8
          have hj := get_lt hx
          obtain ⟨l, hl⟩ : ∃ l, G[j]? = some l := ⟨G[j]'(by rw [← hg.1]; exact hj), List.getElem?_eq_getElem (by rw [← hg.1]; exact hj)⟩
          have hxl := hg.2 j x l hx hl
          have okl : chainOkO (litOo l) = true := List.all_eq_true.mp okG l (List.mem_of_getElem? hl)
          obtain ⟨oo, hv, hoo⟩ := lit_chain (K := K) hxl
          refine ⟨_, rfl, x, oo, rfl, hv, fun H9 s9 => ⟨_, rfl, ifNot (hoo.trans okl) ?_⟩⟩
          replace d8 := d8.same s9
          replace ca8 := ca8.same s9
          replace e8 := s9 _ _ e8
          replace h8 := LitsAt.ext (LamX.ExtN.of s9) h8
          replace hxl := LitAt.ext (LamX.ExtN.of s9) hxl
          clear hv hoo oo s9
          refine told_wish (K := K) (CE := CE) (c0 := c0) (c1 := c1) (c2 := c2) (c3 := c3) (c4 := c4) (c5 := c5) (xs := [x]) (fun H1 R h => ⟨_, rfl, h⟩) d8.tb fun HA eA tA => ?_
          obtain ⟨oo, hv, hoo⟩ := lit_chain (K := K) (LitAt.ext eA hxl)
          refine ⟨x, oo, rfl, hv, fun HB sB => ⟨fun ds' e hds => ?_, fun hf => ?_⟩⟩
          · have xB := eA.trans (LamX.ExtN.of sB)
            have tB := tA.ext sB
            refine ⟨(by show 2 ≤ sizeLine; omega), fun p4 np4 => ?_⟩
            have s12 := same_upd (o := .tup [.str "error", .str "InvalidChain"]) (Same.refl HB) np4
            have shs : SeqAt.shaped (PyData.str (chainText ds')) = true := by
              show (PyData.strOk (chainText ds') && decide (0 ≤ 64)) = true
              rw [text_strOk hds]
              rfl
            refine ⟨.str (chainText ds'), errData "InvalidChain", .str _, err_dp upd_same, shs, esh, _, rfl, ifB rfl ?_⟩
            exact ⟨⟨_, _, _, rfl⟩, s12 _ _ (xB p3 _ e8 (fun ps z => by cases z)), LitsAt.ext (LamX.ExtN.of s12) (LitsAt.ext xB h8), (d8.ext xB tB).same s12, (chain_keep ca8 hc d8.d (Keep.ext xB)).same s12⟩
          · rw [hoo, okl] at hf
            cases hf
        · clear e3 h3 dE cE
          rintro σ H8 ⟨⟨v5, v6, v7, rfl⟩, _, _, d8, ca8⟩
          refine ⟨_, rfl, d, rfl, d8.d, fun b2 cs2 H9 hc2 hca2 dd9 s9 => ?_⟩
          have d9 := d8.roll s9 dd9
          have ca9 := chain_keep ca8 hc d8.d (Keep.sameX s9)
          clear d8 ca8 s9 dd9
          -- both together, or too many
          refine told_wish (K := K) (CE := CE) (c0 := c0) (c1 := c1) (c2 := c2) (c3 := c3) (c4 := c4) (c5 := c5) (xs := [.ref b, .ref b2]) (fun H1 R h => ⟨_, rfl, _, rfl, h⟩) d9.tb fun HA eA tA => ?_
          have cA := chain_keep ca9 hc d9.d (Keep.ext eA)
          have cA2 := chain_keep hca2 hc2 d9.d (Keep.ext eA)
          refine ⟨.ref b, .ref b2, rfl, .inr (.inr ⟨b, b2, cs, cs2, rfl, rfl, cA, cA2, hc, hc2, fun HB sB => ⟨fun hj tj hcj => ?_, fun hj => ⟨c4, 4, "TooMany", rfl, rfl, B.em4, B.one4, rfl, fun t9 HC sC ht9 => ?_⟩⟩⟩)⟩
          · have xB := eA.trans (LamX.ExtN.of sB)
            have d10 := d9.ext xB (tA.ext sB)
            have cB := cA.same sB
            have cB2 := cA2.same sB
            have l1 := chainOk_len hc
            have l2 := chainOk_len hc2
            refine ⟨_, rfl, _, rfl, _, rfl, cat_chains cB cB2 l1 l2 fun t1 HC s1 ct1 => ⟨.ref t1, _, rfl, ct1.v, fun HD s2 => ⟨_, rfl, ifA ((chainOkL_some _).trans hj) ⟨_, rfl, _, rfl, cat_chains ((cB.same s1).same s2) ((cB2.same s1).same s2) l1 l2 fun t2 HE s3 ct2 => ?_⟩⟩⟩⟩
            refine ⟨chainData (cs ++ cs2), chainData (cs ++ cs2), chain_dp (((hcj.same s1).same s2).same s3) hj, chain_dp ct2 hj, chain_shaped hj, chain_shaped hj, _, rfl, ifEqvT (SeqAt.eqv_refl _ (SeqAt.canLay_of_shaped (chain_shaped hj))) ?_⟩
            exact ⟨⟨_, _, _, _, _, _, _, rfl⟩, (((d10.same s1).same s2).same s3).rt⟩
          · have xC := (eA.trans (LamX.ExtN.of sB)).trans (LamX.ExtN.of sC)
            have d10 := d9.ext xC ((tA.ext sB).ext sC)
            have cB := (cA.same sB).same sC
            have cB2 := (cA2.same sB).same sC
            have l1 := chainOk_len hc
            have l2 := chainOk_len hc2
            refine ⟨_, rfl, _, rfl, _, rfl, cat_chains cB cB2 l1 l2 fun t1 HE s1 ct1 => ⟨.ref t1, _, rfl, ct1.v, fun HD s2 => ⟨_, rfl, ifB ((chainOkL_some _).trans hj) ⟨(by show 2 ≤ sizeLine; omega), fun p4 np4 => ?_⟩⟩⟩⟩
            have s12 := same_upd (o := .tup [.str "error", .str "TooMany"]) (Same.refl HD) np4
            refine ⟨errData "TooMany", errData "TooMany", err_dp (s12 _ _ (s2 _ _ (s1 _ _ ht9))), err_dp upd_same, esh4, esh4, _, rfl, ifEqvT erf4 ?_⟩
            exact ⟨⟨_, _, _, _, _, _, _, rfl⟩, (((d10.same s1).same s2).same s12).rt⟩
    · rintro σ H2 ⟨⟨v1, v2, v3, v4, v5, v6, v7, rfl⟩, r2⟩
      exact q H2
end
end FC
set_option Elab.async false
set_option linter.all false
set_option maxRecDepth 100000
set_option maxHeartbeats 4000000
/-! l.extend(t) by a tuple; a call of a name that holds one of several defs. -/
namespace FC
open PySem PySem.Spec PyProof.Rows L2
theorem list_extend_tup (l : Addr) (items : Array Value) (n : Nat) (b : Addr) (items2 : Array Value) (n2 : Nat) (dd : Option Addr) (sl : Array (Option Value)) (hs0 : ¬(!items.isEmpty && Builtin.List.listTooLong (items.size + items2.size)) = true) (hs1 : items.size ≤ sizeLine) (hs2 : items.size + items2.size ≤ sizeLine + 1) :
    Meets (Builtin.«list.extend» ⟨[.ref l, .ref b], []⟩) (fun _ R s => s.heap.get? l = some { cls := .type "list", dict := none, data := .seq items n, slots := #[] } ∧ s.heap.get? b = some { cls := .type "tuple", dict := dd, data := .seq items2 n2, slots := sl } ∧ R (.ok (.ret Value.none)) { s with heap := s.heap.update l (Obj.mapSeq fun x => x ++ items2), toks := s.toks }) :=
  .of_wp fun prog w A R s h => by
    obtain ⟨hp, g, d, tk, os⟩ := s; obtain ⟨hl, hb, h⟩ := h; have f1 := AutoSeq1.idx_int; have f2 := AutoSeq1.sub_tuple_tuple; have f3 := AutoSeq1.sub_list_list; have f4 := AutoSeq1.sub_tuple_list; have f5 := AutoSeq1.sub_list_tuple
    have hz' : (items ++ items2).size ≤ sizeLine + 1 := by rw [Array.size_append]; exact hs2
    wp_walk using (wpAny_updateSeq hl rfl (hz := hs1) (_hz' := hz')), wpAny_loadPart' hl, wpAny_loadPart' hb; exact ⟨_, rfl, h⟩
def rExtT (K : PySem.W.Frag) : V → List V → Hp → VK → Prop := fun x vs H Q => ∃ l b xs zs, x = .ref l ∧ vs = [.ref b] ∧ H l = some (.lst xs) ∧ SqT K H b zs ∧ xs.length + zs.length ≤ sizeLine ∧ Q .non (upd H l (.lst (xs ++ zs)))
section
variable {X : Cx}
theorem mt_extT : MtM X "list.extend" (rExtT X.K) := by
  intro pins s σ H x vs v us Q I rx rv h
  obtain ⟨l, b, xs, zs, rfl, rfl, hH, hB, hz, q⟩ := h
  cases rx
  obtain ⟨u, rfl, ru⟩ := rv.one
  cases ru
  obtain ⟨z, its, n, r, hl, e⟩ := I.lstM hH
  obtain ⟨its2, r2, ⟨⟨cls, dd, data, sl⟩, ho, hc, n2, hd⟩, hs⟩ := I.tuple hB
  simp only at hc hd
  subst hc hd
  have hl2 := r2.length
  have hsz : its.toArray.size + its2.toArray.size ≤ sizeLine := by rw [List.size_toArray, List.size_toArray]; omega
  have hlong : ¬ (!its.toArray.isEmpty && Builtin.List.listTooLong (its.toArray.size + its2.toArray.size)) = true := by
    rw [notLongL hsz, Bool.and_false]
    exact Bool.false_ne_true
  refine call_meets F.slot_list_extend ⟨_, e, rfl⟩ F.entry_list_extend (F.args_list_extend_2 _ _)
    (list_extend_tup l its.toArray n b its2.toArray n2 dd sl hlong (by rw [List.size_toArray]; omega) (by omega)) ⟨e, ho, ?_⟩
  refine ⟨.non, _, I.lset (its' := its ++ its2) hH e (by simp) (r.append r2) ?_, rfl, q⟩
  rw [List.length_append]
  omega
/-- the i-th slot holds some def, whose promise is told where it is called -/
def tCallH (P : Program) (w : World) (K : PySem.W.Frag) (mg : Str → Option Value) (base : Heap) (k i : Nat) (t : TA) : TE := fun σ H Q => ∃ f sp, σ[i]? = some (some (.ref f)) ∧ Held P w K mg base k f sp ∧ t σ H fun vs H1 => sp vs H1 Q (fun _ _ _ => False)
variable {k i : Nat} {x : Str} {p pos : Pos} {e : Expr} {es : List Expr} {t : TA}
theorem pe_callHd (hr : Room k X.A) (hN : X.N[i]? = some x) (hv : Vis X.env.scope x) (ha : PA X (e :: es) t)
    (hdb : (x == ("__debug__" : Str)) = false := by decide) (hcd : (x == ("__classdict__" : Str)) = false := by decide)
    (he : starEach (e :: es) X.env = (false, eval e X.env) :: starEach es X.env := by rfl) (hpl : (backTo pos (starEach es X.env)).any (·.1) = false := by rfl) : PE X (.Call (.Name x p) (e :: es) [] pos) (tCallH X.prog X.w X.K X.mg X.base k i t) := by
  refine ⟨fun pins s σ H Q I h => ?_⟩
  obtain ⟨f, sp, hs, ⟨fd, ps, F, hk, hb⟩, ht⟩ := h
  refine (pe_callL (i := i) (f := f) (sp := sp) (dvs := []) (E := fun _ _ _ => False) F hr hN hv hk hb .nil (fun _ _ _ _ _ _ _ z => z.elim) ha hdb hcd he hpl).run pins s σ H Q I ⟨hs, ?_⟩
  have e0 : (fun (vs : List V) (H1 : Hp) => sp (vs ++ []) H1 Q (fun _ _ _ => False)) = fun vs H1 => sp vs H1 Q (fun _ _ _ => False) := by
    funext vs H1
    rw [List.append_nil]
  show t σ H (fun vs H1 => sp (vs ++ []) H1 Q (fun _ _ _ => False))
  rw [e0]
  exact ht
end
theorem Cal.held {P : Program} {w : World} {K : PySem.W.Frag} {mg : Str → Option Value} {base : Heap} {k : Nat} {x : Str} {ps : List Str} {sp : Sp} {f : Addr} (C : ∃ fd, FnOk P w K mg base (fun _ _ _ _ _ _ => False) k f fd ps sp ∧ PySem.W.keepIn K (.ref f) = true ∧ Binds K fd ps []) : Held P w K mg base k f sp := by
  obtain ⟨fd, h⟩ := C
  exact ⟨fd, ps, h⟩
end FC
set_option Elab.async false
set_option linter.all false
set_option maxRecDepth 100000
set_option maxHeartbeats 1000000
namespace FC
open PySem PySem.Spec PyProof.Rows L2
/-! ### what the top leaves -/
def DefOk (K : PySem.W.Frag) (x : Str) (st : Stmt) : Prop := ∃ (f : Addr) (fd : FuncData), PySem.W.nsIn K mainGlobals x = some (some (.ref f)) ∧ Fun K x x st f fd
theorem defOk {K : PySem.W.Frag} {x : Str} {st : Stmt} {f : Addr} {oc : Value} {od an : Option Addr} {osl : Array (Option Value)} {kV doc pm cdv ct : Value} (a : PySem.W.nsIn K mainGlobals x = some (some (.ref f)))
    (l : K.lookup f = some ⟨oc, od, .func (PySem.W.fnOf x x (defArgs st) (defBody st) (defScope st) .none kV doc pm an cdv ct), osl⟩) (c : PySem.W.codeIn K cdv x = true) (k : PySem.W.keepIn K (.ref f) = true) : DefOk K x st := ⟨f, _, a, fun_mk l c k⟩
def ent (P : Params) (e : Str × Tok × Value) : DictEntry := ⟨PyData.keyHash P e.1, .str e.1 e.2.1, e.2.2⟩
def nsL (l : List (Str × Tok × Value)) (z : Str) : Option Value := (l.find? fun e => e.1 == z).map (·.2.2)
def All2 {β : Type} (R : β → Value → Prop) : List (Str × Tok × Value) → List (Str × β) → Prop
  | [], [] => True
  | e :: l, b :: t => e.1 = b.1 ∧ R b.2 e.2.2 ∧ All2 R l t
  | _, _ => False
theorem all2_find {β : Type} {R : β → Value → Prop} : ∀ {l : List (Str × Tok × Value)} {tb : List (Str × β)}, All2 R l tb → ∀ z, match tb.lookup z with
    | none => nsL l z = none
    | some b => ∃ v, nsL l z = some v ∧ R b v
  | [], [], _, z => rfl
  | e :: l, b :: t, ⟨h1, h2, h3⟩, z => by
    obtain ⟨x, k, v⟩ := e
    obtain ⟨y, b⟩ := b
    have h1 : x = y := h1
    subst h1
    by_cases hz : z = x
    · subst hz
      have e1 : nsL ((z, k, v) :: l) z = some v := by
        unfold nsL
        rw [List.find?_cons_of_pos (by simp)]
        rfl
      simp only [List.lookup, beq_self_eq_true]
      exact ⟨v, e1, h2⟩
    · have e1 : nsL ((x, k, v) :: l) z = nsL l z := by
        unfold nsL
        rw [List.find?_cons_of_neg (by simp; exact fun q => hz q.symm)]
      have e2 : (z == x) = false := beq_eq_false_iff_ne.mpr hz
      simp only [List.lookup, e2, e1]
      exact all2_find h3 z
section
variable {K : PySem.W.Frag} {w : World} {d : Addr} {n : Nat} {l : List (Str × Tok × Value)}
theorem keysLit_ents {P : Params} : ∀ (l : List (Str × Tok × Value)), PySem.W.KeysLit P (l.map (ent P))
  | [] => trivial
  | e :: r => ⟨⟨_, _, rfl, rfl⟩, keysLit_ents r⟩
theorem kd_ents (h : K.lookup d = some ⟨.type "dict", none, .dict (l.map (ent w.params)).toArray n, #[]⟩) (low : (d == sysModules) = false) : KDict K w d (l.map (ent w.params)).toArray n := ⟨h, keysLit_ents l, low⟩
theorem find_ents {P : Params} (z : Str) : ∀ (l : List (Str × Tok × Value)), (l.map (ent P)).find? (·.key.isStr z) = (l.find? fun e => e.1 == z).map (ent P)
  | [] => rfl
  | e :: r => by
    rw [List.map_cons, List.find?_cons, List.find?_cons]
    have e1 : (ent P e).key.isStr z = (e.1 == z) := rfl
    rw [e1]
    cases (e.1 == z) with
    | true => rfl
    | false => exact find_ents z r
theorem noRef_ents {P : Params} : ∀ (l : List (Str × Tok × Value)), (l.map (ent P)).any (·.refKey) = false
  | [] => rfl
  | e :: r => by
    rw [List.map_cons, List.any_cons, noRef_ents r]
    rfl
theorem ns_ents {o : Value} {od : Option Addr} {sl : Array (Option Value)} {P : Params} (h : K.lookup d = some ⟨o, od, .dict (l.map (ent P)).toArray n, sl⟩) (z : Str) : PySem.W.nsIn K d z = some (nsL l z) := by
  unfold PySem.W.nsIn
  rw [h]
  show (match ((l.map (ent P)).toArray.toList).find? (·.key.isStr z) with
    | some e => some (some e.val)
    | none => if ((l.map (ent P)).toArray.toList).any (·.refKey) then none else some none) = _
  rw [List.toList_toArray, find_ents, noRef_ents]
  unfold nsL
  cases l.find? (fun e => e.1 == z) <;> rfl
end
def TupV (K : PySem.W.Frag) (a : Addr) (xs : List V) : Prop := ∃ (o : Obj) (its : Array Value) (n : Nat), K.lookup a = some o ∧ o.cls = .type "tuple" ∧ o.data = .seq its n ∧ its.size ≤ sizeLine ∧ Vals xs its.toList
theorem TupV.sq {K : PySem.W.Frag} {a : Addr} {xs : List V} (h : TupV K a xs) : ∀ H, SqT K H a xs := fun H => .inr h
theorem tup0 {K : PySem.W.Frag} {a : Addr} {od : Option Addr} {n : Nat} {sl : Array (Option Value)} (l : K.lookup a = some ⟨.type "tuple", od, .seq #[] n, sl⟩)  : TupV K a [] := ⟨_, _, _, l, rfl, rfl, (by show 0 ≤ sizeLine; decide), .nil⟩
theorem tup1 {K : PySem.W.Frag} {a : Addr} {od : Option Addr} {n : Nat} {sl : Array (Option Value)} {x0 : V} {u0 : Value} (l : K.lookup a = some ⟨.type "tuple", od, .seq #[u0] n, sl⟩) (r0 : RelV x0 u0) : TupV K a [x0] := ⟨_, _, _, l, rfl, rfl, (by show 1 ≤ sizeLine; decide), (.cons r0 .nil)⟩
theorem tup2 {K : PySem.W.Frag} {a : Addr} {od : Option Addr} {n : Nat} {sl : Array (Option Value)} {x0 x1 : V} {u0 u1 : Value} (l : K.lookup a = some ⟨.type "tuple", od, .seq #[u0, u1] n, sl⟩) (r0 : RelV x0 u0) (r1 : RelV x1 u1) : TupV K a [x0, x1] := ⟨_, _, _, l, rfl, rfl, (by show 2 ≤ sizeLine; decide), (.cons r0 (.cons r1 .nil))⟩
theorem tup3 {K : PySem.W.Frag} {a : Addr} {od : Option Addr} {n : Nat} {sl : Array (Option Value)} {x0 x1 x2 : V} {u0 u1 u2 : Value} (l : K.lookup a = some ⟨.type "tuple", od, .seq #[u0, u1, u2] n, sl⟩) (r0 : RelV x0 u0) (r1 : RelV x1 u1) (r2 : RelV x2 u2) : TupV K a [x0, x1, x2] := ⟨_, _, _, l, rfl, rfl, (by show 3 ≤ sizeLine; decide), (.cons r0 (.cons r1 (.cons r2 .nil)))⟩
theorem tup4 {K : PySem.W.Frag} {a : Addr} {od : Option Addr} {n : Nat} {sl : Array (Option Value)} {x0 x1 x2 x3 : V} {u0 u1 u2 u3 : Value} (l : K.lookup a = some ⟨.type "tuple", od, .seq #[u0, u1, u2, u3] n, sl⟩) (r0 : RelV x0 u0) (r1 : RelV x1 u1) (r2 : RelV x2 u2) (r3 : RelV x3 u3) : TupV K a [x0, x1, x2, x3] := ⟨_, _, _, l, rfl, rfl, (by show 4 ≤ sizeLine; decide), (.cons r0 (.cons r1 (.cons r2 (.cons r3 .nil))))⟩
theorem tup5 {K : PySem.W.Frag} {a : Addr} {od : Option Addr} {n : Nat} {sl : Array (Option Value)} {x0 x1 x2 x3 x4 : V} {u0 u1 u2 u3 u4 : Value} (l : K.lookup a = some ⟨.type "tuple", od, .seq #[u0, u1, u2, u3, u4] n, sl⟩) (r0 : RelV x0 u0) (r1 : RelV x1 u1) (r2 : RelV x2 u2) (r3 : RelV x3 u3) (r4 : RelV x4 u4) : TupV K a [x0, x1, x2, x3, x4] := ⟨_, _, _, l, rfl, rfl, (by show 5 ≤ sizeLine; decide), (.cons r0 (.cons r1 (.cons r2 (.cons r3 (.cons r4 .nil)))))⟩
def LetOk (K : PySem.W.Frag) (w : World) : Prop := ∃ d, PySem.W.nsIn K mainGlobals "LETTERS" = some (some (.ref d)) ∧ LetT K w d
theorem letOk {K : PySem.W.Frag} {w : World} {d : Addr} {n : Nat} {t0 t1 t2 t3 t4 t5 t6 t7 t8 t9 : Tok} {a0 a1 a2 a3 a4 a5 a6 a7 a8 a9 : Addr} (g : PySem.W.nsIn K mainGlobals "LETTERS" = some (some (.ref d)))
    (h : K.lookup d = some ⟨.type "dict", none, .dict #[⟨PyData.keyHash w.params "line", .str "line" t0, .ref a0⟩, ⟨PyData.keyHash w.params "turn", .str "turn" t1, .ref a1⟩, ⟨PyData.keyHash w.params "keep", .str "keep" t2, .ref a2⟩, ⟨PyData.keyHash w.params "every", .str "every" t3, .ref a3⟩, ⟨PyData.keyHash w.params "twice", .str "twice" t4, .ref a4⟩, ⟨PyData.keyHash w.params "sums", .str "sums" t5, .ref a5⟩, ⟨PyData.keyHash w.params "anew", .str "anew" t6, .ref a6⟩, ⟨PyData.keyHash w.params "gaps", .str "gaps" t7, .ref a7⟩, ⟨PyData.keyHash w.params "groups", .str "groups" t8, .ref a8⟩, ⟨PyData.keyHash w.params "count", .str "count" t9, .ref a9⟩] n, #[]⟩) (low : (d == sysModules) = false)
    (h0 : TupV K a0 [.str "a", .str "b"]) (h1 : TupV K a1 [.str "m", .str "r", .str "a", .str "b"]) (h2 : TupV K a2 [.str "m", .str "r"]) (h3 : TupV K a3 [.str "k", .str "r"]) (h4 : TupV K a4 []) (h5 : TupV K a5 []) (h6 : TupV K a6 [.str "m", .str "r"]) (h7 : TupV K a7 []) (h8 : TupV K a8 [.str "k"]) (h9 : TupV K a9 []) : LetOk K w := by
  have h : K.lookup d = some ⟨.type "dict", none, .dict (([("line", t0, .ref a0), ("turn", t1, .ref a1), ("keep", t2, .ref a2), ("every", t3, .ref a3), ("twice", t4, .ref a4), ("sums", t5, .ref a5), ("anew", t6, .ref a6), ("gaps", t7, .ref a7), ("groups", t8, .ref a8), ("count", t9, .ref a9)] : List (Str × Tok × Value)).map (ent w.params)).toArray n, #[]⟩ := h
  refine ⟨d, g, ⟨_, _, kd_ents h low⟩, fun z => ⟨_, ns_ents h z, ?_⟩⟩
  have al : All2 (fun (ls : List Str) v => ∃ a, v = .ref a ∧ ∀ H, SqT K H a (ls.map V.str)) [("line", t0, .ref a0), ("turn", t1, .ref a1), ("keep", t2, .ref a2), ("every", t3, .ref a3), ("twice", t4, .ref a4), ("sums", t5, .ref a5), ("anew", t6, .ref a6), ("gaps", t7, .ref a7), ("groups", t8, .ref a8), ("count", t9, .ref a9)] tab := ⟨rfl, ⟨_, rfl, h0.sq⟩, ⟨rfl, ⟨_, rfl, h1.sq⟩, ⟨rfl, ⟨_, rfl, h2.sq⟩, ⟨rfl, ⟨_, rfl, h3.sq⟩, ⟨rfl, ⟨_, rfl, h4.sq⟩, ⟨rfl, ⟨_, rfl, h5.sq⟩, ⟨rfl, ⟨_, rfl, h6.sq⟩, ⟨rfl, ⟨_, rfl, h7.sq⟩, ⟨rfl, ⟨_, rfl, h8.sq⟩, ⟨rfl, ⟨_, rfl, h9.sq⟩, trivial⟩⟩⟩⟩⟩⟩⟩⟩⟩⟩
  have := all2_find al z
  revert this
  cases tab.lookup z with
  | none => exact fun h => h
  | some ls => exact fun ⟨v, h1, a, h2, h3⟩ => ⟨a, by rw [h1, h2], h3⟩
def BndOk (K : PySem.W.Frag) (w : World) : Prop := ∃ d, PySem.W.nsIn K mainGlobals "BOUNDS" = some (some (.ref d)) ∧ BndT K w d
theorem bndOk {K : PySem.W.Frag} {w : World} {d : Addr} {n : Nat} {t0 t1 t2 t3 : Tok} {a0 a1 a2 a3 : Addr} (g : PySem.W.nsIn K mainGlobals "BOUNDS" = some (some (.ref d)))
    (h : K.lookup d = some ⟨.type "dict", none, .dict #[⟨PyData.keyHash w.params "a", .str "a" t0, .ref a0⟩, ⟨PyData.keyHash w.params "b", .str "b" t1, .ref a1⟩, ⟨PyData.keyHash w.params "m", .str "m" t2, .ref a2⟩, ⟨PyData.keyHash w.params "k", .str "k" t3, .ref a3⟩] n, #[]⟩) (low : (d == sysModules) = false)
    (h0 : TupV K a0 [.int (-3), .int (3)]) (h1 : TupV K a1 [.int (-9), .int (9)]) (h2 : TupV K a2 [.int (2), .int (3)]) (h3 : TupV K a3 [.int (2), .int (3)]) : BndOk K w := by
  have h : K.lookup d = some ⟨.type "dict", none, .dict (([("a", t0, .ref a0), ("b", t1, .ref a1), ("m", t2, .ref a2), ("k", t3, .ref a3)] : List (Str × Tok × Value)).map (ent w.params)).toArray n, #[]⟩ := h
  refine ⟨d, g, ⟨_, _, kd_ents h low⟩, fun p hp => ?_⟩
  unfold bnd at hp
  simp only [List.mem_cons, List.mem_nil_iff, or_false] at hp
  rcases hp with rfl | rfl | rfl | rfl
  · exact ⟨a0, (ns_ents h _).trans (by rfl), h0.sq⟩
  · exact ⟨a1, (ns_ents h _).trans (by rfl), h1.sq⟩
  · exact ⟨a2, (ns_ents h _).trans (by rfl), h2.sq⟩
  · exact ⟨a3, (ns_ents h _).trans (by rfl), h3.sq⟩
def LimOk (K : PySem.W.Frag) : Prop := ∃ d, PySem.W.nsIn K mainGlobals "LIMITS" = some (some (.ref d)) ∧ LimT K d
theorem limOk_ {K : PySem.W.Frag} {d r0 r1 r2 c0 c1 c2 : Addr} (g : PySem.W.nsIn K mainGlobals "LIMITS" = some (some (.ref d))) (h : TupV K d [.ref r0, .ref r1, .ref r2])
    (h0 : TupV K r0 [.int 2, .ref c0]) (k0 : TupV K c0 [.str "sums", .str "anew", .str "gaps", .str "groups", .str "count"]) (h1 : TupV K r1 [.int 2, .ref c1]) (k1 : TupV K c1 [.str "turn", .str "keep", .str "anew"]) (h2 : TupV K r2 [.int 1, .ref c2]) (k2 : TupV K c2 [.str "twice"]) : LimOk K := by
  refine ⟨d, g, ⟨[r0, r1, r2], h.sq, rfl, fun i p r hp hr => ?_⟩⟩
  match i, hp, hr with
  | 0, hp, hr =>
    cases hp
    cases hr
    exact ⟨c0, h0.sq, k0.sq⟩
  | 1, hp, hr =>
    cases hp
    cases hr
    exact ⟨c1, h1.sq, k1.sq⟩
  | 2, hp, hr =>
    cases hp
    cases hr
    exact ⟨c2, h2.sq, k2.sq⟩
  | n + 3, hp, hr => cases hp
def ExcQ (K : PySem.W.Frag) (C : Addr) : Prop := PySem.W.excIn K C [.type "ValueError", .type "Exception", .type "BaseException", .type "object"] "ValueError.__new__" = true ∧ PySem.W.keepIn K (.ref C) = true ∧ PySem.W.subIn K (.ref C) (.type "BaseException") = some true ∧ PySem.W.typeIn K (.ref C) = some (.type "type")
def GivOk (K : PySem.W.Frag) (w : World) : Prop := ∃ d, PySem.W.nsIn K mainGlobals "GIVERS" = some (some (.ref d)) ∧ (∃ es n, KDict K w d es n) ∧ (∃ f, PySem.W.nsIn K d "line" = some (some (.ref f)) ∧ PySem.W.nsIn K mainGlobals "give_line" = some (some (.ref f))) ∧ (∃ f, PySem.W.nsIn K d "turn" = some (some (.ref f)) ∧ PySem.W.nsIn K mainGlobals "give_turn" = some (some (.ref f))) ∧ (∃ f, PySem.W.nsIn K d "keep" = some (some (.ref f)) ∧ PySem.W.nsIn K mainGlobals "give_keep" = some (some (.ref f))) ∧ (∃ f, PySem.W.nsIn K d "every" = some (some (.ref f)) ∧ PySem.W.nsIn K mainGlobals "give_every" = some (some (.ref f))) ∧ (∃ f, PySem.W.nsIn K d "twice" = some (some (.ref f)) ∧ PySem.W.nsIn K mainGlobals "give_twice" = some (some (.ref f))) ∧ (∃ f, PySem.W.nsIn K d "sums" = some (some (.ref f)) ∧ PySem.W.nsIn K mainGlobals "give_sums" = some (some (.ref f))) ∧ (∃ f, PySem.W.nsIn K d "anew" = some (some (.ref f)) ∧ PySem.W.nsIn K mainGlobals "give_anew" = some (some (.ref f))) ∧ (∃ f, PySem.W.nsIn K d "gaps" = some (some (.ref f)) ∧ PySem.W.nsIn K mainGlobals "give_gaps" = some (some (.ref f))) ∧ (∃ f, PySem.W.nsIn K d "groups" = some (some (.ref f)) ∧ PySem.W.nsIn K mainGlobals "give_groups" = some (some (.ref f))) ∧ (∃ f, PySem.W.nsIn K d "count" = some (some (.ref f)) ∧ PySem.W.nsIn K mainGlobals "give_count" = some (some (.ref f)))
theorem givOk {K : PySem.W.Frag} {w : World} {d : Addr} {n : Nat} {t0 t1 t2 t3 t4 t5 t6 t7 t8 t9 : Tok} {f0 f1 f2 f3 f4 f5 f6 f7 f8 f9 : Addr} (g : PySem.W.nsIn K mainGlobals "GIVERS" = some (some (.ref d)))
    (h : K.lookup d = some ⟨.type "dict", none, .dict #[⟨PyData.keyHash w.params "line", .str "line" t0, .ref f0⟩, ⟨PyData.keyHash w.params "turn", .str "turn" t1, .ref f1⟩, ⟨PyData.keyHash w.params "keep", .str "keep" t2, .ref f2⟩, ⟨PyData.keyHash w.params "every", .str "every" t3, .ref f3⟩, ⟨PyData.keyHash w.params "twice", .str "twice" t4, .ref f4⟩, ⟨PyData.keyHash w.params "sums", .str "sums" t5, .ref f5⟩, ⟨PyData.keyHash w.params "anew", .str "anew" t6, .ref f6⟩, ⟨PyData.keyHash w.params "gaps", .str "gaps" t7, .ref f7⟩, ⟨PyData.keyHash w.params "groups", .str "groups" t8, .ref f8⟩, ⟨PyData.keyHash w.params "count", .str "count" t9, .ref f9⟩] n, #[]⟩) (low : (d == sysModules) = false)
    (h0 : PySem.W.nsIn K mainGlobals "give_line" = some (some (.ref f0))) (h1 : PySem.W.nsIn K mainGlobals "give_turn" = some (some (.ref f1))) (h2 : PySem.W.nsIn K mainGlobals "give_keep" = some (some (.ref f2))) (h3 : PySem.W.nsIn K mainGlobals "give_every" = some (some (.ref f3))) (h4 : PySem.W.nsIn K mainGlobals "give_twice" = some (some (.ref f4))) (h5 : PySem.W.nsIn K mainGlobals "give_sums" = some (some (.ref f5))) (h6 : PySem.W.nsIn K mainGlobals "give_anew" = some (some (.ref f6))) (h7 : PySem.W.nsIn K mainGlobals "give_gaps" = some (some (.ref f7))) (h8 : PySem.W.nsIn K mainGlobals "give_groups" = some (some (.ref f8))) (h9 : PySem.W.nsIn K mainGlobals "give_count" = some (some (.ref f9))) : GivOk K w := by
  have h : K.lookup d = some ⟨.type "dict", none, .dict (([("line", t0, .ref f0), ("turn", t1, .ref f1), ("keep", t2, .ref f2), ("every", t3, .ref f3), ("twice", t4, .ref f4), ("sums", t5, .ref f5), ("anew", t6, .ref f6), ("gaps", t7, .ref f7), ("groups", t8, .ref f8), ("count", t9, .ref f9)] : List (Str × Tok × Value)).map (ent w.params)).toArray n, #[]⟩ := h
  exact ⟨d, g, ⟨_, _, kd_ents h low⟩, ⟨f0, (ns_ents h _).trans (by rfl), h0⟩, ⟨f1, (ns_ents h _).trans (by rfl), h1⟩, ⟨f2, (ns_ents h _).trans (by rfl), h2⟩, ⟨f3, (ns_ents h _).trans (by rfl), h3⟩, ⟨f4, (ns_ents h _).trans (by rfl), h4⟩, ⟨f5, (ns_ents h _).trans (by rfl), h5⟩, ⟨f6, (ns_ents h _).trans (by rfl), h6⟩, ⟨f7, (ns_ents h _).trans (by rfl), h7⟩, ⟨f8, (ns_ents h _).trans (by rfl), h8⟩, ⟨f9, (ns_ents h _).trans (by rfl), h9⟩⟩
theorem calOf {P : Program} {w : World} {K : PySem.W.Frag} {mg : Str → Option Value} {base : Heap} {CX : CXT} {k : Nat} {x : Str} {st : Stmt} {f : Addr} {fd : FuncData} {ps : List Str} {sp : Sp} (m : mg x = some (.ref f)) (F : Fun K x x st f fd) (h : FnOk P w K mg base CX k f fd ps sp)
    (b : ∀ (kV doc pm : Value) (an : Option Addr) (cdv ct : Value) (us : List Value), us.length = ps.length → bindArgs (PySem.W.fnOf x x (defArgs st) (defBody st) (defScope st) .none kV doc pm an cdv ct) ⟨us, []⟩ = pure (ps.zip us)) : Cal P w K mg base CX k x ps sp := ⟨f, fd, h, m, F.kp, F.binds b⟩
theorem heldOf {P : Program} {w : World} {K : PySem.W.Frag} {mg : Str → Option Value} {base : Heap} {k : Nat} {x : Str} {st : Stmt} {f f' : Addr} {fd : FuncData} {ps : List Str} {sp : Sp} (a : PySem.W.nsIn K mainGlobals x = some (some (.ref f))) (a' : PySem.W.nsIn K mainGlobals x = some (some (.ref f'))) (F : Fun K x x st f fd) (h : FnOk P w K mg base CX0 k f fd ps sp)
    (b : ∀ (kV doc pm : Value) (an : Option Addr) (cdv ct : Value) (us : List Value), us.length = ps.length → bindArgs (PySem.W.fnOf x x (defArgs st) (defBody st) (defScope st) .none kV doc pm an cdv ct) ⟨us, []⟩ = pure (ps.zip us)) : Held P w K mg base k f' sp := by
  have e := a.symm.trans a'
  cases e
  exact ⟨fd, ps, h, F.kp, F.binds b⟩
end FC
set_option Elab.async false
set_option linter.all false
set_option maxRecDepth 100000
set_option maxHeartbeats 1000000
namespace FC
open PySem PySem.Spec PyProof.Rows L2
def ClsOk (K : PySem.W.Frag) : Prop := ∃ c0 c1 c2 c3 c4 c5 CE : Addr, PySem.W.nsIn K mainGlobals "InvalidChain" = some (some (.ref c0)) ∧ PySem.W.nsIn K mainGlobals "InvalidRow" = some (some (.ref c1)) ∧ PySem.W.nsIn K mainGlobals "InvalidNumber" = some (some (.ref c2)) ∧ PySem.W.nsIn K mainGlobals "InvalidText" = some (some (.ref c3)) ∧ PySem.W.nsIn K mainGlobals "TooMany" = some (some (.ref c4)) ∧ PySem.W.nsIn K mainGlobals "NothingToUndo" = some (some (.ref c5)) ∧ PySem.W.nsIn K mainGlobals "ChainError" = some (some (.ref CE)) ∧ OneT K c0 0 c0 c1 c2 c3 c4 c5 ∧ PySem.W.exmOne K (.ref c0) (.ref CE) = some true ∧ OneT K c4 4 c0 c1 c2 c3 c4 c5 ∧ PySem.W.exmOne K (.ref c4) (.ref CE) = some true ∧ ExcQ K c0 ∧ ExcQ K c4
theorem clsOk {K : PySem.W.Frag} {c0 c1 c2 c3 c4 c5 CE : Addr} (g0 : PySem.W.nsIn K mainGlobals "InvalidChain" = some (some (.ref c0))) (g1 : PySem.W.nsIn K mainGlobals "InvalidRow" = some (some (.ref c1))) (g2 : PySem.W.nsIn K mainGlobals "InvalidNumber" = some (some (.ref c2))) (g3 : PySem.W.nsIn K mainGlobals "InvalidText" = some (some (.ref c3))) (g4 : PySem.W.nsIn K mainGlobals "TooMany" = some (some (.ref c4))) (g5 : PySem.W.nsIn K mainGlobals "NothingToUndo" = some (some (.ref c5))) (gE : PySem.W.nsIn K mainGlobals "ChainError" = some (some (.ref CE))) (one0 : OneT K c0 0 c0 c1 c2 c3 c4 c5) (em0 : PySem.W.exmOne K (.ref c0) (.ref CE) = some true) (one4 : OneT K c4 4 c0 c1 c2 c3 c4 c5) (em4 : PySem.W.exmOne K (.ref c4) (.ref CE) = some true) (q0 : ExcQ K c0) (q4 : ExcQ K c4) : ClsOk K := ⟨_, _, _, _, _, _, _, g0, g1, g2, g3, g4, g5, gE, one0, em0, one4, em4, q0, q4⟩
structure BltOk (K : PySem.W.Frag) : Prop where
  n0 : PySem.W.nsIn K mainGlobals "isinstance" = some none
  n1 : PySem.W.nsIn K mainGlobals "int" = some none
  n2 : PySem.W.nsIn K mainGlobals "bool" = some none
  n3 : PySem.W.nsIn K mainGlobals "str" = some none
  n4 : PySem.W.nsIn K mainGlobals "tuple" = some none
  n5 : PySem.W.nsIn K mainGlobals "len" = some none
  n6 : PySem.W.nsIn K mainGlobals "all" = some none
  n7 : PySem.W.nsIn K mainGlobals "zip" = some none
  n8 : PySem.W.nsIn K mainGlobals "range" = some none
  n9 : PySem.W.nsIn K mainGlobals "max" = some none
  n10 : PySem.W.nsIn K mainGlobals "min" = some none
  n11 : PySem.W.nsIn K mainGlobals "sum" = some none
  n12 : PySem.W.nsIn K mainGlobals "ValueError" = some none
  n13 : PySem.W.nsIn K mainGlobals "list" = some none
structure DefsOk (K : PySem.W.Frag) : Prop where
  d0 : DefOk K "is_chain" sIsChain
  d1 : DefOk K "check_chain" sCheck
  d2 : DefOk K "is_whole" sIsWhole
  d3 : DefOk K "is_step" sIsStep
  d4 : DefOk K "are_within" sWithin
  d5 : DefOk K "keeps_limits" sLimits
  d6 : DefOk K "step_text" sStepText
  d7 : DefOk K "format_chain" sFormat
  d8 : DefOk K "form" sForm
  d9 : DefOk K "joined" sJoined
  d10 : DefOk K "_law_cell" sCell
  d11 : DefOk K "_law_drawn" sDrawn
  d12 : DefOk K "_law_roll" sRoll
  d13 : DefOk K "_law_rounds" sRounds
  d14 : DefOk K "_law_term" sTerm
  d15 : DefOk K "_law_told" sTold
  d16 : DefOk K "_law_rest" sRest
  d17 : DefOk K "_law_step" sStep
  d18 : DefOk K "_law_chain" sChain
  d19 : DefOk K "_law_bad_chains" sBadC
theorem look {l : PySem.W.OpenLaw} {w : World} {K : PySem.W.Frag} {h : Heap} {mg : Str → Option Value} {fa Pt : Addr} (X : K.In h) (G : h.Ns mainGlobals mg) (hfa : mg "law" = some (.ref fa)) (hPt : h.get? Pt = some { cls := .none, data := .fields #[] }) (nPt : K.lookup Pt = none)
    (D : DefsOk K) (Bt : BltOk K) (tL : LetOk K w) (tB : BndOk K w) (tI : LimOk K) {tM : Tok} (mM : PySem.W.nsIn K mainGlobals "MOST_STEPS" = some (some (.int 4 tM))) (cl : ClsOk K)
    {f c : Addr} {oc kV doc pm ct : Value} {an od : Option Addr} {osl : Array (Option Value)} (aF : PySem.W.nsIn K mainGlobals "law" = some (some (.ref f)))
    (lF : K.lookup f = some ⟨oc, od, .func (PySem.W.fnOf "law" "law" (defArgs sLaw) (defBody sLaw) (defScope sLaw) .none kV doc pm an (.ref c) ct), osl⟩) (cF : PySem.W.codeIn K (.ref c) "law" = true) (hF : PySem.W.codeHdIn K c Pt = true) :
    LamX.LawAtS l w K CX0 12 63 "_law_script" mg fa h := by
  have e := hfa.symm.trans (PySem.W.mg_of X G aF)
  cases e
  refine ⟨PySem.W.fnOf "law" "law" (defArgs sLaw) (defBody sLaw) (defScope sLaw) .none kV doc pm an (.ref c) ct, [(c, Pt)], spLaw K Pt, fun p hp => by rw [List.mem_singleton.mp hp]; exact hPt, fun p hp => by rw [List.mem_singleton.mp hp]; exact nPt, fun p hp => by rw [List.mem_singleton.mp hp]; exact PySem.W.codeHd_of_K X hF, fun s u => .of_eq rfl,
    fun H a ns hl _ hT hS => ⟨a, ns, rfl, hS, hl, hT _ (List.mem_singleton.mpr rfl), fun _ => rfl⟩, fun base _ _ hTB => ?_⟩
  have TB : LamX.TabB base mg c Pt := hTB _ (List.mem_singleton.mpr rfl)
  have T : Blt mg := ⟨PySem.W.mg_none_of X G Bt.n0, PySem.W.mg_none_of X G Bt.n1, PySem.W.mg_none_of X G Bt.n2, PySem.W.mg_none_of X G Bt.n3, PySem.W.mg_none_of X G Bt.n4, PySem.W.mg_none_of X G Bt.n5, PySem.W.mg_none_of X G Bt.n6, PySem.W.mg_none_of X G Bt.n7, PySem.W.mg_none_of X G Bt.n8, PySem.W.mg_none_of X G Bt.n9, PySem.W.mg_none_of X G Bt.n10, PySem.W.mg_none_of X G Bt.n11, PySem.W.mg_none_of X G Bt.n12⟩
  obtain ⟨fIC, fdIC, aIC, FIC⟩ := D.d0
  have mIC := PySem.W.mg_of X G aIC
  obtain ⟨fCK, fdCK, aCK, FCK⟩ := D.d1
  have mCK := PySem.W.mg_of X G aCK
  obtain ⟨fIW, fdIW, aIW, FIW⟩ := D.d2
  have mIW := PySem.W.mg_of X G aIW
  obtain ⟨fIS, fdIS, aIS, FIS⟩ := D.d3
  have mIS := PySem.W.mg_of X G aIS
  obtain ⟨fWI, fdWI, aWI, FWI⟩ := D.d4
  have mWI := PySem.W.mg_of X G aWI
  obtain ⟨fKL, fdKL, aKL, FKL⟩ := D.d5
  have mKL := PySem.W.mg_of X G aKL
  obtain ⟨fST, fdST, aST, FST⟩ := D.d6
  have mST := PySem.W.mg_of X G aST
  obtain ⟨fFO, fdFO, aFO, FFO⟩ := D.d7
  have mFO := PySem.W.mg_of X G aFO
  obtain ⟨fFM, fdFM, aFM, FFM⟩ := D.d8
  have mFM := PySem.W.mg_of X G aFM
  obtain ⟨fJO, fdJO, aJO, FJO⟩ := D.d9
  have mJO := PySem.W.mg_of X G aJO
  obtain ⟨fCE_, fdCE_, aCE_, FCE_⟩ := D.d10
  have mCE_ := PySem.W.mg_of X G aCE_
  obtain ⟨fDR, fdDR, aDR, FDR⟩ := D.d11
  have mDR := PySem.W.mg_of X G aDR
  obtain ⟨fRO, fdRO, aRO, FRO⟩ := D.d12
  have mRO := PySem.W.mg_of X G aRO
  obtain ⟨fRN, fdRN, aRN, FRN⟩ := D.d13
  have mRN := PySem.W.mg_of X G aRN
  obtain ⟨fTE, fdTE, aTE, FTE⟩ := D.d14
  have mTE := PySem.W.mg_of X G aTE
  obtain ⟨fTO, fdTO, aTO, FTO⟩ := D.d15
  have mTO := PySem.W.mg_of X G aTO
  obtain ⟨fRE, fdRE, aRE, FRE⟩ := D.d16
  have mRE := PySem.W.mg_of X G aRE
  obtain ⟨fSP, fdSP, aSP, FSP⟩ := D.d17
  have mSP := PySem.W.mg_of X G aSP
  obtain ⟨fCH, fdCH, aCH, FCH⟩ := D.d18
  have mCH := PySem.W.mg_of X G aCH
  obtain ⟨fBC, fdBC, aBC, FBC⟩ := D.d19
  have mBC := PySem.W.mg_of X G aBC
  obtain ⟨dL, gL, tL⟩ := tL
  obtain ⟨dB, gB, tB⟩ := tB
  obtain ⟨dI, gI, tI⟩ := tI
  obtain ⟨c0, c1, c2, c3, c4, c5, CE, g0, g1, g2, g3, g4, g5, gE, one0, em0, one4, em4, q0, q4⟩ := cl
  have x0 : ExcT K mg "InvalidChain" c0 := ⟨PySem.W.mg_of X G g0, q0.1, q0.2.1, q0.2.2.1, q0.2.2.2⟩
  have x4 : ExcT K mg "TooMany" c4 := ⟨PySem.W.mg_of X G g4, q4.1, q4.2.1, q4.2.2.1, q4.2.2.2⟩
  have six : SixT mg c0 c1 c2 c3 c4 c5 := ⟨PySem.W.mg_of X G g0, PySem.W.mg_of X G g1, PySem.W.mg_of X G g2, PySem.W.mg_of X G g3, PySem.W.mg_of X G g4, PySem.W.mg_of X G g5⟩
  have CIW := calOf (P := l.prog) (w := w) (base := base) mIW FIW (ok_isWhole FIW T) (fun _ _ _ _ _ _ us hl => match us, hl with | [_], _ => rfl)
  have CWI := calOf (P := l.prog) (w := w) (base := base) mWI FWI (ok_within FWI T CIW (PySem.W.mg_of X G gB) tB) (fun _ _ _ _ _ _ us hl => match us, hl with | [_, _], _ => rfl)
  have CIS := calOf (P := l.prog) (w := w) (base := base) mIS FIS (ok_isStep FIS T CWI (PySem.W.mg_of X G gL) tL) (fun _ _ _ _ _ _ us hl => match us, hl with | [_], _ => rfl)
  have CKL := calOf (P := l.prog) (w := w) (base := base) mKL FKL (ok_limits FKL T (PySem.W.mg_of X G gI) tI) (fun _ _ _ _ _ _ us hl => match us, hl with | [_], _ => rfl)
  have CIC := calOf (P := l.prog) (w := w) (base := base) mIC FIC (ok_isChain FIC T CIS CKL (PySem.W.mg_of X G mM)) (fun _ _ _ _ _ _ us hl => match us, hl with | [_], _ => rfl)
  have CCK := calOf (P := l.prog) (w := w) (base := base) mCK FCK (ok_check FCK CIC x0) (fun _ _ _ _ _ _ us hl => match us, hl with | [_], _ => rfl)
  have CST := calOf (P := l.prog) (w := w) (base := base) mST FST (ok_stepText FST T) (fun _ _ _ _ _ _ us hl => match us, hl with | [_], _ => rfl)
  have CFO := calOf (P := l.prog) (w := w) (base := base) mFO FFO (ok_format FFO CCK CST) (fun _ _ _ _ _ _ us hl => match us, hl with | [_], _ => rfl)
  have CFM := calOf (P := l.prog) (w := w) (base := base) mFM FFM (ok_formE FFM CCK) (fun _ _ _ _ _ _ us hl => match us, hl with | [_], _ => rfl)
  have CJO := calOf (P := l.prog) (w := w) (base := base) mJO FJO (ok_joined FJO CCK CIC x4) (fun _ _ _ _ _ _ us hl => match us, hl with | [_, _], _ => rfl)
  have CCE_ := calOf (P := l.prog) (w := w) (base := base) mCE_ FCE_ (ok_cell FCE_ T) (fun _ _ _ _ _ _ us hl => match us, hl with | [_, _], _ => rfl)
  have CDR := calOf (P := l.prog) (w := w) (base := base) mDR FDR (ok_drawn FDR) (fun _ _ _ _ _ _ us hl => match us, hl with | [_, _], _ => rfl)
  have CRO := calOf (P := l.prog) (w := w) (base := base) mRO FRO (ok_roll FRO CDR) (fun _ _ _ _ _ _ us hl => match us, hl with | [_, _], _ => rfl)
  have CRE := calOf (P := l.prog) (w := w) (base := base) mRE FRE (ok_rest FRE CRO) (fun _ _ _ _ _ _ us hl => match us, hl with | [_], _ => rfl)
  have CRN := calOf (P := l.prog) (w := w) (base := base) mRN FRN (ok_rounds FRN T CCE_) (fun _ _ _ _ _ _ us hl => match us, hl with | [_, _], _ => rfl)
  have CSP := calOf (P := l.prog) (w := w) (base := base) mSP FSP (ok_step FSP CRO CRE) (fun _ _ _ _ _ _ us hl => match us, hl with | [_], _ => rfl)
  have CCH := calOf (P := l.prog) (w := w) (base := base) mCH FCH (ok_chain FCH T CRO CSP CIC) (fun _ _ _ _ _ _ us hl => match us, hl with | [_, _], _ => rfl)
  have CBC := calOf (P := l.prog) (w := w) (base := base) mBC FBC (ok_badC FBC (PySem.W.mg_none_of X G Bt.n13)) (fun _ _ _ _ _ _ us hl => match us, hl with | [_], _ => rfl)
  have L : Lib8 l.prog w K mg base fTO fTE CE c0 c1 c2 c3 c4 c5 fdTO fdTE := ⟨T, CRN, CCH, CIC, CBC, CFO, CFM, CJO, FTO, FTO.binds (fun _ _ _ _ _ _ us hl => match us, hl with | [_], _ => rfl), mTO, ok_term FTE T six, mTE, FTE.kp, FTE.binds (fun _ _ _ _ _ _ us hl => match us, hl with | [_], _ => rfl), PySem.W.mg_of X G gE, one0, em0, one4, em4⟩
  exact ok_law L TB lF cF
end FC
open PySem PySem.W PyProof.Rows
set_option Elab.async false
set_option maxRecDepth 100000 in
set_option maxHeartbeats 0 in
theorem PySem.Challenge.cw_foldchains_k08_whole_chains_holds : PySem.Challenge.rw_foldchains_k08_whole_chains.Holds := by
  w_on; o_law; k_head; (case hw => w_witness2)
  k_fill
  refine LamX.walk_ofTs (l := PySem.Challenge.rw_foldchains_k08_whole_chains) (n := 63) (k := 12) (x := "_law_script") (CX := fun _ => L2.CX0) rfl (by decide) rfl ⟨rfl, by decide, by decide⟩ (fun w h Y => PySem.W.km_in_of Y) ?F (fun _ _ _ _ _ z => z)
  case F =>
    intro w mg fa h Y KX G hmg
    refine' FC.look (Pt := 669) KX G hmg (PySem.W.km_tabs_of Y 669 (by decide)) ?znPt (FC.DefsOk.mk ?zd0 ?zd1 ?zd2 ?zd3 ?zd4 ?zd5 ?zd6 ?zd7 ?zd8 ?zd9 ?zd10 ?zd11 ?zd12 ?zd13 ?zd14 ?zd15 ?zd16 ?zd17 ?zd18 ?zd19) (FC.BltOk.mk ?zn0 ?zn1 ?zn2 ?zn3 ?zn4 ?zn5 ?zn6 ?zn7 ?zn8 ?zn9 ?zn10 ?zn11 ?zn12 ?zn13) ?ztL ?ztB ?ztI ?zmM ?zcl ?zaF ?zlF ?zcF ?zhF
    (case znPt => kernel_rfl)
    (case zd0 => (refine' FC.defOk ?za ?zl ?zc ?zk; (case za => k_is); (case zl => k_is); (case zc => k_is); (case zk => k_is)))
    (case zd1 => (refine' FC.defOk ?za ?zl ?zc ?zk; (case za => k_is); (case zl => k_is); (case zc => k_is); (case zk => k_is)))
    (case zd2 => (refine' FC.defOk ?za ?zl ?zc ?zk; (case za => k_is); (case zl => k_is); (case zc => k_is); (case zk => k_is)))
    (case zd3 => (refine' FC.defOk ?za ?zl ?zc ?zk; (case za => k_is); (case zl => k_is); (case zc => k_is); (case zk => k_is)))
    (case zd4 => (refine' FC.defOk ?za ?zl ?zc ?zk; (case za => k_is); (case zl => k_is); (case zc => k_is); (case zk => k_is)))
    (case zd5 => (refine' FC.defOk ?za ?zl ?zc ?zk; (case za => k_is); (case zl => k_is); (case zc => k_is); (case zk => k_is)))
    (case zd6 => (refine' FC.defOk ?za ?zl ?zc ?zk; (case za => k_is); (case zl => k_is); (case zc => k_is); (case zk => k_is)))
    (case zd7 => (refine' FC.defOk ?za ?zl ?zc ?zk; (case za => k_is); (case zl => k_is); (case zc => k_is); (case zk => k_is)))
    (case zd8 => (refine' FC.defOk ?za ?zl ?zc ?zk; (case za => k_is); (case zl => k_is); (case zc => k_is); (case zk => k_is)))
    (case zd9 => (refine' FC.defOk ?za ?zl ?zc ?zk; (case za => k_is); (case zl => k_is); (case zc => k_is); (case zk => k_is)))
    (case zd10 => (refine' FC.defOk ?za ?zl ?zc ?zk; (case za => k_is); (case zl => k_is); (case zc => k_is); (case zk => k_is)))
    (case zd11 => (refine' FC.defOk ?za ?zl ?zc ?zk; (case za => k_is); (case zl => k_is); (case zc => k_is); (case zk => k_is)))
    (case zd12 => (refine' FC.defOk ?za ?zl ?zc ?zk; (case za => k_is); (case zl => k_is); (case zc => k_is); (case zk => k_is)))
    (case zd13 => (refine' FC.defOk ?za ?zl ?zc ?zk; (case za => k_is); (case zl => k_is); (case zc => k_is); (case zk => k_is)))
    (case zd14 => (refine' FC.defOk ?za ?zl ?zc ?zk; (case za => k_is); (case zl => k_is); (case zc => k_is); (case zk => k_is)))
    (case zd15 => (refine' FC.defOk ?za ?zl ?zc ?zk; (case za => k_is); (case zl => k_is); (case zc => k_is); (case zk => k_is)))
    (case zd16 => (refine' FC.defOk ?za ?zl ?zc ?zk; (case za => k_is); (case zl => k_is); (case zc => k_is); (case zk => k_is)))
    (case zd17 => (refine' FC.defOk ?za ?zl ?zc ?zk; (case za => k_is); (case zl => k_is); (case zc => k_is); (case zk => k_is)))
    (case zd18 => (refine' FC.defOk ?za ?zl ?zc ?zk; (case za => k_is); (case zl => k_is); (case zc => k_is); (case zk => k_is)))
    (case zd19 => (refine' FC.defOk ?za ?zl ?zc ?zk; (case za => k_is); (case zl => k_is); (case zc => k_is); (case zk => k_is)))
    (case zn0 => k_is)
    (case zn1 => k_is)
    (case zn2 => k_is)
    (case zn3 => k_is)
    (case zn4 => k_is)
    (case zn5 => k_is)
    (case zn6 => k_is)
    (case zn7 => k_is)
    (case zn8 => k_is)
    (case zn9 => k_is)
    (case zn10 => k_is)
    (case zn11 => k_is)
    (case zn12 => k_is)
    (case zn13 => k_is)
    case ztL =>
      refine' FC.letOk ?zg ?zh ?zlow ?zh0 ?zh1 ?zh2 ?zh3 ?zh4 ?zh5 ?zh6 ?zh7 ?zh8 ?zh9
      (case zg => k_is); (case zh => k_is); (case zlow => rfl)
      (case zh0 => (refine' FC.tup2 ?zl ?zr0 ?zr1; (case zl => k_is); (case zr0 => exact ⟨_, rfl⟩); (case zr1 => exact ⟨_, rfl⟩)))
      (case zh1 => (refine' FC.tup4 ?zl ?zr0 ?zr1 ?zr2 ?zr3; (case zl => k_is); (case zr0 => exact ⟨_, rfl⟩); (case zr1 => exact ⟨_, rfl⟩); (case zr2 => exact ⟨_, rfl⟩); (case zr3 => exact ⟨_, rfl⟩)))
      (case zh2 => (refine' FC.tup2 ?zl ?zr0 ?zr1; (case zl => k_is); (case zr0 => exact ⟨_, rfl⟩); (case zr1 => exact ⟨_, rfl⟩)))
      (case zh3 => (refine' FC.tup2 ?zl ?zr0 ?zr1; (case zl => k_is); (case zr0 => exact ⟨_, rfl⟩); (case zr1 => exact ⟨_, rfl⟩)))
      (case zh4 => (refine' FC.tup0 ?zl; (case zl => k_is)))
      (case zh5 => (refine' FC.tup0 ?zl; (case zl => k_is)))
      (case zh6 => (refine' FC.tup2 ?zl ?zr0 ?zr1; (case zl => k_is); (case zr0 => exact ⟨_, rfl⟩); (case zr1 => exact ⟨_, rfl⟩)))
      (case zh7 => (refine' FC.tup0 ?zl; (case zl => k_is)))
      (case zh8 => (refine' FC.tup1 ?zl ?zr0; (case zl => k_is); (case zr0 => exact ⟨_, rfl⟩)))
      (case zh9 => (refine' FC.tup0 ?zl; (case zl => k_is)))
    case ztB =>
      refine' FC.bndOk ?zg ?zh ?zlow ?zh0 ?zh1 ?zh2 ?zh3
      (case zg => k_is); (case zh => k_is); (case zlow => rfl)
      (case zh0 => (refine' FC.tup2 ?zl ?zr0 ?zr1; (case zl => k_is); (case zr0 => exact ⟨_, rfl⟩); (case zr1 => exact ⟨_, rfl⟩)))
      (case zh1 => (refine' FC.tup2 ?zl ?zr0 ?zr1; (case zl => k_is); (case zr0 => exact ⟨_, rfl⟩); (case zr1 => exact ⟨_, rfl⟩)))
      (case zh2 => (refine' FC.tup2 ?zl ?zr0 ?zr1; (case zl => k_is); (case zr0 => exact ⟨_, rfl⟩); (case zr1 => exact ⟨_, rfl⟩)))
      (case zh3 => (refine' FC.tup2 ?zl ?zr0 ?zr1; (case zl => k_is); (case zr0 => exact ⟨_, rfl⟩); (case zr1 => exact ⟨_, rfl⟩)))
    case ztI =>
      refine' FC.limOk_ ?zg ?zh ?zh0 ?zk0 ?zh1 ?zk1 ?zh2 ?zk2
      (case zg => k_is)
      (case zh => (refine' FC.tup3 ?zl ?zr0 ?zr1 ?zr2; (case zl => k_is); (case zr0 => exact rfl); (case zr1 => exact rfl); (case zr2 => exact rfl)))
      (case zh0 => (refine' FC.tup2 ?zl ?zr0 ?zr1; (case zl => k_is); (case zr0 => exact ⟨_, rfl⟩); (case zr1 => exact rfl)))
      (case zk0 => (refine' FC.tup5 ?zl ?zr0 ?zr1 ?zr2 ?zr3 ?zr4; (case zl => k_is); (case zr0 => exact ⟨_, rfl⟩); (case zr1 => exact ⟨_, rfl⟩); (case zr2 => exact ⟨_, rfl⟩); (case zr3 => exact ⟨_, rfl⟩); (case zr4 => exact ⟨_, rfl⟩)))
      (case zh1 => (refine' FC.tup2 ?zl ?zr0 ?zr1; (case zl => k_is); (case zr0 => exact ⟨_, rfl⟩); (case zr1 => exact rfl)))
      (case zk1 => (refine' FC.tup3 ?zl ?zr0 ?zr1 ?zr2; (case zl => k_is); (case zr0 => exact ⟨_, rfl⟩); (case zr1 => exact ⟨_, rfl⟩); (case zr2 => exact ⟨_, rfl⟩)))
      (case zh2 => (refine' FC.tup2 ?zl ?zr0 ?zr1; (case zl => k_is); (case zr0 => exact ⟨_, rfl⟩); (case zr1 => exact rfl)))
      (case zk2 => (refine' FC.tup1 ?zl ?zr0; (case zl => k_is); (case zr0 => exact ⟨_, rfl⟩)))
    (case zmM => k_is)
    case zcl =>
      refine' FC.clsOk ?zg0 ?zg1 ?zg2 ?zg3 ?zg4 ?zg5 ?zgE ?zone0 ?zem0 ?zone4 ?zem4 ?zq0 ?zq4
      (case zg0 => k_is)
      (case zg1 => k_is)
      (case zg2 => k_is)
      (case zg3 => k_is)
      (case zg4 => k_is)
      (case zg5 => k_is)
      (case zgE => k_is)
      (case zone0 => exact ⟨by decide, ⟨by kernel_rfl, by kernel_rfl, by kernel_rfl, by kernel_rfl, by kernel_rfl, by kernel_rfl, by kernel_rfl, by kernel_rfl⟩, by kernel_rfl, by kernel_rfl, by kernel_rfl, by kernel_rfl, by kernel_rfl, by kernel_rfl, by kernel_rfl⟩)
      (case zem0 => kernel_rfl)
      (case zone4 => exact ⟨by decide, ⟨by kernel_rfl, by kernel_rfl, by kernel_rfl, by kernel_rfl, by kernel_rfl, by kernel_rfl, by kernel_rfl, by kernel_rfl⟩, by kernel_rfl, by kernel_rfl, by kernel_rfl, by kernel_rfl, by kernel_rfl, by kernel_rfl, by kernel_rfl⟩)
      (case zem4 => kernel_rfl)
      (case zq0 => exact ⟨by kernel_rfl, by kernel_rfl, by kernel_rfl, by kernel_rfl⟩)
      (case zq4 => exact ⟨by kernel_rfl, by kernel_rfl, by kernel_rfl, by kernel_rfl⟩)
    (case zaF => k_is); (case zlF => k_is); (case zcF => k_is); (case zhF => kernel_rfl)
