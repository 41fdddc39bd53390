import PyProof.Rows.All
import Wide.All
import OpenK.AllK
import Wide.FinOn
import HandS.Base
import HandS.Call
import HandS.List
import HandS.Comp
import HandS.Ends
import HandS.Dict
import HandS.Iter
import HandS.Text
import HandS.Words
import KE.GoesNew
import HandS.Rev
import PyProof.JoinWalk
import KE.SortData
import HandS.Evl
import HandS.Walk
import HandS.IsInst
import HandS.ForMost
import HandS.Set
import HandS.Strs
import HandS.TupAny
import HandS.TupMul
import HandS.Style
import HandS.SetKeys
import HandS.WordsDict
import HandS.WideBits
import HandS.AnyAll
import HandS.GenOver
import HandS.GenList
import HandS.EndTab
import HandS.Conv
import PyProof.CollectStr
import HandS.TupSets
import KE.KSortTupAny
import HandS.SortRule
import HandS.SetFor
import HandS.Zip
import KE.KDictPairs
import PyProof.EnumMake
import HandS.SortKw
import HandS.FStr
import KE.GoesEnumKw
import KE.KDictList
import PyProof.StrLawsTight
import HandS.Replace
import PySem.Challenge.RW_hidhalves_k09_whole_partings_and_halves
set_option Elab.async false
set_option linter.all false
set_option maxRecDepth 100000
set_option maxHeartbeats 4000000
namespace Hid
open PySem PySem.Spec PyProof.Rows L2
/-- two texts side by side: the signs in new pairs -/
def ZsIt (x y : Str) : It :=
  ⟨fun i _ => i < min x.cps.size y.cps.size,
    fun i G v G' => ∃ T c d, v = .ref T ∧ G T = none ∧ G' = upd G T (.tup [.str ⟨#[c]⟩, .str ⟨#[d]⟩]) ∧ x.cps[i]? = some c ∧ y.cps[i]? = some d,
    fun i _ => min x.cps.size y.cps.size ≤ i⟩
/-- where the walk of two texts stands -/
def ZsAt (z TI TO i1 i2 : Addr) (x y : Str) (t u : Tok) (i : Nat) (h : Heap) : Prop :=
  i ≤ min x.cps.size y.cps.size ∧ IsZip h z TI TO .none ∧ IsTupOf2 h TI (.ref i1) (.ref i2) ∧ (∃ a1 a2, IsTupOf2 h TO a1 a2) ∧ h.IsStrIter i1 (strIterType x) x t i ∧ h.IsStrIter i2 (strIterType y) y u i
theorem zs_turn {P : Program} {w : World} {K : PySem.W.Frag} {es : List Expr} {kk : Nat} {tp : Pos} {z TI TO i1 i2 : Addr} {x y : Str} {t u : Tok} (S : ZipSep2 z TI TO i1 i2 [i1] [i2]) :
    Turn P w K (.Tuple es kk tp) (ZsIt x y) (z :: TI :: TO :: ([i1] ++ [i2])) z (ZsAt z TI TO i1 i2 x y t u) where
  mem := List.mem_cons_self
  obj := fun i h st b hb => by
    obtain ⟨_, hz, hTI, ⟨p, q, hTO⟩, ⟨o1, e1, _, d1⟩, ⟨o2, e2, _, d2⟩⟩ := st
    have e' : b = z ∨ b = TI ∨ b = TO ∨ b = i1 ∨ b = i2 := by simpa using hb
    rcases e' with r | r | r | r | r <;> rw [r]
    · exact ⟨_, hz, fun v n => nomatch n⟩
    · exact ⟨_, hTI, fun v n => nomatch n⟩
    · exact ⟨_, hTO, fun v n => nomatch n⟩
    · exact ⟨o1, e1, fun v n => by rw [d1] at n; cases n⟩
    · exact ⟨o2, e2, fun v n => by rw [d2] at n; cases n⟩
  keep := fun i h h' st k => by
    obtain ⟨hi, hz, hTI, ⟨p, q, hTO⟩, ⟨o1, e1, r1⟩, ⟨o2, e2, r2⟩⟩ := st
    exact ⟨hi, k z (by simp) _ hz, k TI (by simp) _ hTI, ⟨p, q, k TO (by simp) _ hTO⟩, ⟨o1, k i1 (by simp) _ e1, r1⟩, ⟨o2, k i2 (by simp) _ e2, r2⟩⟩
  item := by
    intro X hP hw hK hc i pins s σ H E I hf st hg
    subst hP hw hK
    have hh := I.ok.hd hc
    have G := GoesN.zip2 (prog := X.prog) (w := X.w) (A := X.A) (elts := es) (x1 := kk) (pos := tp) S (Draws.text (A := X.A.in1) hh i1 x t) (Draws.text (A := X.A.in1) hh i2 y u)
    obtain ⟨hi, st⟩ := st
    refine wpAny_mono (G.goes i s (fun v s2 => ∃ xv H', Inv X pins σ H' s2 ∧ RelV xv v ∧ (ZsIt x y).yld i H xv H' ∧ ZsAt z TI TO i1 i2 x y t u (i + 1) s2.heap ∧ ∀ b ∈ z :: TI :: TO :: ([i1] ++ [i2]), H' b = none) E hg st fun v h' tk hY st' hk htk => ?_) (fun r s1 h1 => ?_) fun _ _ e => e
    · obtain ⟨T, v1, v2, rfl, hT, ⟨c, u1, hc1, rfl⟩, ⟨d, u2, hd1, rfl⟩, o, ho, ho1, n, ho2⟩ := hY
      have new : ObjOk X.prog X.w (upd H T (.tup [.str ⟨#[c]⟩, .str ⟨#[d]⟩])) h' T (.tup [.str ⟨#[c]⟩, .str ⟨#[d]⟩]) :=
        ⟨by show 2 ≤ sizeLine; decide, [_, _], .cons ⟨u1, rfl⟩ (.cons ⟨u2, rfl⟩ .nil), ⟨o, ho, ho1, n, ho2⟩⟩
      have J : Inv X pins σ (upd H T (.tup [.str ⟨#[c]⟩, .str ⟨#[d]⟩])) { s with heap := h', toks := tk } :=
        I.turnedNew (t' := tk) (ch := [z, TO, i1, i2]) hk (fun b hb => hf b (by simp at hb ⊢; rcases hb with q | q | q | q <;> simp [q])) hT new
      refine ⟨.ref T, _, J, rfl, ⟨T, c, d, rfl, I.hok.fresh hT, rfl, hc1, hd1⟩, ⟨hg, st'⟩, fun b hb => ?_⟩
      have hb1 : b < s.heap.objs.size := by
        obtain ⟨hz, hTI, ⟨p, q, hTO⟩, ⟨o1, e1, r1⟩, ⟨o2, e2, r2⟩⟩ := st
        have e' : b = z ∨ b = TI ∨ b = TO ∨ b = i1 ∨ b = i2 := by simpa using hb
        rcases e' with r | r | r | r | r <;> rw [r]
        · exact Heap.lt_size hz
        · exact Heap.lt_size hTI
        · exact Heap.lt_size hTO
        · exact Heap.lt_size e1
        · exact Heap.lt_size e2
      rw [upd_ne (Nat.ne_of_lt (Nat.lt_of_lt_of_le hb1 hT))]
      exact (hf b hb).1
    · obtain ⟨v, rfl, q⟩ := h1
      exact ⟨v, rfl, q⟩
  done := by
    intro X hP hw hK hc i pins s σ H E I hf st hg
    subst hP hw hK
    have hh := I.ok.hd hc
    have G := GoesN.zip2 (prog := X.prog) (w := X.w) (A := X.A) (elts := es) (x1 := kk) (pos := tp) S (Draws.text (A := X.A.in1) hh i1 x t) (Draws.text (A := X.A.in1) hh i2 y u)
    obtain ⟨hi, st⟩ := st
    have ei : i = min x.cps.size y.cps.size := Nat.le_antisymm hi hg
    subst ei
    exact G.stops s (fun s1 => Inv X pins σ H s1) E st fun h' tk hk htk => I.turnedL (t' := tk) (ch := [z, TO, i1, i2]) hk (fun b hb => hf b (by simp at hb ⊢; rcases hb with q | q | q | q <;> simp [q]))
  self := fun A i s Q E st h => wpAny_pyIter_zip st.2.1 h
def iZs (ta : TA) : TI := fun σ H R => ta σ H fun vs H1 => ∃ x y, vs = [.str x, .str y] ∧ R (ZsIt x y) H1
/-- zip(x, y) of two texts -/
theorem pi_zs {X : Cx} {e e2 : Expr} {ta : TA} {p pos tp : Pos} {es : List Expr} {kk : Nat} (hg : Gl X "zip") (hm : X.mg "zip" = none) (ha : PA X [e, e2] ta)
    (hs : starEach [e, e2] X.env = (false, eval e X.env) :: starEach [e2] X.env := by rfl) (hpl : (backTo pos (starEach [e2] X.env)).any (·.1) = false := by rfl) :
    PI X (.Tuple es kk tp) (.Call (.Name "zip" p) [e, e2] [] pos) (iZs ta) := by
  refine ⟨fun pins s σ H R I h => ?_⟩
  refine Call_ (ld_blt I hg hm boot_zip (callWith_type1 (thn (ha.run pos pins s σ H _ I h) fun us s1 ⟨vs, H1, I1, r1, x, y, ex, q⟩ => ?_) hs hpl))
  subst ex
  cases r1 with
  | cons r rr =>
    cases rr with
    | cons r' rr =>
      cases rr
      obtain ⟨t, rfl⟩ := r
      obtain ⟨u, rfl⟩ := r'
      refine zip_begins2 (begins_text x t) (begins_text y u) trivial trivial fun h' hz hTI hTO g1 g2 hsz hk => wpAny_pyIter_zip hz ?_
      refine ⟨s1.heap.objs.size + 4, _, _, _, H1, rfl, I1.kept (t' := s1.toks) hk, zs_turn (zip_sep2 (fp1 := []) (fp2 := []) (fun b n => nomatch n) (fun b n => nomatch n)),
        ⟨Nat.zero_le _, hz, hTI, ⟨_, _, hTO⟩, ⟨_, g1, rfl, rfl⟩, ⟨_, g2, rfl, rfl⟩⟩, fun c hcm => ?_, q⟩
      have e' : c = s1.heap.objs.size + 4 ∨ c = s1.heap.objs.size + 2 ∨ c = s1.heap.objs.size + 3 ∨ c = s1.heap.objs.size ∨ c = s1.heap.objs.size + 1 := by simpa using hcm
      have hle : s1.heap.objs.size ≤ c := by
        rcases e' with r | r | r | r | r <;> rw [r] <;> first | exact Nat.le_refl _ | exact Nat.le_add_right _ _
      exact I1.fpOk hle (I1.hok.fresh hle)
/-- a loop over two texts side by side -/
theorem for_zs {x y : Str} {g : TG} {tb : TS} {D : Ends} {σ : L2.St} {H : Hp} {n : Nat} (hn : n = min x.cps.size y.cps.size) (Pv : Nat → L2.St → Hp → Prop) (h0 : Pv 0 σ H)
    (hs : ∀ (i c d : Nat) (T : Addr) (σ : L2.St) (H : Hp), i < n → x.cps[i]? = some c → y.cps[i]? = some d → H T = none → Pv i σ H →
      g (.ref T) σ (upd H T (.tup [.str ⟨#[c]⟩, .str ⟨#[d]⟩])) fun σ2 H2 => tb { D with nx := Pv (i + 1), ct := Pv (i + 1), bk := D.nx } σ2 H2) (hd : ∀ σ H, Pv n σ H → D.nx σ H) :
    ∃ W : Nat → Nat → L2.St → Hp → Prop, (∃ m, W 0 m σ H) ∧ ∀ i m σ H, W i m σ H →
      ((ZsIt x y).stop i H ∧ D.nx σ H) ∨ ((ZsIt x y).go i H ∧ ∃ N : L2.St → Hp → Prop, (∀ σ' H', N σ' H' → ∃ m', m' < m ∧ W (i + 1) m' σ' H') ∧ ∀ v H', (ZsIt x y).yld i H v H' → g v σ H' fun σ2 H2 => tb { D with nx := N, ct := N, bk := D.nx } σ2 H2) := by
  subst hn
  refine ⟨fun i m σ H => m = min x.cps.size y.cps.size - i ∧ i ≤ min x.cps.size y.cps.size ∧ Pv i σ H, ⟨_, rfl, Nat.zero_le _, h0⟩, ?_⟩
  rintro i m σ H ⟨rfl, hi, p⟩
  by_cases hlt : i < min x.cps.size y.cps.size
  · refine .inr ⟨hlt, Pv (i + 1), fun σ' H' p' => ⟨_, by omega, rfl, hlt, p'⟩, fun v H' r => ?_⟩
    obtain ⟨T, c, d, rfl, hT, rfl, hc, hd'⟩ := r
    exact hs i c d T σ H hlt hc hd' hT p
  · have e : i = min x.cps.size y.cps.size := by omega
    subst e
    exact .inl ⟨Nat.le_refl _, hd σ H p⟩
end Hid

namespace Hid
open PySem PySem.Spec PyProof.Rows L2
theorem str_norev : typeLookup (.type "str") "__reversed__" = pure none := by rw [typeLookup_type, builtinLookup_eq_fast]; kernel_rfl
theorem str_getit : typeLookup (.type "str") "__getitem__" = pure (some (.builtin "str.__getitem__")) := by rw [typeLookup_type, builtinLookup_eq_fast]; kernel_rfl
abbrev rsObj (x : Str) (t : Tok) (i : Int) : Obj := { cls := .type "reversed", data := .fields #[.str x t, rawInt i] }
/-- reversed(x) of a text, the next place i -/
def IsRs (h : Heap) (a : Addr) (x : Str) (t : Tok) (i : Int) : Prop := ∃ o, h.get? a = some o ∧ o.cls = .type "reversed" ∧ o.data = .fields #[.str x t, rawInt i]
section
variable {prog : Program} {w : World} {A : Around} {E : Value → Shared → Prop} {s : Shared}
theorem IsRs.kind {a : Addr} {x : Str} {t : Tok} {i : Int} (q : IsRs s.heap a x t i) : s.TypeIs (.ref a) "reversed" := let ⟨o, ho, hc, _⟩ := q; ⟨o, ho, hc⟩
theorem rs_code {x : Str} {t : Tok} {Q₁ : Value → Shared → Prop} (hx : x.length ≤ sizeLine)
    (h : Q₁ (.ref s.heap.objs.size) { s with heap := s.heap.push (rsObj x t ((x.length : Int) - 1)), toks := s.toks + 1 + 1 }) :
    codeAny (model prog w) A (.call (.builtin "reversed.__new__") ⟨[.type "reversed", .str x t], []⟩) (wants Q₁ E) s := by
  have kx := typeIs_str s x t
  refine codeAny_of_tree ?_
  show wpAny _ A.in1 (do checkBuiltinCall "reversed.__new__" ⟨[.type "reversed", .str x t], []⟩; again (.builtin "reversed.__new__" ⟨[.type "reversed", .str x t], []⟩)) _ _ s
  refine wpAny_bind (wpAny_of_eq (F.newCall_reversed_1 _) (wpAny_pure ⟨plainId_quiet F.plain_reversed_new _, codeAny_builtin F.entry_reversed_new ?_⟩))
  rw [Around.under_plainId F.plain_reversed_new _] <;> unfold Builtin.«reversed.__new__»
  refine wpAny_bind (wpAny_of_eq (newClass_reversed _) ?_) <;> try dsimp only
  refine wpAny_bind (wpAny_of_eq (a := ()) (by first | rfl | kernel_rfl) ?_) <;> try dsimp only
  refine wpAny_bind (wpAny_of_eq (a := ()) (by first | rfl | kernel_rfl) ?_) <;> try dsimp only
  refine wpAny_bind (wpAny_specialOf kx str_norev ?_) <;> try dsimp only
  refine wpAny_bind ?_ <;> wp_delta
  refine wpAny_bind (wpAny_isInstance (T := "str") (U := "dict") (b := false) kx PySem.F.sub_str_dict ?_)
  try dsimp only
  try rw [if_neg Bool.false_ne_true]
  try dsimp only
  refine wpAny_bind (wpAny_specialOf kx str_getit ?_)
  try dsimp only
  try rw [if_pos (by decide +kernel)]
  refine wpAny_pure ?_
  try dsimp only
  try rw [if_neg (by decide)]
  try dsimp only
  have hn := line63
  refine wpAny_bind (PySem.P.len_str (by omega) ?_)
  refine wpAny_bind (wpAny_of_eq (a := some ((x.length : Nat) : Int)) rfl ?_) <;> try dsimp only
  refine wpAny_bind ?_
  show wpAny _ _ (newObj (.type "reversed") (.fields #[.str x t, rawInt ((x.length : Int) - 1)])) _ _ _
  refine wpAny_newObj_type ?_
  exact wpAny_pure h
theorem rs_call {x : Str} {t : Tok} {Q : Value → Shared → Prop} (hx : x.length ≤ sizeLine)
    (h : Q (.ref s.heap.objs.size) { s with heap := s.heap.push (rsObj x t ((x.length : Int) - 1)), toks := s.toks + 1 + 1 }) : wpAny (model prog w) A (call (.type "reversed") [.str x t]) Q E s := by
  refine callType_codes (Q₁ := fun obj s₁ => s₁.TypeIs obj "reversed" ∧ Q obj s₁) RT.called_rt (F.typeCall_reversed_1 _) F.entry_object_init
    (rs_code (A := A.in1) hx ⟨⟨_, Heap.get?_push_size _ rfl, rfl⟩, h⟩) fun obj s₁ g => ?_
  exact ⟨g.1, F.args_object_init_2 obj _, object_init_meets RT.called_rt.init.lookup RT.called_rt.made (by decide) prog w A.in1 _ s₁ ⟨g.1, rfl, g.2⟩⟩
theorem rs_next {it : Addr} {i c : Nat} {x : Str} {t : Tok} {Q : Option Value → Shared → Prop} (hit : IsRs s.heap it x t (i : Int)) (hx : x.cps[i]? = some c) (hsz : x.length ≤ sizeLine)
    (hQ : ∀ h' u k, IsRs h' it x t ((i : Int) - 1) → Heap.SameBut it s.heap h' → Q (some (.str ⟨#[c]⟩ u)) { s with heap := h', toks := k }) : wpAny (model prog w) A (pyNext (.ref it)) Q E s := by
  obtain ⟨o, ho, hc, hd⟩ := id hit
  have hi : i < x.cps.size := (Array.getElem?_eq_some_iff.mp hx).1
  have kx := typeIs_str s x t
  have hn := line63
  have hl : x.length = x.cps.size := rfl
  unfold pyNext
  refine wpAny_bind (wpAny_attempt (wpAny_callSpecial?_slot (name := Str.ofString "__next__") hit.kind RT.slot_rt_next (wpAny_call_entry RT.slot_rt_next hit.kind RT.entry_rt_next ?_ (RT.args_rt_next _))))
  unfold Builtin.«reversed.__next__»
  refine wpAny_bind (wpAny_of_eq (a := (Value.ref it, [])) rfl ?_) <;> try dsimp only
  refine wpAny_bind (wpAny_field ho hd (x := .str x t) rfl ?_) <;> try dsimp only
  refine wpAny_bind (wpAny_field ho hd (x := rawInt (i : Int)) rfl ?_)
  show wpAny _ _ (if (i : Int) < 0 then _ else _) _ _ s
  rw [if_neg (by omega)] <;> try dsimp only
  refine wpAny_bind (wpAny_specialOf kx str_getit ?_)
  try dsimp only
  try rw [if_neg (by decide)]
  try dsimp only
  refine wpAny_bind (wpAny_mkInt ?_) <;> refine wpAny_bind (wpAny_attempt ?_)
  have fin : seqIndex? (i : Int) x.length = some i := seqIndex_of (by omega) (by omega)
  refine PySem.P.getItem_str (s := { s with toks := s.toks + 1 }) (c := c) (by
    have e1 : decide ((i : Int) < -(2 ^ 63 : Int)) = false := decide_eq_false (by omega)
    have e2 : decide ((i : Int) ≥ 2 ^ 63) = false := decide_eq_false (by omega)
    rw [e1, e2] <;> rfl) (by rw [fin]; exact hx) ?_
  try dsimp only
  refine wpAny_bind (wpAny_field (s := { s with toks := s.toks + 1 + 1 }) ho hd (x := rawInt (i : Int)) rfl ?_)
  try dsimp only
  refine wpAny_bind (wpAny_setField (s := { s with toks := s.toks + 1 + 1 }) ho hd (by simp) ?_)
  first
  | refine wpAny_pure ⟨_, rfl, wpAny_pure (hQ _ _ _ ?_ (Heap.SameBut.update ..))⟩
  | refine wpAny_bind (wpAny_pure (wpAny_pure ⟨_, rfl, wpAny_pure (hQ _ _ _ ?_ (Heap.SameBut.update ..))⟩))
  exact ⟨_, Heap.get?_update_self _ ho (Obj.isFreed_of_fields (Obj.data_mapFields hd _)), (Obj.cls_mapFields ..).trans hc, by rw [Obj.data_mapFields hd]; simp⟩
theorem rs_end {it : Addr} {x : Str} {t : Tok} {Q : Option Value → Shared → Prop} (hh : A.handled = none) (hit : IsRs s.heap it x t (-1))
    (hQ : ∀ h', Heap.ExtBut it s.heap h' → Q none { s with heap := h' }) : wpAny (model prog w) A (pyNext (.ref it)) Q E s := by
  obtain ⟨o, ho, hc, hd⟩ := id hit
  unfold pyNext
  refine wpAny_bind (wpAny_attempt (wpAny_callSpecial?_slot (name := Str.ofString "__next__") hit.kind RT.slot_rt_next (wpAny_call_entry RT.slot_rt_next hit.kind RT.entry_rt_next ?_ (RT.args_rt_next _))))
  unfold Builtin.«reversed.__next__»
  refine wpAny_bind (wpAny_of_eq (a := (Value.ref it, [])) rfl ?_) <;> try dsimp only
  refine wpAny_bind (wpAny_field ho hd (x := .str x t) rfl ?_) <;> try dsimp only
  refine wpAny_bind (wpAny_field ho hd (x := rawInt (-1)) rfl ?_)
  show wpAny _ _ (if (-1 : Int) < 0 then _ else _) _ _ s
  rw [if_pos (by decide)] <;> try dsimp only
  refine wpAny_bind (wpAny_rule ?_) <;> refine wpAny_bind ?_ <;> wp_delta
  refine wpAny_bind (wpAny_setField ho hd (by simp) ?_)
  have ho2 := Heap.get?_update_self (Obj.mapFields (·.setIfInBounds 1 (rawInt (-1)))) ho (Obj.isFreed_of_fields (Obj.data_mapFields hd _))
  refine wpAny_setField (s := { s with heap := s.heap.update it (Obj.mapFields (·.setIfInBounds 1 (rawInt (-1)))) }) ho2 (Obj.data_mapFields hd _) (by simp) ?_
  try dsimp only
  first
  | show wpAny _ _ (newExc (.type "StopIteration") [] >>= _) _ _ _
  | (refine wpAny_bind ?_; show wpAny _ _ (newExc (.type "StopIteration") [] >>= _) _ _ _)
  | (refine wpAny_bind ?_; wp_delta; show wpAny _ _ (newExc (.type "StopIteration") [] >>= _) _ _ _)
  refine wpAny_bind ?_
  simp only [newExc, newTuple]
  refine wpAny_bind (wpAny_newObj_type ?_ (by size_fits))
  refine wpAny_bind (m := firstArgMember _ _) (wpAny_of_eq (a := Value.none) (by first | rfl | (simp only [firstArgMember]; rfl)) ?_)
  refine wpAny_newObj_type ?_ (by size_fits)
  simp only [raiseNew]
  refine wpAny_bind (wpAny_handled ?_)
  first | rw [show A.in1.handled = none from hh] | rw [hh]
  refine wpAny_bind (wpAny_pure (wpAny_throw ?_))
  refine wpAny_bind (wpAny_isInstance (T := "StopIteration") (b := true) ⟨_, Heap.get?_push_size _ rfl, rfl⟩ isSubtype_stop ?_)
  refine wpAny_pure (hQ _ ?_)
  refine ((?_ : Heap.ExtBut it s.heap _).push _).push _
  exact fun b ob hb e => (Heap.get?_update_other _ _ (Ne.symm hb)).trans ((Heap.get?_update_other _ _ (Ne.symm hb)).trans e)
theorem rs_iter {it : Addr} {x : Str} {t : Tok} {i : Int} {Q : Value → Shared → Prop} (hit : IsRs s.heap it x t i) (h : Q (.ref it) s) : wpAny (model prog w) A (pyIter (.ref it)) Q E s := by
  refine wpAny_pyIter_slot hit.kind RT.slot_rt_iter (wpAny_call_entry RT.slot_rt_iter hit.kind RT.entry_rt_iter ?_ (RT.args_rt_iter _))
  show wpAny _ _ (ret (.ref it)) _ _ s
  exact wpAny_pure ⟨_, rfl, "reversed", _, hit.kind, RT.slot_rt_next.lookup, h⟩
end
/-- the signs of a text from the last -/
def RsIt (x : Str) : It := ⟨fun i _ => i < x.cps.size, fun i H v H' => H' = H ∧ ∃ c, x.cps[x.cps.size - 1 - i]? = some c ∧ v = .str ⟨#[c]⟩, fun i _ => x.cps.size ≤ i⟩
theorem rs_turn {P : Program} {w : World} {K : PySem.W.Frag} {tg : Expr} (it : Addr) (x : Str) (t : Tok) (hx : x.length ≤ sizeLine) :
    Turn P w K tg (RsIt x) [it] it (fun i h => i ≤ x.cps.size ∧ IsRs h it x t ((x.cps.size : Int) - 1 - (i : Nat))) where
  mem := by simp
  obj := fun i h st b hb => by
    obtain rfl : b = it := by simpa using hb
    obtain ⟨_, o, e, c, d⟩ := st
    exact ⟨o, e, fun v z => by rw [d] at z; cases z⟩
  keep := fun i h h' st k => by
    obtain ⟨hi, o, e, r⟩ := st
    exact ⟨hi, o, k it (by simp) o e, r⟩
  item := by
    intro X hP hw hK hc i pins s σ H E I hf st hg
    subst hP hw hK
    have hlt : i < x.cps.size := hg
    obtain ⟨f0, f1, f2, f3, f4, f5⟩ := hf it (by simp)
    obtain ⟨_, hit⟩ := st
    have e1 : (x.cps.size : Int) - 1 - ((i : Nat) : Int) = ((x.cps.size - 1 - i : Nat) : Int) := by omega
    rw [e1] at hit
    have hj : x.cps.size - 1 - i < x.cps.size := by omega
    have hcx : x.cps[x.cps.size - 1 - i]? = some x.cps[x.cps.size - 1 - i] := Array.getElem?_eq_getElem hj
    refine rs_next hit hcx hx fun h' u k st' sb => ?_
    have e2 : ((x.cps.size - 1 - i : Nat) : Int) - 1 = (x.cps.size : Int) - 1 - ((i + 1 : Nat) : Int) := by omega
    rw [e2] at st'
    have J : Inv X pins σ H { s with heap := h', toks := k } := I.turned (t' := k) (fun b o hb e => (sb.2 b hb).trans e) f0 f1 f3 f4 f5
    obtain ⟨o, e, c, d⟩ := id st'
    exact ⟨_, rfl, go_of (s := { s with heap := h', toks := k }) e c d (by decide) ⟨.str ⟨#[_]⟩, H, J, ⟨u, rfl⟩, ⟨rfl, _, hcx, rfl⟩, ⟨hlt, st'⟩, fun b hb => (hf b hb).1⟩⟩
  done := by
    intro X hP hw hK hc i pins s σ H E I hf st hg
    subst hP hw hK
    obtain ⟨f0, f1, f2, f3, f4, f5⟩ := hf it (by simp)
    obtain ⟨hin, hit⟩ := st
    have hge : x.cps.size ≤ i := hg
    have e1 : (x.cps.size : Int) - 1 - ((i : Nat) : Int) = -1 := by omega
    rw [e1] at hit
    exact rs_end (I.ok.hd hc) hit fun h' eb => ⟨rfl, I.turned (t' := s.toks) (fun b o hb e => eb b o hb e) f0 f1 f3 f4 f5⟩
  self := fun A i s Q E st h => rs_iter st.2 h
def iRs (te : TE) : TI := fun σ H R => te σ H fun v H1 => ∃ x, v = .str x ∧ x.length ≤ sizeLine ∧ R (RsIt x) H1
/-- for c in reversed(x) of a text -/
theorem pi_rs {X : Cx} {tg e : Expr} {te : TE} {p pos : Pos} (hg : Gl X "reversed") (hm : X.mg "reversed" = none) (he : PE X e te) (hs : starEach [e] X.env = (false, eval e X.env) :: starEach [] X.env := by rfl) : PI X tg (.Call (.Name "reversed" p) [e] [] pos) (iRs te) := by
  refine ⟨fun pins s σ H R I h => ?_⟩
  refine Call_ (ld_blt I hg hm boot_reversed (callWith_type1 (args_cons (thn (he.run pins s σ H _ I h) fun u s1 ⟨v, H1, I1, r1, x, ev, hx, q⟩ => args_nil ?_) hs) hs rfl))
  subst ev
  obtain ⟨t, rfl⟩ := r1
  refine rs_call hx (rs_iter (x := x) (t := t) (i := (x.length : Int) - 1) ⟨_, Heap.get?_push_size _ rfl, rfl, rfl⟩ ?_)
  refine pi_one (tk := s1.toks + 1 + 1) I1 _ (rs_turn _ x t hx) ⟨Nat.zero_le _, ?_⟩ q
  have e1 : (x.length : Int) - 1 = (x.cps.size : Int) - 1 - ((0 : Nat) : Int) := by show (x.cps.size : Int) - 1 = _; omega
  rw [← e1]
  exact ⟨_, Heap.get?_push_size _ rfl, rfl, rfl⟩
theorem for_rs {x : Str} {g : TG} {tb : TS} {D : Ends} {σ : L2.St} {H : Hp} (Pv : Nat → L2.St → Hp → Prop) (h0 : Pv 0 σ H)
    (hs : ∀ (i c : Nat) (σ : L2.St) (H : Hp), i < x.cps.size → x.cps[x.cps.size - 1 - i]? = some c → Pv i σ H → g (.str ⟨#[c]⟩) σ H fun σ2 H2 => tb { D with nx := Pv (i + 1), ct := Pv (i + 1), bk := D.nx } σ2 H2) (hd : ∀ σ H, Pv x.cps.size σ H → D.nx σ H) :
    ∃ W : Nat → Nat → L2.St → Hp → Prop, (∃ m, W 0 m σ H) ∧ ∀ i m σ H, W i m σ H →
      ((RsIt x).stop i H ∧ D.nx σ H) ∨ ((RsIt x).go i H ∧ ∃ N : L2.St → Hp → Prop, (∀ σ' H', N σ' H' → ∃ m', m' < m ∧ W (i + 1) m' σ' H') ∧ ∀ v H', (RsIt x).yld i H v H' → g v σ H' fun σ2 H2 => tb { D with nx := N, ct := N, bk := D.nx } σ2 H2) := by
  refine ⟨fun i m σ H => m = x.cps.size - i ∧ i ≤ x.cps.size ∧ Pv i σ H, ⟨_, rfl, Nat.zero_le _, h0⟩, ?_⟩
  rintro i m σ H ⟨rfl, hi, p⟩
  by_cases hlt : i < x.cps.size
  · refine .inr ⟨hlt, Pv (i + 1), fun σ' H' p' => ⟨_, by omega, rfl, hlt, p'⟩, fun v H' r => ?_⟩
    obtain ⟨rfl, c, hc, rfl⟩ := r
    exact hs i c σ _ hlt hc p
  · obtain rfl : i = x.cps.size := by omega
    exact .inl ⟨Nat.le_refl _, hd σ H p⟩
end Hid

namespace Hid
open PySem PySem.Spec PyProof.Rows L2
/-! sorted of data -/
section
variable {X : Cx} {β : Type}
def rSortD (K : PySem.W.Frag) (enc : β → PyData) : List V → Hp → VK → Prop := fun vs H Q => ∃ (a : Addr) (xs : List V) (bs : List β) (R : V → β → Prop), vs = [.ref a] ∧ SqL K H a xs ∧ Paired R xs bs ∧ (∀ v b, R v b → Dp K H v (enc b)) ∧
  PySem.W.AllAlike (bs.map enc) ∧ PySem.W.Sortable (bs.map enc) ∧ (∀ b ∈ bs, (enc b).depth ≤ 8) ∧ ∀ ys p, Paired R ys (bs.mergeSort (PySem.W.dataLe false enc)) → H p = none → Q (.ref p) (upd H p (.lst ys))
theorem each_of_paired {R : V → β → Prop} : ∀ {xs : List V} {its : List Value} {bs : List β}, Vals xs its → Paired R xs bs → PySem.W.EachIs (fun v b => ∃ x, RelV x v ∧ R x b) its bs
  | _, _, _, .nil, .nil => .nil
  | _, _, _, .cons r rs, .cons d ds => .cons ⟨_, r, d⟩ (each_of_paired rs ds)
theorem paired_of_each {R : V → β → Prop} : ∀ {out : List Value} {bs : List β}, PySem.W.EachIs (fun v b => ∃ x, RelV x v ∧ R x b) out bs → ∃ ys, Vals ys out ∧ Paired R ys bs
  | _, _, .nil => ⟨[], .nil, .nil⟩
  | _, _, .cons ⟨x, r, d⟩ t => let ⟨ys, h1, h2⟩ := paired_of_each t; ⟨x :: ys, .cons r h1, .cons d h2⟩
theorem paired_len {α γ : Type} {F : α → γ → Prop} : ∀ {l : List α} {m : List γ}, Paired F l m → l.length = m.length
  | _, _, .nil => rfl
  | _, _, .cons _ t => congrArg (· + 1) (paired_len t)
theorem each_mono {α γ : Type} {R R' : α → γ → Prop} (h : ∀ a b, R a b → R' a b) : ∀ {l : List α} {m : List γ}, PySem.W.EachIs R l m → PySem.W.EachIs R' l m
  | _, _, .nil => .nil
  | _, _, .cons a t => .cons (h _ _ a) (each_mono h t)
theorem cr_sortD {enc : β → PyData} (hu : X.A.units + 64 < cLine) : CallR X (.builtin "sorted") (rSortD X.K enc) := by
  intro pins s σ H vs us Q I r h
  obtain ⟨a, xs, bs, R, rfl, hs, hp, hR, hal, hk, hd, q⟩ := h
  obtain ⟨its, rv, hl, hz⟩ := I.list hs
  rw [Vals.ref1 r]
  have e := each_of_paired rv hp
  have hlen : bs.length = xs.length := (paired_len hp).symm
  refine PySem.W.sorted_data (vs := its) hl.isList e (each_mono (fun v b ⟨x, r, d⟩ => Dp.reads I _ _ _ (hR _ _ d) r) e) hal hk (by rw [hlen]; exact hz) (fun b hb => ?_) fun out ho eo => ?_
  · have := hd b hb
    omega
  · obtain ⟨ys, h1, h2⟩ := paired_of_each eo
    obtain ⟨c, hc⟩ := sortedAll_at s.heap its (List.toArray out)
    have hle : s.heap.objs.size ≤ s.heap.objs.size + 1 := Nat.le_succ _
    refine ⟨.ref (s.heap.objs.size + 1), upd H (s.heap.objs.size + 1) (.lst ys), I.laid (t' := s.toks) (fun _ _ => sortedAll_old) hle ⟨?_, out, c, h1, hc⟩, rfl, q ys _ h2 (I.hok.fresh hle)⟩
    rw [h1.length, ho, hlen]
    exact hz
end
/-- pairs of texts as data -/
def encSS (p : Str × Str) : PyData := .tuple [.str p.1, .str p.2]
theorem cr_sortSS {X : Cx} (hu : X.A.units + 64 < cLine) : CallR X (.builtin "sorted") (rSortD X.K encSS) := cr_sortD hu
theorem le_ss (p q : Str × Str) (h : p.1.cps.toList < q.1.cps.toList) : PySem.W.dataLe false encSS p q = true := by
  show (!PySem.W.dataLt (.tuple [.str q.1, .str q.2]) (.tuple [.str p.1, .str p.2])) = true
  have ne : PyData.eqv (.str q.1) (.str p.1) = false := by
    show (q.1 == p.1) = false
    rw [beq_eq_false_iff_ne]
    intro e
    rw [e] at h
    exact List.lt_irrefl _ h
  rw [PySem.W.dataLt_pair (by simp [PySem.W.alike]) (by simp [PySem.W.alike]), ne, if_neg Bool.false_ne_true, PySem.W.dataLt_str]
  have : ¬ q.1.cps.toList < p.1.cps.toList := fun z => List.lt_irrefl _ (List.lt_trans h z)
  simp [this]
/-! text * number, >>= -/
section
variable {X : Cx}
theorem op_mul_str : OpR X (binaryOp .Mult) (fun x y H Q => ∃ z i, x = .str z ∧ y = .int i ∧ 0 ≤ i ∧ i ≤ 1000 ∧ z.length ≤ 1000 ∧ Q (.str (Txt.mul z i)) H) := by
  intro pins s σ H x y v u Q I rx ry h
  obtain ⟨z, i, rfl, rfl, h0, h1, h2, q⟩ := h
  obtain ⟨t, rfl⟩ := rx
  obtain ⟨t', rfl⟩ := ry
  refine PySem.SB.mul ⟨?_, fun n1 _ => ?_, fun n1 _ => ?_⟩ fun t' k => ⟨.str _, H, I.tok k, ⟨t', rfl⟩, q⟩
  · have e1 : decide (i < -(2 ^ 63 : Int)) = false := decide_eq_false (by omega)
    have e2 : decide (i ≥ 2 ^ 63) = false := decide_eq_false (by omega)
    rw [e1, e2] <;> rfl
  · have : (1000 : Int) ≤ (2 ^ 63 - 1) / i := (Int.le_ediv_iff_mul_le (by omega)).mpr (by omega)
    omega
  · unfold Builtin.Str.tooLong
    have h3 : z.length * i.toNat ≤ 1000 * 1000 := Nat.mul_le_mul h2 (by omega)
    have h4 : (1000 * 1000 : Nat) ≤ sizeLine := by decide
    exact decide_eq_false (by omega)
theorem ip_shr : PIp X .RShift (rI (fun _ j => 0 ≤ j) fun i j => .int (i / 2 ^ j.toNat)) := iop_shr
end
/-! sep.join(reversed(list)) -/
theorem gives_join {x : Str} (lz : List (Str × Tok)) (g0 : Builtin.Str.tooLong ((lz.map (·.1)).toArray.foldl (· + ·.length + x.length) 0) = false) : Gives (PySem.joinTail x (strValues lz)) (joinMade x lz) := by
  have g1 := gives_joinTail x lz g0
  match lz, g0, g1 with
  | [], _, g1 => exact g1
  | [_], _, g1 => exact g1
  | _ :: _ :: _, _, g1 => exact g1
section
variable {prog : Program} {w : World} {A : Around} {E : Value → Shared → Prop} {s : Shared}
theorem join_rev {it l : Addr} {items : Array Value} {ys : List Str} {x : Str} {t : Tok} {Q : Value → Shared → Prop} (hh : A.handled = none) (hit : s.heap.IsRevIter it l ((items.size : Int) - 1)) (hl : s.heap.IsList l items) (hne : l ≠ it) (hn : items.size ≤ sizeLine)
    (hy : StrsAre items.toList ys) (hok : (ys.map (·.length)).sum + ys.length * x.length ≤ 16777216)
    (hq : ∀ (h' : Heap) t' k, (∀ b o, b ≠ it → s.heap.get? b = some o → h'.get? b = some o) → Q (.str (Txt.join x ys.reverse) t') { s with heap := h', toks := k }) :
    wpAny (model prog w) A (call (.builtin "str.join") [.str x t, .ref it]) Q E s := by
  refine wpAny_call (codeAny_call_builtin F.slot_str_join.plain F.entry_str_join (F.slot_str_join.check _ _ _ _ _ _ _ _ (typeIs_str _ _ _) (F.args_str_join_2 _ _) ?_))
  rw [PySem.join_tree_other]
  refine wpAny_bind (wpAny_typeOf hit.typeIs ?_)
  show wpAny _ A.in1 ((pyIter (.ref it)).tryCatch _ >>= fun i => collect i >>= fun items => PySem.joinTail x items) _ _ s
  refine wpAny_bind (wpAny_tryCatch (wpAny_pyIter_revIter hit ?_))
  refine wpAny_bind (RT.collect_rev (A := A.in1) hh hit hl hne hn fun h' tk acc hk hacc => ?_)
  have hr : acc.toList = items.toList.reverse := by
    apply List.ext_getElem?
    intro j
    by_cases hj : j < items.size
    · have h1 : j < acc.size := by rw [hacc.1]; exact hj
      have e1 : acc.toList[j]? = some acc[j] := by rw [Array.getElem?_toList, Array.getElem?_eq_getElem h1]
      have e2 := hacc.2 j acc[j] (Array.getElem?_eq_getElem h1)
      rw [e1, List.getElem?_reverse (by simpa using hj)] <;> simpa using e2.symm
    · rw [List.getElem?_eq_none (by rw [Array.length_toList, hacc.1]; omega), List.getElem?_eq_none (by rw [List.length_reverse, Array.length_toList]; omega)]
  obtain ⟨vals, hv, ht⟩ := strsAre_values hy
  have hl2 : acc.toList = strValues vals.reverse := by
    rw [hr, hv]
    show (List.map _ vals).reverse = List.map _ vals.reverse
    rw [List.map_reverse]
  rw [hl2]
  have hok2 : (((vals.reverse).map (·.1)).map (·.length)).sum + ((vals.reverse).map (·.1)).length * x.length ≤ 16777216 := by
    rw [List.map_reverse, ht, List.map_reverse, List.sum_reverse, List.length_reverse]
    exact hok
  have g0 := joinOk_of hok2
  unfold JoinOk at g0
  rw [Bool.not_eq_true'] at g0
  refine Hid.gives_join vals.reverse g0 prog w A (wants Q E) { s with heap := h', toks := tk } (post_join vals.reverse ⟨joinFit_length g0, fun t' k => ?_⟩)
  rw [List.map_reverse, ht]
  exact hq h' t' k hk
end
/-- x.join(reversed(xs)), xs a list of texts -/
def tJoinRev (K : PySem.W.Frag) (to te : TE) : TE := fun σ H Q => to σ H fun v H1 => ∃ x, v = .str x ∧ te σ H1 fun y H2 => ∃ (a : Addr) (ys : List Str), y = .ref a ∧ SqL K H2 a (ys.map V.str) ∧ (ys.map (·.length)).sum + ys.length * x.length ≤ 16777216 ∧ Q (.str (Txt.join x ys.reverse)) H2
theorem pe_joinRev {X : Cx} {o e : Expr} {to te : TE} {apos pos p2 pos2 : Pos} (hc : X.calm = true) (hg2 : Gl X "reversed") (hm2 : X.mg "reversed" = none) (ho : PE X o to) (he : PE X e te)
    (hs : starEach [e] X.env = (false, eval e X.env) :: starEach [] X.env := by rfl)
    (hs2 : starEach [.Call (.Name "reversed" p2) [e] [] pos2] X.env = [(false, eval (.Call (.Name "reversed" p2) [e] [] pos2) X.env)] := by rfl)
    (hbase : attributeBase o "join" X.env (eval o X.env) = eval o X.env := by rfl) (hline : (apos.endLine == pos.line) = true := by rfl) :
    PE X (.Call (.Attribute o "join" apos) [.Call (.Name "reversed" p2) [e] [] pos2] [] pos) (tJoinRev X.K to te) := by
  refine ⟨fun pins s σ H Q I h => ?_⟩
  refine PySem.Call_method1 hbase hs2 hline (thn (ho.run pins s σ H _ I h) fun v s1 ⟨x0, H1, I1, r1, x, q1, h1⟩ => ?_)
  subst q1
  obtain ⟨t, rfl⟩ := _root_.id r1
  refine ⟨"str", _, F.plainAttrs_str, F.slot_str_join, F.type_str_join, typeIs_str _ _ _, (fun _ e => nomatch e), Calls.callWith_builtin rfl (Calls.evalArgs_plain (Calls.spliced_cons ?_))⟩
  refine Call_ (ld_blt I1 hg2 hm2 boot_reversed (callWith_type1 (args_cons (thn (he.run pins s1 σ H1 _ I1 h1) fun u s2 ⟨y, H2, I2, r2, q2⟩ => args_nil ?_) hs) hs rfl))
  obtain ⟨a, ys, rfl, hq, hz, q⟩ := q2
  obtain rfl : u = Value.ref a := r2
  obtain ⟨its, rv, p', hn⟩ := I2.list hq
  refine call_reversed_list p'.isList (Calls.spliced_nil ?_)
  have k0 : ∀ b ob, s2.heap.get? b = some ob → (s2.heap.push (revObj a ((its.toArray.size : Int) - 1))).get? b = some ob := fun b ob e => Heap.get?_push_of_some _ e
  have I3 : Inv X pins σ H2 { s2 with heap := s2.heap.push (revObj a ((its.toArray.size : Int) - 1)) } := I2.kept (t' := s2.toks) k0
  obtain ⟨f0, f1, f2, f3, f4, f5⟩ := I2.fpOk (H' := H2) (b := s2.heap.objs.size) (Nat.le_refl _) (I2.hok.fresh (Nat.le_refl _))
  have hl := p'.isList
  obtain ⟨ol, hol, _⟩ := _root_.id hl
  have hne : a ≠ s2.heap.objs.size := Nat.ne_of_lt (Heap.lt_size hol)
  refine join_rev (s := { s2 with heap := s2.heap.push (revObj a ((its.toArray.size : Int) - 1)) }) (ys := ys) (I2.ok.hd hc) ⟨_, Heap.get?_push_size _ rfl, rfl, rfl⟩ (hl.push _) hne (by rw [List.size_toArray, ← rv.length]; exact hn) (by rw [List.toList_toArray]; exact strs_of_vals rv) hz fun h' t' k hk => ?_
  exact ⟨.str _, H2, I3.turned (t' := k) (fun b ob hb e => hk b ob hb e) f0 f1 f3 f4 f5, ⟨t', rfl⟩, q⟩
end Hid

namespace Hid
open PySem
/-! texts as lists of signs: n 110, b 98, y 121 -/
abbrev tx (l : List Nat) : Str := ⟨l.toArray⟩
theorem tx_cps (z : Str) : tx z.cps.toList = z := by cases z; simp [tx]
theorem tx_inj {a c : List Nat} (h : tx a = tx c) : a = c := by
  have := congrArg (fun z : Str => z.cps.toList) h
  simpa [tx] using this
def RowL (l : List Nat) : Prop := (1 ≤ l.length ∧ l.length ≤ 8) ∧ ∀ c ∈ l, c = 110 ∨ c = 98 ∨ c = 121
/-! the count of a sign -/
theorem occ_count (x : Str) (c : Nat) : ∀ (n a : Nat) (st : Array Nat × Nat), a + n = x.length + 1 → st.2 ≤ a → st.1.size ≤ a →
    (forIn (List.range' a n) st (StrLaws.occBody x ⟨#[c]⟩ x.length (x.length + 1))).run.fst.size = st.1.size + (x.cps.toList.drop a).count c := by
  intro n
  induction n with
  | zero =>
    intro a st h1 _ _
    have : x.cps.toList.drop a = [] := List.drop_eq_nil_of_le (by simp only [Array.length_toList]; show x.length ≤ a; omega)
    rw [this]
    rfl
  | succ n ih =>
    intro a st h1 h2 h3
    rw [List.range'_succ, List.forIn_cons]
    have hs := StrLaws.subAt_one x c a
    by_cases hc : x.cps.toList[a]? = some c
    · obtain ⟨q1, q2⟩ := hs.mpr hc
      have hlt : a < x.cps.toList.length := (List.getElem?_eq_some_iff.mp hc).1
      have e : x.cps.toList.drop a = c :: x.cps.toList.drop (a + 1) := by
        rw [List.drop_eq_getElem_cons hlt, (List.getElem?_eq_some_iff.mp hc).2]
      unfold StrLaws.occBody
      rw [if_pos ⟨⟨⟨by omega, h2⟩, q1⟩, q2⟩]
      have := ih (a + 1) (st.1.push a, a + (⟨#[c]⟩ : Str).length) (by omega) (Nat.le_refl _) (by rw [Array.size_push]; omega)
      refine Eq.trans this ?_
      rw [e, List.count_cons_self]
      show (st.1.push a).size + _ = _
      rw [Array.size_push]
      omega
    · have hn : ¬ (a + (⟨#[c]⟩ : Str).length ≤ x.length ∧ Builtin.Str.subAt x ⟨#[c]⟩ a = true) := fun h => hc (hs.mp h)
      unfold StrLaws.occBody
      rw [if_neg fun h => hn ⟨h.1.2, h.2⟩]
      have := ih (a + 1) (st.1, st.2) (by omega) (by show st.2 ≤ a + 1; omega) (by show st.1.size ≤ a + 1; omega)
      refine Eq.trans this ?_
      by_cases hlt : a < x.cps.toList.length
      · have e : x.cps.toList.drop a = x.cps.toList[a] :: x.cps.toList.drop (a + 1) := List.drop_eq_getElem_cons hlt
        rw [e, List.count_cons_of_ne]
        intro z
        exact hc (by rw [List.getElem?_eq_getElem hlt, z])
      · rw [List.drop_eq_nil_of_le (by omega), List.drop_eq_nil_of_le (by omega)]
theorem count_one (x : Str) (c : Nat) : Txt.count x ⟨#[c]⟩ = (x.cps.toList.count c : Int) := by
  unfold Txt.count
  rw [StrLaws.occ_eq, Array.length_toList, occ_count x c _ 0 (#[], 0) (by omega) (Nat.le_refl _) (Nat.zero_le _)]
  simp
/-! lists of signs joined -/
def sg1 (c : Nat) : Str := ⟨#[c]⟩
theorem join_one (l : List Nat) : Txt.join (tx []) (l.map sg1) = tx l := by
  show Builtin.Str.glued _ _ = _
  rw [StrLaws.glued_eq_join]
  induction l with
  | nil => rfl
  | cons c r ih =>
    cases r with
    | nil => rfl
    | cons d r =>
      show Str.join (tx []) (sg1 c :: sg1 d :: r.map sg1) = _
      have e : Str.join (tx []) (sg1 c :: sg1 d :: r.map sg1) = sg1 c ++ tx [] ++ Str.join (tx []) ((d :: r).map sg1) := rfl
      rw [e, ih]
      show (⟨(#[c] ++ #[]) ++ (d :: r).toArray⟩ : Str) = ⟨(c :: d :: r).toArray⟩
      simp
theorem sg1_len (l : List Nat) : ((l.map sg1).map (·.length)).sum = l.length := by
  induction l with
  | nil => rfl
  | cons c r ih =>
    show (sg1 c).length + ((r.map sg1).map (·.length)).sum = r.length + 1
    rw [ih]
    show 1 + r.length = _
    omega
/-! the mirror -/
def tw (m s : Nat) : Nat := if m = 98 then (if s = 110 then 121 else 110) else s
def turned (row half : List Nat) : List Nat := List.zipWith tw row half
def rb (s t : Nat) : Nat := if s = t then s else 98
def rowBy (a o : List Nat) : List Nat := List.zipWith rb a o
def sgn (k : Nat) : Nat := if k % 2 = 0 then 110 else 121
def lesR : List Nat → Nat → List Nat
  | [], _ => []
  | c :: r, k => if c = 98 then sgn k :: lesR r (k / 2) else c :: lesR r k
def lesser (row : List Nat) (k : Nat) : List Nat := (lesR row.reverse k).reverse
def many (row : List Nat) : Nat := 2 ^ (row.count 98 - 1)
def part (row : List Nat) (k : Nat) : List Nat × List Nat := (lesser row k, turned row (lesser row k))
def grow (c : Nat) (p : List Nat × List Nat) : List (List Nat × List Nat) :=
  if c ≠ 98 then [(p.1 ++ [c], p.2 ++ [c])] else (p.1 ++ [110], p.2 ++ [121]) :: (if p.1 ≠ p.2 then [(p.1 ++ [121], p.2 ++ [110])] else [])
def allP (row : List Nat) : List (List Nat × List Nat) := row.foldl (fun ps c => ps.flatMap (grow c)) [([], [])]
theorem allP_snoc (r : List Nat) (c : Nat) : allP (r ++ [c]) = (allP r).flatMap (grow c) := by
  unfold allP
  rw [List.foldl_append]
  rfl
theorem lesR_len : ∀ (r : List Nat) (k : Nat), (lesR r k).length = r.length
  | [], _ => rfl
  | c :: r, k => by
    unfold lesR
    split <;> simp [lesR_len]
theorem lesser_len (row : List Nat) (k : Nat) : (lesser row k).length = row.length := by
  unfold lesser
  rw [List.length_reverse, lesR_len, List.length_reverse]
theorem turned_len (row half : List Nat) (h : half.length = row.length) : (turned row half).length = row.length := by
  unfold turned
  rw [List.length_zipWith, h, Nat.min_self]
theorem lesser_b (r : List Nat) (k : Nat) : lesser (r ++ [98]) k = lesser r (k / 2) ++ [sgn k] := by
  unfold lesser
  rw [List.reverse_append]
  show (lesR (98 :: r.reverse) k).reverse = _
  rw [show lesR (98 :: r.reverse) k = sgn k :: lesR r.reverse (k / 2) by conv => lhs; unfold lesR; rw [if_pos rfl]]
  rw [List.reverse_cons]
theorem lesser_o (r : List Nat) (c k : Nat) (h : c ≠ 98) : lesser (r ++ [c]) k = lesser r k ++ [c] := by
  unfold lesser
  rw [List.reverse_append]
  show (lesR (c :: r.reverse) k).reverse = _
  rw [show lesR (c :: r.reverse) k = c :: lesR r.reverse k by conv => lhs; unfold lesR; rw [if_neg h]]
  rw [List.reverse_cons]
theorem turned_snoc (r h : List Nat) (c x : Nat) (e : h.length = r.length) : turned (r ++ [c]) (h ++ [x]) = turned r h ++ [tw c x] := by
  unfold turned
  rw [List.zipWith_append e.symm]
  rfl
theorem rowBy_snoc (a o : List Nat) (x y : Nat) (e : a.length = o.length) : rowBy (a ++ [x]) (o ++ [y]) = rowBy a o ++ [rb x y] := by
  unfold rowBy
  rw [List.zipWith_append e]
  rfl
theorem part_b (r : List Nat) (k : Nat) : part (r ++ [98]) k = ((part r (k / 2)).1 ++ [sgn k], (part r (k / 2)).2 ++ [tw 98 (sgn k)]) := by
  unfold part
  rw [lesser_b, turned_snoc _ _ _ _ (lesser_len _ _)]
theorem part_o (r : List Nat) (c k : Nat) (h : c ≠ 98) : part (r ++ [c]) k = ((part r k).1 ++ [c], (part r k).2 ++ [c]) := by
  unfold part
  rw [lesser_o _ _ _ h, turned_snoc _ _ _ _ (lesser_len _ _)]
  unfold tw
  rw [if_neg h]
/-- two b and more: turned is another -/
theorem turned_ne : ∀ (r h : List Nat), h.length = r.length → 98 ∈ r → h ≠ turned r h
  | [], _, _, m => nomatch m
  | c :: r, [], e, _ => nomatch e
  | c :: r, x :: h, e, m => by
    intro z
    have z' : x :: h = tw c x :: turned r h := z
    injection z' with z1 z2
    rcases List.mem_cons.mp m with q | q
    · subst q
      unfold tw at z1
      rw [if_pos rfl] at z1
      split at z1 <;> omega
    · exact turned_ne r h (by simpa using e) q z2
theorem part_no_b (r : List Nat) (k : Nat) (h : r.count 98 = 0) : part r k = (r, r) := by
  have hm : 98 ∉ r := List.count_eq_zero.mp h
  have e1 : ∀ (l : List Nat) (k : Nat), 98 ∉ l → lesR l k = l := by
    intro l
    induction l with
    | nil => intros; rfl
    | cons c l ih =>
      intro k m
      rw [List.mem_cons, not_or] at m
      unfold lesR
      rw [if_neg (fun z => m.1 z.symm), ih k m.2]
  have e2 : ∀ (l : List Nat), 98 ∉ l → turned l l = l := by
    intro l
    induction l with
    | nil => intros; rfl
    | cons c l ih =>
      intro m
      rw [List.mem_cons, not_or] at m
      show tw c c :: turned l l = _
      rw [ih m.2]
      unfold tw
      rw [if_neg (fun z => m.1 z.symm)]
  unfold part lesser
  rw [e1 _ _ (by simpa using hm), List.reverse_reverse, e2 _ hm]
theorem range_two (m : Nat) : List.range (2 * m) = (List.range m).flatMap fun k => [2 * k, 2 * k + 1] := by
  induction m with
  | zero => rfl
  | succ m ih =>
    rw [List.range_succ, List.flatMap_append, ← ih, show 2 * (m + 1) = 2 * m + 1 + 1 by omega, List.range_succ, List.range_succ]
    simp
theorem many_snoc (r : List Nat) (c : Nat) : many (r ++ [c]) = if c = 98 ∧ r.count 98 ≠ 0 then 2 * many r else many r := by
  unfold many
  rw [List.count_append]
  by_cases hc : c = 98
  · subst hc
    have : List.count 98 [98] = 1 := rfl
    rw [this]
    by_cases h0 : r.count 98 = 0
    · rw [if_neg (fun h => h.2 h0), h0]
    · rw [if_pos ⟨rfl, h0⟩, show r.count 98 + 1 - 1 = r.count 98 - 1 + 1 by omega, Nat.pow_succ]
      omega
  · have : List.count 98 [c] = 0 := List.count_eq_zero.mpr (by simpa using fun z => hc z.symm)
    rw [this, if_neg (fun h => hc h.1)]
    rfl
theorem sgn_two (k : Nat) : sgn (2 * k) = 110 ∧ sgn (2 * k + 1) = 121 := by
  unfold sgn
  constructor
  · rw [if_pos (by omega)]
  · rw [if_neg (by omega)]
theorem tw_b : tw 98 110 = 121 ∧ tw 98 121 = 110 := by decide
/-- the law's own list is the list by numbers -/
theorem allP_eq (row : List Nat) : allP row = (List.range (many row)).map (part row) := by
  induction h : row.length generalizing row with
  | zero =>
    have : row = [] := List.length_eq_zero_iff.mp h
    subst this
    rfl
  | succ n ih =>
    have hne : row ≠ [] := fun z => by rw [z] at h; cases h
    obtain ⟨r, c, rfl⟩ : ∃ r c, row = r ++ [c] := ⟨row.dropLast, row.getLast hne, (List.dropLast_concat_getLast hne).symm⟩
    have hr : r.length = n := by simpa using h
    rw [allP_snoc, ih r hr, many_snoc]
    by_cases hc : c = 98
    · subst hc
      by_cases h0 : r.count 98 = 0
      · rw [if_neg (fun h => h.2 h0)]
        have hm : many r = 1 := by unfold many; rw [h0]
        rw [hm]
        show grow 98 (part r 0) ++ [] = [part (r ++ [98]) 0]
        rw [part_b, part_no_b r 0 h0, List.append_nil]
        unfold grow
        rw [if_neg (by decide), if_neg (by simp)]
        rfl
      · rw [if_pos ⟨rfl, h0⟩, range_two, List.map_flatMap, List.flatMap_map]
        congr 1
        funext k
        show grow 98 (part r k) = [part (r ++ [98]) (2 * k), part (r ++ [98]) (2 * k + 1)]
        rw [part_b, part_b, show 2 * k / 2 = k by omega, show (2 * k + 1) / 2 = k by omega, (sgn_two k).1, (sgn_two k).2, tw_b.1, tw_b.2]
        have hd : (part r k).1 ≠ (part r k).2 := turned_ne r _ (lesser_len _ _) (List.count_pos_iff.mp (by omega))
        unfold grow
        rw [if_neg (by decide), if_pos hd]
    · rw [if_neg (fun h => hc h.1), List.flatMap_map, ← List.flatMap_singleton' ((List.range (many r)).map _), List.flatMap_map]
      congr 1
      funext k
      show grow c (part r k) = [part (r ++ [c]) k]
      rw [part_o _ _ _ hc]
      unfold grow
      rw [if_pos hc]
/-! order -/
theorem app_lt : ∀ (a o x y : List Nat), a.length = o.length → a < o → a ++ x < o ++ y
  | [], [], x, y, _, h => absurd h (List.lt_irrefl _)
  | [], _ :: _, _, _, e, _ => nomatch e
  | _ :: _, [], _, _, e, _ => nomatch e
  | p :: a, q :: o, x, y, e, h => by
    rcases List.cons_lt_cons_iff.mp h with h1 | ⟨h1, h2⟩
    · exact List.cons_lt_cons_iff.mpr (.inl h1)
    · exact List.cons_lt_cons_iff.mpr (.inr ⟨h1, app_lt a o x y (by simpa using e) h2⟩)
theorem app_same : ∀ (a : List Nat) (x y : Nat), x < y → a ++ [x] < a ++ [y]
  | [], x, y, h => List.cons_lt_cons_iff.mpr (.inl h)
  | p :: a, x, y, h => List.cons_lt_cons_iff.mpr (.inr ⟨rfl, app_same a x y h⟩)
/-- what the law asks of each -/
theorem part_good (row : List Nat) : (∀ k, (part row k).1.length = row.length ∧ (part row k).2.length = row.length ∧ rowBy (part row k).1 (part row k).2 = row) ∧
    (∀ k, k < many row → (part row k).1 = (part row k).2 ∨ (part row k).1 < (part row k).2) ∧ ∀ k l, k < l → l < many row → (part row k).1 < (part row l).1 := by
  induction h : row.length generalizing row with
  | zero =>
    have : row = [] := List.length_eq_zero_iff.mp h
    subst this
    refine ⟨fun k => ⟨rfl, rfl, rfl⟩, fun k _ => .inl rfl, fun k l h1 h2 => ?_⟩
    have : many [] = 1 := rfl
    omega
  | succ n ih =>
    have hne : row ≠ [] := fun z => by rw [z] at h; cases h
    obtain ⟨r, c, rfl⟩ : ∃ r c, row = r ++ [c] := ⟨row.dropLast, row.getLast hne, (List.dropLast_concat_getLast hne).symm⟩
    have hr : r.length = n := by simpa using h
    obtain ⟨g1, g2, g3⟩ := ih r hr
    rw [List.length_append] at h
    by_cases hc : c = 98
    · subst hc
      refine ⟨fun k => ?_, fun k hk => ?_, fun k l h1 h2 => ?_⟩
      · obtain ⟨q1, q2, q3⟩ := g1 (k / 2)
        rw [part_b, ← h]
        refine ⟨by simp [q1, hr], by simp [q2, hr], ?_⟩
        show rowBy (_ ++ [sgn k]) (_ ++ [tw 98 (sgn k)]) = _
        rw [rowBy_snoc _ _ _ _ (q1.trans q2.symm), q3]
        congr 2
        unfold sgn
        split <;> rfl
      · rw [part_b]
        obtain ⟨q1, q2, q3⟩ := g1 (k / 2)
        rw [many_snoc] at hk
        by_cases h0 : r.count 98 = 0
        · rw [if_neg (fun h => h.2 h0)] at hk
          have hm : many r = 1 := by unfold many; rw [h0]
          have k0 : k = 0 := by omega
          subst k0
          rw [part_no_b r _ h0]
          exact .inr (app_same r 110 121 (by decide))
        · rw [if_pos ⟨rfl, h0⟩] at hk
          rcases g2 (k / 2) (by omega) with q | q
          · exact absurd q (turned_ne r _ (lesser_len _ _) (List.count_pos_iff.mp (by omega)))
          · exact .inr (app_lt _ _ _ _ (q1.trans q2.symm) q)
      · rw [part_b, part_b]
        rw [many_snoc] at h2
        by_cases h0 : r.count 98 = 0
        · rw [if_neg (fun h => h.2 h0)] at h2
          have hm : many r = 1 := by unfold many; rw [h0]
          omega
        · rw [if_pos ⟨rfl, h0⟩] at h2
          by_cases hkl : k / 2 = l / 2
          · rw [hkl]
            have e1 : sgn k = 110 := by unfold sgn; rw [if_pos (by omega)]
            have e2 : sgn l = 121 := by unfold sgn; rw [if_neg (by omega)]
            rw [e1, e2]
            exact app_same _ _ _ (by decide)
          · exact app_lt _ _ _ _ ((g1 _).1.trans (g1 _).1.symm) (g3 _ _ (by omega) (by omega))
    · have hm : many (r ++ [c]) = many r := by rw [many_snoc, if_neg (fun h => hc h.1)]
      refine ⟨fun k => ?_, fun k hk => ?_, fun k l h1 h2 => ?_⟩
      · obtain ⟨q1, q2, q3⟩ := g1 k
        rw [part_o _ _ _ hc, ← h]
        refine ⟨by simp [q1, hr], by simp [q2, hr], ?_⟩
        show rowBy (_ ++ [c]) (_ ++ [c]) = _
        rw [rowBy_snoc _ _ _ _ (q1.trans q2.symm), q3]
        congr 2
        unfold rb
        rw [if_pos rfl]
      · rw [part_o _ _ _ hc]
        rcases g2 k (by omega) with q | q
        · left
          show _ ++ [c] = _ ++ [c]
          rw [q]
        · exact .inr (app_lt _ _ _ _ ((g1 k).1.trans (g1 k).2.1.symm) q)
      · rw [part_o _ _ _ hc, part_o _ _ _ hc]
        exact app_lt _ _ _ _ ((g1 _).1.trans (g1 _).1.symm) (g3 _ _ h1 (by omega))
end Hid

namespace Hid
open PySem PySem.Spec PyProof.Rows L2 Evl
/-- a def of the text: where it stands -/
def Df (K : PySem.W.Frag) (mg : Str → Option Value) (x : Str) (st : Stmt) (ps : List Str) : Prop := ∃ (f : Addr) (fd : FuncData), Fun K x x st f fd ∧ Binds K fd ps [] ∧ mg x = some (.ref f)
/-- .. and what it promises -/
def At (P : Program) (w : World) (K : PySem.W.Frag) (mg : Str → Option Value) (base : Heap) (x : Str) (st : Stmt) (n : Nat) (ps : List Str) (sp : Sp) : Prop :=
  ∃ (f : Addr) (fd : FuncData), Fun K x x st f fd ∧ Binds K fd ps [] ∧ mg x = some (.ref f) ∧ FnOk P w K mg base CX0 n f fd ps sp
section
variable {K : PySem.W.Frag} {σ : L2.St} {H H' : Hp} {ta tb tc te tl : TE}
theorem walk_zs {x y : Str} {n : Nat} (hn : n = min x.cps.size y.cps.size) : Walk (ZsIt x y) n (fun _ => True) (fun i G v G' => ∃ T c d, v = .ref T ∧ G T = none ∧ G' = upd G T (.tup [.str ⟨#[c]⟩, .str ⟨#[d]⟩]) ∧ x.cps[i]? = some c ∧ y.cps[i]? = some d) := by
  subst hn
  exact ⟨fun _ _ hi _ => hi, fun _ _ => Nat.le_refl _, fun _ _ _ _ _ _ q => q⟩
abbrev vs1 (l : List Nat) : List V := l.map fun c => V.str (sg1 c)
theorem vs1_str (l : List Nat) : vs1 l = (l.map sg1).map V.str := by rw [List.map_map]; rfl
/-- ''.join of a list of signs -/
theorem r_join {l : List Nat} {p : Addr} {Q : VK} (hp : SqL K H p (vs1 l)) (hl : l.length ≤ 1000000) (q : Q (.str (tx l)) H) :
    ∃ a p', ∃ ys : List Str, (V.str (tx []) : V) = .str a ∧ [V.ref p] = [V.ref p'] ∧ (SqL K H p' (ys.map V.str) ∨ SqT K H p' (ys.map V.str)) ∧ (ys.map (·.length)).sum + ys.length * a.length ≤ 16777216 ∧ Q (.str (Txt.join a ys)) H := by
  refine ⟨tx [], p, l.map sg1, rfl, rfl, .inl (by rw [← vs1_str]; exact hp), ?_, ?_⟩
  · rw [sg1_len]
    show l.length + _ * 0 ≤ 16777216
    omega
  · rw [join_one]
    exact q
theorem str1_dec (c d : Nat) : decide ((V.str (sg1 c) : V) = V.str (sg1 d)) = decide (c = d) := by
  by_cases h : c = d
  · rw [decide_eq_true h, decide_eq_true (by rw [h])]
  · rw [decide_eq_false h, decide_eq_false]
    intro z
    have z2 : sg1 c = sg1 d := V.str.inj z
    have := congrArg (fun s : Str => s.cps.toList) z2
    simp [sg1] at this
    exact h this
theorem strtx_dec (a o : List Nat) : decide ((V.str (tx a) : V) = V.str (tx o)) = decide (a = o) := by
  by_cases h : a = o
  · rw [decide_eq_true h, decide_eq_true (by rw [h])]
  · rw [decide_eq_false h, decide_eq_false]
    intro z
    exact h (tx_inj (V.str.inj z))
theorem ev_chain {r r' : R2} {x y z : V} {b b' : Bool} (ha : Ev ta σ H x) (hb : Ev tb σ H y) (hr : RV r x y H (.bl b)) (hc : b = true → Ev tc σ H z) (hr' : b = true → RV r' y z H (.bl b')) : Ev (tChain r r' ta tb tc) σ H (.bl (b && b')) := fun H1 e Q q =>
  ha H1 e _ fun H2 e2 => hb H2 (e.trans e2) _ fun H3 e3 => hr H3 ((e.trans e2).trans e3) _ fun H4 e4 => ⟨b, rfl, by
    cases b with
    | true => exact iteT (hc rfl H4 (((e.trans e2).trans e3).trans e4) _ fun H5 e5 => hr' rfl H5 ((((e.trans e2).trans e3).trans e4).trans e5) _ fun H6 e6 => q H6 ((((e2.trans e3).trans e4).trans e5).trans e6))
    | false => exact iteF (q H4 ((e2.trans e3).trans e4))⟩
theorem ev_isi {x : V} {t n : String} {b : Bool} (ha : Ev ta σ H x) (ht : ∀ H1, Ex H H1 → TyX K H1 x (.type t)) (hk : kitB t n = some b) : Ev (tCB (rIsi K) (tCons ta (tCons (tC (.ty n)) tNil))) σ H (.bl b) := fun H1 e Q q =>
  ha H1 e _ fun H2 e2 => ⟨x, .ty n, _, _, b, rfl, .ty n, ht H2 (e.trans e2), kit_ty hk, q H2 e2⟩
theorem ev_all {bs : List Bool} (h : EvL tl σ H (bs.map V.bl)) : Ev (tCB (rAll K) (tCons tl tNil)) σ H (.bl (bs.all id)) := fun H1 e Q q =>
  h H1 e _ fun p H2 hp e2 h2 => ⟨p, bs, rfl, sq_of h2, q H2 e2⟩
theorem given_true (n : Nat) (v : Nat → V) : given n (fun _ => true) v = (List.range n).map v := by
  unfold given
  rw [List.filter_eq_self.mpr fun _ _ => rfl]
theorem c_call {sp : Sp} {E : XK} {ta : TA} {vs : List V} {Q : VK} (h : EvA ta σ H vs) (k : ∀ H2, Ex H H2 → sp vs H2 Q E) : tCall sp [] E ta σ H Q := h H (Ex.refl _) _ fun H2 e2 => by
  show sp (vs ++ []) H2 Q E
  rw [List.append_nil]
  exact k H2 e2
theorem c_call1 {sp : Sp} {E : XK} {ta : TA} {vs : List V} {Q : List V → Hp → Prop} (h : EvA ta σ H vs) (k : ∀ H2, Ex H H2 → sp vs H2 (fun x H3 => Q [x] H3) E) : tCons (tCall sp [] E ta) tNil σ H Q := c_call h k
theorem tyes {T E : Hp → Prop} (h : T H) : tYes σ H (fun b H3 => if b = true then T H3 else E H3) := by
  show if true = true then T H else E H
  rw [if_pos rfl]
  exact h
theorem et_yes : EvT tYes σ H true := fun H1 _ _ q => q H1 (Ex.refl _)
/-- a comprehension over a list of pairs -/
theorem el_lcP {a : Addr} {xs : List V} {i j : Nat} {vs : List Nat} (v : Nat → V) (h : Ev tl σ H (.ref a)) (hx : SqL K H a xs) (hz : xs.length ≤ 40000)
    (hw : ∀ p q, wipe (((wipe σ vs).set i (some p)).set j (some q)) vs = wipe σ vs)
    (hp : ∀ n x, xs[n]? = some x → ∃ t p q, x = .ref t ∧ SqT K H t [p, q] ∧ Ev te (((wipe σ vs).set i (some p)).set j (some q)) H (v n)) :
    EvL (tLc (iList K tl) (gTup K 2 (gCons (gName i) (gCons (gName j) gNil))) tYes te vs) σ H ((List.range xs.length).map v) := fun H0 e Q q => h H0 e _ fun H1 e1 => ⟨a, rfl, ⟨xs, ex_l (e.trans e1) hx⟩, fun Dl hD =>
  lc_list (xs := xs) (Cw H1 (fun _ => true) v Dl) ⟨hD, Ex.new hD, upd_same⟩ (fun i H' _ p => ex_l ((e.trans e1).trans p.2.1) hx) (fun n x H' hn p => by
      obtain ⟨t, x1, x2, rfl, hT, hE⟩ := hp n x hn
      exact ⟨t, [x1, x2], rfl, ex_t ((e.trans e1).trans p.2.1) hT, rfl, x1, [x2], rfl, x2, [], rfl, rfl, hw x1 x2, cw_turn (f := fun _ => true) p (by have := (List.getElem?_eq_some_iff.mp hn).1; omega) et_yes fun _ => hE.mono (e.trans e1)⟩)
    (fun H' p => q Dl H' (fresh_back e1 p.1) (e1.trans p.2.1) (by rw [p.2.2, given_true]))⟩
/-! pairs of texts -/
def PrT (K : PySem.W.Frag) (H : Hp) (v : V) (p : List Nat × List Nat) : Prop := ∃ t, v = .ref t ∧ H t = some (.tup [.str (tx p.1), .str (tx p.2)])
abbrev Prs (K : PySem.W.Frag) (H : Hp) (vs : List V) (ps : List (List Nat × List Nat)) : Prop := Paired (PrT K H) vs ps
theorem PrT.ex {v : V} {p : List Nat × List Nat} (e : Ex H H') (h : PrT K H v p) : PrT K H' v p := let ⟨t, a, c⟩ := h; ⟨t, a, e _ _ c⟩
theorem paired_mono {α γ : Type} {F G : α → γ → Prop} (h : ∀ a b, F a b → G a b) : ∀ {l : List α} {m : List γ}, Paired F l m → Paired G l m
  | _, _, .nil => .nil
  | _, _, .cons a t => .cons (h _ _ a) (paired_mono h t)
theorem paired_app {α γ : Type} {F : α → γ → Prop} : ∀ {l l' : List α} {m m' : List γ}, Paired F l m → Paired F l' m' → Paired F (l ++ l') (m ++ m')
  | _, _, _, _, .nil, h => h
  | _, _, _, _, .cons a t, h => .cons a (paired_app t h)
theorem paired_get {α γ : Type} {F : α → γ → Prop} : ∀ {l : List α} {m : List γ}, Paired F l m → ∀ (i : Nat) (x : α), l[i]? = some x → ∃ y, m[i]? = some y ∧ F x y
  | _, _, .nil, i, x, h => by simp at h
  | _, _, .cons a t, 0, x, h => by
    cases h
    exact ⟨_, rfl, a⟩
  | _, _, .cons a t, i + 1, x, h => paired_get t i x h
theorem Prs.ex {vs : List V} {ps : List (List Nat × List Nat)} (e : Ex H H') (h : Prs K H vs ps) : Prs K H' vs ps := paired_mono (fun _ _ q => q.ex e) h
/-- a list changed: the pairs stand -/
theorem Prs.upd {vs : List V} {ps : List (List Nat × List Nat)} {D : Addr} {xs : List V} {o : HO} (hD : H D = some (.lst xs)) (h : Prs K H vs ps) : Prs K (upd H D o) vs ps := paired_mono (fun v p ⟨t, a, c⟩ => ⟨t, a, by
  rw [upd_ne]
  · exact c
  · intro z
    rw [z, hD] at c
    cases c⟩) h
def dSS (p : List Nat × List Nat) : PyData := .tuple [.str (tx p.1), .str (tx p.2)]
theorem PrT.dp {v : V} {p : List Nat × List Nat} (h : PrT K H v p) : Dp K H v (dSS p) := by
  obtain ⟨t, rfl, c⟩ := h
  exact .tup (st_of c) (.cons (.str _) (.cons (.str _) .nil))
theorem Prs.dp : ∀ {vs : List V} {ps : List (List Nat × List Nat)}, Prs K H vs ps → DpAll K H vs (ps.map dSS)
  | _, _, .nil => .nil
  | _, _, .cons a t => .cons a.dp (Prs.dp t)
end
end Hid

namespace Hid
open PySem PySem.Spec PyProof.Rows L2
/-! sets of texts: the members as a list without doubles -/
def tKey (e : Int × Value) : Str := match e.2 with | .str k _ => k | _ => Str.empty
def TGood (w : World) (e : Int × Value) : Prop := ∃ k tk, e.2 = Value.str k tk ∧ e.1 = hashStr w k
def SetT (w : World) (h : Heap) (a : Addr) (xs : List Str) : Prop :=
  ∃ o es ep t, h.get? a = some o ∧ o.ExactSet ∧ o.data = .set es ep t ∧ (∀ e ∈ es.toList, TGood w e) ∧ (es.toList.map tKey).Perm xs ∧ xs.Nodup ∧ es.size < scanBound ∧ t.fits es.size = true ∧
    Ris t.place.toList ∧ (w.params.followText "set-order" = true ∨ t.led = true)
/-- one more, where it isn't in -/
def putT (x : Str) (xs : List Str) : List Str := if x ∈ xs then xs else x :: xs
theorem SetT.keep {w : World} {h h' : Heap} {a : Addr} {xs : List Str} (R : SetT w h a xs) (k : ∀ o, h.get? a = some o → h'.get? a = some o) : SetT w h' a xs := by
  obtain ⟨o, es, ep, t, ho, r⟩ := R
  exact ⟨o, es, ep, t, k o ho, r⟩
section
variable {P : Program} {w : World} {A : Around} {E : Value → Shared → Prop} {s : Shared} {a : Addr} {xs : List Str}
theorem tElems {l : List (Int × Value)} (g : ∀ e ∈ l, TGood w e) : ElemsOf (PySem.strKind P w) l := fun e he => by
  obtain ⟨k, tk, h1, h2⟩ := g e he
  refine ⟨⟨k, ?_, h2⟩, ?_⟩ <;> rw [h1]
  · exact strKind_is P w k tk
  · rfl
theorem tIs {e : Int × Value} (g : TGood w e) (k : Str) : (PySem.strKind P w).is k e.2 = true ↔ tKey e = k := by
  obtain ⟨k0, tk, h1, _⟩ := g
  unfold tKey
  rw [h1]
  constructor
  · intro z
    obtain ⟨u, hu⟩ := Value.isStrOf_shape (show Value.isStrOf k (Value.str k0 tk) = true from z)
    injection hu
  · intro z
    subst z
    exact strKind_is P w _ tk
/-- the stores behind a laying: the table is laid anew where it is too full -/
theorem tStore {g : Bool → Sem Unit} (hg : ∀ (b : Bool) (s₁ : Shared) (Q' : Unit → Shared → Prop), Q' () s₁ → wpAny (model P w) A (g b) Q' E s₁)
    {o : Obj} {es es1 : Array (Int × Value)} {ep : Nat} {t t2 : SetTable} {ys : List Str} (ho : s.heap.get? a = some o) (hex : o.ExactSet) (hd : o.data = .set es ep t)
    (g1 : ∀ e ∈ es1.toList, TGood w e) (p1 : (es1.toList.map tKey).Perm ys) (n1 : ys.Nodup) (b1 : es1.size < scanBound) (f2 : t2.fits es1.size = true) (r2 : Ris t2.place.toList) (l2 : w.params.followText "set-order" = true ∨ t2.led = true)
    {was : Bool} {R : Option Bool → Shared → Prop} (hR : ∀ h', Heap.SameBut a s.heap h' → SetT w h' a ys → R (some true) { s with heap := h' }) :
    wpAny (model P w) A (do
        storeSet a es1 t2
        if (!was && t2.tooFull) = true then do
            g (relayAll t2 es1 (SetTable.grown es1.size)).2.2
            storeSet a (relayAll t2 es1 (SetTable.grown es1.size)).1 (relayAll t2 es1 (SetTable.grown es1.size)).2.1
            pure (some true)
          else pure (some true)) R E s := by
  have sb1 := Heap.SameBut.update s.heap a (Obj.putSet es1 t2)
  have ho1 := store_at (es' := es1) (t' := t2) ho hd
  refine wpAny_bind (wpAny_storeSet_of ho hd ?_ (fits_of_scanBound b1))
  by_cases hfull : (!was && t2.tooFull) = true
  · rw [if_pos hfull]
    obtain ⟨pm, f3, r3, l3⟩ := And.intro (relayAll_perm t2 es1 (SetTable.grown es1.size)) (And.intro (relayAll_fits t2 es1 (SetTable.grown es1.size)) (And.intro (relayAll_ris t2 es1 (SetTable.grown es1.size)) (relayAll_led t2 es1 (SetTable.grown es1.size))))
    generalize relayAll t2 es1 (SetTable.grown es1.size) = Z at pm f3 r3 l3 ⊢
    obtain ⟨es2, t3, gave⟩ := Z
    dsimp only at pm f3 r3 l3 ⊢
    have hsz : es2.size < scanBound := by
      rw [← Array.length_toList, pm.length_eq, Array.length_toList]
      exact b1
    refine wpAny_bind (hg _ _ _ (wpAny_bind (wpAny_storeSet_of ho1 rfl ?_ (fits_of_scanBound hsz))))
    exact wpAny_pure (hR _ (sb1.trans (Heap.SameBut.update _ a _)) ⟨_, es2, _, t3, store_at (es' := es2) (t' := t3) ho1 rfl, hex, rfl, fun e he => g1 e (pm.mem_iff.mp he), (pm.map tKey).trans p1, n1, hsz, f3, r3, l2.imp id fun z => l3.trans z⟩)
  · rw [if_neg hfull]
    exact wpAny_pure (hR _ sb1 ⟨_, es1, _, t2, ho1, hex, rfl, g1, p1, n1, b1, f2, r2, l2⟩)
theorem tAdd {k : Str} {tk : Tok} {Q : Bool → Shared → Prop} (R : SetT w s.heap a xs) (room : xs.length + 1 < scanBound)
    (hQ : ∀ b h', Heap.SameBut a s.heap h' → SetT w h' a (putT k xs) → Q b { s with heap := h' }) :
    wpAny (model P w) A (setAddHashed a (.str k tk) ((PySem.strKind P w).hash k)) Q E s := by
  obtain ⟨o, es, ep, t, ho, hex, hd, g, pm, nd, hb, hf, hr, hl⟩ := R
  have hkey : (PySem.strKind P w).is k (.str k tk) = true := strKind_is P w k tk
  have hsc : (Value.str k tk).scannable = true := rfl
  have hel : ElemsOf (PySem.strKind P w) es.toList := tElems g
  unfold setAddHashed setAddHashedIn
  refine wpAny_holding (wpAny_bind (wpAny_setState_of ho hd hf ?_))
  dsimp only
  rw [byScan_of hsc hb hel] <;> simp only [↓reduceIte]
  unfold setAddByScan
  refine wpAny_bind (wpAny_bind (wpAny_rule (wpAny_bind (wpAny_setScan_of hkey ho hd hf hel ?_))))
  have mem_iff : k ∈ xs ↔ ∃ e ∈ es.toList, (PySem.strKind P w).is k e.2 = true := by
    rw [← pm.mem_iff, List.mem_map]
    exact ⟨fun ⟨e, he, q⟩ => ⟨e, he, (tIs (g e he) k).mpr q⟩, fun ⟨e, he, q⟩ => ⟨e, he, (tIs (g e he) k).mp q⟩⟩
  cases hfi : List.findIdx? (fun e => (PySem.strKind P w).is k e.2) es.toList with
  | some j =>
    dsimp only
    obtain ⟨hj, pj, _⟩ := List.findIdx?_eq_some_iff_getElem.mp hfi
    have hin : k ∈ xs := mem_iff.mpr ⟨es.toList[j], List.getElem_mem hj, pj⟩
    refine wpAny_pure (wpAny_pure (hQ _ s.heap (Heap.SameBut.refl a s.heap) ?_))
    unfold putT
    rw [if_pos hin]
    exact ⟨o, es, ep, t, ho, hex, hd, g, pm, nd, hb, hf, hr, hl⟩
  | none =>
    dsimp only
    have hin : k ∉ xs := fun z => by
      obtain ⟨e, he, q⟩ := mem_iff.mp z
      have c := List.findIdx?_eq_none_iff.mp hfi e he
      rw [q] at c
      cases c
    have hput : putT k xs = k :: xs := by unfold putT; rw [if_neg hin]
    have hgw : ∀ (b : Bool) {s₁ : Shared} {Q' : Unit → Shared → Prop}, Q' () s₁ → wpAny (model P w) A (match b with | true => rule "set.scan.the-table-gave-way" | false => pure ()) Q' E s₁ := fun b s₁ Q' q => by
      cases b
      · exact wpAny_pure q
      · exact wpAny_rule q
    obtain ⟨lp, lf, lr, ll⟩ := And.intro (layNew_perm t es ((PySem.strKind P w).hash k) (.str k tk)) (And.intro (layNew_fits t es ((PySem.strKind P w).hash k) (.str k tk)) (And.intro (layNew_ris t es ((PySem.strKind P w).hash k) (.str k tk) hr) (layNew_led t es ((PySem.strKind P w).hash k) (.str k tk))))
    generalize layNew t es ((PySem.strKind P w).hash k) (.str k tk) = Z at lp lf lr ll ⊢
    obtain ⟨es1, t1, was, gave⟩ := Z
    dsimp only at lp lf lr ll ⊢
    rw [Array.toList_push] at lp
    have pc : es1.toList.Perm (((PySem.strKind P w).hash k, Value.str k tk) :: es.toList) := lp.trans (List.perm_append_singleton _ _)
    have p1 : (es1.toList.map tKey).Perm (putT k xs) := by
      rw [hput]
      exact (pc.map tKey).trans (List.Perm.cons k pm)
    have n1 : (putT k xs).Nodup := by
      rw [hput]
      exact List.nodup_cons.mpr ⟨hin, nd⟩
    have g1 : ∀ e ∈ es1.toList, TGood w e := fun e he => by
      rcases List.mem_cons.mp (pc.mem_iff.mp he) with z | z
      · rw [z]
        exact ⟨k, tk, rfl, rfl⟩
      · exact g e z
    have b1 : es1.size < scanBound := by
      rw [← Array.length_toList, pc.length_eq, List.length_cons, ← List.length_map (f := tKey), pm.length_eq]
      exact room
    have l1 : w.params.followText "set-order" = true ∨ t1.led = true := hl.imp id fun z => ll.trans z
    refine wpAny_bind (hgw _ ?_)
    split
    · refine wpAny_bind ?_
      rw [hashByValue_scannable 8 hsc]
      refine wpAny_pure (tStore (fun b s₁ Q' q => hgw b q) ho hex hd g1 p1 n1 b1 ?_ ?_ ?_ ?_)
      · first | (split <;> first | exact lf | exact SetTable.fits_plain_off lf) | exact lf
      · first | (split <;> exact lr) | exact lr
      · first | (split <;> exact l1) | exact l1
      · exact fun h' sb r => wpAny_pure (hQ _ h' sb r)
    · refine wpAny_bind (wpAny_pure ?_)
      simp only [↓reduceIte]
      exact tStore (fun b s₁ Q' q => hgw b q) ho hex hd g1 p1 n1 b1 lf lr l1 fun h' sb r => wpAny_pure (hQ _ h' sb r)
end
/-- all of a list put in, one behind the other -/
def putAll (xs : List Str) : List Str → List Str
  | [] => xs
  | y :: ys => putAll (putT y xs) ys
theorem putAll_snoc (xs : List Str) (y : Str) : ∀ ys, putAll xs (ys ++ [y]) = putT y (putAll xs ys) := by
  intro ys
  induction ys generalizing xs with
  | nil => rfl
  | cons z ys ih => exact ih (putT z xs)
theorem putT_mem {x y : Str} {xs : List Str} : y ∈ putT x xs ↔ y = x ∨ y ∈ xs := by
  unfold putT
  split
  · rename_i h
    exact ⟨.inr, fun z => z.elim (fun e => e ▸ h) id⟩
  · rw [List.mem_cons]
theorem putT_nodup {x : Str} {xs : List Str} (h : xs.Nodup) : (putT x xs).Nodup := by
  unfold putT
  split
  · exact h
  · rename_i n
    exact List.nodup_cons.mpr ⟨n, h⟩
theorem putT_len (x : Str) (xs : List Str) : (putT x xs).length ≤ xs.length + 1 := by
  unfold putT
  split
  · exact Nat.le_succ _
  · exact Nat.le_refl _
theorem putAll_mem {y : Str} : ∀ (ys xs : List Str), y ∈ putAll xs ys ↔ y ∈ xs ∨ y ∈ ys
  | [], xs => by simp [putAll]
  | z :: ys, xs => by
    show y ∈ putAll (putT z xs) ys ↔ _
    rw [putAll_mem ys, putT_mem, List.mem_cons]
    constructor
    · rintro ((h | h) | h)
      · exact .inr (.inl h)
      · exact .inl h
      · exact .inr (.inr h)
    · rintro (h | h | h)
      · exact .inl (.inr h)
      · exact .inl (.inl h)
      · exact .inr h
theorem putAll_nodup : ∀ (ys xs : List Str), xs.Nodup → (putAll xs ys).Nodup
  | [], _, h => h
  | z :: ys, xs, h => putAll_nodup ys _ (putT_nodup h)
theorem putAll_len : ∀ (ys xs : List Str), (putAll xs ys).length ≤ xs.length + ys.length
  | [], _ => Nat.le_refl _
  | z :: ys, xs => by
    have := putAll_len ys (putT z xs)
    have := putT_len z xs
    show (putAll (putT z xs) ys).length ≤ xs.length + (ys.length + 1)
    omega
section
variable {prog : Program} {w : World} {A : Around} {R : Result → Shared → Prop} {I : Addr} {fp wr : List Addr} {G : Array GenState → Array GenState → Prop} {n : Nat} {Pv : Nat → Value → Prop} {St : Nat → Shared → Prop}
theorem tFill (W : WalksS prog w A.in1 I fp wr G n Pv St) (S : Addr) (hSf : S ∉ fp) (xs : List Str) (hlen : xs.length = n) (hsm : n < 4000) (hval : ∀ i v, Pv i v → ∃ t, v = .str (xs.getD i Str.empty) t) :
    ∀ (k i : Nat) (s : Shared), n - i = k → i ≤ n → St i s → SetT w s.heap S (putAll [] (xs.take i)) →
      (∀ s', Moved (S :: wr) G s s' → SetT w s'.heap S (putAll [] xs) → R (.ok (.ret .none)) s') → codeAny (model prog w) A (.builtin "set.update.loop" ⟨[.ref S, .ref I], []⟩) R s := by
  have hSw : S ∉ wr := fun h => hSf (W.sub _ h)
  have up : ∀ b ∈ wr, b ∈ S :: wr := fun b hb => List.mem_cons_of_mem _ hb
  intro k
  induction k with
  | zero =>
    intro i s hk hi hst hS hR
    obtain rfl : i = n := by omega
    refine codeAny_builtin PyProof.Rows.F.entry_set_update_loop ?_
    rw [Around.under_plainId PyProof.Rows.F.plain_set_update_loop _] <;> show wpAny _ A.in1 (pyNext (.ref I) >>= _) _ _ s
    refine wpAny_bind (W.done s _ _ hst fun s' hm => ?_)
    show wpAny _ A.in1 (ret Value.none) _ _ s'
    rw [List.take_of_length_le (Nat.le_of_eq hlen)] at hS
    exact wpAny_pure (hR s' (hm.mono up) (hS.keep fun o e => hm.heap S _ hSw e))
  | succ k ih =>
    intro i s hk hi hst hS hR
    have hlt : i < n := by omega
    refine codeAny_builtin PyProof.Rows.F.entry_set_update_loop ?_
    rw [Around.under_plainId PyProof.Rows.F.plain_set_update_loop _] <;> show wpAny _ A.in1 (pyNext (.ref I) >>= _) _ _ s
    refine wpAny_bind (W.item i s _ _ hlt hst fun v s' hP hst' hm => ?_)
    obtain ⟨t, rfl⟩ := hval i v hP
    show wpAny _ A.in1 (holding [Value.str (xs.getD i Str.empty) t] (setAdd S (.str (xs.getD i Str.empty) t)) >>= _) _ _ s'
    refine wpAny_bind (wpAny_holding ?_) <;> unfold setAdd
    refine wpAny_holding (wpAny_bind ((PySem.strKind prog w).pyHash (k := xs.getD i Str.empty) (strKind_is _ _ _ _) ?_))
    have hroom : (putAll [] (xs.take i)).length + 1 < scanBound := by
      have h1 := putAll_len (xs.take i) []
      have h2 : (xs.take i).length ≤ i := by rw [List.length_take]; omega
      have h3 : scanBound = 4096 := rfl
      rw [List.length_nil] at h1
      omega
    refine tAdd (s := { s' with toks := s'.toks + 1 }) (hS.keep fun o e => hm.heap S _ hSw e) hroom fun b h' sb hS2 => ?_
    have hS3 : SetT w h' S (putAll [] (xs.take (i + 1))) := by
      have e : xs.take (i + 1) = xs.take i ++ [xs.getD i Str.empty] := by
        rw [List.take_add_one, List.getD_eq_getElem?_getD, List.getElem?_eq_getElem (by omega)]
        rfl
      rw [e, putAll_snoc]
      exact hS2
    refine wpAny_pure ⟨plainId_quiet PyProof.Rows.F.plain_set_update_loop _, ih (i + 1) _ (by omega) hlt (W.frame _ s' _ _ hst' (Nat.le_succ _) fun b hb o e => ?_) hS3 fun s'' hm2 hS4 => ?_⟩
    · rw [sb.2 b (fun h : b = S => hSf (by rw [← h]; exact hb))]
      exact e
    · refine hR s'' (Moved.trans W.gtrans ((hm.mono up).then_heap (Nat.le_succ _) fun b o hb e => ?_) hm2) hS4
      rw [sb.2 b (fun h : b = S => hb (by rw [h]; exact List.mem_cons_self))]
      exact e
end
/-! set(t), t a tuple of texts; sorted of a set of texts -/
abbrev newSet (led : Bool) : Obj := { cls := .type "set", dict := none, data := .set #[] 0 (.fresh 0 0 led) }
theorem newSet_ok {w : World} {h : Heap} {a : Addr} {led : Bool} (hl : w.params.followText "set-order" = true ∨ led = true) (e : h.get? a = some (newSet led)) : SetT w h a [] := by
  refine ⟨_, #[], 0, .fresh 0 0 led, e, ⟨rfl, rfl, rfl⟩, rfl, (fun e m => absurd m (by simp)), List.Perm.refl _, List.nodup_nil, (by decide), rfl, List.Pairwise.nil, hl⟩
section
variable {prog : Program} {w : World} {A : Around} {E : Value → Shared → Prop} {s : Shared}
theorem tSetNew (a : Value) {Q₁ : Value → Shared → Prop} (h : Q₁ (.ref s.heap.objs.size) { s with heap := s.heap.push (newSet (!w.params.followText "set-order")) }) :
    codeAny (model prog w) A (.call (.builtin "set.__new__") ⟨[.type "set", a], []⟩) (wants Q₁ E) s := by
  refine codeAny_of_tree ?_
  show wpAny _ A.in1 (do checkBuiltinCall "set.__new__" ⟨[.type "set", a], []⟩; again (.builtin "set.__new__" ⟨[.type "set", a], []⟩)) _ _ s
  refine wpAny_bind (wpAny_of_eq (PySem.F.newCall_set_1 a) (wpAny_pure ⟨plainId_quiet PySem.F.plain_set_new _, codeAny_builtin PySem.F.entry_set_new ?_⟩))
  rw [Around.under_plainId PySem.F.plain_set_new _] <;> unfold Builtin.«set.__new__» Builtin.Frozenset.newClass
  have hsub := sub_set_self; obtain ⟨hp, g, d, tk, os⟩ := s
  dsimp only <;> wp_walk
  refine wpAny_askSetting (wpAny_pure ?_) <;> dsimp only <;> simp only [newObj]
  exact wpAny_bind (wpAny_alloc (wpAny_pure (wpAny_pure h)))
theorem tSetOf {l : Addr} {items : Array Value} {xs : List Str} {Q : Value → Shared → Prop} (hh : A.handled = none) (hl : s.heap.IsTuple l items) (hi : StrsAre items.toList xs) (hsm : xs.length < 4000)
    (h : ∀ (h' : Heap) (tk : Nat), SetT w h' s.heap.objs.size (putAll [] xs) → (∀ b o, b < s.heap.objs.size → s.heap.get? b = some o → h'.get? b = some o) → Q (.ref s.heap.objs.size) { s with heap := h', toks := tk }) :
    wpAny (model prog w) A (call (.type "set") [.ref l]) Q E s := by
  obtain ⟨c, tl, hmro⟩ := PySem.F.called_set.mro
  have hmade := PySem.F.called_set.made; have hsub := PySem.F.called_set.sub
  refine wpAny_call (codeAny_of_tree ?_)
  show wpAny _ _ (callAny (.type "set") _) _ _ _
  refine wpAny_pure ⟨Code.quiet_builtin _ (by decide +kernel), codeAny_builtin PySem.F.entry_type_call ?_⟩
  rw [Around.under_plain (weight_type_call_type "set" [.ref l] []) rfl]
  have h1 := PySem.F.called_set.notType; have h2 := PySem.F.called_set.canCreate; have hct := PySem.F.typeCall_set_1 (.ref l)
  repeat any_goals (first | assumption | wp_step)
  refine codeAny_mono (tSetNew (.ref l) (E := E) (Q₁ := fun obj s₁ => obj = .ref s.heap.objs.size ∧ s₁ = { s with heap := s.heap.push (newSet (!w.params.followText "set-order")) }) ⟨rfl, rfl⟩) fun r s₁ hr => ?_
  cases r with
  | error e => exact hr
  | ok fl =>
    cases fl with
    | next => exact hr.elim
    | brk => exact hr.elim
    | cont => exact hr.elim
    | ret obj =>
      obtain ⟨rfl, rfl⟩ := hr
      generalize hled : (!w.params.followText "set-order") = led
      have hlo : w.params.followText "set-order" = true ∨ led = true := by
        rw [← hled]
        cases w.params.followText "set-order" <;> simp
      have hS : (s.heap.push (newSet led)).get? s.heap.objs.size = some (newSet led) := Heap.get?_push_size _ rfl
      have hT : Shared.TypeIs { s with heap := s.heap.push (newSet led) } (.ref s.heap.objs.size) "set" := ⟨_, hS, rfl⟩
      have hli := PySem.F.called_set.init.lookup; have hbi := PySem.F.called_set.init.bind (.ref s.heap.objs.size)
      repeat any_goals (first | assumption | wp_step)
      refine codeAny_mono (codeAny_call_builtin (R := wants (fun r s₂ => r = .none ∧ ∃ h' tk, s₂ = { s with heap := h', toks := tk } ∧ SetT w h' s.heap.objs.size (putAll [] xs) ∧ (∀ b o, b < s.heap.objs.size → s.heap.get? b = some o → h'.get? b = some o)) E) PySem.F.called_set.init.plain PySem.F.entry_set_init (check_set_init_1 hT ?_)) fun r₂ s₂ hr₂ => ?_
      · obtain ⟨⟨ocls, odict, odata, oslots⟩, hol, hcl, nl, hdl⟩ := hl
        simp only at hcl hdl
        subst hcl; subst hdl
        have hol' : (s.heap.push (newSet led)).get? l = some { cls := .type "tuple", dict := odict, data := .seq items nl, slots := oslots } := Heap.get?_push_of_some _ hol
        have hsls := PySem.F.sub_tuple_set; have hslf := PySem.F.sub_tuple_frozenset
        have hne : (Value.type "tuple" == Value.type "dict") = false := by decide
        have hl1 : (s.heap.push (newSet led)).IsTuple l items := ⟨_, hol', rfl, nl, rfl⟩
        unfold Builtin.«set.__init__» noKeywords Builtin.Frozenset.updateFrom
        generalize hPI : pyIter = PI
        wp_walk
        subst hPI
        refine wpAny_pyIter_tuple hl1 (wpAny_bind (wpAny_runValue ?_))
        have hlS : l < s.heap.objs.size := Heap.lt_size hol
        have hh3 : A.in1.in1.in1.handled = none := by simp [hh]
        have hneI : l ≠ (s.heap.push (newSet led)).objs.size := by
          rw [Heap.size_push]
          exact Nat.ne_of_lt (Nat.lt_succ_of_lt hlS)
        have hSf : s.heap.objs.size ∉ [(s.heap.push (newSet led)).objs.size, l] := by
          rw [Heap.size_push]
          simp only [List.mem_cons, List.not_mem_nil, or_false, not_or]
          exact ⟨Nat.ne_of_lt (Nat.lt_succ_self _), Nat.ne_of_gt hlS⟩
        have hsz : xs.length = items.size := by rw [← StrsAre.len_eq hi, Array.length_toList]
        refine tFill ((Walks.tuple hh3 _ l hneI items).toS) s.heap.objs.size hSf xs hsz (by omega) (fun i v hv => SS.strs_at hi i v (by rw [Array.getElem?_toList]; exact hv)) (items.size - 0) 0 _ (by omega) (Nat.zero_le _)
          ⟨⟨_, Heap.get?_push_size _ rfl, rfl, rfl⟩, (hl1.push _)⟩ (newSet_ok hlo (Heap.get?_push_of_some _ hS)) fun s' hm hS' => ?_
        obtain ⟨h', g', d', tk', os'⟩ := s'
        obtain rfl : g' = s.gens := hm.gens
        obtain rfl : d' = s.drawn := hm.drawn
        obtain rfl : os' = s.os := hm.os
        show wpAny _ _ _ _ _ _
        refine wpAny_pure ?_
        show wpAny _ _ (ret Value.none) _ _ _
        refine wpAny_pure ⟨rfl, h', tk', rfl, hS', fun b o hb e => hm.heap b o ?_ (Heap.get?_push_of_some _ (Heap.get?_push_of_some _ e))⟩
        simp only [List.mem_cons, List.not_mem_nil, or_false, not_or]
        refine ⟨Nat.ne_of_lt hb, ?_⟩
        rw [Heap.size_push]
        exact Nat.ne_of_lt (Nat.lt_succ_of_lt hb)
      · cases r₂ with
        | error e => exact hr₂
        | ok fl₂ =>
          cases fl₂ with
          | next => exact hr₂.elim
          | brk => exact hr₂.elim
          | cont => exact hr₂.elim
          | ret r =>
            obtain ⟨rfl, h', tk, rfl, hS', hk'⟩ := hr₂
            repeat any_goals (first | assumption | wp_step)
            exact h _ _ hS' hk'
end
end Hid

namespace Hid
open PySem PySem.Spec PyProof.Rows L2
def strLe (a b : Str) : Bool := decide (a.cps.toList ≤ b.cps.toList)
theorem str_ext {a b : Str} (h : a.cps.toList = b.cps.toList) : a = b := by
  cases a; cases b
  simp at h
  simpa using h
/-- rising, no two alike -/
abbrev Rise (ys : List Str) : Prop := ys.Pairwise fun a b => a.cps.toList < b.cps.toList
theorem rise_of {ks : List Str} (nd : ks.Nodup) : Rise (ks.mergeSort strLe) ∧ (ks.mergeSort strLe).Perm ks := by
  have pm := List.mergeSort_perm ks strLe
  refine ⟨?_, pm⟩
  have h1 : (ks.mergeSort strLe).Pairwise fun a b => strLe a b = true := List.pairwise_mergeSort (le := strLe) (fun a b c x y => by
      unfold strLe at *
      exact decide_eq_true (List.le_trans (of_decide_eq_true x) (of_decide_eq_true y))) (fun a b => by
      unfold strLe
      rcases List.le_total a.cps.toList b.cps.toList with h | h
      · rw [decide_eq_true h]; rfl
      · rw [decide_eq_true h, Bool.or_true]) ks
  have h2 : (ks.mergeSort strLe).Nodup := pm.nodup_iff.mpr nd
  refine (List.pairwise_and_iff.mpr ⟨h1, h2⟩ : (ks.mergeSort strLe).Pairwise fun a b => strLe a b = true ∧ a ≠ b).imp fun {a b} h => ?_
  have hle : a.cps.toList ≤ b.cps.toList := of_decide_eq_true h.1
  by_cases z : a.cps.toList < b.cps.toList
  · exact z
  · exact absurd (str_ext (List.le_antisymm hle (List.not_lt.mp z))) h.2
theorem each_mono2 {α γ : Type} {R R' : α → γ → Prop} (h : ∀ a b, R a b → R' a b) : ∀ {l : List α} {m : List γ}, PySem.W.EachIs R l m → PySem.W.EachIs R' l m
  | _, _, .nil => .nil
  | _, _, .cons a t => .cons (h _ _ a) (each_mono2 h t)
theorem vals_of_strs : ∀ {us : List Value} {ys : List Str}, StrsAre us ys → Vals (ys.map V.str) us
  | _, _, .nil => .nil
  | _, _, .cons n t h => .cons ⟨t, rfl⟩ (vals_of_strs h)
theorem each_strs {R : Value → Str → Prop} (hR : ∀ v k, R v k → ∃ t, v = .str k t) : ∀ {out : List Value} {ks : List Str}, PySem.W.EachIs R out ks → StrsAre out ks
  | _, _, .nil => .nil
  | _, _, .cons h t => by
    obtain ⟨u, rfl⟩ := hR _ _ h
    exact .cons _ u (each_strs hR t)
theorem strs_each : ∀ {vs : List Value}, (∀ v ∈ vs, ∃ k t, v = Value.str k t) → ∃ ks : List Str, PySem.W.EachIs (fun v k => ∃ t, v = Value.str k t) vs ks ∧ ks = vs.map fun v => tKey (0, v)
  | [], _ => ⟨[], .nil, rfl⟩
  | v :: vs, h => by
    obtain ⟨k, t, rfl⟩ := h v List.mem_cons_self
    obtain ⟨ks, e, q⟩ := strs_each fun u hu => h u (List.mem_cons_of_mem _ hu)
    exact ⟨k :: ks, .cons ⟨t, rfl⟩ e, by rw [q]; rfl⟩
section
variable {P : Program} {w : World} {A : Around} {E : Value → Shared → Prop} {s : Shared} {a : Addr} {xs : List Str}
theorem tSorted {Q : Value → Shared → Prop} (R : SetT w s.heap a xs) (hh : A.handled = none) (hu : A.units + 64 < cLine)
    (hQ : ∀ s' p (out : Array Value) (c : Nat) (ys : List Str), (∀ b o, s.heap.get? b = some o → s'.heap.get? b = some o) → s'.gens = s.gens → s'.os = s.os → s.heap.objs.size ≤ p →
      s'.heap.get? p = some (seqObj "list" out c) → StrsAre out.toList ys → Rise ys → ys.Perm xs → Q (.ref p) s') :
    wpAny (model P w) A (call (.builtin "sorted") [.ref a]) Q E s := by
  obtain ⟨o, es, ep, t, ho, hex, hd, g, pm, nd, hb, hf, hr, hl⟩ := R
  refine Calls.call_function_entry kind_sorted plain_sorted entry_sorted (args_sorted1 _) ?_
  unfold Builtin.«sorted»
  refine wpAny_bind (m := checkCount "sorted" 1 1 _) (wpAny_pure (wpAny_bind (collect_set (A := A.in1) hh ⟨o, ho, hex.1, hd⟩ hf hb hr hl fun s1 vs k1 hz g1 o1 pv => ?_)))
  obtain ⟨ks, ek, hks⟩ := strs_each (vs := vs) fun v hv => by
    obtain ⟨e, he, q⟩ := List.mem_map.mp (pv.mem_iff.mp hv)
    obtain ⟨k, tk, h1, _⟩ := g e he
    exact ⟨k, tk, by rw [← q]; exact h1⟩
  have pk : ks.Perm xs := by
    have q := pv.map fun v => tKey (0, v)
    rw [List.map_map] at q
    rw [hks]
    exact q.trans pm
  have hvl : vs.length < 4096 := by
    rw [pv.length_eq, List.length_map, Array.length_toList]
    exact hb
  have hkl : ks.length = vs.length := ek.length.symm
  refine wpAny_bind (wpAny_newList ?_ (by rw [sizeLine_eq]; omega))
  have hoL : (s1.heap.push (seqObj "list" vs.toArray 0)).get? s1.heap.objs.size = some (seqObj "list" vs.toArray 0) := Heap.get?_push_size _ rfl
  refine wpAny_bind (wpAny_holding ?_)
  refine PySem.W.list_sort_data (s := { s1 with heap := s1.heap.push (seqObj "list" vs.toArray 0) }) (enc := fun k : Str => PyData.str k) hoL ek (each_mono2 (fun v k h => ?_) ek) ?_ ?_ (by rw [sizeLine_eq]; omega) (fun k _ => ?_) fun out hlo eo => ?_
  · obtain ⟨t, rfl⟩ := h
    exact ⟨[], .str k t, fun m => nomatch m⟩
  · exact PySem.W.AllAlike.of fun _ _ => by simp [PySem.W.alike]
  · exact PySem.W.Sortable.others fun _ => ⟨(fun z => nomatch z), (fun _ z => nomatch z)⟩
  · show A.in1.units + 1 + PyData.depth (.str k) < cLine
    have : PyData.depth (.str k) = 0 := by simp [PyData.depth]
    have h2 : A.in1.units = A.units + 1 := rfl
    omega
  · rw [PySem.W.dataLe_str (β := Str) (fun k => k)] at eo
    obtain ⟨c, hc⟩ := sortedHeap_at (vs := vs) (out := out.toArray) hoL
    obtain ⟨rs, rp⟩ := rise_of (pk.nodup_iff.mpr nd)
    refine wpAny_pure ⟨_, rfl, hQ _ s1.heap.objs.size out.toArray c (ks.mergeSort strLe) (fun b u e => ?_) g1 o1 hz hc (by rw [List.toList_toArray]; exact each_strs (fun _ _ h => h) eo) rs (rp.trans pk)⟩
    have q := k1 b u e
    have hlt := Heap.lt_size q
    show (sortedHeap (s1.heap.push (seqObj "list" vs.toArray 0)) s1.heap.objs.size vs out.toArray).get? b = some u
    rw [sortedHeap_old (Nat.ne_of_lt hlt) (by rw [size_push']; exact Nat.lt_succ_of_lt hlt)]
    exact Heap.get?_push_of_some _ q
end
/-- sorted(set(e)), e a tuple of texts -/
def tSortSet (K : PySem.W.Frag) (te : TE) : TE := fun σ H Q => te σ H fun v H1 => ∃ (a : Addr) (xs : List Str), v = .ref a ∧ SqT K H1 a (xs.map V.str) ∧ xs.length < 4000 ∧ ∀ (ys : List Str) (p : Addr), Rise ys → ys.length ≤ xs.length → (∀ x, x ∈ ys ↔ x ∈ xs) → H1 p = none → Q (.ref p) (upd H1 p (.lst (ys.map V.str)))
theorem pe_sortSet {X : Cx} {e : Expr} {te : TE} {p p2 pos pos2 : Pos} (hc : X.calm = true) (hu : X.A.units + 64 < cLine) (hg : Gl X "sorted") (hm : X.mg "sorted" = none) (hg2 : Gl X "set") (hm2 : X.mg "set" = none) (he : PE X e te)
    (hs : starEach [e] X.env = (false, eval e X.env) :: starEach [] X.env := by rfl)
    (hs2 : starEach [.Call (.Name "set" p2) [e] [] pos2] X.env = (false, eval (.Call (.Name "set" p2) [e] [] pos2) X.env) :: starEach [] X.env := by rfl) :
    PE X (.Call (.Name "sorted" p) [.Call (.Name "set" p2) [e] [] pos2] [] pos) (tSortSet X.K te) := by
  refine ⟨fun pins s σ H Q I h => ?_⟩
  refine wpAny_Call_Name_kw (ld_blt I hg hm (by decide +kernel : bootBuiltins "sorted" = some (.builtin "sorted")) ?_)
  refine callWith_builtin1 (args_cons (Call_ (ld_blt I hg2 hm2 (by decide +kernel : bootBuiltins "set" = some (.type "set")) (callWith_type1 (args_cons (thn (he.run pins s σ H _ I h) fun u s1 ⟨v, H1, I1, r1, q1⟩ => args_nil ?_) hs) hs rfl))) hs2) hs2 rfl
  obtain ⟨a, xs, ev, hq, hsm, q⟩ := q1
  subst ev
  obtain rfl : u = Value.ref a := r1
  obtain ⟨its, rv, p', hz⟩ := I1.tuple hq
  have hh := I1.ok.hd hc
  refine tSetOf hh p' (by rw [List.toList_toArray]; exact strs_of_vals rv) hsm fun h' tk hS hk => args_nil ?_
  have I2 : Inv X pins σ H1 { s1 with heap := h', toks := tk } := I1.kept (t' := tk) fun b o e => hk b o (Heap.lt_size e) e
  refine tSorted (s := { s1 with heap := h', toks := tk }) hS hh hu fun s' p3 out c ys k g o hp hget hst hri hpm => ?_
  have hn : H1 p3 = none := I2.hok.fresh hp
  have hys : ys.length ≤ sizeLine := by
    have h1 := putAll_len xs []
    rw [hpm.length_eq, sizeLine_eq]
    rw [List.length_nil] at h1
    omega
  have J : Inv X pins σ (upd H1 p3 (.lst (ys.map V.str))) { ({ s1 with heap := h', toks := tk } : Shared) with heap := s'.heap, gens := s'.gens, drawn := s'.drawn, toks := s'.toks } :=
    I2.call (ch := []) (Un.laid k hp hn) (I2.hok.laid k hp ⟨by rw [List.length_map]; exact hys, out.toList, c, vals_of_strs hst, hget⟩) (by rw [g]; exact I2.bare) (fun _ z => nomatch z)
  have e : s' = { ({ s1 with heap := h', toks := tk } : Shared) with heap := s'.heap, gens := s'.gens, drawn := s'.drawn, toks := s'.toks } := by
    have o2 : s'.os = s1.os := o
    obtain ⟨x1, x2, x3, x4, x5⟩ := s'
    dsimp only at o2 ⊢
    rw [o2]
  rw [e]
  refine ⟨.ref p3, _, J, rfl, q ys p3 hri (by have h1 := putAll_len xs []; rw [List.length_nil] at h1; rw [hpm.length_eq]; omega) (fun x => ?_) hn⟩
  rw [hpm.mem_iff, putAll_mem]
  simp
end Hid

namespace Hid
open PySem PySem.Spec PyProof.Rows L2
abbrev sgAt (h : Str) (i : Nat) : Nat := h.cps.toList.getD i 0
def prAt (h : Str) (i j : Nat) : Str := ⟨#[sgAt h i, sgAt h j]⟩
def HalfS (m : Nat) (h : Str) : Prop := h.cps.size = m ∧ ∀ c ∈ h.cps.toList, c = 110 ∨ c = 121
def fstAt (rs : List Str) (i j : Nat) (p : Str) : Option Str := rs.find? fun h => decide (prAt h i j = p)
def prs : List Str := ["nn", "ny", "yn", "yy"]
def four (rs : List Str) (i j : Nat) : Option (List Str) := match fstAt rs i j "nn", fstAt rs i j "ny", fstAt rs i j "yn", fstAt rs i j "yy" with
  | some a, some b, some c, some d => some [a, b, c, d]
  | _, _, _, _ => none
abbrev srt (hs : List Str) : List Str := hs.mergeSort strLe
abbrev Sorted (l : List Str) : Prop := l.Pairwise fun a b => a.cps.toList ≤ b.cps.toList
theorem srt_sorted (hs : List Str) : Sorted (srt hs) := by
  have h1 : (hs.mergeSort strLe).Pairwise fun a b => strLe a b = true := List.pairwise_mergeSort (le := strLe) (fun a b c x y => by
      unfold strLe at *
      exact decide_eq_true (List.le_trans (of_decide_eq_true x) (of_decide_eq_true y))) (fun a b => by
      unfold strLe
      rcases List.le_total a.cps.toList b.cps.toList with h | h
      · rw [decide_eq_true h]; rfl
      · rw [decide_eq_true h, Bool.or_true]) hs
  exact h1.imp fun h => of_decide_eq_true h
theorem rise_sorted {l : List Str} (h : Rise l) : Sorted l := h.imp fun h => List.le_of_lt h
theorem mem_srt {hs : List Str} {x : Str} : x ∈ srt hs ↔ x ∈ hs := (List.mergeSort_perm hs strLe).mem_iff
theorem srt_len (hs : List Str) : (srt hs).length = hs.length := List.length_mergeSort _
theorem find_least {p : Str → Bool} {x : Str} : ∀ {l : List Str}, Sorted l → l.find? p = some x → ∀ y ∈ l, p y = true → x.cps.toList ≤ y.cps.toList
  | [], _, h, _, _, _ => by cases h
  | z :: l, hs, h, y, hy, py => by
    rw [List.find?_cons] at h
    cases hz : p z with
    | true =>
      rw [hz] at h
      cases h
      rcases List.mem_cons.mp hy with e | e
      · rw [e]; exact List.le_refl _
      · exact (List.pairwise_cons.mp hs).1 y e
    | false =>
      rw [hz] at h
      rcases List.mem_cons.mp hy with e | e
      · rw [e, hz] at py; cases py
      · exact find_least (List.pairwise_cons.mp hs).2 h y e py
theorem find_same {p : Str → Bool} {l m : List Str} (hl : Sorted l) (hm : Sorted m) (e : ∀ x, x ∈ l ↔ x ∈ m) : l.find? p = m.find? p := by
  cases h1 : l.find? p with
  | none =>
    symm
    rw [List.find?_eq_none] at h1 ⊢
    exact fun x hx => h1 x ((e x).mpr hx)
  | some x =>
    have px := List.find?_some h1
    have mx := List.mem_of_find?_eq_some h1
    cases h2 : m.find? p with
    | none =>
      rw [List.find?_eq_none] at h2
      exact absurd px (h2 x ((e x).mp mx))
    | some y =>
      have py := List.find?_some h2
      have my := List.mem_of_find?_eq_some h2
      rw [str_ext (List.le_antisymm (find_least hl h1 y ((e y).mpr my) py) (find_least hm h2 x ((e x).mp mx) px))]
theorem four_same {l m : List Str} (hl : Sorted l) (hm : Sorted m) (e : ∀ x, x ∈ l ↔ x ∈ m) : four l = four m := by
  funext i j
  have h : ∀ p, fstAt l i j p = fstAt m i j p := fun p => find_same hl hm e
  unfold four
  rw [h, h, h, h]
def IsCross (f : Nat → Nat → Option (List Str)) (m : Nat) : Option (Nat × Nat × List Str) → Prop
  | none => ∀ i j, i < j → j < m → f i j = none
  | some (i, j, F) => i < j ∧ j < m ∧ f i j = some F ∧ ∀ i' j', i' < j' → j' < m → (i' < i ∨ i' = i ∧ j' < j) → f i' j' = none
theorem IsCross.uniq {f : Nat → Nat → Option (List Str)} {m : Nat} : ∀ {r r' : Option (Nat × Nat × List Str)}, IsCross f m r → IsCross f m r' → r = r'
  | none, none, _, _ => rfl
  | none, some (i, j, F), h, h' => by
    have := h i j h'.1 h'.2.1
    rw [h'.2.2.1] at this
    cases this
  | some (i, j, F), none, h', h => by
    have := h i j h'.1 h'.2.1
    rw [h'.2.2.1] at this
    cases this
  | some (i, j, F), some (i', j', F'), h, h' => by
    obtain ⟨a1, a2, a3, a4⟩ := h
    obtain ⟨b1, b2, b3, b4⟩ := h'
    have n1 : ¬ (i' < i ∨ i' = i ∧ j' < j) := fun z => by
      have := a4 i' j' b1 b2 z
      rw [b3] at this
      cases this
    have n2 : ¬ (i < i' ∨ i = i' ∧ j < j') := fun z => by
      have := b4 i j a1 a2 z
      rw [a3] at this
      cases this
    obtain ⟨rfl, rfl⟩ : i = i' ∧ j = j' := by omega
    rw [a3] at b3
    cases b3
    rfl
theorem IsCross.ex (f : Nat → Nat → Option (List Str)) (m : Nat) : ∃ r, IsCross f m r := by
  by_cases h : ∃ i j, i < j ∧ j < m ∧ (f i j).isSome = true
  · have dec : ∀ n, (∃ i j, i < j ∧ j < m ∧ i < n ∧ (f i j).isSome = true) → ∃ r, IsCross f m r := by
      intro n
      induction n with
      | zero => rintro ⟨i, j, _, _, h, _⟩; omega
      | succ n ih =>
        intro hx
        by_cases hn : ∃ i j, i < j ∧ j < m ∧ i < n ∧ (f i j).isSome = true
        · exact ih hn
        · have hrow : ∀ k, (∃ j, n < j ∧ j < m ∧ j < k ∧ (f n j).isSome = true) → ∃ r, IsCross f m r := by
            intro k
            induction k with
            | zero => rintro ⟨j, _, _, h, _⟩; omega
            | succ k ihk =>
              intro hy
              by_cases hk : ∃ j, n < j ∧ j < m ∧ j < k ∧ (f n j).isSome = true
              · exact ihk hk
              · obtain ⟨j, h1, h2, h3, h4⟩ := hy
                have hj : j = k := by
                  by_cases hlt : j < k
                  · exact absurd ⟨j, h1, h2, hlt, h4⟩ hk
                  · omega
                subst hj
                obtain ⟨F, hF⟩ := Option.isSome_iff_exists.mp h4
                refine ⟨some (n, j, F), h1, h2, hF, fun i' j' b1 b2 z => ?_⟩
                cases hq : f i' j' with
                | none => rfl
                | some G =>
                  exfalso
                  rcases z with z | ⟨rfl, z⟩
                  · exact hn ⟨i', j', b1, b2, z, by rw [hq]; rfl⟩
                  · exact hk ⟨j', b1, b2, z, by rw [hq]; rfl⟩
          obtain ⟨i, j, a1, a2, a3, a4⟩ := hx
          have hi : i = n := by
            by_cases hlt : i < n
            · exact absurd ⟨i, j, a1, a2, hlt, a4⟩ hn
            · omega
          subst hi
          exact hrow m ⟨j, a1, a2, a2, a4⟩
    obtain ⟨i, j, a, b, c⟩ := h
    exact dec m ⟨i, j, a, b, by omega, c⟩
  · refine ⟨none, fun i j a b => ?_⟩
    cases hq : f i j with
    | none => rfl
    | some G => exact absurd ⟨i, j, a, b, by rw [hq]; rfl⟩ h
/-- one half-row alone crosses nowhere -/
theorem four_one (h : Str) (i j : Nat) : four [h] i j = none := by
  unfold four fstAt
  have e : ∀ p : Str, [h].find? (fun x => decide (prAt x i j = p)) = if prAt h i j = p then some h else none := fun p => by
    rw [List.find?_cons]
    by_cases q : prAt h i j = p
    · rw [decide_eq_true q, if_pos q]
    · rw [decide_eq_false q, if_neg q]; rfl
  rw [e, e]
  by_cases q : prAt h i j = "nn"
  · rw [if_neg (show ¬ prAt h i j = "ny" by rw [q]; decide)]
    split <;> simp_all
  · rw [if_neg q]
theorem prAt_in {m : Nat} {h : Str} {i j : Nat} (hh : HalfS m h) (hi : i < m) (hj : j < m) : prAt h i j = "nn" ∨ prAt h i j = "ny" ∨ prAt h i j = "yn" ∨ prAt h i j = "yy" := by
  have g : ∀ k, k < m → sgAt h k = 110 ∨ sgAt h k = 121 := fun k hk => by
    have hk' : k < h.cps.toList.length := by rw [Array.length_toList, hh.1]; exact hk
    have e : sgAt h k = h.cps.toList[k] := by unfold sgAt; rw [List.getD_eq_getElem?_getD, List.getElem?_eq_getElem hk']; rfl
    rw [e]
    exact hh.2 _ (List.getElem_mem _)
  unfold prAt
  rcases g i hi with a | a <;> rcases g j hj with b | b <;> rw [a, b]
  · exact .inl rfl
  · exact .inr (.inl rfl)
  · exact .inr (.inr (.inl rfl))
  · exact .inr (.inr (.inr rfl))
theorem at_sg {m : Nat} {h : Str} {i : Nat} (hh : HalfS m h) (hi : i < m) : atI h.cps.toList (i : Int) = some (sgAt h i) := by
  have hk' : i < h.cps.toList.length := by rw [Array.length_toList, hh.1]; exact hi
  refine atI_nat ?_
  rw [List.getElem?_eq_getElem hk']
  unfold sgAt
  rw [List.getD_eq_getElem?_getD, List.getElem?_eq_getElem hk']
  rfl
theorem pr_cat (h : Str) (i j : Nat) : ((⟨#[sgAt h i]⟩ : Str) ++ (⟨#[sgAt h j]⟩ : Str)) = prAt h i j := rfl
/-- turned at a place -/
def flip1 (h : Str) (k : Nat) : Str := ⟨(h.cps.toList.set k (if sgAt h k = 110 then 121 else 110)).toArray⟩
theorem flip_half {m k : Nat} {h : Str} (hh : HalfS m h) : HalfS m (flip1 h k) := by
  refine ⟨by unfold flip1; simp; exact hh.1, fun c hc => ?_⟩
  unfold flip1 at hc
  rw [List.toList_toArray] at hc
  rcases List.mem_or_eq_of_mem_set hc with h1 | h1
  · exact hh.2 c h1
  · rw [h1]; split
    · exact .inr rfl
    · exact .inl rfl
end Hid

namespace Hid
open PySem PySem.Spec PyProof.Rows L2
/-! t[::-1] -/
theorem back_pick (xs : Array Value) : ((List.range xs.size).filterMap fun (k : Nat) => xs[(((xs.size : Int) - 1) + (k : Int) * (-1)).toNat]?).toArray = xs.toList.reverse.toArray := by
  congr 1
  have h1 : ((List.range xs.size).filterMap fun (k : Nat) => xs[(((xs.size : Int) - 1) + (k : Int) * (-1)).toNat]?) = (List.range xs.size).map fun k => xs.getD (xs.size - 1 - k) .none := by
    have : ∀ l : List Nat, (∀ k ∈ l, k < xs.size) → (l.filterMap fun (k : Nat) => xs[(((xs.size : Int) - 1) + (k : Int) * (-1)).toNat]?) = l.map fun k => xs.getD (xs.size - 1 - k) .none := by
      intro l
      induction l with
      | nil => intro _; rfl
      | cons k l ih =>
        intro h
        have hk := h k List.mem_cons_self
        have e : (((xs.size : Int) - 1) + (k : Int) * (-1)).toNat = xs.size - 1 - k := by omega
        have hlt : xs.size - 1 - k < xs.size := by omega
        rw [List.filterMap_cons, e, Array.getElem?_eq_getElem hlt, List.map_cons, ← ih fun z hz => h z (List.mem_cons_of_mem _ hz)]
        simp [Array.getD, hlt]
    exact this _ fun k hk => List.mem_range.mp hk
  rw [h1]
  apply List.ext_getElem?
  intro i
  by_cases hi : i < xs.size
  · have hlt : xs.size - 1 - i < xs.size := by omega
    rw [List.getElem?_map, List.getElem?_range hi, List.getElem?_reverse (by rw [Array.length_toList]; exact hi)]
    simp [Array.getD, hlt]
  · rw [List.getElem?_eq_none (by rw [List.length_map, List.length_range]; omega), List.getElem?_eq_none (by rw [List.length_reverse, Array.length_toList]; omega)]
section
variable {prog : Program} {w : World} {A : Around} {E : Value → Shared → Prop} {s : Shared}
theorem back_applied {sl : Addr} {vs : Value} {n : Nat} {Q : Int × Int × Nat → Shared → Prop} (hs : s.heap.IsSliceOf sl .none .none vs) (ps : IsPart vs (some (-1))) (h : Q ((n : Int) - 1, -1, n) s) :
    wpAny (model prog w) A (Builtin.Slice.sliceApplied (.ref sl) (pure (n : Int))) Q E s := by
  obtain ⟨os, hos, hcs, hds⟩ := id hs
  unfold Builtin.Slice.sliceApplied Builtin.Slice.sliceFields
  refine wpAny_bind (wpAny_bind (wpAny_field hos hds (x := .none) rfl (wpAny_bind (wpAny_field hos hds (x := .none) rfl (wpAny_bind (wpAny_field hos hds (x := vs) rfl (wpAny_pure ?_)))))))
  refine wpAny_bind (HT.slicePart_ ps ?_)
  show wpAny _ _ (if ((-1 : Int) == 0) = true then _ else _) _ _ s
  rw [if_neg (by decide)]
  refine wpAny_bind (HT.slicePart_ .none (wpAny_bind (HT.slicePart_ .none (wpAny_bind (wpAny_pure ?_)))))
  have e1 : Builtin.Slice.sliceAdjust none none (-1) (n : Int) = ((n : Int) - 1, -1) := by simp [Builtin.Slice.sliceAdjust]
  have e2 : Builtin.Slice.slicePlaces ((n : Int) - 1) (-1) (-1) = n := by
    unfold Builtin.Slice.slicePlaces
    have h1 : ¬ ((-1 : Int) > 0) := by decide
    simp only [h1, if_false]
    split
    · rw [show (-(-1) : Int) = 1 by decide, Int.ediv_one]
      omega
    · omega
  show wpAny _ _ (match Builtin.Slice.sliceAdjust none none (-1) (n : Int) with | (lo, hi) => pure (lo, (-1 : Int), Builtin.Slice.slicePlaces lo hi (-1))) _ _ s
  rw [e1]
  show wpAny _ _ (pure ((n : Int) - 1, (-1 : Int), Builtin.Slice.slicePlaces ((n : Int) - 1) (-1) (-1))) _ _ s
  rw [e2]
  exact wpAny_pure h
theorem back_item {t sl : Addr} {items : Array Value} {vs : Value} {Q : Value → Shared → Prop} (ht : IsTup s.heap t items) (hs : s.heap.IsSliceOf sl .none .none vs) (ps : IsPart vs (some (-1))) (hsz : items.size ≤ sizeLine)
    (h : Q (.ref s.heap.objs.size) { s with heap := s.heap.push { cls := .type "tuple", data := .seq items.toList.reverse.toArray } }) : wpAny (model prog w) A (getItem (.ref t) (.ref sl)) Q E s := by
  have hok : sizeOk (.seq items.toList.reverse.toArray) := by
    show items.toList.reverse.toArray.size ≤ sizeLine
    simpa using hsz
  obtain ⟨os, hos, hcs, hds⟩ := id hs
  have hTs : s.TypeIs (.ref sl) "slice" := ⟨os, hos, hcs⟩
  unfold getItem
  try with_reducible refine wpAny_holding ?_
  first | refine wpAny_bind (wpAny_pure ?_) | skip
  refine wpAny_bind (wpAny_sequenceKey ht.typeIs (by decide) ?_)
  refine wpAny_bind (wpAny_callSpecial?_slot (name := Str.ofString "__getitem__") ht.typeIs PyProof.Rows.slot_tuple_getitem (wpAny_call_entry PyProof.Rows.slot_tuple_getitem ht.typeIs entry_tuple_getitem ?_ (args_tuple_getitem _ _)))
  show wpAny _ _ (Builtin.Tuple.tupleItemsOf (.ref t) >>= _) _ _ s
  refine wpAny_bind (tupleItemsOf_ ht (wpAny_bind (wpAny_typeOf hTs ?_)))
  rw [if_pos (by decide)]
  refine wpAny_bind (back_applied hs ps ?_)
  show wpAny _ _ (if (((items.size : Int) - 1 == 0 && (-1 : Int) == 1) && items.size == items.size) = true then _ else _) _ _ s
  rw [if_neg (by intro z; rw [Bool.and_eq_true, Bool.and_eq_true] at z; exact absurd z.1.2 (by decide)), back_pick]
  first
    | exact wpAny_bind (m := Builtin.Tuple.tupleExact _) (wpAny_newObj_type (wpAny_pure ⟨_, rfl, wpAny_pure h⟩) hok)
    | exact wpAny_bind (m := Builtin.Tuple.tupleExact _) (wpAny_newObj_type (wpAny_bind (wpAny_pure (wpAny_pure ⟨_, rfl, wpAny_pure h⟩))) hok)
    | exact wpAny_bind (wpAny_bind (m := Builtin.Tuple.tupleExact _) (wpAny_newObj_type (wpAny_pure (wpAny_pure ⟨_, rfl, wpAny_pure h⟩)) hok))
    | exact wpAny_bind (wpAny_bind (m := Builtin.Tuple.tupleExact _) (wpAny_newObj_type (wpAny_pure ⟨_, rfl, wpAny_pure h⟩) hok))
/-- sorted(t), t a tuple of texts -/
theorem sorted_tupS {l : Addr} {items : Array Value} {ks : List Str} {Q : Value → Shared → Prop} (ht : IsTup s.heap l items) (hi : StrsAre items.toList ks) (hz : items.size ≤ 100000) (hu : A.units + 64 < cLine)
    (hQ : ∀ (h1 h' : Heap) (out : Array Value) (c : Nat), (∀ b o, s.heap.get? b = some o → h1.get? b = some o) → (∀ b o, h1.get? b = some o → h'.get? b = some o) → h'.get? h1.objs.size = some (seqObj "list" out c) → StrsAre out.toList (ks.mergeSort strLe) → Q (.ref h1.objs.size) { s with heap := h' }) :
    wpAny (model prog w) A (call (.builtin "sorted") [.ref l]) Q E s := by
  obtain ⟨o, ho, hc, n, hd⟩ := id ht
  refine Calls.call_function_entry kind_sorted plain_sorted entry_sorted (args_sorted1 _) ?_
  unfold Builtin.«sorted»
  have hsz : items.size ≤ sizeLine := Nat.le_trans hz (by decide)
  refine wpAny_bind (m := checkCount "sorted" 1 1 _) (wpAny_pure (wpAny_bind (wpAny_collect_seq (A := A.in1) l (.inr rfl) ho hc hd (fun h1 k1 => ?_) hsz)))
  have hlen : items.toList.length ≤ sizeLine := by rw [Array.length_toList]; exact hsz
  have ek : PySem.W.EachIs (fun v k => ∃ t, v = Value.str k t) items.toList ks := by
    clear hQ
    generalize items.toList = vs at hi
    induction hi with
    | nil => exact .nil
    | cons k t _ ih => exact .cons ⟨t, rfl⟩ ih
  have hkl : ks.length = items.toList.length := ek.length.symm
  refine wpAny_bind (wpAny_newList ?_ hlen)
  have hoL : (h1.push (seqObj "list" items.toList.toArray 0)).get? h1.objs.size = some (seqObj "list" items.toList.toArray 0) := Heap.get?_push_size _ rfl
  refine wpAny_bind (wpAny_holding ?_)
  refine PySem.W.list_sort_data (s := { s with heap := h1.push (seqObj "list" items.toList.toArray 0) }) (enc := fun k : Str => PyData.str k) hoL ek (each_mono2 (fun v k h => ?_) ek) ?_ ?_ (by rw [hkl]; exact hlen) (fun k _ => ?_) fun out hlo eo => ?_
  · obtain ⟨t, rfl⟩ := h
    exact ⟨[], .str k t, fun m => nomatch m⟩
  · exact PySem.W.AllAlike.of fun _ _ => by simp [PySem.W.alike]
  · exact PySem.W.Sortable.others fun _ => ⟨(fun z => nomatch z), (fun _ z => nomatch z)⟩
  · show A.in1.units + 1 + PyData.depth (.str k) < cLine
    have : PyData.depth (.str k) = 0 := by simp [PyData.depth]
    have h2 : A.in1.units = A.units + 1 := rfl
    omega
  · rw [PySem.W.dataLe_str (β := Str) (fun k => k)] at eo
    obtain ⟨c, hcc⟩ := sortedHeap_at (vs := items.toList) (out := out.toArray) hoL
    refine wpAny_pure ⟨_, rfl, hQ h1 _ out.toArray c k1 (fun b u q => ?_) hcc (by rw [List.toList_toArray]; exact each_strs (fun _ _ h => h) eo)⟩
    have hlt := Heap.lt_size q
    show (sortedHeap (h1.push (seqObj "list" items.toList.toArray 0)) h1.objs.size items.toList out.toArray).get? b = some u
    rw [sortedHeap_old (Nat.ne_of_lt hlt) (by rw [size_push']; exact Nat.lt_succ_of_lt hlt)]
    exact Heap.get?_push_of_some _ q
end
section
variable {X : Cx}
def tRevT (K : PySem.W.Frag) (te : TE) : TE := fun σ H Q => te σ H fun x H1 => ∃ a xs, x = .ref a ∧ SqT K H1 a xs ∧ ∀ p, H1 p = none → Q (.ref p) (upd H1 p (.tup xs.reverse))
theorem pe_revT {e : Expr} {te : TE} {k : Nat} {p1 p2 p3 pos : Pos} (he : PE X e te) : PE X (.Subscript e (.Slice none none (some (.UnaryOp .USub (.Constant (.int 1) k p1) p2)) p3) pos) (tRevT X.K te) := by
  refine ⟨fun pins s σ H Q I h => ?_⟩
  refine Subscript_ (thn (he.run pins s σ H _ I h) fun v s1 ⟨x, H1, I1, r1, a, xs, ex, hx, q⟩ => ?_)
  subst ex
  cases r1
  have hst : PO X (some (.UnaryOp .USub (.Constant (.int 1) k p1) p2)) (tPart (tUn (rU fun i => .int (-i)) (tC (.int 1)))) := po_some (pe_un un_neg pe_int)
  refine wpAny_Slice (thn (po_none.run pins s1 σ H1 (fun o H2 => o = none ∧ H2 = H1) I1 ⟨rfl, rfl⟩) fun vl s2 ⟨l, H2, I2, pl, el, e2⟩ => ?_)
  subst el e2
  refine thn (po_none.run pins s2 σ H2 (fun o H3 => o = none ∧ H3 = H2) I2 ⟨rfl, rfl⟩) fun vu s3 ⟨u, H3, I3, pu, eu, e3⟩ => ?_
  subst eu e3
  refine thn (hst.run pins s3 σ H3 (fun o H4 => o = some (-1) ∧ H4 = H3) I3 ⟨1, rfl, -1, rfl, rfl, rfl⟩) fun vs s4 ⟨o, H4, I4, ps, eo, e4⟩ => ?_
  subst eo e4
  cases pl
  cases pu
  have I5 : Inv X pins σ H4 { s4 with heap := s4.heap.push { cls := .type "slice", data := .fields #[.none, .none, vs] } } := I4.kept (t' := s4.toks) fun b ob z => Heap.get?_push_of_some _ z
  obtain ⟨its, r, ht, hz⟩ := I5.tuple hx
  show wpAny (model X.prog X.w) X.A (subscriptTail e (.Slice none none (some (.UnaryOp .USub (.Constant (.int 1) k p1) p2)) p3) (.ref a) (.ref s4.heap.objs.size)) (EP X pins σ Q) X.xe { s4 with heap := s4.heap.push { cls := .type "slice", data := .fields #[.none, .none, vs] } }
  refine tail_any (ops := [.ref a, .ref s4.heap.objs.size]) ht.typeIs (PyProof.Rows.slot_tuple_getitem.lookup) ?_ (by with_unfolding_all rfl)
  refine back_item ht (Heap.IsSliceOf.new _ .none .none vs) ps (by rw [List.size_toArray, ← r.length]; exact hz) ?_
  refine ⟨.ref _, _, I5.laid (t' := s4.toks) (o := .tup xs.reverse) (fun b ob z => Heap.get?_push_of_some _ z) (Nat.le_refl _) ?_, rfl, q _ (I5.hok.fresh (Nat.le_refl _))⟩
  refine ⟨by rw [List.length_reverse]; exact hz, its.reverse, r.reverse, ?_⟩
  rw [List.toList_toArray]
  exact IsTup.new _ _
theorem cr_sortedT (hu : X.A.units + 64 < cLine) : CallR X (.builtin "sorted") (fun vs H Q => ∃ (a : Addr) (xs : List Str), vs = [.ref a] ∧ SqT X.K H a (xs.map V.str) ∧ xs.length ≤ 100000 ∧ ∀ p, H p = none → Q (.ref p) (upd H p (.lst ((xs.mergeSort strLe).map V.str)))) := by
  intro pins s σ H vs us Q I r h
  obtain ⟨a, xs, rfl, hs, hl, q⟩ := h
  obtain ⟨its, rv, ht, hz⟩ := I.tuple hs
  rw [Vals.ref1 r]
  refine sorted_tupS (ks := xs) ht (by rw [List.toList_toArray]; exact strs_of_vals rv) (by rw [List.size_toArray, ← rv.length, List.length_map]; exact hl) hu fun h1 h' out c k1 k2 hget hst => ?_
  have I1 := I.kept (t' := s.toks) k1
  refine ⟨.ref h1.objs.size, _, I1.laid (t' := s.toks) (o := .lst ((xs.mergeSort strLe).map V.str)) k2 (Nat.le_refl _) ⟨?_, out.toList, c, vals_of_strs hst, hget⟩, rfl, q _ (I1.hok.fresh (Nat.le_refl _))⟩
  rw [List.length_map, List.length_mergeSort]
  exact Nat.le_trans hl (by decide)
end
end Hid

namespace Hid
open PySem PySem.Spec PyProof.Rows L2 Evl
theorem map_range_getD' {α : Type} (l : List α) (d : α) : (List.range l.length).map (fun n => l.getD n d) = l := by
  apply List.ext_getElem?
  intro n
  by_cases h : n < l.length
  · rw [List.getElem?_map, List.getElem?_range h, List.getElem?_eq_getElem h]
    simp [List.getD_eq_getElem?_getD, h]
  · rw [List.getElem?_eq_none (by rw [List.length_map, List.length_range]; omega), List.getElem?_eq_none (by omega)]
section
variable {K : PySem.W.Frag} {σ : L2.St} {H H' : Hp} {ta tb tc te tl : TE} {t : TT}
theorem u1 {k : Nat} {A : Around} (r : Room k A) : A.units + 1 < cLine := by have := r.un; omega
theorem ev_lenT {p : Addr} {xs : List V} (ha : Ev ta σ H (.ref p)) (h : SqT K H p xs) : Ev (tCB (rLenS K) (tCons ta tNil)) σ H (.int (xs.length : Int)) := fun H1 e Q q =>
  ha H1 e _ fun H2 e2 => ⟨p, xs, rfl, .inr (ex_t (e.trans e2) h), q H2 e2⟩
theorem ev_lenS {w : Str} (ha : Ev ta σ H (.str w)) (hw : w.length ≤ 100000) : Ev (tCB (fun xs H Q => ∃ z, xs = [V.str z] ∧ z.length ≤ sizeLine ∧ Q (.int z.length) H) (tCons ta tNil)) σ H (.int (w.length : Int)) := fun H1 e Q q =>
  ha H1 e _ fun H2 e2 => ⟨w, rfl, sz_of hw, q H2 e2⟩
def rTupOf (K : PySem.W.Frag) : List V → Hp → VK → Prop := fun xs H Q => ∃ p ys, xs = [.ref p] ∧ ((SqL K H p ys ∧ ∀ l, H l = none → Q (.ref l) (upd H l (.tup ys))) ∨ (SqT K H p ys ∧ Q (.ref p) H))
theorem eu_tupOf {xs : List V} (h : EvL tl σ H xs) : EvU (tCB (rTupOf K) (tCons tl tNil)) σ H xs := fun H1 e Q q =>
  h H1 e _ fun p H2 hp e2 h2 => ⟨p, xs, rfl, .inl ⟨sq_of h2, fun l hl => q l _ (fresh_back e2 hl) (e2.trans (Ex.new hl)) upd_same⟩⟩
theorem eu_tupOfV {p : Addr} {xs : List V} (h : Ev tl σ H (.ref p)) (hs : SqL K H p xs) : EvU (tCB (rTupOf K) (tCons tl tNil)) σ H xs := fun H1 e Q q =>
  h H1 e _ fun H2 e2 => ⟨p, xs, rfl, .inl ⟨ex_l (e.trans e2) hs, fun l hl => q l _ (fresh_back e2 hl) (e2.trans (Ex.new hl)) upd_same⟩⟩
theorem rv_catS {a b : Str} (ha : a.length ≤ 1000) (hb : b.length ≤ 1000) : RV (fun x y H Q => ∃ i j, x = .str i ∧ y = .str j ∧ i.length + j.length ≤ sizeLine ∧ Q (.str (i ++ j)) H) (.str a) (.str b) H (.str (a ++ b)) := fun H1 e Q q =>
  ⟨a, b, rfl, rfl, sz_of (by omega), q H1 (Ex.refl _)⟩
theorem rv_notN {x : V} : RV (fun x y H Q => y = .non ∧ Q (.bl (!decide (x = .non))) H) x .non H (.bl (!decide (x = .non))) := fun H1 _ _ q => ⟨rfl, q H1 (Ex.refl _)⟩
theorem rv_isN {x : V} : RV (fun x y H Q => y = .non ∧ Q (.bl (decide (x = .non))) H) x .non H (.bl (decide (x = .non))) := fun H1 _ _ q => ⟨rfl, q H1 (Ex.refl _)⟩
theorem el_slN {xs : List V} {tl th : TO} {lo hi : Option Int} (h : EvL te σ H xs) (h1 : EvO tl σ H lo) (h2 : EvO th σ H hi) : EvL (tSl (rSlL K) te tl th) σ H (cutV xs lo hi) := fun H1 e Q q =>
  h H1 e _ fun p H2 hp e2 hx => h1 H2 (e.trans e2) _ fun H3 e3 => h2 H3 ((e.trans e2).trans e3) _ fun H4 e4 => ⟨p, xs, rfl, sq_of (e4 _ _ (e3 _ _ hx)), fun r hr =>
    q r _ (fresh_back (e2.trans (e3.trans e4)) hr) ((e2.trans (e3.trans e4)).trans (Ex.new hr)) upd_same⟩
theorem ev_slS {w : Str} {tl th : TO} {lo hi : Option Int} (h : Ev te σ H (.str w)) (h1 : EvO tl σ H lo) (h2 : EvO th σ H hi) (hw : w.length ≤ 100000) : Ev (tSl rSlS te tl th) σ H (.str (cutS w lo hi)) := fun H1 e Q q =>
  h H1 e _ fun H2 e2 => h1 H2 (e.trans e2) _ fun H3 e3 => h2 H3 ((e.trans e2).trans e3) _ fun H4 e4 => ⟨w, rfl, sz_of hw, q H4 (e2.trans (e3.trans e4))⟩
theorem el_lcT {a : Addr} {xs : List V} {tl : TE} {j : Nat} {vs : List Nat} (f : Nat → Bool) (v : Nat → V) (h : Ev tl σ H (.ref a)) (hx : SqT K H a xs) (hz : xs.length ≤ 40000) (hw : ∀ x, wipe ((wipe σ vs).set j (some x)) vs = wipe σ vs)
    (ht : ∀ (i : Nat) (x : V) H1, Ex H H1 → xs[i]? = some x → EvT t ((wipe σ vs).set j (some x)) H1 (f i)) (he : ∀ (i : Nat) (x : V) H1, Ex H H1 → xs[i]? = some x → f i = true → Ev te ((wipe σ vs).set j (some x)) H1 (v i)) :
    EvL (tLc (iTup K tl) (gName j) t te vs) σ H (given xs.length f v) := fun H0 e Q q => h H0 e _ fun H1 e1 => ⟨a, rfl, ⟨xs, ex_t (e.trans e1) hx⟩, fun Dl hD =>
  lc_tup (xs := xs) (Cw H1 f v Dl) ⟨hD, Ex.new hD, upd_same⟩ (fun i H' _ p => ex_t ((e.trans e1).trans p.2.1) hx) (fun i x H' hi p => ⟨hw x, cw_turn p (by have := (List.getElem?_eq_some_iff.mp hi).1; omega) (ht i x H1 (e.trans e1) hi) (fun hf => he i x H1 (e.trans e1) hi hf)⟩)
    (fun H' p => q Dl H' (fresh_back e1 p.1) (e1.trans p.2.1) p.2.2)⟩
/-! values told by a word that stays -/
def EvP (te : TE) (σ : L2.St) (H : Hp) (P : V → Hp → Prop) : Prop := ∀ H1, Ex H H1 → ∀ Q : VK, (∀ v H2, Ex H1 H2 → P v H2 → Q v H2) → te σ H1 Q
def EvPs (ta : TA) (σ : L2.St) (H : Hp) (P : List V → Hp → Prop) : Prop := ∀ H1, Ex H H1 → ∀ Q : List V → Hp → Prop, (∀ v H2, Ex H1 H2 → P v H2 → Q v H2) → ta σ H1 Q
def TupV (K : PySem.W.Frag) (xs : List V) (v : V) (H : Hp) : Prop := ∃ a, v = .ref a ∧ SqT K H a xs
theorem TupV.ex {xs : List V} {v : V} (e : Ex H H') (h : TupV K xs v H) : TupV K xs v H' := let ⟨a, h1, h2⟩ := h; ⟨a, h1, ex_t e h2⟩
abbrev TupVs (K : PySem.W.Frag) (xss : List (List V)) (vs : List V) (H : Hp) : Prop := Paired (fun v xs => TupV K xs v H) vs xss
theorem eps_nil : EvPs tNil σ H (TupVs K []) := fun H1 _ Q q => q [] H1 (Ex.refl _) .nil
theorem eps_cons {ts : TA} {xs : List V} {xss : List (List V)} (h : EvP ta σ H (TupV K xs)) (hr : EvPs ts σ H (TupVs K xss)) : EvPs (tCons ta ts) σ H (TupVs K (xs :: xss)) := fun H1 e Q q =>
  h H1 e _ fun v H2 e2 hv => hr H2 (e.trans e2) _ fun vs H3 e3 hvs => q _ H3 (e2.trans e3) (.cons (hv.ex e3) hvs)
theorem ep_var {a : Addr} {xs : List V} (h : Ev te σ H (.ref a)) (hs : SqT K H a xs) : EvP te σ H (TupV K xs) := fun H1 e Q q => h H1 e _ fun H2 e2 => q _ H2 e2 ⟨a, rfl, ex_t (e.trans e2) hs⟩
theorem ep_new {xs : List V} (h : EvU te σ H xs) : EvP te σ H (TupV K xs) := fun H1 e Q q => h H1 e _ fun p H2 hp e2 h2 => q _ H2 e2 ⟨p, rfl, st_of h2⟩
theorem ep_rev {a : Addr} {xs : List V} (h : Ev te σ H (.ref a)) (hs : SqT K H a xs) : EvP (tRevT K te) σ H (TupV K xs.reverse) := fun H1 e Q q =>
  h H1 e _ fun H2 e2 => ⟨a, xs, rfl, ex_t (e.trans e2) hs, fun p hp => q _ _ (e2.trans (Ex.new hp)) ⟨p, rfl, st_of upd_same⟩⟩
theorem cut_whole {xs : List V} {lo hi : Option Int} (h : HT.sIx xs.length 0 lo = 0 ∧ HT.sIx xs.length xs.length hi = xs.length) : cutV xs lo hi = xs := by
  unfold cutV
  rw [h.1, h.2, List.drop_zero, Nat.sub_zero, List.take_length]
theorem ep_sl {a : Addr} {xs : List V} {tl th : TO} {lo hi : Option Int} (h : Ev te σ H (.ref a)) (hs : SqT K H a xs) (h1 : EvO tl σ H lo) (h2 : EvO th σ H hi) : EvP (tSl (rSlA K) te tl th) σ H (TupV K (cutV xs lo hi)) := fun H1 e Q q =>
  h H1 e _ fun H2 e2 => h1 H2 (e.trans e2) _ fun H3 e3 => h2 H3 ((e.trans e2).trans e3) _ fun H4 e4 => by
    have e14 : Ex H1 H4 := e2.trans (e3.trans e4)
    refine ⟨a, xs, rfl, ex_t (e.trans e14) hs, fun hw => q _ H4 e14 ⟨a, rfl, ?_⟩, fun _ p hp => q _ _ (e14.trans (Ex.new hp)) ⟨p, rfl, st_of upd_same⟩⟩
    rw [cut_whole hw]
    exact ex_t (e.trans e14) hs
theorem ep_cat {xs ys : List V} (ha : EvP ta σ H (TupV K xs)) (hb : EvP tb σ H (TupV K ys)) (hl : xs.length + ys.length ≤ 100000) : EvP (tOp (rCatA K) ta tb) σ H (TupV K (xs ++ ys)) := fun H1 e Q q =>
  ha H1 e _ fun v H2 e2 ⟨a, ea, sa⟩ => hb H2 (e.trans e2) _ fun w H3 e3 ⟨b, eb, sb⟩ => by
    subst ea eb
    refine ⟨a, b, xs, ys, rfl, rfl, ex_t e3 sa, sb, sz_of hl, fun hx => ?_, fun _ hy => ?_, fun _ _ p hp => q _ _ ((e2.trans e3).trans (Ex.new hp)) ⟨p, rfl, st_of upd_same⟩⟩
    · subst hx
      exact q _ H3 (e2.trans e3) ⟨b, rfl, sb⟩
    · subst hy
      rw [List.append_nil] at q
      exact q _ H3 (e2.trans e3) ⟨a, rfl, ex_t e3 sa⟩
theorem ep_rep {a : Addr} {xs : List V} {k : Int} (ha : Ev ta σ H (.ref a)) (hs : SqT K H a xs) (hb : Ev tb σ H (.int k)) (h0 : xs ≠ []) (hk : 2 ≤ k ∧ k ≤ 1000) (hl : xs.length ≤ 1000) : EvP (tOp (rRepT K) ta tb) σ H (TupV K (List.replicate k.toNat xs).flatten) := fun H1 e Q q =>
  ha H1 e _ fun H2 e2 => hb H2 (e.trans e2) _ fun H3 e3 => ⟨a, k, xs, rfl, rfl, ex_t ((e.trans e2).trans e3) hs, h0, hk.1, hk.2, hl, fun p hp => q _ _ ((e2.trans e3).trans (Ex.new hp)) ⟨p, rfl, st_of upd_same⟩⟩
/-! what is told of a crossing -/
def ResF (H : Hp) (v : V) : Option (List Str) → Prop
  | none => v = .non
  | some F => ∃ q, v = .ref q ∧ H q = some (.tup (F.map V.str))
def ResX (H : Hp) (v : V) : Option (Nat × Nat × List Str) → Prop
  | none => v = .non
  | some (i, j, F) => ∃ p q, v = .ref p ∧ H p = some (.tup [.int i, .int j, .ref q]) ∧ H q = some (.tup (F.map V.str))
theorem ResX.ex {v : V} : ∀ {r : Option (Nat × Nat × List Str)}, Ex H H' → ResX H v r → ResX H' v r
  | none, _, h => h
  | some (i, j, F), e, h => let ⟨p, q, h1, h2, h3⟩ := h; ⟨p, q, h1, e _ _ h2, e _ _ h3⟩
def dX : Option (Nat × Nat × List Str) → PyData
  | none => .none
  | some (i, j, F) => .tuple [.int i, .int j, .tuple (F.map PyData.str)]
theorem strs_dp : ∀ F : List Str, DpAll K H (F.map V.str) (F.map PyData.str)
  | [] => .nil
  | x :: F => .cons (.str x) (strs_dp F)
theorem ResX.dp {v : V} : ∀ {r : Option (Nat × Nat × List Str)}, ResX H v r → Dp K H v (dX r)
  | none, h => by
    cases h
    exact .non
  | some (i, j, F), h => by
    obtain ⟨p, q, rfl, h2, h3⟩ := h
    exact .tup (st_of h2) (.cons (.int _) (.cons (.int _) (.cons (.tup (st_of h3) (strs_dp F)) .nil)))
theorem four_shape {rs : List Str} {i j : Nat} {F : List Str} (h : four rs i j = some F) : ∃ a b c d, F = [a, b, c, d] := by
  unfold four at h
  split at h
  · cases h
    exact ⟨_, _, _, _, rfl⟩
  · cases h
theorem four_mem {rs : List Str} {i j : Nat} {F : List Str} (h : four rs i j = some F) : ∀ x ∈ F, x ∈ rs := by
  unfold four at h
  split at h
  · rename_i a b c d h1 h2 h3 h4
    cases h
    have g : ∀ {p : Str} {y : Str}, fstAt rs i j p = some y → y ∈ rs := fun e => List.mem_of_find?_eq_some e
    intro x hx
    simp only [List.mem_cons, List.not_mem_nil, or_false] at hx
    rcases hx with rfl | rfl | rfl | rfl
    · exact g h1
    · exact g h2
    · exact g h3
    · exact g h4
  · cases h
theorem strOk_sm {l : List Nat} (h : ∀ c ∈ l, c < 200) : PyData.strOk (tx l) = true := by
  unfold PyData.strOk; rw [Array.all_eq_true]; intro i hi
  have hi' : i < l.length := by simpa [tx] using hi
  have := h l[i] (List.getElem_mem hi')
  exact decide_eq_true (by show l[i] < 0x110000; omega)
theorem half_strOk {m : Nat} {h : Str} (hh : HalfS m h) : PyData.canLay0 (.str h) = true := by
  have e : h = tx h.cps.toList := by cases h; simp [tx]
  rw [e]
  simp [PyData.canLay0]
  exact strOk_sm fun c hc => by rcases hh.2 c hc with z | z <;> omega
theorem dX_shaped {rs : List Str} {m m2 : Nat} (hr : ∀ h ∈ rs, HalfS m2 h) : ∀ {r : Option (Nat × Nat × List Str)}, IsCross (four rs) m r → SeqAt.shaped (dX r) = true
  | none, _ => rfl
  | some (i, j, F), h => by
    have hm := four_mem h.2.2.1
    obtain ⟨a, b, c, d, rfl⟩ := four_shape h.2.2.1
    have g : ∀ x ∈ [a, b, c, d], PyData.canLay0 (.str x) = true := fun x hx => half_strOk (hr x (hm x hx))
    have ga := g a (by simp)
    have gb := g b (by simp)
    have gc := g c (by simp)
    have gd := g d (by simp)
    unfold SeqAt.shaped
    simp only [PyData.canLay0] at ga gb gc gd
    simp [dX, PyData.canLay0, PyData.canLayAll0, PyData.depth, PyData.depthAll, ga, gb, gc, gd]
end
end Hid

namespace Hid
open PySem PySem.Spec PyProof.Rows L2
/-! a code object's table, held by its form -/
def TabOk (P : Addr) (h : Heap) : Prop := ∃ ps : Array Value, h.get? P = some (PySem.W.tabObj ps) ∧ TriplesOk ps.toList
def TabX (P : Addr) : HO := .ext (TabOk P)
theorem tabX_ok {Pr : Program} {w : World} {H : Hp} {h : Heap} {P : Addr} (x : TabOk P h) : ObjOk Pr w H h P (TabX P) := by
  obtain ⟨ps, e, t⟩ := x
  exact ⟨⟨ps, e, t⟩, ⟨_, e⟩, fun h1 h2 p k => let ⟨ps, e, t⟩ := p; ⟨ps, k _ e, t⟩⟩
theorem upd_id {H : Hp} {a : Addr} {o : HO} (h : H a = some o) : upd H a o = H := by
  funext b
  by_cases e : b = a
  · rw [e, upd_same, h]
  · exact upd_ne e
section
variable {X : Cx} {pins : List (Addr × Obj)} {σ : L2.St} {H : Hp} {s : Shared}
theorem inv_code {P : Addr} {h' : Heap} {t : Nat} (I : Inv X pins σ H s) (hP : H P = some (TabX P)) (k : ∀ b o, b ≠ P → s.heap.get? b = some o → h'.get? b = some o) (hn : TabOk P h') : Inv X pins σ H { s with heap := h', toks := t } := by
  have J := I.write (x := P) (e := P) (o := TabX P) (h' := h') (t' := t) (by rw [hP]; trivial) (.inl rfl) k (let ⟨_, e, _⟩ := hn; ⟨_, e⟩) (tabX_ok hn)
  rwa [upd_id hP] at J
/-- the context of a generator expression's own frame -/
abbrev gx (X : Cx) (s : Shared) (H : Hp) (A' : Around) (cenv : Env) (fp : List Addr) (pn : List (Addr × Obj)) : Cx :=
  { X with A := A', s_0 := s, H_0 := H, env := cenv, outer := X.stack, stack := cenv :: X.stack, ex := fp, fn := fun _ => false, pn := pn, xe := fun _ _ => False }
/-- it stands at its start -/
theorem gx_start {scope : Scope} {own : List (Str × Nat)} {fp : List Addr} {A' : Around} {code : Value} {s6 : Shared} {a : Addr} {go : Obj} {m0 : Str → Option Value} (I : Inv X pins σ H s) (hN : X.N.Nodup) (ok : BlkOk X.N X.env.scope scope own) (hnc : ∀ y ∈ scope.names, y.2 ≠ .cell)
    (hfp : ∀ b ∈ fp, FpOk X pins H b ∧ b < s.heap.objs.size) (hA : A'.handled = none) (hF : A'.frames = some (genEnv scope (cloFrom X.env.cells scope.names []) s.heap.objs.size code builtinsNs X.env :: X.stack))
    (kp : ∀ b o, s.heap.get? b = some o → s6.heap.get? b = some o) (hns : s6.heap.Ns s.heap.objs.size m0) (hos : s6.os = s.os) (hb : AllBare s6.gens) (ha : s.heap.objs.size < a) (hgo : s6.heap.get? a = some go) (hgc : ∀ v, go.data ≠ .cell v) :
    Inv (gx X s H A' (genEnv scope (cloFrom X.env.cells scope.names []) s.heap.objs.size code builtinsNs X.env) fp [(a, go)]) [] (wipe σ (own.map (·.2))) H s6 := by
  have hcl : ∀ {y c}, (cloFrom X.env.cells scope.names []).lookup y = some c → scope.names.lookup y = some .free ∧ X.env.cells.lookup y = some c := fun {y c} e => by
    rcases cloFrom_mem (PySem.mem_of_lookup e) with z | ⟨z, hc⟩
    · cases z
    · refine ⟨ok.uniq _ z, ?_⟩
      have hx : ∃ d, X.env.cells.lookup y = some d := by
        rcases ok.free _ z rfl with q | q
        · exact I.ok.has _ (.inl q)
        · exact I.ok.has _ (.inr q)
      obtain ⟨d, hd⟩ := hx
      rw [hc, hd]
      rfl
  have hfr : ∀ {y}, scope.names.lookup y = some .free → ∃ c, (cloFrom X.env.cells scope.names []).lookup y = some c := fun {y} e => mem_lookup (cloFrom_has (PySem.mem_of_lookup e))
  have hcs : ∀ {y c}, X.env.cells.lookup y = some c → c < s.heap.objs.size := fun {y c} e => by
    obtain ⟨v, z⟩ := I.cell y c e
    exact z.lt
  have okG : (gx X s H A' (genEnv scope (cloFrom X.env.cells scope.names []) s.heap.objs.size code builtinsNs X.env) fp [(a, go)]).Ok := by
    refine ⟨I.ok.mod, ok.kind, I.ok.glob, rfl, Nat.le_refl _, fun y z c e1 e2 => I.ok.inj y z c (hcl e1).2 (hcl e2).2, fun y hy => ?_, (fun y c z => Bool.noConfusion (show false = true from z)), fun _ => hA, hF, .inr ⟨rfl, rfl⟩, fun b hb => ⟨Nat.ne_of_lt (hfp b hb).2, fun y c e => ?_⟩,
      I.bs, Nat.le_trans I.ok.bsz I.sz, fun b o e hb => ?_, fun b hb z => ?_, I.stack, I.stkFree⟩
    · rcases hy with hy | hy
      · exact absurd rfl (hnc _ (PySem.mem_of_lookup (show scope.names.lookup y = _ from hy)))
      · exact hfr hy
    · obtain ⟨_, _, _, _, f5, _⟩ := (hfp b hb).1
      exact f5 y c (hcl e).2
    · obtain ⟨_, _, _, f4, _, _⟩ := (hfp b hb).1
      rcases f4 with z | z
      · exact I.ok.noex b o e z
      · have h1 := Heap.lt_size e
        have h2 := I.ok.bsz
        exact Nat.lt_irrefl _ (Nat.lt_of_lt_of_le h1 (Nat.le_trans h2 z))
    · obtain ⟨_, f2, f3, _, _, _⟩ := (hfp b hb).1
      rcases List.mem_cons.mp (I.stkSub b z) with q | q
      · exact f2 q
      · exact f3 q
  have hCn : H s.heap.objs.size = none := I.hok.fresh (Nat.le_refl _)
  refine ⟨okG, hos, hb, Un.kept kp, ⟨m0, hns, fun i y av e1 e2 e3 => ?_⟩, fun y c e => ?_, hCn, fun y c e => I.freeC y c (hcl e).2, fun p hp => ?_, I.hok.kept kp, by rw [wipe_length]; exact I.len⟩
  · obtain ⟨e2, hne⟩ := wipe_some e2
    have e3' : Vis scope y := e3
    have hfree : scope.names.lookup y = some .free := by
      have no : ∀ k, (k = NameKind.local ∨ k = .cell) → scope.names.lookup y = some k → False := fun k hk e => by
        rcases ok.own _ (PySem.mem_of_lookup e) hk with q | q
        · obtain ⟨p, hp, hpy⟩ := List.mem_map.mp q
          have e5 := ok.ix p hp
          rw [show p.1 = y from hpy] at e5
          exact hne (List.mem_map.mpr ⟨p, hp, nodup_ix hN e5 e1⟩)
        · exact q (List.mem_of_getElem? e1)
      rcases e3' with q | q | q
      · exact (no _ (.inl rfl) q).elim
      · exact (no _ (.inr rfl) q).elim
      · exact q
    obtain ⟨m, _, hl⟩ := I.loc
    have up := ok.free _ (PySem.mem_of_lookup hfree) rfl
    obtain ⟨w, r, q⟩ := hl i y av e1 e2 (up.elim (fun k => .inr (.inl k)) fun k => .inr (.inr k))
    obtain ⟨c, hc⟩ := hfr hfree
    refine ⟨w, r, .inr ⟨.inr hfree, c, hc, ?_⟩⟩
    rcases q with ⟨k, _⟩ | ⟨_, c', e', z⟩
    · have k' : X.env.scope.names.lookup y = some .local := k
      rcases up with u | u <;> rw [show X.env.scope.names.lookup y = _ from u] at k' <;> cases k'
    · rw [(hcl hc).2] at e'
      cases e'
      exact z.keeps kp
  · obtain ⟨w, z⟩ := I.cell y c (hcl e).2
    exact ⟨w, z.keeps kp⟩
  · have : p = (a, go) := by simpa using hp
    subst this
    exact ⟨hgo, I.hok.fresh (Nat.le_of_lt ha), Nat.ne_of_gt ha, fun z => by
      rcases List.mem_cons.mp (I.stkSub a z) with q | q
      · have := I.lt
        rw [← q] at this
        exact Nat.lt_irrefl _ (Nat.lt_trans this ha)
      · exact I.nofs (Nat.le_of_lt ha) q, hgc⟩
end
end Hid

namespace Hid
open PySem PySem.Spec PyProof.Rows L2
/-- nothing but the generators' table and the tokens are other -/
def Near (s s' : Shared) : Prop := ∃ g t, s' = { s with gens := g, toks := t } ∧ AllBare g
theorem Near.trans {s s' s'' : Shared} (a : Near s s') (b : Near s' s'') : Near s s'' := by
  obtain ⟨g, t, rfl, _⟩ := a
  obtain ⟨g2, t2, rfl, h⟩ := b
  exact ⟨g2, t2, rfl, h⟩
theorem near_set {s : Shared} {g : Nat} {x : GenState} (h : AllBare s.gens) (hx : x.bare = true) : Near s (s.setGen g x) := ⟨_, s.toks, rfl, allBare_setGen h hx⟩
theorem inv_near {X : Cx} {pins : List (Addr × Obj)} {σ : L2.St} {H : Hp} {s s' : Shared} (I : Inv X pins σ H s) (n : Near s s') : Inv X pins σ H s' := by
  obtain ⟨g, t, rfl, h⟩ := n
  exact I.call' (ch := []) rfl Un.refl I.hok h fun b z => nomatch z
section
variable {X : Cx}
/-- what is left of a generator expression: handed out truths b; b = cont goes on, else QE; at the end QD -/
def gxR (X : Cx) (σ : L2.St) (QD : Hp → Prop) : Nat → Shared → Shared → Prop := fun _ _ s₁ => ∃ H', Inv X [] σ H' s₁ ∧ QD H'
def gxY (X : Cx) (cont : Bool) (QE : Hp → Prop) : Protocol := fun n s₀ v s kap => ∃ (b : Bool) (σ' : L2.St) (pins : List (Addr × Obj)) (H' : Hp), v = .bool b ∧ Inv X pins σ' H' s ∧ (b = cont → ∀ s'', Near s s'' → kap (.send .none) s'') ∧ (b ≠ cont → QE H')
theorem gx_loop {A : Around} {elt tg iter : Expr} {scope : Scope} {pos : Pos} {it : Addr} {J : It} {fp : List Addr} {tn : Nat → Heap → Prop} {σ : L2.St} {vs : List Nat} {g : TG} {te : TE} {cont : Bool} {QD QE : Hp → Prop} {W : Nat → Nat → Hp → Prop}
    (hA : A.over (.compLoop (.GeneratorExp elt [⟨tg, iter, [], 0⟩] scope pos) 0 (.ref it) .none X.env) [] = X.A) (hc : X.calm = true) (hpn : ∀ p ∈ X.pn, p.1 ∉ fp) (hex : X.ex = fp) (hxe : X.xe = fun _ _ => False) (hco : X.env.scope.isCoroutine = false)
    (T : Turn X.prog X.w X.K tg J fp it tn) (pg : PG X tg g) (pe : PE X elt te)
    (turn : ∀ i m H, W i m H → (J.stop i H ∧ QD H) ∨ (J.go i H ∧ ∃ Nx : Hp → Prop, (∀ H', Nx H' → ∃ m', m' < m ∧ W (i + 1) m' H') ∧ ∀ x H', J.yld i H x H' → g x (wipe σ vs) H' fun σ2 H2 => wipe σ2 vs = wipe σ vs ∧ te σ2 H2 fun y H3 => ∃ b, y = .bl b ∧ (b = cont → Nx H3) ∧ (b ≠ cont → QE H3))) :
    ∀ (m n i : Nat) (s₀ s : Shared) (H5 : Hp), m < n → Inv X [] (wipe σ vs) H5 s → tn i s.heap → (∀ b ∈ fp, H5 b = none) → W i m H5 →
      Seg (model X.prog X.w) A (fun n s₀ r s₁ => r = .ok .next ∧ gxR X (wipe σ vs) QD n s₀ s₁) (gxY X cont QE) n s₀ (.compLoop (.GeneratorExp elt [⟨tg, iter, [], 0⟩] scope pos) 0 (.ref it) .none X.env)
        ((model X.prog X.w).den (.compLoop (.GeneratorExp elt [⟨tg, iter, [], 0⟩] scope pos) 0 (.ref it) .none X.env)) [] s := by
  have fpok : ∀ {σ' : L2.St} {H' : Hp} {s' : Shared}, Inv X [] σ' H' s' → (∀ b ∈ fp, H' b = none) → ∀ b ∈ fp, FpOk X [] H' b := fun {σ' H' s'} I' hn b hb =>
    ⟨hn b hb, (I'.ok.exf b (hex ▸ hb)).1, I'.ok.exfs b (hex ▸ hb), .inl (hex ▸ hb), fun x c e => (I'.ok.exf b (hex ▸ hb)).2 x c e, fun p hp => by
      rw [List.append_nil] at hp
      exact fun z => hpn p hp (z ▸ hb)⟩
  intro m
  induction m using Nat.strongRecOn with
  | ind m ih =>
    intro n i s₀ s H5 hmn I st hn w
    show Seg _ A _ _ _ s₀ _ ((compTurn (.GeneratorExp elt [⟨tg, iter, [], 0⟩] scope pos) 0 (.ref it) .none X.env).onRaise (leaving X.env)) [] s
    rw [compTurn_gen, Sem.onRaise_eq_wrap]
    refine seg_bind_wrap (wpAny_standAt ?_)
    rcases turn i m H5 w with ⟨stop, qd⟩ | ⟨go, Nx, hNx, step⟩
    · refine seg_bind_wrap ?_
      rw [hA]
      refine wpAny_mono (T.done X rfl rfl rfl hc i [] s _ H5 (fun _ _ => False) I (fpok I hn) st stop) (fun r s1 ⟨hr, I1⟩ => ?_) fun _ _ z => z.elim
      subst hr
      exact seg_end (.ok .next) ⟨rfl, H5, I1, qd⟩
    · refine seg_bind_wrap ?_
      rw [hA]
      refine wpAny_mono (T.item X rfl rfl rfl hc i [] s _ H5 (fun _ _ => False) I (fpok I hn) st go) (fun r s1 ⟨u, hr, h1⟩ => ?_) fun _ _ z => z.elim
      subst hr
      refine seg_bind_wrap ?_
      rw [hA]
      refine wpAny_mono h1 (fun _ s2 ⟨x, H2, I2, r2, y2, st2, n2⟩ => ?_) fun _ _ z => z.elim
      have I2' := I2.pinned (fpok I2 n2) (T.obj _ _ st2)
      refine seg_bind_wrap ?_
      rw [hA]
      refine wpAny_mono (pg.run _ s2 _ H2 x u _ I2' r2 (step x H2 y2)) (fun _ s3 ⟨σ3, H3, I3, hw3, q3⟩ => ?_) fun _ _ z => by rw [hxe] at z; exact z.elim
      refine seg_bind_wrap (wpAny_tests_nil ?_)
      obtain ⟨n', rfl⟩ : ∃ n', n = n' + 1 := ⟨n - 1, by omega⟩
      have hy : ∀ v, yieldOut X.env v = yieldValue v := fun v => by simp only [yieldOut, hco, Bool.false_eq_true, if_false]
      simp only [if_true, hy]
      rw [Sem.bind_eq_wrap', Sem.bind_eq_wrap', Sem.wrap_wrap, Sem.wrap_wrap]
      refine seg_wrap ?_
      rw [hA]
      refine wpAny_mono (pe.run _ s3 σ3 H3 _ I3 q3) (fun z s4 ⟨yv, H4, I4, r4, b, hyb, qc, qe⟩ => ?_) fun _ _ z => by rw [hxe] at z; exact z.elim
      subst hyb
      obtain rfl : z = Value.bool b := r4
      refine seg_at (seg_yield rfl rfl rfl ⟨b, σ3, _, H4, rfl, I4, fun hb s'' near => ?_, qe⟩)
      obtain ⟨m', hm, w'⟩ := hNx H4 (qc hb)
      have I5 := inv_near I4 near
      have keepF : ∀ b ∈ fp, ∀ o, s2.heap.get? b = some o → s''.heap.get? b = some o ∧ H4 b = none := fun b hb o e =>
        let z := I5.pin (b, o) (List.mem_append_right _ (List.mem_append_right _ (mem_pinsAt hb e)))
        ⟨z.1, z.2.1⟩
      have hl : (wipe σ vs).length = σ3.length := by rw [← hw3, wipe_length]
      refine seg_again rfl (ih m' hm n' (i + 1) s'' s'' H4 (by omega) ((I5.unpinned (pins := [])).weak hl fun j v e => ?_) (T.keep _ _ _ st2 fun b hb o e => (keepF b hb o e).1) (fun b hb => ?_) w')
      · rw [← hw3] at e
        exact (wipe_some e).1
      · obtain ⟨o, e, _⟩ := T.obj _ _ st2 b hb
        exact (keepF b hb o e).2
/-- from the start -/
theorem gx_begin {A : Around} {elt tg iter : Expr} {scope : Scope} {pos : Pos} {it : Addr} {tn : Nat → Heap → Prop} {J : It} {fp : List Addr} {R : GenEnd} {Y : Protocol} {n : Nat} {s₀ s : Shared}
    (T : Turn X.prog X.w X.K tg J fp it tn) (st : tn 0 s.heap)
    (loop : Seg (model X.prog X.w) A R Y n s₀ (.compLoop (.GeneratorExp elt [⟨tg, iter, [], 0⟩] scope pos) 0 (.ref it) .none X.env) ((model X.prog X.w).den (.compLoop (.GeneratorExp elt [⟨tg, iter, [], 0⟩] scope pos) 0 (.ref it) .none X.env)) [] s) :
    Seg (model X.prog X.w) A R Y n s₀ (.compStart (.GeneratorExp elt [⟨tg, iter, [], 0⟩] scope pos) 0 (.ref it) .none X.env) ((model X.prog X.w).den (.compStart (.GeneratorExp elt [⟨tg, iter, [], 0⟩] scope pos) 0 (.ref it) .none X.env)) [] s := by
  show Seg _ A _ _ _ s₀ _ ((compStart (.GeneratorExp elt [⟨tg, iter, [], 0⟩] scope pos) 0 (.ref it) .none X.env).onRaise (leaving X.env)) [] s
  unfold compStart
  rw [Sem.onRaise_eq_wrap]
  show Seg _ A _ _ _ s₀ _ ((ask >>= _).wrap _ _ _ _) [] s
  refine seg_bind_wrap (wpAny_askSetting ?_)
  split
  · exact seg_again rfl loop
  · refine seg_bind_wrap (wpAny_rule ?_)
    show Seg _ A _ _ _ s₀ _ ((standAt iter.pos >>= _).wrap _ _ _ _) [] s
    exact seg_bind_wrap (wpAny_standAt (seg_bind_wrap (T.self _ 0 s _ _ st (seg_again rfl loop))))
end
end Hid

namespace Hid
open PySem PySem.Spec PyProof.Rows L2
section
variable {X : Cx} {G : Cx} {σ : L2.St} {QD QE : Hp → Prop} {a : Addr} {g : Nat} {go : Obj}
/-- the generator's object at a, number g: n and more turns may follow -/
def gxAt (G : Cx) (A : Around) (σ : L2.St) (cont : Bool) (QD QE : Hp → Prop) (a : Addr) (g n : Nat) (s : Shared) : Prop :=
  s.heap.IsGen a g ∧ s.heap.NoLimit ∧ AllBare s.gens ∧ ∃ gs, s.gens[g]? = some gs ∧ ∀ s'', Near s s'' → gs.Goes (model G.prog G.w) A.in1 (fun n s₀ r s₁ => r = .ok .next ∧ gxR G σ QD n s₀ s₁) (gxY G cont QE) n (.send .none) s''
theorem set_at {s : Shared} {x : GenState} (h : g + 1 ≤ s.gens.size) : (s.setGen g x).gens[g]? = some x := by
  have hlt : g < s.gens.size := h
  simp [Shared.setGen, hlt]
theorem gx_next {A : Around} {cont : Bool} {n : Nat} {s : Shared} {Q : Option Value → Shared → Prop} {E : Value → Shared → Prop} (hh : A.handled = none) (hroom : A.depth < recursionLimit) (hpn : (a, go) ∈ G.pn) (hgo : ∀ h : Heap, h.get? a = some go → h.IsGen a g) (h : gxAt G A σ cont QD QE a g n s)
    (hE : ∀ b σ' pins H' s₁ gs', b ≠ cont → Inv G pins σ' H' s₁ → QE H' → gs'.bare = true → Q (some (.bool b)) (s₁.setGen g gs'))
    (hC : ∀ s' n', n = n' + 1 → gxAt G A σ cont QD QE a g n' s' → Q (some (.bool cont)) s')
    (hD : ∀ s₁ h' H', Inv G [] σ H' s₁ → QD H' → (∀ b o, s₁.heap.get? b = some o → h'.get? b = some o) → Q none { s₁.setGen g .finished with heap := h' }) :
    wpAny (model G.prog G.w) A (pyNext (.ref a)) Q E s := by
  obtain ⟨hg, hl, hb, gs, hgs, goes⟩ := h
  have hsz : g + 1 ≤ s.gens.size := (Array.getElem?_eq_some_iff.mp hgs).1
  refine GenW.wpAny_gsz (n := g + 1) hsz ?_
  refine wpAny_pyNext_genexpQ (P := gxR G σ QD) hh hl hroom hg hgs (goes _ (near_set hb rfl)) (fun v s₁ gs' hb' hv hz => ?_) (fun s₁ hp h' hk hz => ?_)
  · obtain ⟨b, σ', pins, H', rfl, I1, hc, he⟩ := hv
    have hz1 : g + 1 ≤ s₁.gens.size := by rw [GenW.setGen_size] at hz; exact hz
    by_cases hbc : b = cont
    · subst hbc
      cases n with
      | zero => exact (hc rfl s₁ ⟨s₁.gens, s₁.toks, rfl, I1.bare⟩).elim
      | succ n' =>
        refine hC _ n' rfl ⟨hgo _ (I1.pin (a, go) (List.mem_append_left _ hpn)).1, I1.nolimit, allBare_setGen I1.bare hb', gs', set_at hz1, fun s'' near => ?_⟩
        exact hc rfl s'' ((near_set I1.bare hb').trans near)
    · exact hE b σ' pins H' s₁ gs' hbc I1 (he hbc) hb'
  · obtain ⟨H', I1, qd⟩ := hp
    exact hD s₁ h' H' I1 qd hk
theorem gx_all {A : Around} {R : Result → Shared → Prop} (hh : A.handled = none) (hroom : A.depth < recursionLimit) (hpn : (a, go) ∈ G.pn) (hgo : ∀ h : Heap, h.get? a = some go → h.IsGen a g)
    (hE : ∀ σ' pins H' s₁ gs', Inv G pins σ' H' s₁ → QE H' → gs'.bare = true → R (.ok (.ret (.bool false))) (s₁.setGen g gs'))
    (hD : ∀ s₁ h' H', Inv G [] σ H' s₁ → QD H' → (∀ b o, s₁.heap.get? b = some o → h'.get? b = some o) → R (.ok (.ret (.bool true))) { s₁.setGen g .finished with heap := h' }) :
    ∀ (n : Nat) (s : Shared), gxAt G A.in1 σ true QD QE a g n s → codeAny (model G.prog G.w) A (.builtin "all.loop" ⟨[.ref a], []⟩) R s := by
  intro n
  induction n with
  | zero =>
    intro s h
    refine codeAny_builtin F.entry_all_loop ?_
    rw [Around.under_plainId F.plain_all_loop _]
    refine wpAny_bind (m := pyNext (.ref a)) (gx_next (A := A.in1) hh hroom hpn hgo h (fun b σ' pins H' s₁ gs' hb I1 q hbr => ?_) (fun s' n' e _ => nomatch e) fun s₁ h' H' I1 q hk => wpAny_bind (wpAny_rule (wpAny_pure (hD s₁ h' H' I1 q hk))))
    refine wpAny_bind (wpAny_holding (wpAny_truthy_bool (wpAny_bind (wpAny_letGo ?_))))
    cases b with
    | true => exact absurd rfl hb
    | false =>
      simp only [Bool.false_eq_true, if_false]
      exact wpAny_bind (wpAny_rule (wpAny_pure (hE σ' pins H' s₁ gs' I1 q hbr)))
  | succ n ih =>
    intro s h
    refine codeAny_builtin F.entry_all_loop ?_
    rw [Around.under_plainId F.plain_all_loop _]
    refine wpAny_bind (m := pyNext (.ref a)) (gx_next (A := A.in1) hh hroom hpn hgo h (fun b σ' pins H' s₁ gs' hb I1 q hbr => ?_) (fun s' n' e h' => ?_) fun s₁ h' H' I1 q hk => wpAny_bind (wpAny_rule (wpAny_pure (hD s₁ h' H' I1 q hk))))
    · refine wpAny_bind (wpAny_holding (wpAny_truthy_bool (wpAny_bind (wpAny_letGo ?_))))
      cases b with
      | true => exact absurd rfl hb
      | false =>
        simp only [Bool.false_eq_true, if_false]
        exact wpAny_bind (wpAny_rule (wpAny_pure (hE σ' pins H' s₁ gs' I1 q hbr)))
    · cases e
      refine wpAny_bind (wpAny_holding (wpAny_truthy_bool (wpAny_bind (wpAny_letGo ?_))))
      simp only [if_true]
      exact wpAny_pure ⟨plainId_quiet F.plain_all_loop _, ih s' h'⟩
theorem gx_any {A : Around} {R : Result → Shared → Prop} (hh : A.handled = none) (hroom : A.depth < recursionLimit) (hpn : (a, go) ∈ G.pn) (hgo : ∀ h : Heap, h.get? a = some go → h.IsGen a g)
    (hE : ∀ σ' pins H' s₁ gs', Inv G pins σ' H' s₁ → QE H' → gs'.bare = true → R (.ok (.ret (.bool true))) (s₁.setGen g gs'))
    (hD : ∀ s₁ h' H', Inv G [] σ H' s₁ → QD H' → (∀ b o, s₁.heap.get? b = some o → h'.get? b = some o) → R (.ok (.ret (.bool false))) { s₁.setGen g .finished with heap := h' }) :
    ∀ (n : Nat) (s : Shared), gxAt G A.in1 σ false QD QE a g n s → codeAny (model G.prog G.w) A (.builtin "any.loop" ⟨[.ref a], []⟩) R s := by
  intro n
  induction n with
  | zero =>
    intro s h
    refine codeAny_builtin F.entry_any_loop ?_
    rw [Around.under_plainId F.plain_any_loop _]
    refine wpAny_bind (m := pyNext (.ref a)) (gx_next (A := A.in1) hh hroom hpn hgo h (fun b σ' pins H' s₁ gs' hb I1 q hbr => ?_) (fun s' n' e _ => nomatch e) fun s₁ h' H' I1 q hk => wpAny_bind (wpAny_rule (wpAny_pure (hD s₁ h' H' I1 q hk))))
    refine wpAny_bind (wpAny_holding (wpAny_truthy_bool (wpAny_bind (wpAny_letGo ?_))))
    cases b with
    | false => exact absurd rfl hb
    | true =>
      simp only [if_true]
      exact wpAny_bind (wpAny_rule (wpAny_pure (hE σ' pins H' s₁ gs' I1 q hbr)))
  | succ n ih =>
    intro s h
    refine codeAny_builtin F.entry_any_loop ?_
    rw [Around.under_plainId F.plain_any_loop _]
    refine wpAny_bind (m := pyNext (.ref a)) (gx_next (A := A.in1) hh hroom hpn hgo h (fun b σ' pins H' s₁ gs' hb I1 q hbr => ?_) (fun s' n' e h' => ?_) fun s₁ h' H' I1 q hk => wpAny_bind (wpAny_rule (wpAny_pure (hD s₁ h' H' I1 q hk))))
    · refine wpAny_bind (wpAny_holding (wpAny_truthy_bool (wpAny_bind (wpAny_letGo ?_))))
      cases b with
      | false => exact absurd rfl hb
      | true =>
        simp only [if_true]
        exact wpAny_bind (wpAny_rule (wpAny_pure (hE σ' pins H' s₁ gs' I1 q hbr)))
    · cases e
      refine wpAny_bind (wpAny_holding (wpAny_truthy_bool (wpAny_bind (wpAny_letGo ?_))))
      simp only [Bool.false_eq_true, if_false]
      exact wpAny_pure ⟨plainId_quiet F.plain_any_loop _, ih s' h'⟩
/-- back in the def -/
theorem gx_back {pins : List (Addr × Obj)} {τ : L2.St} {H H' : Hp} {s4 s1 s' : Shared} {A' : Around} {cenv : Env} {fp : List Addr} {pn pins' : List (Addr × Obj)} {σ' : L2.St} (I4 : Inv X pins τ H s4) (hfp : ∀ b ∈ fp, FpOk X pins H b) (IG : Inv (gx X s4 H A' cenv fp pn) pins' σ' H' s1)
    (kp : ∀ b o, s1.heap.get? b = some o → s'.heap.get? b = some o) (ho : s'.os = s1.os) (hb : AllBare s'.gens) : Inv X pins τ H' s' := by
  have Jb : Inv (gx X s4 H A' cenv fp pn) pins' σ' H' s' := IG.call' (ch := []) ho (Un.kept kp) (IG.hok.kept kp) hb fun b z => nomatch z
  exact I4.call' (ch := fp) Jb.os Jb.base Jb.hok Jb.bare fun b hb => let ⟨_, f2, _, f4, f5, f6⟩ := hfp b hb; ⟨f4, f2, f5, f6⟩
/-- all(..), any(..) of a generator expression -/
def tGx (cont : Bool) (P : Addr) (wi : TI) (g : TG) (te : TE) (vs : List Nat) : TE := fun σ H Q => wi σ H fun J H1 => H1 P = some (TabX P) ∧ ∃ W : Nat → Nat → Hp → Prop, (∃ m, W 0 m H1) ∧ ∀ i m H, W i m H → (J.stop i H ∧ Q (.bl cont) H) ∨ (J.go i H ∧ ∃ Nx : Hp → Prop, (∀ H', Nx H' → ∃ m', m' < m ∧ W (i + 1) m' H') ∧
  ∀ x H', J.yld i H x H' → g x (wipe σ vs) H' fun σ2 H2 => wipe σ2 vs = wipe σ vs ∧ te σ2 H2 fun y H3 => ∃ b, y = .bl b ∧ (b = cont → Nx H3) ∧ (b ≠ cont → Q (.bl (!cont)) H3))
theorem gx_room {k : Nat} {A : Around} {c : Code} (h : Room (k + 1) A) (hw : c.weight = 1) (hu : c.cUnits = 3) : Room k (A.in1.in1.over c []) := by
  refine ⟨h.hd, ?_, ?_⟩
  · have := h.dp
    show A.depth + 0 + c.weight + 3 * k + 5 < _
    omega
  · have := h.un
    show A.units + 1 + 1 + 0 + c.cUnits + 16 * k + 200 < _
    omega
theorem gx_make {c P : Addr} {elt tg iter : Expr} {scope : Scope} {own : List (Str × Nat)} {gpos : Pos} {wi : TI} {gg : TG} {te : TE} {k : Nat} {cont : Bool} {pins : List (Addr × Obj)} {τ : L2.St} {H : Hp} {s : Shared} {Q : VK} {Q' : Value → Shared → Prop}
    (hr : Room (k + 1) X.A) (hc : X.calm = true) (hN : X.N.Nodup) (TB : GxR.TabB X.base X.mg c P) (hcode : X.env.code = .ref c) (hi : PI X tg iter wi) (ok : BlkOk X.N X.env.scope scope own) (hdot : scope.names.lookup (".0" : Str) = some NameKind.local) (hnc : ∀ y ∈ scope.names, y.2 ≠ .cell) (hco : scope.isCoroutine = false)
    (hg : ∀ s H A' C cl code fp pn, PG (gx X s H A' (genEnv scope cl C code builtinsNs X.env) fp pn) tg gg) (he : ∀ s H A' C cl code fp pn, Room k A' → PE (gx X s H A' (genEnv scope cl C code builtinsNs X.env) fp pn) elt te) (hs : ∀ v, genFold iter X.env v = pure v)
    (I : Inv X pins τ H s) (h : tGx cont P wi gg te (own.map (·.2)) τ H Q)
    (hQ : ∀ (G : Cx) (σ : L2.St) (QD QE : Hp → Prop) (a : Addr) (g n : Nat) (go : Obj) (s5 : Shared), G.prog = X.prog → G.w = X.w → (a, go) ∈ G.pn → (∀ h : Heap, h.get? a = some go → h.IsGen a g) → gxAt G X.A.in1 σ cont QD QE a g n s5 →
      (∀ pins' σ' H' s1 s', Inv G pins' σ' H' s1 → (∀ b o, s1.heap.get? b = some o → s'.heap.get? b = some o) → s'.os = s1.os → AllBare s'.gens → Inv X pins τ H' s') → (∀ H', QD H' → Q (.bl cont) H') → (∀ H', QE H' → Q (.bl (!cont)) H') → Q' (.ref a) s5) :
    wpAny (model X.prog X.w) X.A (eval (.GeneratorExp elt [⟨tg, iter, [], 0⟩] scope gpos) X.env) Q' X.xe s := by
  have hfree : ∀ y ∈ scope.names, y.2 = .free → ∃ c, X.env.cells.lookup y.1 = some c := fun y hy e => (ok.free y hy e).elim (fun q => I.ok.has _ (.inl q)) fun q => I.ok.has _ (.inr q)
  refine wpAny_GeneratorExp_make hco (closure_ok hfree) hnc hdot ok.kind (by have := hr.dp; omega) ?_ hs
  refine thn (hi.run pins s τ H _ I h) fun xv s1 hx => thn hx fun itv s2 h2 => ?_
  obtain ⟨it, fp, tn, J, H2, e, I2, T, st2, f2, hP, W, ⟨m0, w0⟩, turn⟩ := h2
  subst e
  obtain ⟨ps, hPs, htr⟩ : TabOk P s2.heap := (I2.hok P _ hP).1
  have cd : PySem.W.CodeHd s2.heap c P := TB.code.keeps fun b u e => I2.bk b u e
  have nP : ∀ b ∈ fp, b ≠ P := fun b hb z => by
    have := (f2 b hb).1
    rw [z, hP] at this
    cases this
  refine ⟨I2.nolimit, ?_⟩
  have go_on : ∀ (code : Value) (h3 : Heap) (tk : Nat), (∀ b o, b ≠ P → s2.heap.get? b = some o → h3.get? b = some o) → s2.heap.objs.size ≤ h3.objs.size → TabOk P h3 → wpAny (model X.prog X.w) X.A (builtinsFor X.env.globals X.env.builtins) (fun bi s₄ =>
      ∀ h', h'.Ns s₄.heap.objs.size (fun y => if y = ".0" then some (.ref it) else none) → Heap.SameBut s₄.heap.objs.size (s₄.heap.push { cls := .type "frame", data := .dict #[] }) h' →
        Q' (.ref h'.objs.size) { s₄ with gens := s₄.gens.push (.fresh (.compStart (.GeneratorExp elt [⟨tg, iter, [], 0⟩] scope gpos) 0 (.ref it) .none (genEnv scope (cloFrom X.env.cells scope.names []) s₄.heap.objs.size code bi X.env))), toks := s₄.toks + 1 + 1 + 1, heap := h'.push { cls := .type "generator", data := .fields #[.int s₄.gens.size 0, .str "<genexpr>" (s₄.toks + 1), .str (X.env.qual ++ "<genexpr>") (s₄.toks + 1 + 1)] } }) X.xe { s2 with heap := h3, toks := tk } := by
    intro code h3 tk k3 sz3 t3
    have I3 : Inv X pins τ H2 { s2 with heap := h3, toks := tk } := inv_code I2 hP k3 t3
    have st3 : tn 0 h3 := T.keep _ _ _ st2 fun b hb o e => k3 b o (nP b hb) e
    obtain ⟨bm, ob, e1, e2, e3, e4, e5, e6, e7, e8⟩ := TB.bm
    refine wpAny_builtinsFor (m := X.mg) (by rw [I3.ok.glob]; exact I3.mod.glob.keeps I3.bk) e1 e2 (I3.bk _ _ e5) e6 e7 e8 ?_
    generalize hs3 : ({ s2 with heap := h3, toks := tk } : Shared) = s3 at I3 ⊢
    have st3' : tn 0 s3.heap := by rw [← hs3]; exact st3
    intro h' hn' hs'
    have szp : h'.objs.size = s3.heap.objs.size + 1 := by rw [hs'.1, Heap.size_push]
    generalize hgo : ({ cls := .type "generator", data := .fields #[.int s3.gens.size 0, .str "<genexpr>" (s3.toks + 1), .str (X.env.qual ++ "<genexpr>") (s3.toks + 1 + 1)] } : Obj) = go
    have isg : ∀ h : Heap, h.get? h'.objs.size = some go → h.IsGen h'.objs.size s3.gens.size := fun h e => ⟨go, _, _, e, by rw [← hgo], by rw [← hgo], by rw [← hgo]⟩
    have gof : (h'.push go).get? h'.objs.size = some go := Heap.get?_push_size _ (by rw [← hgo]; rfl)
    have kp : ∀ b o, s3.heap.get? b = some o → (h'.push go).get? b = some o := fun b o e => Heap.get?_push_of_some _ (hs'.extBut b o (Nat.ne_of_lt (Heap.lt_size e)) (Heap.get?_push_of_some _ e))
    have hA' : (X.A.in1.in1.over (.compLoop (.GeneratorExp elt [⟨tg, iter, [], 0⟩] scope gpos) 0 (.ref it) .none (genEnv scope (cloFrom X.env.cells scope.names []) s3.heap.objs.size code builtinsNs X.env)) []).frames = some (genEnv scope (cloFrom X.env.cells scope.names []) s3.heap.objs.size code builtinsNs X.env :: X.stack) := by
      show pushEnvs [_] (pushEnvs [] X.A.frames) = _
      rw [I3.ok.frames]
      rfl
    have lt3 : ∀ b ∈ fp, b < s3.heap.objs.size := fun b hb => by
      obtain ⟨o, e, _⟩ := T.obj _ _ st3' b hb
      exact Heap.lt_size e
    have bare5 : AllBare (s3.gens.push (.fresh (.compStart (.GeneratorExp elt [⟨tg, iter, [], 0⟩] scope gpos) 0 (.ref it) .none (genEnv scope (cloFrom X.env.cells scope.names []) s3.heap.objs.size code builtinsNs X.env)))) := I3.bare.push rfl
    refine hQ (gx X s3 H2 (X.A.in1.in1.over (.compLoop (.GeneratorExp elt [⟨tg, iter, [], 0⟩] scope gpos) 0 (.ref it) .none (genEnv scope (cloFrom X.env.cells scope.names []) s3.heap.objs.size code builtinsNs X.env)) []) (genEnv scope (cloFrom X.env.cells scope.names []) s3.heap.objs.size code builtinsNs X.env) fp [(h'.objs.size, go)]) (wipe τ (own.map (·.2))) (fun H' => Q (.bl cont) H') (fun H' => Q (.bl (!cont)) H') h'.objs.size s3.gens.size (m0 + 1) go _ rfl rfl (List.mem_singleton.mpr rfl) isg ?_ (fun pins' σ' H' s1 s' IG k' o' b' => gx_back I3 f2 IG k' o' b') (fun _ q => q) fun _ q => q
    refine ⟨isg _ gof, I3.nolimit.keeps kp, bare5, _, Array.getElem?_push_size .., fun s'' near => ⟨rfl, ?_⟩⟩
    obtain ⟨g', t', rfl, bare'⟩ := near
    have IG := gx_start (s6 := { s3 with gens := g', toks := t', heap := h'.push go }) I3 hN ok hnc (fun b hb => ⟨f2 b hb, lt3 b hb⟩) (show (X.A.in1.in1.over (.compLoop (.GeneratorExp elt [⟨tg, iter, [], 0⟩] scope gpos) 0 (.ref it) .none (genEnv scope (cloFrom X.env.cells scope.names []) s3.heap.objs.size code builtinsNs X.env)) []).handled = none from I3.ok.hd hc) hA' kp (hn'.push _) rfl bare' (by rw [szp]; exact Nat.lt_succ_self _) gof (fun v z => by rw [← hgo] at z; cases z)
    have st5 : tn 0 (h'.push go) := T.keep _ _ _ st3' fun b _ o e => kp b o e
    refine gx_begin (X := gx X s3 H2 (X.A.in1.in1.over (.compLoop (.GeneratorExp elt [⟨tg, iter, [], 0⟩] scope gpos) 0 (.ref it) .none (genEnv scope (cloFrom X.env.cells scope.names []) s3.heap.objs.size code builtinsNs X.env)) []) (genEnv scope (cloFrom X.env.cells scope.names []) s3.heap.objs.size code builtinsNs X.env) fp [(h'.objs.size, go)]) T st5 ?_
    refine gx_loop (X := gx X s3 H2 (X.A.in1.in1.over (.compLoop (.GeneratorExp elt [⟨tg, iter, [], 0⟩] scope gpos) 0 (.ref it) .none (genEnv scope (cloFrom X.env.cells scope.names []) s3.heap.objs.size code builtinsNs X.env)) []) (genEnv scope (cloFrom X.env.cells scope.names []) s3.heap.objs.size code builtinsNs X.env) fp [(h'.objs.size, go)]) rfl hc (fun p hp hm => ?_) rfl rfl hco T (hg _ _ _ _ _ _ _ _) (he _ _ _ _ _ _ _ _ (gx_room hr rfl rfl)) turn m0 (m0 + 1) 0 _ _ H2 (Nat.lt_succ_self _) IG st5 (fun b hb => (f2 b hb).1) w0
    have : p = (h'.objs.size, go) := List.mem_singleton.mp hp
    subst this
    have h9 : h'.objs.size < s3.heap.objs.size := lt3 _ hm
    rw [szp] at h9
    exact absurd h9 (Nat.not_lt.mpr (Nat.le_succ _))
  cases hf : codeAmong gpos ps.toList with
  | none =>
    refine wpAny_genexprCodeX hcode (cd.code hPs htr) (cd.tab hPs) hf fun c' h' tk hx hge hlt hco' _ htab' _ => ?_
    obtain ⟨o1, vs, f1, tf, fl, tg1, inF, tx, tt, op, _, _, _, _, _, _, _, _, _, htr', _⟩ := hco'
    exact go_on _ h' tk (fun b o hb e => hx b o hb e) (Nat.le_trans hge (Nat.le_of_lt hlt)) ⟨_, htab'.2, htr'⟩
  | some cv =>
    refine wpAny_genexprCode_hit hcode (cd.code hPs htr) hf ?_
    exact go_on cv s2.heap s2.toks (fun _ _ _ e => e) (Nat.le_refl _) ⟨ps, hPs, htr⟩
theorem pe_allG {c P : Addr} {elt tg iter : Expr} {scope : Scope} {own : List (Str × Nat)} {p pos gpos : Pos} {wi : TI} {gg : TG} {te : TE} {k : Nat}
    (hr : Room (k + 1) X.A) (hc : X.calm = true) (hN : X.N.Nodup) (hgl : Gl X "all") (hm : X.mg "all" = none) (TB : GxR.TabB X.base X.mg c P) (hcode : X.env.code = .ref c) (hi : PI X tg iter wi) (ok : BlkOk X.N X.env.scope scope own)
    (hg : ∀ s H A' C cl code fp pn, PG (gx X s H A' (genEnv scope cl C code builtinsNs X.env) fp pn) tg gg) (he : ∀ s H A' C cl code fp pn, Room k A' → PE (gx X s H A' (genEnv scope cl C code builtinsNs X.env) fp pn) elt te)
    (hdot : scope.names.lookup (".0" : Str) = some NameKind.local := by rfl) (hnc : (scope.names.all fun y => y.2 != .cell) = true := by rfl) (hco : scope.isCoroutine = false := by rfl) (hs : ∀ v, genFold iter X.env v = pure v := by intro _; rfl)
    (hst : starEach [.GeneratorExp elt [⟨tg, iter, [], 0⟩] scope gpos] X.env = (false, eval (.GeneratorExp elt [⟨tg, iter, [], 0⟩] scope gpos) X.env) :: starEach [] X.env := by rfl) :
    PE X (.Call (.Name "all" p) [.GeneratorExp elt [⟨tg, iter, [], 0⟩] scope gpos] [] pos) (tGx true P wi gg te (own.map (·.2))) := by
  refine ⟨fun pins s σ H Q I h => ?_⟩
  refine wpAny_Call_Name_kw (ld_blt I hgl hm boot_all ?_)
  refine PyProof.Rows.callWith_builtin1 ?_ hst (by rfl)
  rw [hst]
  show wpAny _ _ (spliced ((false, eval (.GeneratorExp elt [⟨tg, iter, [], 0⟩] scope gpos) X.env) :: backTo pos (starEach [] X.env))) _ _ s
  refine Calls.spliced_cons (gx_make hr hc hN TB hcode hi ok hdot (fun y hy e => ?_) hco hg he hs I h fun G τ QD QE a g n go s5 eP eW hpn hgo hat back hD hE => Calls.spliced_nil ?_)
  · have := List.all_eq_true.mp hnc y hy
    rw [e] at this
    exact absurd this (by decide)
  refine call_function_tree F.kind_all F.plain_all F.entry_all (F.args_all1 _) ?_
  unfold Builtin.«all»
  refine wpAny_bind (m := oneArg "all" _) (wpAny_pure (wpAny_bind (wpAny_pyIter_gen hat.1 ?_)))
  have L := gx_all (G := G) (A := X.A) (σ := τ) (QD := QD) (QE := QE) (a := a) (g := g) (go := go) (R := fun r s' => ∃ v, r = .ok (.ret v) ∧ EP X pins σ Q v s') hr.hd (by have := hr.dp; omega) hpn hgo (fun σ' pins' H' s1 gs' IG q hb => ⟨_, rfl, .bl false, H', back _ _ _ _ _ IG (fun _ _ e => e) rfl (allBare_setGen IG.bare hb), rfl, hE _ q⟩)
    (fun s1 h' H' IG q hk => ⟨_, rfl, .bl true, H', back _ _ _ _ _ IG hk rfl (allBare_setGen IG.bare rfl), rfl, hD _ q⟩) n s5 hat
  rw [eP, eW] at L
  exact wpAny_pure ⟨plainId_quiet F.plain_all_loop _, codeAny_mono L fun r s' ⟨v, e, q⟩ => by subst e; simpa using q⟩
theorem pe_anyG {c P : Addr} {elt tg iter : Expr} {scope : Scope} {own : List (Str × Nat)} {p pos gpos : Pos} {wi : TI} {gg : TG} {te : TE} {k : Nat}
    (hr : Room (k + 1) X.A) (hc : X.calm = true) (hN : X.N.Nodup) (hgl : Gl X "any") (hm : X.mg "any" = none) (TB : GxR.TabB X.base X.mg c P) (hcode : X.env.code = .ref c) (hi : PI X tg iter wi) (ok : BlkOk X.N X.env.scope scope own)
    (hg : ∀ s H A' C cl code fp pn, PG (gx X s H A' (genEnv scope cl C code builtinsNs X.env) fp pn) tg gg) (he : ∀ s H A' C cl code fp pn, Room k A' → PE (gx X s H A' (genEnv scope cl C code builtinsNs X.env) fp pn) elt te)
    (hdot : scope.names.lookup (".0" : Str) = some NameKind.local := by rfl) (hnc : (scope.names.all fun y => y.2 != .cell) = true := by rfl) (hco : scope.isCoroutine = false := by rfl) (hs : ∀ v, genFold iter X.env v = pure v := by intro _; rfl)
    (hst : starEach [.GeneratorExp elt [⟨tg, iter, [], 0⟩] scope gpos] X.env = (false, eval (.GeneratorExp elt [⟨tg, iter, [], 0⟩] scope gpos) X.env) :: starEach [] X.env := by rfl) :
    PE X (.Call (.Name "any" p) [.GeneratorExp elt [⟨tg, iter, [], 0⟩] scope gpos] [] pos) (tGx false P wi gg te (own.map (·.2))) := by
  refine ⟨fun pins s σ H Q I h => ?_⟩
  refine wpAny_Call_Name_kw (ld_blt I hgl hm boot_any ?_)
  refine PyProof.Rows.callWith_builtin1 ?_ hst (by rfl)
  rw [hst]
  show wpAny _ _ (spliced ((false, eval (.GeneratorExp elt [⟨tg, iter, [], 0⟩] scope gpos) X.env) :: backTo pos (starEach [] X.env))) _ _ s
  refine Calls.spliced_cons (gx_make hr hc hN TB hcode hi ok hdot (fun y hy e => ?_) hco hg he hs I h fun G τ QD QE a g n go s5 eP eW hpn hgo hat back hD hE => Calls.spliced_nil ?_)
  · have := List.all_eq_true.mp hnc y hy
    rw [e] at this
    exact absurd this (by decide)
  refine call_function_tree F.kind_any F.plain_any F.entry_any (F.args_any1 _) ?_
  unfold Builtin.«any»
  refine wpAny_bind (m := oneArg "any" _) (wpAny_pure (wpAny_bind (wpAny_pyIter_gen hat.1 ?_)))
  have L := gx_any (G := G) (A := X.A) (σ := τ) (QD := QD) (QE := QE) (a := a) (g := g) (go := go) (R := fun r s' => ∃ v, r = .ok (.ret v) ∧ EP X pins σ Q v s') hr.hd (by have := hr.dp; omega) hpn hgo (fun σ' pins' H' s1 gs' IG q hb => ⟨_, rfl, .bl true, H', back _ _ _ _ _ IG (fun _ _ e => e) rfl (allBare_setGen IG.bare hb), rfl, hE _ q⟩)
    (fun s1 h' H' IG q hk => ⟨_, rfl, .bl false, H', back _ _ _ _ _ IG hk rfl (allBare_setGen IG.bare rfl), rfl, hD _ q⟩) n s5 hat
  rw [eP, eW] at L
  exact wpAny_pure ⟨plainId_quiet F.plain_any_loop _, codeAny_mono L fun r s' ⟨v, e, q⟩ => by subst e; simpa using q⟩
end
end Hid

namespace Hid
open PySem PySem.Spec PyProof.Rows L2 Evl
/-! the tables of a law: held by their form within, as they grew at the end -/
def xtab (ts : List Addr) (H : Hp) : Hp := fun b => if b ∈ ts then some (TabX b) else H b
theorem xtab_in {ts : List Addr} {H : Hp} {b : Addr} (h : b ∈ ts) : xtab ts H b = some (TabX b) := if_pos h
theorem xtab_out {ts : List Addr} {H : Hp} {b : Addr} (h : b ∉ ts) : xtab ts H b = H b := if_neg h
/-- back to the tables' contents -/
def grown (ts : List Addr) (h : Heap) (H : Hp) : Hp := fun b => if b ∈ ts then (match h.get? b with | some ⟨_, _, .fields ps, _⟩ => some (.tbl ps) | _ => none) else H b
theorem grown_in {ts : List Addr} {h : Heap} {H : Hp} {b : Addr} {ps : Array Value} (hb : b ∈ ts) (e : h.get? b = some (PySem.W.tabObj ps)) : grown ts h H b = some (.tbl ps) := by
  unfold grown
  rw [if_pos hb, e]
theorem grown_out {ts : List Addr} {h : Heap} {H : Hp} {b : Addr} (hb : b ∉ ts) : grown ts h H b = H b := if_neg hb
/-- all tables stand -/
def TB (ts : List Addr) (H : Hp) : Prop := ∀ P ∈ ts, H P = some (TabX P)
theorem TB.ex {ts : List Addr} {H H' : Hp} (h : TB ts H) (e : Ex H H') : TB ts H' := fun P hP => e _ _ (h P hP)
section
variable {P : Program} {w : World} {K : PySem.W.Frag} {mg : Str → Option Value} {base : Heap} {k : Nat} {f : Addr} {fd : FuncData} {ps : List Str} {sp : Sp} {ts : List Addr}
/-- a promise with tables held by their form, told with the tables' own contents -/
def spT (ts : List Addr) (sp : Sp) : Sp := fun vs H Q E => (∀ b ∈ ts, H b = some (.tbl #[])) ∧ sp vs (xtab ts H) (fun v H' => TB ts H' ∧ ∀ H'', (∀ b, b ∉ ts → H'' b = H' b) → Q v H'') E
theorem tab_law (F : FnOk P w K mg base CX0 k f fd ps sp) : FnOk P w K mg base CX0 k f fd ps (spT ts sp) := by
  refine ⟨fun vs H Q E h => F.len _ _ _ _ h.2, fun A outer s H args us vs Q E hr e0 hb hv h => ?_⟩
  obtain ⟨hT, h⟩ := h
  have out : ∀ {b : Addr}, H b = none → b ∉ ts := fun {b} e m => by
    rw [hT b m] at e
    cases e
  have outK : ∀ {b : Addr} {u : HO}, H b = some u → (∀ q, u ≠ .tbl q) → b ∉ ts := fun {b u} e n m => by
    rw [hT b m] at e
    exact n _ (Option.some.inj e).symm
  have hok : HOk P w (xtab ts H) s.heap := fun b u e => by
    by_cases m : b ∈ ts
    · rw [xtab_in m] at e
      cases e
      have q := e0.hok b _ (hT b m)
      exact tabX_ok ⟨#[], q, by first | trivial | exact .nil | constructor⟩
    · rw [xtab_out m] at e
      refine (e0.hok b u e).stay (fun c v _ q => q) (fun c q => ?_) fun c xs q => ?_
      · rw [xtab_out (outK q fun _ z => nomatch z)]
        exact q
      · rw [xtab_out (outK q fun _ z => nomatch z)]
        exact q
  have e1 : Env0 P w K mg base A outer s (xtab ts H) := ⟨e0.frames, e0.mod, fun b o e => ⟨(e0.bs b o e).1, by rw [xtab_out (out (e0.bs b o e).2)]; exact (e0.bs b o e).2⟩, e0.bsz, e0.funs, fun b hb => by rw [xtab_out (out (e0.frf b hb))]; exact e0.frf b hb, hok, e0.bare⟩
  refine codeAny_mono (F.run A outer s (xtab ts H) args us vs _ E hr e1 hb hv h) fun r s' hq => ?_
  cases r with
  | error e => exact hq.elim
  | ok fl =>
    cases fl with
    | next => exact hq.elim
    | brk => exact hq.elim
    | cont => exact hq.elim
    | ret u =>
      obtain ⟨v, H', os, bare, un, hok', rv, tb, q⟩ := hq
      have at' : ∀ b ∈ ts, ∃ qs, s'.heap.get? b = some (PySem.W.tabObj qs) := fun b m => by
        obtain ⟨⟨qs, e, _⟩, _⟩ := hok' b _ (tb b m)
        exact ⟨qs, e⟩
      have outK' : ∀ {b : Addr} {u : HO}, H' b = some u → (∀ φ, u ≠ .ext φ) → b ∉ ts := fun {b u} e n m => by
        rw [tb b m] at e
        exact n _ (Option.some.inj e).symm
      refine ⟨v, grown ts s'.heap H', os, bare, ⟨fun b o e n => ?_, fun b o e n => ?_, fun b o e n hx => ?_, un.there, fun b xs e => ?_, fun b o u e => ?_, fun b qs e => ?_⟩, fun b u e => ?_, rv, q _ fun b hb => grown_out hb⟩
      · exact un.keep b o e (by rw [xtab_out (out n)]; exact n)
      · exact un.slot b o e (by rw [xtab_out (out n)]; exact n)
      · rw [grown_out (out n)]
        exact un.free b o e (by rw [xtab_out (out n)]; exact n) hx
      · have m := outK e fun _ z => nomatch z
        rw [grown_out m]
        exact un.tups b xs (by rw [xtab_out m]; exact e)
      · have m := outK e fun _ z => nomatch z
        rw [grown_out m]
        exact un.frzs b o u (by rw [xtab_out m]; exact e)
      · by_cases m : b ∈ ts
        · obtain ⟨rs, er⟩ := at' b m
          rw [hT b m] at e
          cases e
          exact ⟨rs, by rw [grown_in m er, Array.empty_append]⟩
        · obtain ⟨more, z⟩ := un.tbls b qs (by rw [xtab_out m]; exact e)
          exact ⟨more, by rw [grown_out m]; exact z⟩
      · by_cases m : b ∈ ts
        · obtain ⟨rs, er⟩ := at' b m
          rw [grown_in m er] at e
          cases e
          exact er
        · rw [grown_out m] at e
          refine (hok' b u e).stay (fun c v _ q => q) (fun c q => ?_) fun c xs q => ?_
          · rw [grown_out (outK' q fun _ z => nomatch z)]
            exact q
          · rw [grown_out (outK' q fun _ z => nomatch z)]
            exact q
/-- a def by its body, the code object known -/
theorem okC {x qual : Str} {st : Stmt} {N : List Str} {c : Addr} (F : Fun K x qual st f fd) (hc : fd.code = .ref c) (S : FnScope N ps (defScope st)) (len : ∀ vs H Q E, sp vs H Q E → vs.length = ps.length)
    (hbody : ∀ (A : Around) (outer : List Env) (s : Shared) (H : Hp) (vs : List V) (Q : VK) (E : XK), Room k (A.deeper (envOfC qual (defScope st) s.heap.objs.size f (.ref c))) → sp vs H Q E →
      ∃ t, PSs (cxOf CX0 P w K mg base N qual (defScope st) f (.ref c) A outer s H E).nox (defBody st) t ∧ t { nx := fun _ H' => Q .non H', rt := Q } (start N vs) H) : FnOk P w K mg base CX0 (k + 1) f fd ps sp := by
  obtain ⟨oc, od, kV, doc, pm, an, cdv, ct, osl, rfl, lk, hcd⟩ := F.ex
  obtain rfl : cdv = .ref c := hc
  exact fn_of lk hcd S len fun A outer s H vs Q E hr hsp => let ⟨t, h, q⟩ := hbody A outer s H vs Q E hr hsp; ⟨t, h.nox, q⟩
end
theorem xtab_sq {K : PySem.W.Frag} {ts : List Addr} {H : Hp} {a : Addr} {xs : List V} (hT : ∀ b ∈ ts, H b = some (.tbl #[])) (h : SqL K H a xs) : SqL K (xtab ts H) a xs := by
  rcases h with (h | ⟨o, h⟩) | h
  · refine .inl (.inl ?_)
    rw [xtab_out fun m => by rw [hT a m] at h; cases h]; exact h
  · refine .inl (.inr ⟨o, ?_⟩)
    rw [xtab_out fun m => by rw [hT a m] at h; cases h]; exact h
  · exact .inr h
/-- a def with a code object that is asked for -/
def DfC (K : PySem.W.Frag) (mg : Str → Option Value) (x : Str) (st : Stmt) (ps : List Str) (c : Addr) : Prop := ∃ (f : Addr) (fd : FuncData), Fun K x x st f fd ∧ Binds K fd ps [] ∧ mg x = some (.ref f) ∧ fd.code = .ref c
theorem tabIn_mk {K : PySem.W.Frag} {x : Str} {f c P : Addr} {oc o1 : Value} {od o2 : Option Addr} {sl sl2 : Array (Option Value)} {fd : FuncData} {vs : Array Value} (a : PySem.W.nsIn K mainGlobals x = some (some (.ref f))) (b : K.lookup f = some ⟨oc, od, .func fd, sl⟩) (d : fd.code = .ref c) (e : K.lookup c = some ⟨o1, o2, .fields vs, sl2⟩) (g : vs[11]? = some (.ref P)) : PySem.W.tabIn K x = some (c, P) := by
  unfold PySem.W.tabIn
  simp only [a, b, d, e, g]
theorem walk_ofG {l : PySem.W.OpenLaw} {n k : Nat} {q : Program} {loose : List Str} {XP : (Str → Option Value) → Heap → Prop} {YP : World → Heap → Prop} {d : DefRec} {K : Params → PySem.W.Frag} {CX : World → CXT} {x : Str}
    (hn : l.most = some n) (hn2 : n ≤ sizeLine) (hdf : d.params.defaults = []) (hr : Room k callerA) (hY : ∀ (w : World) (h : Heap), YP w h → (K w.params).In h)
    (F : ∀ (w : World) (mg : Str → Option Value) (fa : Addr) (h : Heap), (K w.params).In h → h.Ns mainGlobals mg → mg d.name = some (.ref fa) → (∀ (y : Str) (c P : Addr), ((recsOf q).find? fun e => e.name == y).isSome = true → PySem.W.tabIn (K w.params) y = some (c, P) → PySem.W.CodeHd h c P ∧ h.get? P = some (PySem.W.tabObj #[])) → LamX.LawAtS l w (K w.params) (CX w) k n x mg fa h)
    (hCX : ∀ (w : World) (H : Hp) (s : Shared) (e : Value) (s' : Shared), CX w [] H s (fun _ _ _ => False) e s' → False) : PySem.W.WalkO q loose XP YP l.row.toRowW d [] (fun f vs => PySem.call f vs) := by
  refine Att.attach_callB hn hdf fun w s₀ s₁ mg mb fa o pm cd doc a vs ns G Y ho hd hcd hmg hobj hints hlen hbits hg => ?_
  have KX := hY w _ Y
  obtain ⟨fd, cs, sp, hT, nT, C, hb, hsp, hF⟩ := F w mg fa _ KX G.T.g hmg fun y c P hr ht => by
    obtain ⟨e, he⟩ := Option.isSome_iff_exists.mp hr
    exact PySem.W.tab_of G.T KX he ht
  exact LamX.law_callTs KX G.T.g G.T.b G.T.builtins G.T.nolimit hg hT nT C G.T.bmain hobj hints (Nat.le_trans hlen hn2) hr hF hb (fun H hH hS => hsp H a ns hlen hbits hH hS) fun H e s' => hCX w H s₁ e s'
end Hid

namespace Hid
open PySem PySem.Spec PyProof.Rows L2
section
variable {prog : Program} {w : World} {A : Around} {E : Value → Shared → Prop} {s : Shared}
/-- tuple(text): the code of tuple.__new__ -/
theorem tupStr_code {z : Str} {t : Tok} {Q₁ : Value → Shared → Prop} (hh : A.handled = none) (hl : z.cps.size ≤ 100000)
    (h : ∀ (h' : Heap) (tk : Nat) (acc : Array Value), (∀ b o, s.heap.get? b = some o → h'.get? b = some o) → ItemsOf (SignAt z) acc z.cps.size → Q₁ (.ref h'.objs.size) { s with heap := h'.push { cls := .type "tuple", data := .seq acc }, toks := tk }) :
    codeAny (model prog w) A (.call (.builtin "tuple.__new__") ⟨[.type "tuple", .str z t], []⟩) (wants Q₁ E) s := by
  have hsz : z.cps.size ≤ sizeLine := Nat.le_trans hl (by decide)
  refine codeAny_of_tree ?_
  show wpAny _ A.in1 (do checkBuiltinCall "tuple.__new__" ⟨[.type "tuple", .str z t], []⟩; again (.builtin "tuple.__new__" ⟨[.type "tuple", .str z t], []⟩)) _ _ s
  refine wpAny_bind (wpAny_of_eq (F.newCall_tuple_1 _) (wpAny_pure ⟨plainId_quiet F.plain_tuple_new _, codeAny_builtin F.entry_tuple_new ?_⟩))
  rw [Around.under_plainId F.plain_tuple_new _]
  have hsub := sub_tuple_self; have hinit := init_tuple_lookup; have hmh := madeHere_tuple
  have hTI : s.TypeIs (.str z t) "str" := typeIs_str _ _ _
  have hh1 : A.in1.handled = none := hh
  wp_walk using wpAny_typeOf hTI, wpAny_collect_str (A := A.in1) hh1 z t (hn := hsz)
  intro s' acc hk hg hd ho hacc
  obtain ⟨h', g', d', tk, o'⟩ := s'
  obtain rfl : g' = s.gens := hg
  obtain rfl : d' = s.drawn := hd
  obtain rfl : o' = s.os := ho
  show wpAny _ _ (Builtin.Tuple.tupleExact acc.toList.toArray >>= fun v => ret v) _ _ (⟨h', s.gens, s.drawn, tk, s.os⟩ : Shared)
  unfold Builtin.Tuple.tupleExact
  refine wpAny_bind (wpAny_newObj_type ?_ (by show acc.toList.toArray.size ≤ sizeLine; simp only [Array.toArray_toList]; rw [hacc.1]; exact hsz)) <;> refine wpAny_pure ?_
  rw [show acc.toList.toArray = acc by simp]
  exact h h' tk acc hk hacc
theorem tupStr {z : Str} {t : Tok} {Q : Value → Shared → Prop} (hh : A.handled = none) (hl : z.cps.size ≤ 100000)
    (hQ : ∀ (h' : Heap) (tk : Nat) (acc : Array Value), (∀ b o, s.heap.get? b = some o → h'.get? b = some o) → ItemsOf (SignAt z) acc z.cps.size → Q (.ref h'.objs.size) { s with heap := h'.push { cls := .type "tuple", data := .seq acc }, toks := tk }) :
    wpAny (model prog w) A (call (.type "tuple") [.str z t]) Q E s := by
  refine callType_codes (Q₁ := fun obj s₁ => s₁.TypeIs obj "tuple" ∧ Q obj s₁) F.called_tuple (F.typeCall_tuple_1 _) F.entry_object_init (tupStr_code (A := A.in1) hh hl fun h' tk acc hk hacc => ⟨⟨_, Heap.get?_push_size _ rfl, rfl⟩, hQ h' tk acc hk hacc⟩) fun obj s₁ h₁ => ?_
  exact ⟨h₁.1, F.args_object_init_2 obj _, object_init_meets F.called_tuple.init.lookup F.called_tuple.made (by decide) prog w A.in1 _ s₁ ⟨h₁.1, rfl, h₁.2⟩⟩
end
def signsV (z : Str) : List V := z.cps.toList.map fun c => V.str ⟨#[c]⟩
theorem cr_tupS {X : Cx} (hc : X.calm = true) : CallR X (.type "tuple") (fun vs H Q => ∃ z : Str, vs = [.str z] ∧ z.cps.size ≤ 100000 ∧ ∀ p, H p = none → Q (.ref p) (upd H p (.tup (signsV z)))) := by
  intro pins s σ H vs us Q I r h
  obtain ⟨z, rfl, hl, q⟩ := h
  obtain ⟨u, rfl, t, rfl⟩ := r.one
  refine tupStr (I.ok.hd hc) hl fun h' tk acc hk hacc => ?_
  have I2 : Inv X pins σ H { s with heap := h', toks := tk } := I.kept hk
  have rv : Vals (signsV z) acc.toList := by
    have e : signsV z = (List.range acc.toList.length).map fun i => V.str ⟨#[z.cps.toList.getD i 0]⟩ := by
      unfold signsV
      rw [Array.length_toList, hacc.1, ← Array.length_toList]
      conv => lhs; rw [← map_range_getD' z.cps.toList 0]
      rw [List.map_map]; rfl
    rw [e]
    refine vals_of_get acc.toList _ fun j u hj => ?_
    obtain ⟨c, t, hc, rfl⟩ := hacc.2 j u (by rw [← hj, Array.getElem?_toList])
    refine ⟨t, ?_⟩
    rw [List.getD_eq_getElem?_getD, Array.getElem?_toList, hc]; rfl
  have hlen : (signsV z).length ≤ sizeLine := by unfold signsV; rw [List.length_map, Array.length_toList]; exact Nat.le_trans hl (by decide)
  refine ⟨.ref h'.objs.size, upd H h'.objs.size (.tup (signsV z)), I2.laid (t' := tk) (o := .tup (signsV z)) (fun c o e => Heap.get?_push_of_some _ e) (Nat.le_refl _) ⟨hlen, acc.toList, rv, ?_⟩, rfl, q _ (I2.hok.fresh (Nat.le_refl _))⟩
  rw [Array.toArray_toList]; exact IsTup.new _ _
end Hid

namespace Hid
open PySem PySem.Spec PyProof.Rows L2 Evl
section
variable {J : It} {n : Nat} {Gd : Hp → Prop} {Y : Nat → Hp → V → Hp → Prop}
/-- all, any over a walk: Pv by the turn and the heap -/
theorem gx_it (w : Walk J n Gd Y) {cont : Bool} {g : TG} {te : TE} {vs : List Nat} {σ : L2.St} {H1 : Hp} {Q : VK} (Pv : Nat → Hp → Prop) (h0 : Pv 0 H1) (hG : ∀ i H, i ≤ n → Pv i H → Gd H)
    (hs : ∀ i x H H', i < n → Pv i H → Y i H x H' → g x (wipe σ vs) H' fun σ2 H2 => wipe σ2 vs = wipe σ vs ∧ te σ2 H2 fun y H3 => ∃ b, y = .bl b ∧ (b = cont → Pv (i + 1) H3) ∧ (b ≠ cont → Q (.bl (!cont)) H3)) (hd : ∀ H, Pv n H → Q (.bl cont) H) :
    ∃ W : Nat → Nat → Hp → Prop, (∃ m, W 0 m H1) ∧ ∀ i m H, W i m H → (J.stop i H ∧ Q (.bl cont) H) ∨ (J.go i H ∧ ∃ Nx : Hp → Prop, (∀ H', Nx H' → ∃ m', m' < m ∧ W (i + 1) m' H') ∧
      ∀ x H', J.yld i H x H' → g x (wipe σ vs) H' fun σ2 H2 => wipe σ2 vs = wipe σ vs ∧ te σ2 H2 fun y H3 => ∃ b, y = .bl b ∧ (b = cont → Nx H3) ∧ (b ≠ cont → Q (.bl (!cont)) H3)) := by
  refine ⟨fun i m H => m = n - i ∧ i ≤ n ∧ Pv i H, ⟨n, by simp, Nat.zero_le _, h0⟩, fun i m H hw => ?_⟩
  obtain ⟨rfl, hi, p⟩ := hw
  rcases Nat.lt_or_ge i n with hlt | hge
  · exact .inr ⟨w.goes i H hlt (hG i H hi p), Pv (i + 1), fun H' p' => ⟨n - (i + 1), by omega, rfl, hlt, p'⟩, fun x H' y => hs i x H H' hlt p (w.yields i H x H' hlt (hG i H hi p) y)⟩
  · obtain rfl : i = n := by omega
    exact .inl ⟨w.stops H (hG i H hi p), hd H p⟩
end
theorem of_not {b : Bool} (h : (!b) = true) : b = false := by cases b; rfl; cases h
theorem of_not' {b : Bool} (h : (!b) = false) : b = true := by cases b; cases h; rfl
/-! things of any kind: a text, or no text -/
def NotS (K : PySem.W.Frag) (H : Hp) (v : V) : Prop := ∃ t, kitB t "str" = some false ∧ ∀ H1, Ex H H1 → TyX K H1 v (.type t)
theorem NotS.ex {K : PySem.W.Frag} {H H' : Hp} {v : V} (h : NotS K H v) (e : Ex H H') : NotS K H' v := let ⟨t, a, b⟩ := h; ⟨t, a, fun H1 e1 => b H1 (e.trans e1)⟩
def Th (K : PySem.W.Frag) (H : Hp) (v : V) : Option (List Nat) → Prop
  | some z => v = .str (tx z) ∧ z.length ≤ 1000
  | none => NotS K H v
theorem Th.ex {K : PySem.W.Frag} {H H' : Hp} {v : V} : ∀ {o : Option (List Nat)}, Th K H v o → Ex H H' → Th K H' v o
  | some _, h, _ => h
  | none, h, e => NotS.ex h e
theorem th_str {K : PySem.W.Frag} {H : Hp} (z : List Nat) (h : z.length ≤ 1000) : Th K H (.str (tx z)) (some z) := ⟨rfl, h⟩
theorem th_non {K : PySem.W.Frag} {H : Hp} : Th K H .non none := ⟨"NoneType", by decide +kernel, fun _ _ => .base .non⟩
theorem th_bl {K : PySem.W.Frag} {H : Hp} (b : Bool) : Th K H (.bl b) none := ⟨"bool", by decide +kernel, fun _ _ => .base (.bl b)⟩
theorem th_int {K : PySem.W.Frag} {H : Hp} (i : Int) : Th K H (.int i) none := ⟨"int", by decide +kernel, fun _ _ => .base (.int i)⟩
theorem th_tup {K : PySem.W.Frag} {H : Hp} {a : Addr} {xs : List V} (h : H a = some (.tup xs)) : Th K H (.ref a) none := ⟨"tuple", by decide +kernel, fun _ e => .base (.tup (e _ _ h))⟩
theorem th_lst {K : PySem.W.Frag} {H : Hp} {a : Addr} {xs : List V} (h : H a = some (.lst xs)) : Th K H (.ref a) none := ⟨"list", by decide +kernel, fun _ e => .base (.lst (e _ _ h))⟩
theorem th_dict {K : PySem.W.Frag} {H : Hp} {a : Addr} {xs : List (Key × V)} (h : H a = some (.dK xs)) : Th K H (.ref a) none := ⟨"dict", by decide +kernel, fun _ e => .base (.dK (e _ _ h))⟩
section
variable {K : PySem.W.Frag} {σ : L2.St} {H : Hp} {ta : TE}
theorem ev_isS {v : V} {o : Option (List Nat)} (ha : Ev ta σ H v) (h : Th K H v o) : Ev (tCB (rIsi K) (tCons ta (tCons (tC (.ty "str")) tNil))) σ H (.bl o.isSome) := by
  cases o with
  | none => obtain ⟨t, hk, ht⟩ := h; exact ev_isi ha ht hk
  | some z => obtain ⟨rfl, _⟩ := h; exact ev_isi (b := true) ha (fun _ _ => .base (.str _)) (by decide +kernel)
end
/-! what is a text of one to eight of these signs; what fits a row -/
def wr (o : Option (List Nat)) (g : List Nat) : Bool := match o with
  | none => false
  | some z => decide (1 ≤ z.length ∧ z.length ≤ 8) && z.all fun c => decide (c ∈ g)
def lt1 (c d : Nat) : Bool := decide (c = 98) || decide (c = d)
def fitsO (r : List Nat) (o : Option (List Nat)) : Bool := match o with
  | none => false
  | some z => decide (z.length = r.length) && (z.all fun c => decide (c ∈ [110, 121])) && (List.zipWith lt1 r z).all id
def otherO (r : List Nat) (o : Option (List Nat)) : V := match o with
  | none => .non
  | some z => if fitsO r (some z) = true then .str (tx (turned r z)) else .non
theorem otherO_no {r : List Nat} {o : Option (List Nat)} (h : fitsO r o = false) : otherO r o = .non := by
  cases o with
  | none => rfl
  | some z => show (if fitsO r (some z) = true then V.str (tx (turned r z)) else V.non) = V.non; rw [h]; rfl
theorem otherO_yes {r z : List Nat} (h : fitsO r (some z) = true) : otherO r (some z) = .str (tx (turned r z)) := by
  show (if fitsO r (some z) = true then V.str (tx (turned r z)) else V.non) = _; rw [if_pos h]
theorem row_wr {r : List Nat} (h : RowL r) : wr (some r) [110, 98, 121] = true := by
  unfold wr
  rw [Bool.and_eq_true]
  refine ⟨decide_eq_true h.1, List.all_eq_true.mpr fun c hc => decide_eq_true ?_⟩
  rcases h.2 c hc with z | z | z <;> rw [z] <;> simp
/-- fits, step by step -/
theorem fits_step {r : List Nat} (hr : RowL r) (o : Option (List Nat)) : fitsO r o = (wr o [110, 121] && match o with | none => false | some z => decide (r.length = z.length) && (List.zipWith lt1 r z).all id) := by
  cases o with
  | none => rfl
  | some z =>
    show ((decide (z.length = r.length) && z.all fun c => decide (c ∈ [110, 121])) && (List.zipWith lt1 r z).all id) = ((decide (1 ≤ z.length ∧ z.length ≤ 8) && z.all fun c => decide (c ∈ [110, 121])) && (decide (r.length = z.length) && (List.zipWith lt1 r z).all id))
    by_cases h : z.length = r.length
    · have h1 : 1 ≤ z.length ∧ z.length ≤ 8 := by have := hr.1; omega
      simp only [decide_eq_true h, decide_eq_true h1, decide_eq_true h.symm, Bool.true_and]
    · have h' : ¬ r.length = z.length := fun q => h q.symm
      simp only [decide_eq_false h, decide_eq_false h', Bool.false_and, Bool.and_false]
end Hid

namespace Hid
open PySem PySem.Spec PyProof.Rows L2 Evl
/-! half-rows that fit a row, and its partings -/
abbrev Fit (r h : List Nat) : Prop := fitsO r (some h) = true
theorem fit_snoc (r h : List Nat) (c d : Nat) : fitsO (r ++ [c]) (some (h ++ [d])) = (fitsO r (some h) && (decide (d ∈ [110, 121]) && lt1 c d)) := by
  show ((decide ((h ++ [d]).length = (r ++ [c]).length) && ((h ++ [d]).all fun c => decide (c ∈ [110, 121]))) && (List.zipWith lt1 (r ++ [c]) (h ++ [d])).all id) = (((decide (h.length = r.length) && h.all fun c => decide (c ∈ [110, 121])) && (List.zipWith lt1 r h).all id) && (decide (d ∈ [110, 121]) && lt1 c d))
  by_cases hl : h.length = r.length
  · have e : (h ++ [d]).length = (r ++ [c]).length := by simp [hl]
    rw [List.zipWith_append hl.symm, List.all_append, List.all_append, decide_eq_true e, decide_eq_true hl]
    have e1 : ([d].all fun c => decide (c ∈ [110, 121])) = decide (d ∈ [110, 121]) := Bool.and_true _
    have e2 : (List.zipWith lt1 [c] [d]).all id = lt1 c d := Bool.and_true _
    rw [e1, e2]
    ac_rfl
  · have e : ¬ (h ++ [d]).length = (r ++ [c]).length := by simp [hl]
    rw [decide_eq_false e, decide_eq_false hl]
    simp only [Bool.false_and]
theorem fit_len {r h : List Nat} (f : Fit r h) : h.length = r.length ∧ ∀ c ∈ h, c = 110 ∨ c = 121 := by
  have h1 : (decide (h.length = r.length) && (h.all fun c => decide (c ∈ [110, 121])) && (List.zipWith lt1 r h).all id) = true := f
  rw [Bool.and_eq_true, Bool.and_eq_true] at h1
  refine ⟨of_decide_eq_true h1.1.1, fun c hc => ?_⟩
  have := List.all_eq_true.mp h1.1.2 c hc
  simpa using this
theorem sgn_or (k : Nat) : sgn k = 110 ∨ sgn k = 121 := by
  unfold sgn; split <;> simp
theorem tw_or (k : Nat) : tw 98 (sgn k) = 110 ∨ tw 98 (sgn k) = 121 := by
  rcases sgn_or k with h | h <;> rw [h] <;> decide
abbrev NBY (r : List Nat) : Prop := ∀ c ∈ r, c = 110 ∨ c = 98 ∨ c = 121
theorem last_of {n : Nat} {r : List Nat} (h : r.length = n + 1) : ∃ q c, r = q ++ [c] ∧ q.length = n := by
  have hne : r ≠ [] := fun z => by rw [z] at h; cases h
  exact ⟨r.dropLast, r.getLast hne, (List.dropLast_concat_getLast hne).symm, by rw [List.length_dropLast]; omega⟩
theorem fit_part : ∀ (n : Nat) (r : List Nat), r.length = n → NBY r → ∀ h : List Nat, Fit r h ↔ ∃ k, k < many r ∧ (h = (part r k).1 ∨ h = (part r k).2) := by
  intro n
  induction n with
  | zero =>
    intro r hn _ h
    have : r = [] := List.length_eq_zero_iff.mp hn
    subst this
    constructor
    · intro f
      exact ⟨0, by decide, .inl (List.length_eq_zero_iff.mp (fit_len f).1)⟩
    · rintro ⟨k, _, e | e⟩ <;> subst e <;> rfl
  | succ n ih =>
    intro r hn hr h
    obtain ⟨q, c, rfl, hq⟩ := last_of hn
    have hc := hr c (by simp)
    have ihq := ih q hq fun c hc => hr c (List.mem_append_left _ hc)
    constructor
    · intro f
      obtain ⟨fl, fc⟩ := fit_len f
      obtain ⟨g, d, rfl, _⟩ := last_of (fl.trans hn)
      have f' : fitsO (q ++ [c]) (some (g ++ [d])) = true := f
      rw [fit_snoc, Bool.and_eq_true, Bool.and_eq_true] at f'
      obtain ⟨f1, f2, f3⟩ := f'
      have hd : d = 110 ∨ d = 121 := fc d (by simp)
      obtain ⟨k, hk, hg⟩ := (ihq g).mp f1
      by_cases h98 : c = 98
      · subst h98
        by_cases h0 : q.count 98 = 0
        · have hm : many q = 1 := by unfold many; rw [h0]
          have k0 : k = 0 := by omega
          subst k0
          refine ⟨0, by rw [many_snoc, if_neg (fun h => h.2 h0)]; omega, ?_⟩
          rw [part_b]
          show g ++ [d] = (part q 0).1 ++ [110] ∨ g ++ [d] = (part q 0).2 ++ [121]
          rw [part_no_b q 0 h0] at hg ⊢
          have hg' : g = q := hg.elim id id
          rw [hg']
          rcases hd with e | e <;> rw [e]
          · exact .inl rfl
          · exact .inr rfl
        · have hm : many (q ++ [98]) = 2 * many q := by rw [many_snoc, if_pos ⟨rfl, h0⟩]
          have e0 : 2 * k / 2 = k := by omega
          have e1 : (2 * k + 1) / 2 = k := by omega
          rcases hg with e | e <;> rcases hd with e2 | e2
          · refine ⟨2 * k, by omega, .inl ?_⟩
            rw [part_b, e, e2, e0, (sgn_two k).1]
          · refine ⟨2 * k + 1, by omega, .inl ?_⟩
            rw [part_b, e, e2, e1, (sgn_two k).2]
          · refine ⟨2 * k + 1, by omega, .inr ?_⟩
            rw [part_b, e, e2, e1, (sgn_two k).2, tw_b.2]
          · refine ⟨2 * k, by omega, .inr ?_⟩
            rw [part_b, e, e2, e0, (sgn_two k).1, tw_b.1]
      · have hcd : c = d := by
          unfold lt1 at f3
          rw [decide_eq_false h98, Bool.false_or] at f3
          exact of_decide_eq_true f3
        refine ⟨k, by rw [many_snoc, if_neg (fun h => h98 h.1)]; exact hk, ?_⟩
        rw [part_o _ _ _ h98, ← hcd]
        rcases hg with e | e <;> rw [e]
        · exact .inl rfl
        · exact .inr rfl
    · rintro ⟨k, hk, e⟩
      by_cases h98 : c = 98
      · subst h98
        have hk2 : k / 2 < many q := by
          rw [many_snoc] at hk
          by_cases h0 : q.count 98 = 0
          · rw [if_neg (fun h => h.2 h0)] at hk; omega
          · rw [if_pos ⟨rfl, h0⟩] at hk; omega
        rw [part_b] at e
        rcases e with e | e <;> rw [e]
        · show fitsO _ _ = true
          rw [fit_snoc, show fitsO q (some (part q (k / 2)).1) = true from (ihq _).mpr ⟨k / 2, hk2, .inl rfl⟩]
          rcases sgn_or k with z | z <;> rw [z] <;> rfl
        · show fitsO _ _ = true
          rw [fit_snoc, show fitsO q (some (part q (k / 2)).2) = true from (ihq _).mpr ⟨k / 2, hk2, .inr rfl⟩]
          rcases tw_or k with z | z <;> rw [z] <;> rfl
      · have hc2 : c = 110 ∨ c = 121 := by
          rcases hc with z | z | z
          · exact .inl z
          · exact absurd z h98
          · exact .inr z
        rw [many_snoc, if_neg (fun h => h98 h.1)] at hk
        rw [part_o _ _ _ h98] at e
        rcases e with e | e <;> rw [e]
        · show fitsO _ _ = true
          rw [fit_snoc, show fitsO q (some (part q k).1) = true from (ihq _).mpr ⟨k, hk, .inl rfl⟩]
          rcases hc2 with z | z <;> rw [z] <;> rfl
        · show fitsO _ _ = true
          rw [fit_snoc, show fitsO q (some (part q k).2) = true from (ihq _).mpr ⟨k, hk, .inr rfl⟩]
          rcases hc2 with z | z <;> rw [z] <;> rfl
/-! the number read off the lesser half -/
def numB (r h : List Nat) : Nat := (r.zip h).foldl (fun n p => if p.1 = 98 then 2 * n + (if p.2 = 121 then 1 else 0) else n) 0
theorem numB_snoc (r h : List Nat) (c d : Nat) (e : h.length = r.length) : numB (r ++ [c]) (h ++ [d]) = if c = 98 then 2 * numB r h + (if d = 121 then 1 else 0) else numB r h := by
  unfold numB
  rw [List.zip_append e.symm, List.foldl_append]
  rfl
theorem numB_part : ∀ (n : Nat) (r : List Nat), r.length = n → ∀ k, k < 2 ^ r.count 98 → numB r (part r k).1 = k := by
  intro n
  induction n with
  | zero =>
    intro r hn k hk
    have : r = [] := List.length_eq_zero_iff.mp hn
    subst this
    have k0 : k = 0 := by simpa using hk
    subst k0
    rfl
  | succ n ih =>
    intro r hn k hk
    obtain ⟨q, c, rfl, hq⟩ := last_of hn
    by_cases h98 : c = 98
    · subst h98
      rw [part_b]
      show numB (q ++ [98]) ((part q (k / 2)).1 ++ [sgn k]) = k
      rw [List.count_append, show List.count 98 [98] = 1 from rfl, Nat.pow_succ] at hk
      rw [numB_snoc _ _ _ _ (show (part q (k / 2)).1.length = q.length from lesser_len _ _), if_pos rfl, ih q hq (k / 2) (by omega)]
      unfold sgn
      by_cases h2 : k % 2 = 0
      · rw [if_pos h2, if_neg (by decide)]; omega
      · rw [if_neg h2, if_pos rfl]; omega
    · have h0 : List.count 98 [c] = 0 := List.count_eq_zero.mpr (by simpa using fun z => h98 z.symm)
      rw [List.count_append, h0] at hk
      rw [part_o _ _ _ h98]
      show numB (q ++ [c]) ((part q k).1 ++ [c]) = k
      rw [numB_snoc _ _ _ _ (show (part q k).1.length = q.length from lesser_len _ _), if_neg h98]
      exact ih q hq k hk
theorem many_le (r : List Nat) : many r ≤ 2 ^ r.count 98 := Nat.pow_le_pow_right (by decide) (by omega)
theorem turned_back : ∀ (r h : List Nat), h.length = r.length → (∀ c ∈ h, c = 110 ∨ c = 121) → turned r (turned r h) = h
  | [], [], _, _ => rfl
  | [], _ :: _, e, _ => nomatch e
  | _ :: _, [], e, _ => nomatch e
  | c :: r, d :: h, e, hc => by
    show tw c (tw c d) :: turned r (turned r h) = d :: h
    rw [turned_back r h (by simpa using e) fun x hx => hc x (List.mem_cons_of_mem _ hx)]
    congr 1
    by_cases h98 : c = 98 <;> rcases hc d List.mem_cons_self with z | z <;> simp [tw, h98, z]
theorem fit_of {r : List Nat} (hr : NBY r) {h : List Nat} : Fit r h ↔ ∃ k, k < many r ∧ (h = (part r k).1 ∨ h = (part r k).2) := fit_part _ r rfl hr h
theorem part_back {r : List Nat} (hr : NBY r) {k : Nat} (hk : k < many r) : turned r (part r k).2 = (part r k).1 := by
  obtain ⟨h1, h2⟩ := fit_len ((fit_of hr).mpr ⟨k, hk, .inl rfl⟩)
  exact turned_back r _ h1 h2
theorem fit_turned {r h : List Nat} (hr : NBY r) (f : Fit r h) : Fit r (turned r h) ∧ turned r (turned r h) = h := by
  obtain ⟨h1, h2⟩ := fit_len f
  refine ⟨?_, turned_back r h h1 h2⟩
  obtain ⟨k, hk, e | e⟩ := (fit_of hr).mp f
  · exact (fit_of hr).mpr ⟨k, hk, .inr (by rw [e]; rfl)⟩
  · exact (fit_of hr).mpr ⟨k, hk, .inl (by rw [e, part_back hr hk])⟩
theorem part_lt : ∀ (n : Nat) (r : List Nat), r.length = n → 98 ∈ r → ∀ k l, k < many r → l < many r → (part r k).1 < (part r l).2 := by
  intro n
  induction n with
  | zero =>
    intro r hn h
    have : r = [] := List.length_eq_zero_iff.mp hn
    subst this
    cases h
  | succ n ih =>
    intro r hn hm k l hk hl
    obtain ⟨q, c, rfl, hq⟩ := last_of hn
    have ln : ∀ i j, (part q i).1.length = (part q j).2.length := fun i j => ((part_good q).1 i).1.trans ((part_good q).1 j).2.1.symm
    by_cases h98 : c = 98
    · subst h98
      rw [part_b, part_b]
      rw [many_snoc] at hk hl
      by_cases h0 : q.count 98 = 0
      · rw [if_neg (fun h => h.2 h0)] at hk hl
        have hm : many q = 1 := by unfold many; rw [h0]
        have k0 : k = 0 := by omega
        have l0 : l = 0 := by omega
        subst k0 l0
        rw [part_no_b q _ h0]
        exact app_same q 110 121 (by decide)
      · rw [if_pos ⟨rfl, h0⟩] at hk hl
        exact app_lt _ _ _ _ (ln _ _) (ih q hq (List.count_pos_iff.mp (by omega)) _ _ (by omega) (by omega))
    · rw [many_snoc, if_neg (fun h => h98 h.1)] at hk hl
      rw [part_o _ _ _ h98, part_o _ _ _ h98]
      have hq98 : 98 ∈ q := by
        rcases List.mem_append.mp hm with z | z
        · exact z
        · exact absurd (List.mem_singleton.mp z).symm h98
      exact app_lt _ _ _ _ (ln _ _) (ih q hq hq98 _ _ hk hl)
theorem lt_ne {a b : List Nat} (h : a < b) : a ≠ b := fun e => by rw [e] at h; exact List.lt_irrefl _ h
/-! all that is told of the partings -/
def tolds (p : List Nat × List Nat) : List (List Nat) := if p.1 ≠ p.2 then [p.1, p.2] else [p.1]
def told (r : List Nat) (n : Nat) : List (List Nat) := (List.range n).flatMap fun k => tolds (part r k)
theorem told_succ (r : List Nat) (n : Nat) : told r (n + 1) = told r n ++ tolds (part r n) := by
  unfold told
  rw [List.range_succ, List.flatMap_append]
  simp
theorem mem_tolds {x : List Nat} {p : List Nat × List Nat} : x ∈ tolds p ↔ x = p.1 ∨ x = p.2 := by
  unfold tolds
  by_cases h : p.1 = p.2
  · rw [if_neg (by simpa using h)]; simp [h]
  · rw [if_pos h]; simp
theorem mem_told {r : List Nat} (hr : NBY r) {x : List Nat} : x ∈ told r (many r) ↔ Fit r x := by
  unfold told
  rw [List.mem_flatMap, fit_of hr]
  constructor
  · rintro ⟨k, hk, e⟩; exact ⟨k, List.mem_range.mp hk, mem_tolds.mp e⟩
  · rintro ⟨k, hk, e⟩; exact ⟨k, List.mem_range.mpr hk, mem_tolds.mpr e⟩
theorem one_many {r : List Nat} (h : 98 ∉ r) : many r = 1 ∧ ∀ k, part r k = (r, r) := by
  have h0 : r.count 98 = 0 := List.count_eq_zero.mpr h
  exact ⟨by unfold many; rw [h0], fun k => part_no_b r k h0⟩
theorem told_one {r : List Nat} (h : 98 ∉ r) : told r (many r) = [r] := by
  obtain ⟨h1, h2⟩ := one_many h
  rw [h1]
  show tolds (part r 0) ++ [] = [r]
  rw [h2, List.append_nil]
  unfold tolds
  rw [if_neg (by simp)]
theorem part_ne {r : List Nat} (h : 98 ∈ r) (k : Nat) : (part r k).1 ≠ (part r k).2 := turned_ne r _ (lesser_len _ _) h
theorem told_nodup {r : List Nat} (hr : NBY r) : (told r (many r)).Nodup := by
  by_cases h : 98 ∈ r
  · unfold told
    refine List.pairwise_flatMap.mpr ⟨fun k hk => ?_, ?_⟩
    · unfold tolds
      rw [if_pos (part_ne h k)]
      exact List.pairwise_cons.mpr ⟨fun x hx => by rw [List.mem_singleton.mp hx]; exact part_ne h k, List.pairwise_singleton _ _⟩
    · refine List.Pairwise.imp_of_mem ?_ (List.pairwise_lt_range (n := many r))
      intro k l hk hl hkl x hx y hy
      have hk' := List.mem_range.mp hk
      have hl' := List.mem_range.mp hl
      have h1 := lt_ne ((part_good r).2.2 k l hkl hl')
      rcases mem_tolds.mp hx with e | e <;> rcases mem_tolds.mp hy with e2 | e2 <;> rw [e, e2]
      · exact h1
      · exact lt_ne (part_lt _ r rfl h k l hk' hl')
      · exact (lt_ne (part_lt _ r rfl h l k hl' hk')).symm
      · intro z
        refine h1 ?_
        rw [← part_back hr hk', ← part_back hr hl', z]
  · rw [told_one h]
    exact List.pairwise_singleton _ _
theorem told_len (r : List Nat) (h : 98 ∈ r) : ∀ n, (told r n).length = 2 * n
  | 0 => rfl
  | n + 1 => by
    rw [told_succ, List.length_append, told_len r h n]
    unfold tolds
    rw [if_pos (part_ne h n)]
    show 2 * n + 2 = _
    omega
theorem told_le (r : List Nat) : ∀ n, (told r n).length ≤ 2 * n
  | 0 => Nat.le_refl _
  | n + 1 => by
    rw [told_succ, List.length_append]
    have := told_le r n
    have h2 : (tolds (part r n)).length ≤ 2 := by unfold tolds; split <;> simp
    omega
/-! the lesser and the greater -/
def mn (a b : List Nat) : List Nat := if b < a then b else a
def mx (a b : List Nat) : List Nat := if a < b then b else a
theorem mnmx {a b : List Nat} (h : a = b ∨ a < b) : (mn a b, mx a b) = (a, b) ∧ (mn b a, mx b a) = (a, b) := by
  unfold mn mx
  rcases h with e | e
  · subst e
    rw [if_neg (List.lt_irrefl _)]
    exact ⟨rfl, rfl⟩
  · have n : ¬ b < a := fun z => List.lt_irrefl _ (List.lt_trans e z)
    simp only [if_neg n, if_pos e, and_self]
theorem fit_pair {r h : List Nat} (hr : NBY r) (f : Fit r h) : ∃ k, k < many r ∧ part r k = (mn h (turned r h), mx h (turned r h)) := by
  obtain ⟨k, hk, e⟩ := (fit_of hr).mp f
  refine ⟨k, hk, ?_⟩
  obtain ⟨m1, m2⟩ := mnmx ((part_good r).2.1 k hk)
  rcases e with e | e
  · have e2 : turned r h = (part r k).2 := by rw [e]; rfl
    rw [e2, e]
    exact m1.symm
  · have e2 : turned r h = (part r k).1 := by rw [e]; exact part_back hr hk
    rw [e2, e]
    exact m2.symm
/-! two half-rows and their row -/
theorem rowBy_lt : ∀ a b : List Nat, (List.zipWith lt1 (rowBy a b) a).all id = true
  | [], _ => by cases ‹List Nat› <;> rfl
  | _ :: _, [] => rfl
  | s :: a, t :: b => by
    show (lt1 (rb s t) s && (List.zipWith lt1 (rowBy a b) a).all id) = true
    rw [rowBy_lt a b, Bool.and_true]
    unfold lt1 rb
    by_cases h : s = t
    · rw [if_pos h, decide_eq_true rfl, Bool.or_true]
    · rw [if_neg h, decide_eq_true rfl, Bool.true_or]
theorem rowBy_turn : ∀ a b : List Nat, a.length = b.length → (∀ c ∈ a, c = 110 ∨ c = 121) → (∀ c ∈ b, c = 110 ∨ c = 121) → turned (rowBy a b) a = b
  | [], [], _, _, _ => rfl
  | [], _ :: _, e, _, _ => nomatch e
  | _ :: _, [], e, _, _ => nomatch e
  | s :: a, t :: b, e, ha, hb => by
    show tw (rb s t) s :: turned (rowBy a b) a = t :: b
    rw [rowBy_turn a b (by simpa using e) (fun x hx => ha x (List.mem_cons_of_mem _ hx)) fun x hx => hb x (List.mem_cons_of_mem _ hx)]
    congr 1
    rcases ha s List.mem_cons_self with z | z <;> rcases hb t List.mem_cons_self with y | y <;> rw [z, y] <;> decide
theorem rowBy_nby : ∀ a b : List Nat, (∀ c ∈ a, c = 110 ∨ c = 121) → NBY (rowBy a b)
  | [], _, _ => by intro c hc; cases ‹List Nat› <;> cases hc
  | _ :: _, [], _ => by intro c hc; cases hc
  | s :: a, t :: b, ha => by
    intro c hc
    rcases List.mem_cons.mp (show c ∈ rb s t :: rowBy a b from hc) with e | e
    · rw [e]
      unfold rb
      split
      · rcases ha s List.mem_cons_self with z | z <;> simp [z]
      · exact .inr (.inl rfl)
    · exact rowBy_nby a b (fun x hx => ha x (List.mem_cons_of_mem _ hx)) c e
abbrev HalfN (m : Nat) (h : List Nat) : Prop := h.length = m ∧ ∀ c ∈ h, c = 110 ∨ c = 121
theorem fit_mk {r h : List Nat} (hl : h.length = r.length) (hc : ∀ c ∈ h, c = 110 ∨ c = 121) : fitsO r (some h) = (List.zipWith lt1 r h).all id := by
  show ((decide (h.length = r.length) && h.all fun c => decide (c ∈ [110, 121])) && (List.zipWith lt1 r h).all id) = _
  have h2 : (h.all fun c => decide (c ∈ [110, 121])) = true := List.all_eq_true.mpr fun c hx => decide_eq_true (by simpa using hc c hx)
  rw [decide_eq_true hl, h2]
  rfl
theorem two_part {m : Nat} {a b : List Nat} (ha : HalfN m a) (hb : HalfN m b) : ∃ k, k < many (rowBy a b) ∧ part (rowBy a b) k = (mn a b, mx a b) := by
  have hl : a.length = (rowBy a b).length := by unfold rowBy; rw [List.length_zipWith, ha.1, hb.1, Nat.min_self]
  obtain ⟨k, hk, e⟩ := fit_pair (rowBy_nby a b ha.2) (show Fit (rowBy a b) a from (fit_mk hl ha.2).trans (rowBy_lt a b))
  rw [rowBy_turn a b (ha.1.trans hb.1.symm) ha.2 hb.2] at e
  exact ⟨k, hk, e⟩
/-! all half-rows of a length -/
def allH : Nat → List (List Nat)
  | 0 => [[]]
  | n + 1 => (allH n).map (· ++ [110]) ++ (allH n).map (· ++ [121])
theorem allH_mem : ∀ {n : Nat} {h : List Nat}, h ∈ allH n ↔ HalfN n h
  | 0, h => by
    constructor
    · intro q
      rw [List.mem_singleton.mp q]
      exact ⟨rfl, fun c hc => nomatch hc⟩
    · intro q
      rw [List.length_eq_zero_iff.mp q.1]
      exact List.mem_singleton.mpr rfl
  | n + 1, h => by
    have mk : ∀ {g : List Nat} {d : Nat}, (d = 110 ∨ d = 121) → g ∈ allH n → HalfN (n + 1) (g ++ [d]) := fun {g d} hd hg => by
      obtain ⟨l, c⟩ := allH_mem.mp hg
      refine ⟨by rw [List.length_append, l]; rfl, fun x hx => ?_⟩
      rcases List.mem_append.mp hx with z | z
      · exact c x z
      · rw [List.mem_singleton.mp z]; exact hd
    constructor
    · intro q
      rcases List.mem_append.mp q with z | z <;> obtain ⟨g, hg, rfl⟩ := List.mem_map.mp z
      · exact mk (.inl rfl) hg
      · exact mk (.inr rfl) hg
    · rintro ⟨l, c⟩
      obtain ⟨g, d, rfl, hg⟩ := last_of l
      have hm : g ∈ allH n := allH_mem.mpr ⟨hg, fun x hx => c x (List.mem_append_left _ hx)⟩
      rcases c d (by simp) with z | z <;> rw [z]
      · exact List.mem_append_left _ (List.mem_map.mpr ⟨g, hm, rfl⟩)
      · exact List.mem_append_right _ (List.mem_map.mpr ⟨g, hm, rfl⟩)
theorem allH_nodup : ∀ n, (allH n).Nodup
  | 0 => List.pairwise_singleton _ _
  | n + 1 => by
    have hm : ∀ d : Nat, ((allH n).map (· ++ [d])).Nodup := fun d => List.pairwise_map.mpr ((allH_nodup n).imp fun ne e => ne (List.append_cancel_right e))
    refine List.nodup_append.mpr ⟨hm _, hm _, fun x hx y hy e => ?_⟩
    obtain ⟨g, _, rfl⟩ := List.mem_map.mp hx
    obtain ⟨g2, _, rfl⟩ := List.mem_map.mp hy
    have := congrArg List.getLast? e
    simp at this
theorem allH_len : ∀ n, (allH n).length = 2 ^ n
  | 0 => rfl
  | n + 1 => by
    show ((allH n).map _ ++ (allH n).map _).length = _
    rw [List.length_append, List.length_map, List.length_map, allH_len n, Nat.pow_succ]
    omega
theorem rise_uniq : ∀ {l m : List Str}, Rise l → Rise m → (∀ x, x ∈ l ↔ x ∈ m) → l = m
  | [], [], _, _, _ => rfl
  | [], y :: m, _, _, e => absurd ((e y).mpr List.mem_cons_self) (by simp)
  | x :: l, [], _, _, e => absurd ((e x).mp List.mem_cons_self) (by simp)
  | x :: l, y :: m, hl, hm, e => by
    obtain ⟨l1, l2⟩ := List.pairwise_cons.mp hl
    obtain ⟨m1, m2⟩ := List.pairwise_cons.mp hm
    have hxy : x = y := by
      rcases List.mem_cons.mp ((e x).mp List.mem_cons_self) with z | z
      · exact z
      · rcases List.mem_cons.mp ((e y).mpr List.mem_cons_self) with z2 | z2
        · exact z2.symm
        · exact absurd (List.lt_trans (m1 x z) (l1 y z2)) (List.lt_irrefl _)
    subst hxy
    rw [rise_uniq l2 m2 fun z => ?_]
    constructor
    · intro hz
      rcases List.mem_cons.mp ((e z).mp (List.mem_cons_of_mem _ hz)) with w | w
      · have := l1 z hz
        rw [w] at this
        exact absurd this (List.lt_irrefl _)
      · exact w
    · intro hz
      rcases List.mem_cons.mp ((e z).mpr (List.mem_cons_of_mem _ hz)) with w | w
      · have := m1 z hz
        rw [w] at this
        exact absurd this (List.lt_irrefl _)
      · exact w
theorem nodup_tx {l : List (List Nat)} (h : l.Nodup) : (l.map tx).Nodup := List.pairwise_map.mpr (h.imp fun ne e => ne (tx_inj e))
def HL (n : Nat) : List (List Nat) := (srt ((allH n).map tx)).map fun z => z.cps.toList
theorem HL_tx (n : Nat) : (HL n).map tx = srt ((allH n).map tx) := by
  unfold HL
  rw [List.map_map]
  conv => rhs; rw [← List.map_id (srt ((allH n).map tx))]
  exact List.map_congr_left fun z _ => tx_cps z
theorem HL_mem {n : Nat} {h : List Nat} : h ∈ HL n ↔ HalfN n h := by
  rw [← allH_mem]
  constructor
  · intro q
    have : tx h ∈ (HL n).map tx := List.mem_map.mpr ⟨h, q, rfl⟩
    rw [HL_tx, mem_srt] at this
    obtain ⟨g, hg, e⟩ := List.mem_map.mp this
    rw [← tx_inj e]
    exact hg
  · intro q
    have : tx h ∈ srt ((allH n).map tx) := mem_srt.mpr (List.mem_map.mpr ⟨h, q, rfl⟩)
    rw [← HL_tx] at this
    obtain ⟨g, hg, e⟩ := List.mem_map.mp this
    rw [← tx_inj e]
    exact hg
theorem HL_len (n : Nat) : (HL n).length = 2 ^ n := by
  unfold HL
  rw [List.length_map, srt_len, List.length_map, allH_len]
theorem told_sorted {r : List Nat} (hr : NBY r) : srt ((told r (many r)).map tx) = ((HL r.length).filter fun h => fitsO r (some h)).map tx := by
  refine rise_uniq (rise_of (nodup_tx (told_nodup hr))).1 ?_ fun x => ?_
  · have h1 : Rise ((HL r.length).map tx) := by rw [HL_tx]; exact (rise_of (nodup_tx (allH_nodup _))).1
    exact List.Pairwise.sublist (List.filter_sublist.map tx) h1
  · rw [mem_srt, List.mem_map, List.mem_map]
    constructor
    · rintro ⟨h, hm, e⟩
      have f := (mem_told hr).mp hm
      exact ⟨h, List.mem_filter.mpr ⟨HL_mem.mpr (fit_len f), f⟩, e⟩
    · rintro ⟨h, hm, e⟩
      exact ⟨h, (mem_told hr).mpr (List.mem_filter.mp hm).2, e⟩
end Hid

namespace Hid
open PySem PySem.Spec PyProof.Rows L2
/-! the greater, the lesser of two texts -/
theorem two_at {a b : Str} {t u : Tok} : ∀ (i : Nat) (v : Value), (#[Value.str a t, .str b u] : Array Value)[i]? = some v → ∃ t', v = .str (if i = 0 then a else b) t'
  | 0, v, h => ⟨t, by simpa using h.symm⟩
  | 1, v, h => ⟨u, by simpa using h.symm⟩
  | n + 2, v, h => by simp at h
section
variable {prog : Program} {w : World} {A : Around} {E : Value → Shared → Prop} {s : Shared}
theorem far {h : Heap} {c : Addr} {o : Obj} (e : h.get? c = some o) (z : c = h.objs.size + 1) : False := by
  have q := Heap.lt_size e
  rw [z] at q
  exact Nat.lt_irrefl _ (Nat.lt_of_succ_lt q)
theorem strs_gt {P : Nat → Value → Prop} (val : Nat → Str) (hval : ∀ i v, P i v → ∃ t, v = .str (val i) t) : CmpOf prog w A .Gt P (fun i j => decide ((val j).cps.toList < (val i).cps.toList)) := fun i j vi vj s Q E hi hj h => by
  obtain ⟨t, rfl⟩ := hval i vi hi; obtain ⟨u, rfl⟩ := hval j vj hj
  exact PySem.P.gt_str h
theorem strs_lt {P : Nat → Value → Prop} (val : Nat → Str) (hval : ∀ i v, P i v → ∃ t, v = .str (val i) t) : CmpOf prog w A .Lt P (fun i j => decide ((val i).cps.toList < (val j).cps.toList)) := fun i j vi vj s Q E hi hj h => by
  obtain ⟨t, rfl⟩ := hval i vi hi; obtain ⟨u, rfl⟩ := hval j vj hj
  exact lt_str h
theorem max2S {a b : Str} {t u : Tok} {Q : Value → Shared → Prop} (hh : A.handled = none) (h : ∀ h' tk, (∀ c o, s.heap.get? c = some o → h'.get? c = some o) → Q (if a.cps.toList < b.cps.toList then .str b u else .str a t) { s with heap := h', toks := tk }) :
    wpAny (model prog w) A (call (.builtin "max") [.str a t, .str b u]) Q E s := by
  have hT : (s.heap.push { cls := .type "tuple", data := .seq #[.str a t, .str b u] }).IsTuple s.heap.objs.size #[.str a t, .str b u] := ⟨_, Heap.get?_push_size _ rfl, rfl, 0, rfl⟩
  have hsz : (s.heap.push { cls := .type "tuple", data := .seq #[.str a t, .str b u] }).objs.size = s.heap.objs.size + 1 := Heap.size_push ..
  refine call_max_two (wpAny_pyIter_tuple hT ⟨_, [_, s.heap.objs.size], [_], _, _, _, _, rfl, Walks.tuple (A := A.in1) hh _ s.heap.objs.size (by rw [hsz]; exact Nat.ne_of_lt (Nat.lt_succ_self _)) #[.str a t, .str b u], ⟨⟨_, Heap.get?_push_size _ rfl, rfl, rfl⟩, hT.push _⟩, fun c hc => ?_, (by show 0 < 2; decide), strs_gt (fun i => if i = 0 then a else b) two_at, fun v h' tk hP hk => ?_⟩)
  · show c < ((s.heap.push _).push _).objs.size
    rw [Heap.size_push, hsz]
    have hc' : c = s.heap.objs.size + 1 ∨ c = s.heap.objs.size := by simpa [hsz] using hc
    rcases hc' with z | z <;> rw [z]
    · exact Nat.lt_succ_self _
    · exact Nat.lt_succ_of_lt (Nat.lt_succ_self _)
  · have hold : ∀ c o, s.heap.get? c = some o → h'.get? c = some o := fun c o e => hk c o (fun hm => far e (by simpa [hsz] using hm)) (Heap.get?_push_of_some _ (Heap.get?_push_of_some _ e))
    have hq := h h' tk hold
    have hP' : (#[Value.str a t, .str b u] : Array Value)[argBest (fun i j => decide ((if j = 0 then a else b).cps.toList < (if i = 0 then a else b).cps.toList)) 1]? = some v := hP
    by_cases hba : a.cps.toList < b.cps.toList
    · rw [if_pos hba] at hq
      have e : v = .str b u := by simpa [argBest, hba] using hP'.symm
      rw [e]; exact hq
    · rw [if_neg hba] at hq
      have e : v = .str a t := by simpa [argBest, hba] using hP'.symm
      rw [e]; exact hq
theorem min2S {a b : Str} {t u : Tok} {Q : Value → Shared → Prop} (hh : A.handled = none) (h : ∀ h' tk, (∀ c o, s.heap.get? c = some o → h'.get? c = some o) → Q (if b.cps.toList < a.cps.toList then .str b u else .str a t) { s with heap := h', toks := tk }) :
    wpAny (model prog w) A (call (.builtin "min") [.str a t, .str b u]) Q E s := by
  have hT : (s.heap.push { cls := .type "tuple", data := .seq #[.str a t, .str b u] }).IsTuple s.heap.objs.size #[.str a t, .str b u] := ⟨_, Heap.get?_push_size _ rfl, rfl, 0, rfl⟩
  have hsz : (s.heap.push { cls := .type "tuple", data := .seq #[.str a t, .str b u] }).objs.size = s.heap.objs.size + 1 := Heap.size_push ..
  refine call_min_two (wpAny_pyIter_tuple hT ⟨_, [_, s.heap.objs.size], [_], _, _, _, _, rfl, Walks.tuple (A := A.in1) hh _ s.heap.objs.size (by rw [hsz]; exact Nat.ne_of_lt (Nat.lt_succ_self _)) #[.str a t, .str b u], ⟨⟨_, Heap.get?_push_size _ rfl, rfl, rfl⟩, hT.push _⟩, fun c hc => ?_, (by show 0 < 2; decide), strs_lt (fun i => if i = 0 then a else b) two_at, fun v h' tk hP hk => ?_⟩)
  · show c < ((s.heap.push _).push _).objs.size
    rw [Heap.size_push, hsz]
    have hc' : c = s.heap.objs.size + 1 ∨ c = s.heap.objs.size := by simpa [hsz] using hc
    rcases hc' with z | z <;> rw [z]
    · exact Nat.lt_succ_self _
    · exact Nat.lt_succ_of_lt (Nat.lt_succ_self _)
  · have hold : ∀ c o, s.heap.get? c = some o → h'.get? c = some o := fun c o e => hk c o (fun hm => far e (by simpa [hsz] using hm)) (Heap.get?_push_of_some _ (Heap.get?_push_of_some _ e))
    have hq := h h' tk hold
    have hP' : (#[Value.str a t, .str b u] : Array Value)[argBest (fun i j => decide ((if i = 0 then a else b).cps.toList < (if j = 0 then a else b).cps.toList)) 1]? = some v := hP
    by_cases hba : b.cps.toList < a.cps.toList
    · rw [if_pos hba] at hq
      have e : v = .str b u := by simpa [argBest, hba] using hP'.symm
      rw [e]; exact hq
    · rw [if_neg hba] at hq
      have e : v = .str a t := by simpa [argBest, hba] using hP'.symm
      rw [e]; exact hq
end
section
variable {X : Cx}
def rMaxS : List V → Hp → VK → Prop := fun xs H Q => ∃ a b, xs = [.str a, .str b] ∧ Q (.str (if a.cps.toList < b.cps.toList then b else a)) H
def rMinS : List V → Hp → VK → Prop := fun xs H Q => ∃ a b, xs = [.str a, .str b] ∧ Q (.str (if b.cps.toList < a.cps.toList then b else a)) H
theorem call_max2S (hc : X.calm = true) : CallR X (.builtin "max") rMaxS := by
  intro pins s σ H xs us Q I r h
  obtain ⟨a, b, rfl, q⟩ := h
  obtain ⟨u, w', rfl, ⟨t, rfl⟩, ⟨t', rfl⟩⟩ := vals2 r
  refine max2S (I.ok.hd hc) fun h' tk k => ⟨_, H, I.kept k, ?_, q⟩
  split <;> exact ⟨_, rfl⟩
theorem call_min2S (hc : X.calm = true) : CallR X (.builtin "min") rMinS := by
  intro pins s σ H xs us Q I r h
  obtain ⟨a, b, rfl, q⟩ := h
  obtain ⟨u, w', rfl, ⟨t, rfl⟩, ⟨t', rfl⟩⟩ := vals2 r
  refine min2S (I.ok.hd hc) fun h' tk k => ⟨_, H, I.kept k, ?_, q⟩
  split <;> exact ⟨_, rfl⟩
/-! a pair of texts in a list of such -/
def pT (p : List Nat × List Nat) : List V := [.str (tx p.1), .str (tx p.2)]
def rInP (K : PySem.W.Frag) (neg : Bool) : R2 := fun x y H Q => ∃ (p t0 : Addr) (vs : List V) (ps : List (List Nat × List Nat)) (p0 : List Nat × List Nat), x = .ref t0 ∧ y = .ref p ∧ H t0 = some (.tup (pT p0)) ∧ SqL K H p vs ∧ Prs K H vs ps ∧ Q (.bl (if neg then !decide (p0 ∈ ps) else decide (p0 ∈ ps))) H
noncomputable def eP (H : Hp) (p0 : List Nat × List Nat) (u : Value) : Bool := match u with
  | .ref t => @decide (H t = some (.tup (pT p0))) (Classical.propDecidable _)
  | _ => false
theorem pT_inj {p q : List Nat × List Nat} (h : pT p = pT q) : p = q := by
  unfold pT at h
  injection h with h1 h2
  injection h2 with h2 _
  exact Prod.ext (tx_inj (V.str.inj h1)) (tx_inj (V.str.inj h2))
theorem eP_ref {H : Hp} {p p0 : List Nat × List Nat} {t : Addr} (c : H t = some (.tup (pT p))) : eP H p0 (.ref t) = decide (p = p0) := by
  show @decide (H t = some (.tup (pT p0))) (Classical.propDecidable _) = _
  by_cases h : p = p0
  · rw [decide_eq_true h]
    exact @decide_eq_true _ (Classical.propDecidable _) (by rw [c, h])
  · rw [decide_eq_false h]
    refine @decide_eq_false _ (Classical.propDecidable _) fun z => ?_
    rw [c] at z
    injection z with z
    injection z with z
    exact h (pT_inj z)
theorem any_eP {K : PySem.W.Frag} {H : Hp} {p0 : List Nat × List Nat} : ∀ {vs : List V} {its : List Value} {ps : List (List Nat × List Nat)}, Vals vs its → Prs K H vs ps → its.any (eP H p0) = decide (p0 ∈ ps)
  | _, _, _, .nil, .nil => by simp
  | _, _, _, .cons r rs, .cons (b := p) ⟨t, ht, c⟩ ps => by
    subst ht
    cases r
    rw [List.any_cons, any_eP rs ps]
    rw [eP_ref (p := p) c]
    by_cases h : p = p0
    · simp [h]
    · have h' : ¬ p0 = p := fun z => h z.symm
      simp [h, h']
theorem each_eP {pins : List (Addr × Obj)} {s : Shared} {σ : L2.St} {H : Hp} (I : Inv X pins σ H s) (hu : X.A.units + 64 < cLine) {t0 : Addr} {p0 : List Nat × List Nat} (h0 : H t0 = some (.tup (pT p0))) : ∀ {vs : List V} {its : List Value} {ps : List (List Nat × List Nat)}, Vals vs its → Prs X.K H vs ps → ∀ u ∈ its, SeqAt.EqAt X.A.in1 s u (.ref t0) (eP H p0 u)
  | _, _, _, .nil, .nil => fun u hu => by cases hu
  | _, _, _, .cons r rs, .cons (b := p) q ps => fun u' hu' => by
    rcases List.mem_cons.mp hu' with z | z
    · subst z
      obtain ⟨t, ht, c⟩ := id q
      subst ht
      cases r
      obtain ⟨as, r1⟩ := Dp.reads I (dSS p) _ _ q.dp rfl
      obtain ⟨bs, r2⟩ := Dp.reads I (dSS p0) (.ref t0) (.ref t0) (PrT.dp (p := p0) ⟨t0, rfl, h0⟩) rfl
      have key := PySem.W.eqAt_alike (dSS p) (dSS p0) X.A.in1 s _ _ as bs r1 r2 (by simp [dSS, PySem.W.alike, PySem.W.alikeAll]) (by
        have : (dSS p).depth ≤ 8 := by simp [dSS, PyData.depth, PyData.depthAll]
        show X.A.units + 1 + min (dSS p).depth (dSS p0).depth < cLine
        omega)
      have e : PyData.eqv (dSS p) (dSS p0) = eP H p0 (.ref t) := by
        rw [eP_ref (p := p) c]
        by_cases h : p = p0
        · subst h
          rw [PySem.W.eqv_refl_alike _ (by simp [dSS, PySem.W.alike, PySem.W.alikeAll]), decide_eq_true rfl]
        · rw [decide_eq_false h]
          have : ¬ (tx p.1 = tx p0.1 ∧ tx p.2 = tx p0.2) := fun ⟨a, b⟩ => h (Prod.ext (tx_inj a) (tx_inj b))
          simpa [dSS, PyData.eqv, PyData.eqvAll] using this
      rw [← e]
      exact key
    · exact each_eP I hu h0 rs ps u' z
theorem op_niP (hu : X.A.units + 64 < cLine) : OpR X (compareOp .NotIn) (rInP X.K true) := by
  intro pins s σ H x y v u Q I rx ry h
  obtain ⟨p, t0, vs, ps, p0, rfl, rfl, h0, hq, hp, q⟩ := h
  cases ry; cases rx
  obtain ⟨its, r, pl, hz⟩ := I.list hq
  refine SeqAt.notIn_listAt (eP H p0) pl.isList (fun w hw => each_eP I hu h0 r hp w (by simpa using hw)) ⟨.bl _, H, I, rfl, ?_⟩
  rw [show its.toArray.any (eP H p0) = its.any (eP H p0) by simp, any_eP r hp]; exact q
theorem op_inP (hu : X.A.units + 64 < cLine) : OpR X (compareOp .In) (rInP X.K false) := by
  intro pins s σ H x y v u Q I rx ry h
  obtain ⟨p, t0, vs, ps, p0, rfl, rfl, h0, hq, hp, q⟩ := h
  cases ry; cases rx
  obtain ⟨its, r, pl, hz⟩ := I.list hq
  refine SeqAt.in_listAt (eP H p0) pl.isList (fun w hw => each_eP I hu h0 r hp w (by simpa using hw)) ⟨.bl _, H, I, rfl, ?_⟩
  rw [show its.toArray.any (eP H p0) = its.any (eP H p0) by simp, any_eP r hp]; exact q
/-! sorted of a list of texts, of any length -/
def rSortLS (K : PySem.W.Frag) : List V → Hp → VK → Prop := fun vs H Q => ∃ (a : Addr) (xs : List Str), vs = [.ref a] ∧ SqL K H a (xs.map V.str) ∧ ∀ p, H p = none → Q (.ref p) (upd H p (.lst ((srt xs).map V.str)))
theorem paired_strs : ∀ xs : List Str, Paired (fun (v : V) (z : Str) => v = .str z) (xs.map V.str) xs
  | [] => .nil
  | x :: xs => .cons rfl (paired_strs xs)
theorem paired_strs' : ∀ {ys : List V} {xs : List Str}, Paired (fun (v : V) (z : Str) => v = .str z) ys xs → ys = xs.map V.str
  | _, _, .nil => rfl
  | _, _, .cons e t => by rw [paired_strs' t, e]; rfl
theorem cr_sortLS (hu : X.A.units + 64 < cLine) : CallR X (.builtin "sorted") (rSortLS X.K) := by
  intro pins s σ H vs us Q I r h
  obtain ⟨a, xs, rfl, hs, q⟩ := h
  refine cr_sortD (enc := fun k : Str => PyData.str k) hu pins s σ H _ us Q I r ⟨a, _, xs, fun v z => v = .str z, rfl, hs, paired_strs xs, fun v b e => by rw [e]; exact .str _, PySem.W.AllAlike.of fun _ _ => by simp [PySem.W.alike], PySem.W.Sortable.others fun _ => ⟨by simp, by simp⟩, fun b _ => by simp [PyData.depth], fun ys p hp hn => ?_⟩
  rw [PySem.W.dataLe_str (β := Str) (fun k => k)] at hp
  rw [paired_strs' hp]
  exact q p hn
end
end Hid

namespace Hid
open PySem PySem.Spec PyProof.Rows L2 Evl
theorem mul_b (n : Int) (h : 1 ≤ n) : Txt.mul "b" n = tx (List.replicate n.toNat 98) := by
  unfold Txt.mul
  rw [if_neg (by omega)]
  by_cases h1 : n = 1
  · subst h1
    rfl
  · have hc : (n == 1 || ("b" : Str).length == 0) = false := by
      have : (n == 1) = false := by simpa using h1
      rw [this]
      rfl
    rw [hc, if_neg Bool.false_ne_true]
    have : ∀ (k : Nat) (acc : Array Nat), (List.replicate k ("b" : Str).cps).foldl (· ++ ·) acc = acc ++ (List.replicate k 98).toArray := by
      intro k
      induction k with
      | zero => intro acc; simp
      | succ k ih =>
        intro acc
        rw [List.replicate_succ, List.foldl_cons, ih, List.replicate_succ]
        have : ("b" : Str).cps = #[98] := rfl
        rw [this]
        exact Array.toList_inj.mp (by simp)
    rw [this]
    simp [tx]
def topS (i : Nat) : Stmt := PySem.Challenge.pw_hidhalves_k09_whole_partings_and_halves.main.body.getD i (.Pass ⟨0, 0, 0, 0⟩)
abbrev st_is_whole : Stmt := topS 8
theorem sc_is_whole : FnScope ["thing"] ["thing"] (defScope st_is_whole) := ⟨rfl, rfl, rfl, by decide +kernel, rfl, by decide +kernel, by decide +kernel⟩
abbrev st_is_written_in : Stmt := topS 9
theorem sc_is_written_in : FnScope ["thing", "signs", "sign"] ["thing", "signs"] (defScope st_is_written_in) := ⟨rfl, rfl, rfl, by decide +kernel, rfl, by decide +kernel, by decide +kernel⟩
abbrev st_is_half : Stmt := topS 10
theorem sc_is_half : FnScope ["thing"] ["thing"] (defScope st_is_half) := ⟨rfl, rfl, rfl, by decide +kernel, rfl, by decide +kernel, by decide +kernel⟩
abbrev st_is_row : Stmt := topS 11
theorem sc_is_row : FnScope ["thing"] ["thing"] (defScope st_is_row) := ⟨rfl, rfl, rfl, by decide +kernel, rfl, by decide +kernel, by decide +kernel⟩
abbrev st_is_tuple_of : Stmt := topS 12
theorem sc_is_tuple_of : FnScope ["thing", "many"] ["thing", "many"] (defScope st_is_tuple_of) := ⟨rfl, rfl, rfl, by decide +kernel, rfl, by decide +kernel, by decide +kernel⟩
abbrev st_are_two_texts : Stmt := topS 13
theorem sc_are_two_texts : FnScope ["thing"] ["thing"] (defScope st_are_two_texts) := ⟨rfl, rfl, rfl, by decide +kernel, rfl, by decide +kernel, by decide +kernel⟩
abbrev st_turned_at_both : Stmt := topS 15
theorem sc_turned_at_both : FnScope ["row", "half", "signs", "mark", "sign"] ["row", "half"] (defScope st_turned_at_both) := ⟨rfl, rfl, rfl, by decide +kernel, rfl, by decide +kernel, by decide +kernel⟩
abbrev st_many_partings : Stmt := topS 16
theorem sc_many_partings : FnScope ["row"] ["row"] (defScope st_many_partings) := ⟨rfl, rfl, rfl, by decide +kernel, rfl, by decide +kernel, by decide +kernel⟩
abbrev st_lesser_half : Stmt := topS 17
theorem sc_lesser_half : FnScope ["row", "number", "signs", "left", "mark"] ["row", "number"] (defScope st_lesser_half) := ⟨rfl, rfl, rfl, by decide +kernel, rfl, by decide +kernel, by decide +kernel⟩
abbrev st_parting_at : Stmt := topS 18
theorem sc_parting_at : FnScope ["row", "number", "one"] ["row", "number"] (defScope st_parting_at) := ⟨rfl, rfl, rfl, by decide +kernel, rfl, by decide +kernel, by decide +kernel⟩
abbrev st_partings_of : Stmt := topS 19
theorem sc_partings_of : FnScope ["row", "number"] ["row"] (defScope st_partings_of) := ⟨rfl, rfl, rfl, by decide +kernel, rfl, by decide +kernel, by decide +kernel⟩
abbrev st_number_of : Stmt := topS 20
theorem sc_number_of : FnScope ["row", "parting", "number", "standing"] ["row", "parting"] (defScope st_number_of) := ⟨rfl, rfl, rfl, by decide +kernel, rfl, by decide +kernel, by decide +kernel⟩
abbrev st_row_by : Stmt := topS 22
theorem sc_row_by : FnScope ["one", "other", "sign", "beside"] ["one", "other"] (defScope st_row_by) := ⟨rfl, rfl, rfl, by decide +kernel, rfl, by decide +kernel, by decide +kernel⟩
abbrev st_lets : Stmt := topS 23
theorem sc_lets : FnScope ["mark", "sign"] ["mark", "sign"] (defScope st_lets) := ⟨rfl, rfl, rfl, by decide +kernel, rfl, by decide +kernel, by decide +kernel⟩
abbrev st_fits_row : Stmt := topS 24
theorem sc_fits_row : FnScope ["row", "half", "mark", "sign"] ["row", "half"] (defScope st_fits_row) := ⟨rfl, rfl, rfl, by decide +kernel, rfl, by decide +kernel, by decide +kernel⟩
abbrev st_other_half : Stmt := topS 25
theorem sc_other_half : FnScope ["row", "half"] ["row", "half"] (defScope st_other_half) := ⟨rfl, rfl, rfl, by decide +kernel, rfl, by decide +kernel, by decide +kernel⟩
abbrev st__law_cell : Stmt := topS 27
theorem sc__law_cell : FnScope ["_law_script", "_law_k", "_law_state", "_law_cell_here"] ["_law_script", "_law_k"] (defScope st__law_cell) := ⟨rfl, rfl, rfl, by decide +kernel, rfl, by decide +kernel, by decide +kernel⟩
abbrev st__law_numbers : Stmt := topS 28
theorem sc__law_numbers : FnScope ["_law_cell_here", "_law_many", "_law_found", "_law_state", "_law_digits", "_law_k"] ["_law_cell_here", "_law_many"] (defScope st__law_numbers) := ⟨rfl, rfl, rfl, by decide +kernel, rfl, by decide +kernel, by decide +kernel⟩
abbrev st__law_any_row : Stmt := topS 29
theorem sc__law_any_row : FnScope ["_law_xs", "_law_places", "_law_k"] ["_law_xs", "_law_places"] (defScope st__law_any_row) := ⟨rfl, rfl, rfl, by decide +kernel, rfl, by decide +kernel, by decide +kernel⟩
abbrev st__law_drawn_rows : Stmt := topS 30
theorem sc__law_drawn_rows : FnScope ["_law_script", "_law_amount", "_law_found", "_law_k", "_law_xs"] ["_law_script", "_law_amount"] (defScope st__law_drawn_rows) := ⟨rfl, rfl, rfl, by decide +kernel, rfl, by decide +kernel, by decide +kernel⟩
abbrev st__law_exchanged : Stmt := topS 31
theorem sc__law_exchanged : FnScope ["_law_text", "_law_sign"] ["_law_text"] (defScope st__law_exchanged) := ⟨rfl, rfl, rfl, by decide +kernel, rfl, by decide +kernel, by decide +kernel⟩
abbrev st__law_one_right : Stmt := topS 32
theorem sc__law_one_right : FnScope ["_law_row", "_law_number", "_law_one", "_law_other", "_law_half", "_law_rest", "_law_turned_about"] ["_law_row", "_law_number"] (defScope st__law_one_right) := ⟨rfl, rfl, rfl, by decide +kernel, rfl, by decide +kernel, by decide +kernel⟩
abbrev st__law_right : Stmt := topS 33
theorem sc__law_right : FnScope ["_law_row", "_law_xs", "_law_many", "_law_numbers_here", "_law_some", "_law_at", "_law_longer", "_law_number", "_law_sign", "_law_more", "_law_x"] ["_law_row", "_law_xs"] (defScope st__law_right) := ⟨rfl, rfl, rfl, by decide +kernel, rfl, by decide +kernel, by decide +kernel⟩
abbrev st_law : Stmt := topS 34
theorem sc_law : FnScope ["_law_script", "_law_rows", "_law_k"] ["_law_script"] (defScope st_law) := ⟨rfl, rfl, rfl, by decide +kernel, rfl, by decide +kernel, by decide +kernel⟩
section
variable {P : Program} {w : World} {K : PySem.W.Frag} {mg : Str → Option Value} {base : Heap}
def sp__law_cell (K : PySem.W.Frag) (ts : List Addr) : Sp := fun vs H Q _ => ∃ (a : Addr) (ns : List Int) (k : Int), vs = [.ref a, .int k] ∧ SqL K H a (ns.map V.int) ∧ (0 ≤ k ∧ k ≤ 1000) ∧ ∀ (c : Int) H2, Ex H H2 → Q (.int c) H2
theorem ok__law_cell {ts : List Addr} (D : Df K mg "_law_cell" st__law_cell ["_law_script", "_law_k"]) (m_len : mg "len" = none) : At P w K mg base "_law_cell" st__law_cell 1 ["_law_script", "_law_k"] (sp__law_cell K ts) := by
  obtain ⟨f, fd, F, b, g⟩ := D
  refine ⟨f, fd, F, b, g, F.ok sc__law_cell (fun vs H Q E h => ?_) (fun cdv A outer s H vs Q E hr h => ?_)⟩
  · obtain ⟨a, ns, k, rfl, _⟩ := h
    rfl
  · obtain ⟨a, ns, k, rfl, hS, hk, q⟩ := h
    refine ⟨_, (pss_cons (ps_if (pt_cmpR op_lt (pv 1) (pe_callB call_len_seq (by rfl) m_len (by decide +kernel) (pa_cons (pv 0) pa_nil)) (nomark _))
      (pss_one (ps_ret (pe_ix ix_list (pv 0) (pv 1) (fun _ _ => rfl))))
      pss_nil)
      (pss_cons (ps_set (i := 2) sc__law_cell.nd rfl (.inl rfl) (pe_op op_mod (pe_op op_mul pe_int (pe_op op_add (pe_op op_add (pe_op op_mul (pv 1) (pv 1)) (pe_op op_mul pe_int (pv 1))) pe_int)) pe_int))
      (pss_cons (ps_for PassesOwn.never rfl (pi_list (pe_slice sl_list (pv 0) po_none (po_some pe_int))) (pg_name (i := 3) sc__law_cell.nd rfl (.inl rfl))
      (pss_one (ps_set (i := 2) sc__law_cell.nd rfl (.inl rfl) (pe_op op_mod (pe_op op_add (pe_op op_mul (pv 2) pe_int) (pv 3)) pe_int))))
      (pss_one (ps_ret (pv 2)))))), ?_⟩
    refine q_when (et_test (ev_op (ev_var rfl) (ev_len (ev_var rfl) hS) rv_I0)) (fun hb H1 e1 => ?_) (fun hb H1 e1 => ?_)
    · have hb' : k < ((ns.map V.int).length : Int) := of_decide_eq_true hb
      have hj : k.toNat < ns.length := by rw [List.length_map] at hb'; omega
      have hat : atI (ns.map V.int) k = some (.int ns[k.toNat]) := by
        have := atI_nat (xs := ns.map V.int) (j := k.toNat) (v := .int ns[k.toNat]) (by rw [List.getElem?_map, List.getElem?_eq_getElem hj]; rfl)
        rwa [Int.toNat_of_nonneg hk.1] at this
      exact s_ret (ev_op (ev_var rfl) (ev_var rfl) (rv_ixL (ex_l e1 hS) hat)) fun H2 e2 => q _ _ (e1.trans e2)
    · refine q_asg (ev_op (ev_op ev_c (ev_op (ev_op (ev_op (ev_var rfl) (ev_var rfl) (rv_I (.inl ⟨by omega, by omega⟩))) (ev_op ev_c (ev_var rfl) (rv_I (.inl ⟨by omega, by omega⟩))) rv_I0) ev_c rv_I0) (rv_I (.inl ⟨by omega, by omega⟩))) ev_c (rv_I (by show (0 : Int) < 2147483647; decide))) fun H2 e2 => ?_
      refine q_forNLn (el_sl (ev_var rfl) eo_none (eo_some ev_c) (ex_l (e1.trans e2) hS)) (fun p i σ' H' => ∃ (c : Int) (y3 : Option V), σ' = [some (.ref a), some (.int k), some (.int c), y3] ∧ (0 ≤ c ∧ c < 2147483647) ∧ Ex H H' ∧ H' p = some (.lst (cutV (ns.map V.int) none (some 3)))) (fun p H3 hp e3 h3 => ⟨_, _, rfl, ⟨by omega, by omega⟩, (e1.trans e2).trans e3, h3⟩) (fun p i σ' H' _ hP => ?_) (fun p i x σ' H' hx hP => ?_) (fun p σ' H' hP => ?_)
      · obtain ⟨c, y3, _, _, _, h3⟩ := hP
        exact sq_of h3
      · obtain ⟨c, y3, rfl, hc, e3, h3⟩ := hP
        have hm : x ∈ ns.map V.int := List.mem_of_mem_drop (List.mem_of_mem_take (List.mem_of_getElem? hx))
        obtain ⟨z, _, rfl⟩ := List.mem_map.mp hm
        refine s_asg (ev_op (ev_op (ev_op (ev_var rfl) ev_c (rv_I (.inl ⟨by omega, by omega⟩))) (ev_var rfl) rv_I0) ev_c (rv_I (by show (0 : Int) < 2147483647; decide))) fun H4 e4 => ?_
        exact ⟨_, _, rfl, ⟨by omega, by omega⟩, e3.trans e4, e4 _ _ h3⟩
      · obtain ⟨c, y3, rfl, hc, e3, h3⟩ := hP
        exact s_ret (ev_var rfl) fun H4 e4 => q _ _ (e3.trans e4)
def sp__law_numbers (K : PySem.W.Frag) (ts : List Addr) : Sp := fun vs H Q _ => ∃ (c n : Int), vs = [.int c, .int n] ∧ (0 ≤ n ∧ n ≤ 1000) ∧ ∀ xs : List Int, (xs.length : Int) = n → (∀ x ∈ xs, 0 ≤ x) → RetL (xs.map V.int) H Q
theorem ok__law_numbers {ts : List Addr} (D : Df K mg "_law_numbers" st__law_numbers ["_law_cell_here", "_law_many"]) (m_abs : mg "abs" = none) (m_range : mg "range" = none) (m_int : mg "int" = none) : At P w K mg base "_law_numbers" st__law_numbers 1 ["_law_cell_here", "_law_many"] (sp__law_numbers K ts) := by
  obtain ⟨f, fd, F, b, g⟩ := D
  refine ⟨f, fd, F, b, g, F.ok sc__law_numbers (fun vs H Q E h => ?_) (fun cdv A outer s H vs Q E hr h => ?_)⟩
  · obtain ⟨c, n, rfl, _⟩ := h
    rfl
  · obtain ⟨c, n, rfl, hn, q⟩ := h
    refine ⟨_, (pss_cons (ps_set (i := 2) sc__law_numbers.nd rfl (.inl rfl) (pe_lst pa_nil))
      (pss_cons (ps_set (i := 3) sc__law_numbers.nd rfl (.inl rfl) (pe_op op_mod (pe_op op_mul (pe_op op_add (pe_op op_mod (pv 0) pe_int) pe_int) pe_int) pe_int))
      (pss_cons (ps_set (i := 4) sc__law_numbers.nd rfl (.inl rfl) pe_int)
      (pss_cut (ps_if (PW.pt (pw_or (pt_cmpR op_lt (pv 0) pe_int (nomark _)) (pw_or1 (pt_cmpR op_ge (pv 0) (pe_op op_pow pe_int pe_int) (nomark _)))))
      (pss_one (ps_set (i := 4) sc__law_numbers.nd rfl (.inl rfl) (pe_callB call_abs (by rfl) m_abs (by decide +kernel) (pa_cons (pv 0) pa_nil))))
      pss_nil)
      (pss_cons (ps_for PassesOwn.never rfl (pi_range1 (by rfl) m_range (pa_cons (pv 1) pa_nil)) (pg_name (i := 5) sc__law_numbers.nd rfl (.inl rfl))
      (pss_cons (ps_set (i := 3) sc__law_numbers.nd rfl (.inl rfl) (pe_op op_mod (pe_op op_add (pe_op op_add (pe_op op_mul (pv 3) (pe_op op_add (pe_op op_mod (pv 3) pe_int) pe_int)) (pe_op op_mul pe_int (pv 5))) pe_int) pe_int))
      (pss_cons (ps_expr (pe_bm PySem.F.plainAttrs_list PySem.F.slot_list_append PySem.F.type_list_append mt_append (pv 2) (pa_cons (pe_ix ix_list (pe_lst (pa_cons (pv 3) (pa_cons (pe_op op_mod (pv 4) pe_int) pa_nil))) (pe_callTy call_int1 (by rfl) m_int (by decide +kernel) (pa_cons (pe_cmpR op_gt (pv 4) pe_int (nomark _)) pa_nil)) (fun _ _ => rfl)) pa_nil)))
      (pss_one (ps_set (i := 4) sc__law_numbers.nd rfl (.inl rfl) (pe_op op_fdiv (pv 4) pe_int))))))
      (pss_one (ps_ret (pv 2)))))))), ?_⟩
    refine q_asgL (el_lst ea_nil (by decide)) fun l H1 hl e1 h1 => ?_
    refine q_asg (ev_op (ev_op (ev_op (ev_op (ev_var rfl) ev_c (rv_I (by show (0 : Int) < 1999999973; decide))) ev_c rv_I0) ev_c (rv_I (.inl ⟨by omega, by omega⟩))) ev_c (rv_I (by show (0 : Int) < 1999999973; decide))) fun H2 e2 => ?_
    refine q_asg ev_c fun H3 e3 => ?_
    have e13 : Ex H H3 := (e1.trans e2).trans e3
    have h3 : H3 l = some (.lst []) := e3 _ _ (e2 _ _ h1)
    generalize hst : ((c % 1999999973 + 31) * 765432101) % 1999999973 = st
    have hst1 : 0 ≤ st ∧ st < 1999999973 := by omega
    refine q_cut (M := fun σ' H' => ∃ d : Int, σ' = [some (.int c), some (.int n), some (.ref l), some (.int st), some (.int d), none] ∧ 0 ≤ d ∧ Ex H H' ∧ H' l = some (.lst [])) ?_ ?_
    · refine s_when (et_or (et_test (ev_op (ev_var rfl) ev_c rv_I0)) fun _ => et_test (ev_op (ev_var rfl) (ev_op ev_c ev_c (rv_I ⟨by decide, by decide, by decide⟩)) rv_I0)) (fun hb H4 e4 => ?_) (fun hb H4 e4 => ?_)
      · refine s_asg (ev_cb (ea_cons (ev_var rfl) ea_nil) (z := .int (if c < 0 then -c else c)) (fun Hx ex Qx qx => ⟨c, rfl, qx Hx (Ex.refl _)⟩)) fun H5 e5 => ?_
        exact ⟨_, rfl, by split <;> omega, (e13.trans e4).trans e5, e5 _ _ (e4 _ _ h3)⟩
      · exact ⟨0, rfl, Int.le_refl _, e13.trans e4, e4 _ _ h3⟩
    · rintro σ' H' ⟨d, rfl, hd, e4, h4⟩
      refine q_forR1 (ea_cons (ev_var rfl) ea_nil) ⟨hn.1, by omega⟩ (fun i σ' H' => ∃ (xs : List Int) (st d : Int) (y5 : Option V), σ' = [some (.int c), some (.int n), some (.ref l), some (.int st), some (.int d), y5] ∧ (0 ≤ st ∧ st < 1999999973) ∧ 0 ≤ d ∧ xs.length = i ∧ (∀ x ∈ xs, 0 ≤ x) ∧ Ex H H' ∧ H' l = some (.lst (xs.map V.int))) (fun H5 e5 => ⟨[], st, d, _, rfl, hst1, hd, rfl, (fun _ m => nomatch m), e4.trans e5, e5 _ _ h4⟩) (fun i σ' H' hi hP => ?_) (fun σ' H' hP => ?_)
      · obtain ⟨xs, st, d, y5, rfl, hs, hd, hx, hpos, e6, h6⟩ := hP
        refine q_asg (ev_op (ev_op (ev_op (ev_op (ev_var rfl) (ev_op (ev_op (ev_var rfl) ev_c (rv_I (by show (0 : Int) < 65521; decide))) ev_c rv_I0) (rv_I (.inl ⟨by omega, by omega⟩))) (ev_op ev_c (ev_var rfl) (rv_I (.inl ⟨by omega, by omega⟩))) rv_I0) ev_c rv_I0) ev_c (rv_I (by show (0 : Int) < 1999999973; decide))) fun H7 e7 => ?_
        generalize hst2 : (st * (st % 65521 + 40487) + 7 * (i : Int) + 5) % 1999999973 = st2
        have hb2 : 0 ≤ st2 ∧ st2 < 1999999973 := by rw [← hst2]; exact ⟨Int.emod_nonneg _ (by decide), Int.emod_lt_of_pos _ (by decide)⟩
        have h7 : H7 l = some (.lst (xs.map V.int)) := e7 _ _ h6
        refine q_app (v := .int (if d > 0 then d % 1000000 else st2)) h7 (ev_var rfl) ?_ (by rw [List.length_map]; omega) fun H8 e8 => ?_
        · refine ev_opL1 (el_lst (ea_cons (ev_var rfl) (ea_cons (ev_op (ev_var rfl) ev_c (rv_I (by show (0 : Int) < 1000000; decide))) ea_nil)) (by show 2 ≤ 100000; decide)) (y := .int (if decide (d > 0) = true then 1 else 0)) (fun Hx ex => ev_cb (ea_cons (ev_op (ev_var rfl) ev_c rv_I0) ea_nil) fun Hy ey Qy qy => .inr ⟨_, rfl, qy Hy (Ex.refl _)⟩) fun p Hx hp ex => rv_ixL (sq_of hp) ?_
          by_cases hd0 : d > 0
          · rw [decide_eq_true hd0, if_pos hd0] <;> rfl
          · rw [decide_eq_false hd0, if_neg hd0] <;> rfl
        · refine s_asg (ev_op (ev_var rfl) ev_c (rv_I ⟨by decide, by decide⟩)) fun H9 e9 => ?_
          have ne : H l = none := hl
          refine ⟨xs ++ [if d > 0 then d % 1000000 else st2], st2, d / 1000000, _, rfl, hb2, by omega, by rw [List.length_append, hx]; rfl, fun x hx2 => ?_, ?_, ?_⟩
          · rcases List.mem_append.mp hx2 with h | h
            · exact hpos x h
            · rw [List.mem_singleton.mp h]
              split <;> omega
          · exact ((e6.trans e7).trans e8 |>.mut ne).trans e9
          · refine e9 _ _ ?_
            rw [upd_same, List.map_append] <;> rfl
      · obtain ⟨xs, st, d, y5, rfl, hs, hd, hx, hpos, e6, h6⟩ := hP
        exact s_ret (ev_var rfl) fun H7 e7 => q xs (by omega) hpos l H7 hl (e6.trans e7) (e7 _ _ h6)
def sp_is_written_in (K : PySem.W.Frag) (ts : List Addr) : Sp := fun vs H Q _ => ∃ (v : V) (o : Option (List Nat)) (g : List Nat), vs = [v, .str (tx g)] ∧ Th K H v o ∧ TB ts H ∧ RetV (.bl (wr o g)) H Q
theorem ok_is_written_in {cc pp : Addr} {ts : List Addr} {tMS : Tok} (D : DfC K mg "is_written_in" st_is_written_in ["thing", "signs"] cc) (B_is_written_in : GxR.TabB base mg cc pp) (hpp : pp ∈ ts) (m_len : mg "len" = none) (m_isinstance : mg "isinstance" = none) (m_str : mg "str" = none) (m_all : mg "all" = none) (c_MOST_SIGNS : mg "MOST_SIGNS" = some (.int 8 tMS)) : At P w K mg base "is_written_in" st_is_written_in 2 ["thing", "signs"] (sp_is_written_in K ts) := by
  obtain ⟨f, fd, F, b, g, hcd⟩ := D
  refine ⟨f, fd, F, b, g, okC F hcd sc_is_written_in (fun vs H Q E h => ?_) (fun A outer s H vs Q E hr h => ?_)⟩
  · obtain ⟨v, o, g, rfl, _⟩ := h
    rfl
  · obtain ⟨v, o, g0, rfl, hv, hT, q⟩ := h
    refine ⟨_, (pss_cons (ps_if (PW.pt (pw_or (pt_not (pt_val (pe_callB call_isi (by rfl) m_isinstance (by decide +kernel) (pa_cons (pv 0) (pa_cons (pe_bltn (v := .ty "str") (by rfl) m_str (by decide +kernel) rfl) pa_nil))))) (pw_or1 (pt_not (pt_chain op_le op_le pe_int (pe_callB call_len_str (by rfl) m_len (by decide +kernel) (pa_cons (pv 0) pa_nil)) (pe_glob (v := .int 8) (by rfl) c_MOST_SIGNS ⟨_, rfl⟩))))))
      (pss_one (ps_ret pe_bl))
      pss_nil)
      (pss_one (ps_ret (Hid.pe_allG (own := [("sign", 2)]) (gg := gName 2) hr rfl sc_is_written_in.nd (by rfl) m_all B_is_written_in rfl (pi_str (pv 0)) (blkOk_by (N := ["thing", "signs", "sign"]) (sc := defScope st_is_written_in) (by decide +kernel)) (fun _ _ _ _ _ _ _ _ => (pg_name (i := 2) sc_is_written_in.nd rfl (.inl rfl))) (fun _ _ _ _ _ _ _ _ hr => (pe_cmpR op_in_sign (pv 2) (pv 1) rfl)))))), ?_⟩
    cases o with
    | none =>
      refine q_when (b := true) (et_or (b := false) (et_not (et_B (ev_isS (ev_var rfl) hv))) fun z => absurd z (by decide)) (fun hb H1 e1 => ?_) (fun hb H1 e1 => absurd hb (by decide))
      exact s_ret ev_c fun H2 e2 => q H2 (e1.trans e2)
    | some z =>
      obtain ⟨rfl, hz⟩ := id hv
      have hlen : (tx z).length = z.length := by simp [tx, Str.length]
      refine q_when (b := !decide (1 ≤ z.length ∧ z.length ≤ 8)) (et_is (et_or (et_not (et_B (ev_isS (ev_var rfl) hv))) fun _ => et_not (et_test (ev_chain (b := decide ((1 : Int) ≤ z.length)) (b' := decide ((z.length : Int) ≤ 8)) ev_c (ev_is (ev_lenS (ev_var rfl) (by omega)) (by rw [hlen])) rv_I0 (fun _ => ev_c) fun _ => rv_I0))) ?_) (fun hb H1 e1 => ?_) (fun hb H1 e1 => ?_)
      · show (!true || !(decide ((1 : Int) ≤ z.length) && decide ((z.length : Int) ≤ 8))) = _
        rw [Bool.not_true, Bool.false_or]
        congr 1
        by_cases h1 : 1 ≤ z.length <;> by_cases h2 : z.length ≤ 8 <;> simp [h1, h2] <;> omega
      · have hw : wr (some z) g0 = false := by
          have : decide (1 ≤ z.length ∧ z.length ≤ 8) = false := of_not hb
          show (decide (1 ≤ z.length ∧ z.length ≤ 8) && _) = false
          rw [this, Bool.false_and]
        rw [hw] at q
        exact s_ret ev_c fun H2 e2 => q H2 (e1.trans e2)
      · have hd : decide (1 ≤ z.length ∧ z.length ≤ 8) = true := of_not' hb
        have hw : wr (some z) g0 = z.all fun c => decide (c ∈ g0) := by
          show (decide (1 ≤ z.length ∧ z.length ≤ 8) && _) = _
          rw [hd, Bool.true_and]
        rw [hw] at q
        have hsz : (tx z).cps.size = z.length := by simp [tx]
        refine ⟨_, rfl, tx z, rfl, hT.ex e1 _ hpp, gx_it walk_str (fun i H' => Ex H H' ∧ ((z.take i).all fun c => decide (c ∈ g0)) = true) ⟨e1, rfl⟩ (fun _ _ _ _ => trivial) (fun i x H2 H2' hi hP hY => ?_) (fun H2 hP => ?_)⟩
        · obtain ⟨e2, hall⟩ := hP
          obtain ⟨rfl, c, hc, rfl⟩ := hY
          have hc' : z[i]? = some c := by simpa [tx] using hc
          refine ⟨rfl, _, rfl, _, rfl, c, tx g0, rfl, rfl, _, rfl, fun hb2 => ⟨e2, ?_⟩, fun hb2 => ?_⟩
          · rw [List.take_add_one, hc']
            show ((z.take i ++ [c]).all _) = true
            rw [List.all_append, hall, Bool.true_and]
            show (decide (c ∈ g0) && true) = true
            rw [Bool.and_true]
            simpa [tx] using hb2
          · have hf : (z.all fun c => decide (c ∈ g0)) = false := by
              rw [Bool.eq_false_iff]
              intro ha
              have := List.all_eq_true.mp ha c (List.mem_of_getElem? hc')
              exact hb2 (by simpa [tx] using this)
            rw [hf] at q
            exact q _ e2
        · obtain ⟨e2, hall⟩ := hP
          rw [List.take_of_length_le (by omega)] at hall
          rw [hall] at q
          exact q H2 e2
def sp_is_half (K : PySem.W.Frag) (ts : List Addr) : Sp := fun vs H Q _ => ∃ (v : V) (o : Option (List Nat)), vs = [v] ∧ Th K H v o ∧ TB ts H ∧ RetV (.bl (wr o [110, 121])) H Q
theorem ok_is_half {ts : List Addr} {tHS : Tok} (D : Df K mg "is_half" st_is_half ["thing"]) (c_HALF_SIGNS : mg "HALF_SIGNS" = some (.str "ny" tHS)) (A_is_written_in : At P w K mg base "is_written_in" st_is_written_in 2 ["thing", "signs"] (sp_is_written_in K ts)) : At P w K mg base "is_half" st_is_half 3 ["thing"] (sp_is_half K ts) := by
  obtain ⟨f, fd, F, b, g⟩ := D
  obtain ⟨f_is_written_in, fd_is_written_in, F_is_written_in, b_is_written_in, g_is_written_in, G_is_written_in⟩ := A_is_written_in
  refine ⟨f, fd, F, b, g, F.ok sc_is_half (fun vs H Q E h => ?_) (fun cdv A outer s H vs Q E hr h => ?_)⟩
  · obtain ⟨v, o, rfl, _⟩ := h
    rfl
  · obtain ⟨v, o, rfl, hv, hT, q⟩ := h
    refine ⟨_, (pss_one (ps_ret (pe_call G_is_written_in (hr.mono (by decide)) (by rfl) g_is_written_in F_is_written_in.kp b_is_written_in .nil pass0 (pa_cons (pv 0) (pa_cons (pe_glob (v := .str "ny") (by rfl) c_HALF_SIGNS ⟨_, rfl⟩) pa_nil))))), ?_⟩
    exact c_call (ea_cons (ev_var rfl) (ea_cons ev_c ea_nil)) fun H1 e1 => ⟨v, o, [110, 121], rfl, hv.ex e1, hT.ex e1, fun H2 e2 => q H2 (e1.trans e2)⟩
def sp_is_row (K : PySem.W.Frag) (ts : List Addr) : Sp := fun vs H Q _ => ∃ (v : V) (o : Option (List Nat)), vs = [v] ∧ Th K H v o ∧ TB ts H ∧ RetV (.bl (wr o [110, 98, 121])) H Q
theorem ok_is_row {ts : List Addr} {tRS : Tok} (D : Df K mg "is_row" st_is_row ["thing"]) (c_ROW_SIGNS : mg "ROW_SIGNS" = some (.str "nby" tRS)) (A_is_written_in : At P w K mg base "is_written_in" st_is_written_in 2 ["thing", "signs"] (sp_is_written_in K ts)) : At P w K mg base "is_row" st_is_row 3 ["thing"] (sp_is_row K ts) := by
  obtain ⟨f, fd, F, b, g⟩ := D
  obtain ⟨f_is_written_in, fd_is_written_in, F_is_written_in, b_is_written_in, g_is_written_in, G_is_written_in⟩ := A_is_written_in
  refine ⟨f, fd, F, b, g, F.ok sc_is_row (fun vs H Q E h => ?_) (fun cdv A outer s H vs Q E hr h => ?_)⟩
  · obtain ⟨v, o, rfl, _⟩ := h
    rfl
  · obtain ⟨v, o, rfl, hv, hT, q⟩ := h
    refine ⟨_, (pss_one (ps_ret (pe_call G_is_written_in (hr.mono (by decide)) (by rfl) g_is_written_in F_is_written_in.kp b_is_written_in .nil pass0 (pa_cons (pv 0) (pa_cons (pe_glob (v := .str "nby") (by rfl) c_ROW_SIGNS ⟨_, rfl⟩) pa_nil))))), ?_⟩
    exact c_call (ea_cons (ev_var rfl) (ea_cons ev_c ea_nil)) fun H1 e1 => ⟨v, o, [110, 98, 121], rfl, hv.ex e1, hT.ex e1, fun H2 e2 => q H2 (e1.trans e2)⟩
def sp_lets (K : PySem.W.Frag) (ts : List Addr) : Sp := fun vs H Q _ => ∃ c d : Nat, vs = [.str (sg1 c), .str (sg1 d)] ∧ RetV (.bl (lt1 c d)) H Q
theorem ok_lets {ts : List Addr} (D : Df K mg "lets" st_lets ["mark", "sign"]) : At P w K mg base "lets" st_lets 1 ["mark", "sign"] (sp_lets K ts) := by
  obtain ⟨f, fd, F, b, g⟩ := D
  refine ⟨f, fd, F, b, g, F.ok sc_lets (fun vs H Q E h => ?_) (fun cdv A outer s H vs Q E hr h => ?_)⟩
  · obtain ⟨c, d, rfl, _⟩ := h
    rfl
  · obtain ⟨c, d, rfl, q⟩ := h
    refine ⟨_, (pss_one (ps_ret (pe_or (pe_cmpR op_eq (pv 0) pe_str (nomark _)) (pe_one (pe_cmpR op_eq (pv 0) (pv 1) (nomark _)))))), ?_⟩
    exact s_ret (ev_is (ev_orV (ev_op (ev_var rfl) ev_c (rv_eq rfl)) fun _ => ev_op (ev_var rfl) (ev_var rfl) (rv_eq rfl)) (by unfold lt1; rw [← str1_dec c 98, ← str1_dec c d]; rfl)) fun H1 e1 => q H1 e1
def sp_fits_row (K : PySem.W.Frag) (ts : List Addr) : Sp := fun vs H Q _ => ∃ (r : List Nat) (v : V) (o : Option (List Nat)), vs = [.str (tx r), v] ∧ RowL r ∧ Th K H v o ∧ TB ts H ∧ RetV (.bl (fitsO r o)) H Q
theorem ok_fits_row {cc pp : Addr} {ts : List Addr} (D : DfC K mg "fits_row" st_fits_row ["row", "half"] cc) (B_fits_row : GxR.TabB base mg cc pp) (hpp : pp ∈ ts) (m_len : mg "len" = none) (m_zip : mg "zip" = none) (m_all : mg "all" = none) (A_is_half : At P w K mg base "is_half" st_is_half 3 ["thing"] (sp_is_half K ts)) (A_is_row : At P w K mg base "is_row" st_is_row 3 ["thing"] (sp_is_row K ts)) (A_lets : At P w K mg base "lets" st_lets 1 ["mark", "sign"] (sp_lets K ts)) : At P w K mg base "fits_row" st_fits_row 5 ["row", "half"] (sp_fits_row K ts) := by
  obtain ⟨f, fd, F, b, g, hcd⟩ := D
  obtain ⟨f_is_half, fd_is_half, F_is_half, b_is_half, g_is_half, G_is_half⟩ := A_is_half
  obtain ⟨f_is_row, fd_is_row, F_is_row, b_is_row, g_is_row, G_is_row⟩ := A_is_row
  obtain ⟨f_lets, fd_lets, F_lets, b_lets, g_lets, G_lets⟩ := A_lets
  refine ⟨f, fd, F, b, g, okC F hcd sc_fits_row (fun vs H Q E h => ?_) (fun A outer s H vs Q E hr h => ?_)⟩
  · obtain ⟨r, v, o, rfl, _⟩ := h
    rfl
  · obtain ⟨r, v, o, rfl, hr0, hv, hT, q⟩ := h
    refine ⟨_, (pss_cons (ps_if (PW.pt (pw_or (pt_not (pt_val (pe_call G_is_row (hr.mono (by decide)) (by rfl) g_is_row F_is_row.kp b_is_row .nil pass0 (pa_cons (pv 0) pa_nil)))) (pw_or (pt_not (pt_val (pe_call G_is_half (hr.mono (by decide)) (by rfl) g_is_half F_is_half.kp b_is_half .nil pass0 (pa_cons (pv 1) pa_nil)))) (pw_or1 (pt_cmpR op_ne (pe_callB call_len_str (by rfl) m_len (by decide +kernel) (pa_cons (pv 0) pa_nil)) (pe_callB call_len_str (by rfl) m_len (by decide +kernel) (pa_cons (pv 1) pa_nil)) (nomark _))))))
      (pss_one (ps_ret pe_bl))
      pss_nil)
      (pss_one (ps_ret (Hid.pe_allG (own := [("mark", 2), ("sign", 3)]) (gg := gTup K 2 (gCons (gName 2) (gCons (gName 3) gNil))) hr rfl sc_fits_row.nd (by rfl) m_all B_fits_row rfl (Hid.pi_zs (by rfl) m_zip (pa_cons (pv 0) (pa_cons (pv 1) pa_nil))) (blkOk_by (N := ["row", "half", "mark", "sign"]) (sc := defScope st_fits_row) (by decide +kernel)) (fun _ _ _ _ _ _ _ _ => (pg_tup (by rfl) (pgs_cons (pg_name (i := 2) sc_fits_row.nd rfl (.inl rfl)) (pgs_cons (pg_name (i := 3) sc_fits_row.nd rfl (.inl rfl)) pgs_nil)))) (fun _ _ _ _ _ _ _ _ hr => (pe_call G_lets (hr.mono (by decide)) (by rfl) g_lets F_lets.kp b_lets .nil pass0 (pa_cons (pv 2) (pa_cons (pv 3) pa_nil)))))))), ?_⟩
    have hrl := hr0.1
    have hlr : (tx r).length = r.length := by simp [tx, Str.length]
    have e1 : Ev (tCall (sp_is_row K ts) [] E0 (tCons (tVar 0) tNil)) [some (.str (tx r)), some v, none, none] H (.bl true) := ev_call (ea_cons (ev_var rfl) ea_nil) fun H1 e1 Q1 q1 E1 => ⟨_, some r, rfl, th_str r (by omega), hT.ex e1, by rw [row_wr hr0]; exact q1⟩
    have e2 : Ev (tCall (sp_is_half K ts) [] E0 (tCons (tVar 1) tNil)) [some (.str (tx r)), some v, none, none] H (.bl (wr o [110, 121])) := ev_call (ea_cons (ev_var rfl) ea_nil) fun H1 e1 Q1 q1 E1 => ⟨v, o, rfl, hv.ex e1, hT.ex e1, q1⟩
    have st := fits_step hr0 o
    by_cases hw : wr o [110, 121] = false
    · refine q_when (b := true) (et_is (et_or (b := true) (et_not (et_B e1)) fun _ => et_is (et_or (b := false) (et_not (et_B e2)) fun z => absurd z (by rw [hw]; decide)) (by rw [hw]; rfl)) rfl) (fun hb H1 f1 => ?_) (fun hb H1 f1 => absurd hb (by decide))
      rw [st, hw, Bool.false_and] at q
      exact s_ret ev_c fun H2 f2 => q H2 (f1.trans f2)
    · have hw' : wr o [110, 121] = true := by simpa using hw
      cases o with
      | none => cases hw'
      | some z =>
        obtain ⟨rfl, hz⟩ := id hv
        have hlz : (tx z).length = z.length := by simp [tx, Str.length]
        rw [hw'] at e2
        have st' : fitsO r (some z) = (decide (r.length = z.length) && (List.zipWith lt1 r z).all id) := by rw [st, hw', Bool.true_and]
        refine q_when (b := !decide (r.length = z.length)) (et_is (et_or (et_not (et_B e1)) fun _ => et_or (et_not (et_B e2)) fun _ => et_test (ev_op (ev_is (ev_lenS (ev_var rfl) (by omega)) (by rw [hlr])) (ev_is (ev_lenS (ev_var rfl) (by omega)) (by rw [hlz])) (rv_ne rfl))) ?_) (fun hb H1 f1 => ?_) (fun hb H1 f1 => ?_)
        · show (!true || (!true || !decide (V.int (r.length : Int) = V.int (z.length : Int)))) = _
          rw [Bool.not_true, Bool.false_or, Bool.false_or]
          congr 1
          exact decide_eq_decide.mpr ⟨fun q => by have := V.int.inj q; omega, fun q => by rw [q]⟩
        · have : decide (r.length = z.length) = false := of_not hb
          rw [st', this, Bool.false_and] at q
          exact s_ret ev_c fun H2 f2 => q H2 (f1.trans f2)
        · have hd : decide (r.length = z.length) = true := of_not' hb
          have hle : r.length = z.length := of_decide_eq_true hd
          rw [st', hd, Bool.true_and] at q
          have hsr : (tx r).cps.size = r.length := by simp [tx]
          have hsz : (tx z).cps.size = z.length := by simp [tx]
          refine ⟨_, rfl, _, rfl, tx r, tx z, rfl, hT.ex f1 _ hpp, gx_it (walk_zs (n := r.length) (by rw [hsr, hsz]; omega)) (fun i H' => Ex H H' ∧ (((List.zipWith lt1 r z).take i).all id) = true) ⟨f1, rfl⟩ (fun _ _ _ _ => trivial) (fun i x H2 H2' hi hP hY => ?_) (fun H2 hP => ?_)⟩
          · obtain ⟨f2, hall⟩ := hP
            obtain ⟨T, c, d, rfl, hTn, rfl, hc, hd2⟩ := hY
            have hc' : r[i]? = some c := by simpa [tx] using hc
            have hd' : z[i]? = some d := by simpa [tx] using hd2
            have hg : (List.zipWith lt1 r z)[i]? = some (lt1 c d) := by rw [List.getElem?_zipWith, hc', hd']
            refine ⟨T, [.str (sg1 c), .str (sg1 d)], rfl, st_of upd_same, rfl, _, _, rfl, _, _, rfl, rfl, rfl, c_call (ea_cons (ev_var rfl) (ea_cons (ev_var rfl) ea_nil)) fun H3 f3 => ⟨c, d, rfl, fun H4 f4 => ⟨_, rfl, fun hb2 => ⟨((f2.trans (Ex.new hTn)).trans f3).trans f4, ?_⟩, fun hb2 => ?_⟩⟩⟩
            · rw [List.take_add_one, hg]
              show (((List.zipWith lt1 r z).take i ++ [lt1 c d]).all id) = true
              rw [List.all_append, hall, Bool.true_and, hb2]
              rfl
            · have hf : ((List.zipWith lt1 r z).all id) = false := by
                rw [Bool.eq_false_iff]
                intro ha
                exact hb2 (List.all_eq_true.mp ha _ (List.mem_of_getElem? hg))
              rw [hf] at q
              exact q _ (((f2.trans (Ex.new hTn)).trans f3).trans f4)
          · obtain ⟨f2, hall⟩ := hP
            rw [List.take_of_length_le (by rw [List.length_zipWith]; omega)] at hall
            rw [hall] at q
            exact q H2 f2
def sp_row_by (K : PySem.W.Frag) (ts : List Addr) : Sp := fun vs H Q _ => ∃ a o : List Nat, vs = [.str (tx a), .str (tx o)] ∧ (a.length = o.length ∧ o.length ≤ 1000) ∧ RetV (.str (tx (rowBy a o))) H Q
theorem ok_row_by {ts : List Addr} (D : Df K mg "row_by" st_row_by ["one", "other"]) (m_zip : mg "zip" = none) : At P w K mg base "row_by" st_row_by 1 ["one", "other"] (sp_row_by K ts) := by
  obtain ⟨f, fd, F, b, g⟩ := D
  refine ⟨f, fd, F, b, g, F.ok sc_row_by (fun vs H Q E h => ?_) (fun cdv A outer s H vs Q E hr h => ?_)⟩
  · obtain ⟨a, o, rfl, _⟩ := h
    rfl
  · obtain ⟨a, o, rfl, hl, q⟩ := h
    refine ⟨_, (pss_one (ps_ret (pe_join pe_str (pe_lc (own := [("sign", 2), ("beside", 3)]) (g := gTup K 2 (gCons (gName 2) (gCons (gName 3) gNil))) (by rfl) sc_row_by.nd (Hid.pi_zs (by rfl) m_zip (pa_cons (pv 0) (pa_cons (pv 1) pa_nil))) (blkOk_by (N := ["one", "other", "sign", "beside"]) (sc := defScope st_row_by) (by decide +kernel)) (fun _ _ _ _ _ => (pg_tup (by rfl) (pgs_cons (pg_name (i := 2) sc_row_by.nd rfl (.inl rfl)) (pgs_cons (pg_name (i := 3) sc_row_by.nd rfl (.inl rfl)) pgs_nil)))) (fun _ _ _ _ _ => pts_nil) (fun _ _ _ _ _ => (pe_ifExp (pt_cmpR op_eq (pv 2) (pv 3) (nomark _)) (pv 2) pe_str)))))), ?_⟩
    have hsz : (tx a).cps.size = a.length := by simp [tx]
    have hsz2 : (tx o).cps.size = o.length := by simp [tx]
    have hrl : (rowBy a o).length = a.length := by unfold rowBy; rw [List.length_zipWith]; omega
    refine ⟨⟨_, rfl⟩, _, rfl, _, rfl, tx a, tx o, rfl, fun D hD => ?_⟩
    refine lc_it (walk_zs (n := a.length) (by rw [hsz, hsz2]; omega)) (fun i H' => Ex H H' ∧ H' D = some (.lst (vs1 ((rowBy a o).take i)))) ⟨Ex.new hD, upd_same⟩ (fun _ _ _ _ => trivial) (fun i x H1 H2 hi hP hY => ?_) (fun H1 hP => ?_)
    · obtain ⟨e1, h1⟩ := hP
      obtain ⟨T, c, d, rfl, hT, rfl, hc, hd⟩ := hY
      have hc' : a[i]? = some c := by simpa [tx] using hc
      have hd' : o[i]? = some d := by simpa [tx] using hd
      refine ⟨T, [.str (sg1 c), .str (sg1 d)], rfl, st_of upd_same, rfl, _, _, rfl, _, _, rfl, rfl, rfl, tyes ?_⟩
      have hE : Ev (tIf (tTest (tOp rEq (tVar 2) (tVar 3))) (tVar 2) (tC (.str "b"))) [some (.str (tx a)), some (.str (tx o)), some (.str (sg1 c)), some (.str (sg1 d))] (upd H1 T (.tup [.str (sg1 c), .str (sg1 d)])) (.str (sg1 (rb c d))) := by
        refine ev_if (et_is (et_test (ev_op (ev_var rfl) (ev_var rfl) (rv_eq rfl))) (str1_dec c d)) (fun hb => ev_is (ev_var rfl) ?_) (fun hb => ev_is ev_c ?_)
        · unfold rb; rw [if_pos (of_decide_eq_true hb)]
        · unfold rb; rw [if_neg (of_decide_eq_false hb)]; rfl
      refine hE _ (Ex.refl _) _ fun H4 e4 => ⟨_, e4 _ _ (by rw [upd_ne (ne_of_none h1 hT)]; exact h1), ?_, ?_, ?_⟩
      · refine sz_lt ?_
        rw [List.length_map, List.length_take]
        omega
      · exact ((e1.trans (Ex.new hT)).trans e4).mut hD
      · rw [upd_same]
        have : (rowBy a o)[i]? = some (rb c d) := by unfold rowBy; rw [List.getElem?_zipWith, hc', hd']
        rw [List.take_add_one, this]
        show _ = some (HO.lst (List.map _ _))
        rw [List.map_append]
        rfl
    · obtain ⟨e1, h1⟩ := hP
      rw [List.take_of_length_le (by omega)] at h1
      exact r_join (sq_of h1) (by omega) (q H1 e1)
def sp_turned_at_both (K : PySem.W.Frag) (ts : List Addr) : Sp := fun vs H Q _ => ∃ r h : List Nat, vs = [.str (tx r), .str (tx h)] ∧ (h.length = r.length ∧ r.length ≤ 1000) ∧ RetV (.str (tx (turned r h))) H Q
theorem ok_turned_at_both {ts : List Addr} (D : Df K mg "turned_at_both" st_turned_at_both ["row", "half"]) (m_zip : mg "zip" = none) : At P w K mg base "turned_at_both" st_turned_at_both 1 ["row", "half"] (sp_turned_at_both K ts) := by
  obtain ⟨f, fd, F, b, g⟩ := D
  refine ⟨f, fd, F, b, g, F.ok sc_turned_at_both (fun vs H Q E h => ?_) (fun cdv A outer s H vs Q E hr h => ?_)⟩
  · obtain ⟨r, h, rfl, _⟩ := h
    rfl
  · obtain ⟨r, h, rfl, hl, q⟩ := h
    refine ⟨_, (pss_cons (ps_set (i := 2) sc_turned_at_both.nd rfl (.inl rfl) (pe_lst pa_nil))
      (pss_cons (ps_for PassesOwn.never rfl (Hid.pi_zs (by rfl) m_zip (pa_cons (pv 0) (pa_cons (pv 1) pa_nil))) (pg_tup (by rfl) (pgs_cons (pg_name (i := 3) sc_turned_at_both.nd rfl (.inl rfl)) (pgs_cons (pg_name (i := 4) sc_turned_at_both.nd rfl (.inl rfl)) pgs_nil)))
      (pss_one (ps_if (pt_cmpR op_eq (pv 3) pe_str (nomark _))
      (pss_one (ps_expr (pe_bm PySem.F.plainAttrs_list PySem.F.slot_list_append PySem.F.type_list_append mt_append (pv 2) (pa_cons (pe_ifExp (pt_cmpR op_eq (pv 4) pe_str (nomark _)) pe_str pe_str) pa_nil))))
      (pss_one (ps_expr (pe_bm PySem.F.plainAttrs_list PySem.F.slot_list_append PySem.F.type_list_append mt_append (pv 2) (pa_cons (pv 4) pa_nil)))))))
      (pss_one (ps_ret (pe_join pe_str (pv 2)))))), ?_⟩
    have hsz : (tx r).cps.size = r.length := by simp [tx]
    have hsz2 : (tx h).cps.size = h.length := by simp [tx]
    refine q_asgL (el_lst ea_nil (by decide)) fun l H1 hl0 e1 h1 => ?_
    refine ⟨_, rfl, _, rfl, tx r, tx h, rfl, for_zs (n := r.length) (by rw [hsz, hsz2]; omega) (fun i σ' H' => ∃ y3 y4, σ' = [some (.str (tx r)), some (.str (tx h)), some (.ref l), y3, y4] ∧ Ex H H' ∧ H' l = some (.lst (vs1 ((turned r h).take i)))) ⟨_, _, rfl, e1, h1⟩ (fun i c d T σ' H2 hi hc hd hT hP => ?_) (fun σ' H2 hP => ?_)⟩
    · obtain ⟨y3, y4, rfl, e2, h2⟩ := hP
      have hc' : r[i]? = some c := by simpa [tx] using hc
      have hd' : h[i]? = some d := by simpa [tx] using hd
      have hlt : l ≠ T := ne_of_none h2 hT
      have h3 : (upd H2 T (.tup [.str (sg1 c), .str (sg1 d)])) l = some (.lst (vs1 ((turned r h).take i))) := by rw [upd_ne hlt]; exact h2
      have hget : (turned r h)[i]? = some (tw c d) := by unfold turned; rw [List.getElem?_zipWith, hc', hd']
      have hlen : (vs1 ((turned r h).take i)).length < 100000 := by rw [List.length_map, List.length_take]; omega
      have hnext : ∀ H4, Ex (upd H2 T (.tup [.str (sg1 c), .str (sg1 d)])) H4 → ∃ y3 y4, [some (V.str (tx r)), some (.str (tx h)), some (.ref l), some (.str (sg1 c)), some (.str (sg1 d))] = [some (V.str (tx r)), some (.str (tx h)), some (.ref l), y3, y4] ∧ Ex H (upd H4 l (.lst (vs1 ((turned r h).take i) ++ [.str (sg1 (tw c d))]))) ∧ (upd H4 l (.lst (vs1 ((turned r h).take i) ++ [.str (sg1 (tw c d))]))) l = some (.lst (vs1 ((turned r h).take (i + 1)))) := by
        intro H4 e4
        refine ⟨_, _, rfl, ((e2.trans (Ex.new hT)).trans e4).mut hl0, ?_⟩
        rw [upd_same, List.take_add_one, hget]
        show _ = some (HO.lst (List.map _ _))
        rw [List.map_append]
        rfl
      refine ⟨T, [.str (sg1 c), .str (sg1 d)], rfl, st_of upd_same, rfl, _, _, rfl, _, _, rfl, rfl, ?_⟩
      refine s_if (et_is (et_test (ev_op (ev_var rfl) ev_c (rv_eq rfl))) (str1_dec c 98)) (fun hb H4 e4 => ?_) (fun hb H4 e4 => ?_)
      · have hb' : c = 98 := of_decide_eq_true hb
        refine s_app (v := .str (sg1 (tw c d))) (e4 _ _ h3) (ev_var rfl) (ev_if (et_is (et_test (ev_op (ev_var rfl) ev_c (rv_eq rfl))) (str1_dec d 110)) (fun hd2 => ev_is ev_c ?_) (fun hd2 => ev_is ev_c ?_)) hlen fun H5 e5 => hnext H5 (e4.trans e5)
        · unfold tw; rw [if_pos hb', if_pos (of_decide_eq_true hd2)]; rfl
        · unfold tw; rw [if_pos hb', if_neg (of_decide_eq_false hd2)]; rfl
      · have hb' : c ≠ 98 := of_decide_eq_false hb
        refine s_app (v := .str (sg1 (tw c d))) (e4 _ _ h3) (ev_var rfl) (ev_is (ev_var rfl) ?_) hlen fun H5 e5 => hnext H5 (e4.trans e5)
        unfold tw; rw [if_neg hb']
    · obtain ⟨y3, y4, rfl, e2, h2⟩ := hP
      have hrl := turned_len r h hl.1
      rw [List.take_of_length_le (by omega)] at h2
      exact ⟨⟨_, rfl⟩, _, rfl, r_join (sq_of h2) (by omega) (q H2 e2)⟩
def sp_other_half (K : PySem.W.Frag) (ts : List Addr) : Sp := fun vs H Q _ => ∃ (r : List Nat) (v : V) (o : Option (List Nat)), vs = [.str (tx r), v] ∧ RowL r ∧ Th K H v o ∧ TB ts H ∧ RetV (otherO r o) H Q
theorem ok_other_half {ts : List Addr} (D : Df K mg "other_half" st_other_half ["row", "half"]) (A_fits_row : At P w K mg base "fits_row" st_fits_row 5 ["row", "half"] (sp_fits_row K ts)) (A_turned_at_both : At P w K mg base "turned_at_both" st_turned_at_both 1 ["row", "half"] (sp_turned_at_both K ts)) : At P w K mg base "other_half" st_other_half 6 ["row", "half"] (sp_other_half K ts) := by
  obtain ⟨f, fd, F, b, g⟩ := D
  obtain ⟨f_fits_row, fd_fits_row, F_fits_row, b_fits_row, g_fits_row, G_fits_row⟩ := A_fits_row
  obtain ⟨f_turned_at_both, fd_turned_at_both, F_turned_at_both, b_turned_at_both, g_turned_at_both, G_turned_at_both⟩ := A_turned_at_both
  refine ⟨f, fd, F, b, g, F.ok sc_other_half (fun vs H Q E h => ?_) (fun cdv A outer s H vs Q E hr h => ?_)⟩
  · obtain ⟨r, v, o, rfl, _⟩ := h
    rfl
  · obtain ⟨r, v, o, rfl, hr0, hv, hT, q⟩ := h
    refine ⟨_, (pss_cons (ps_if (pt_not (pt_val (pe_call G_fits_row (hr.mono (by decide)) (by rfl) g_fits_row F_fits_row.kp b_fits_row .nil pass0 (pa_cons (pv 0) (pa_cons (pv 1) pa_nil)))))
      (pss_one (ps_ret pe_non))
      pss_nil)
      (pss_one (ps_ret (pe_call G_turned_at_both (hr.mono (by decide)) (by rfl) g_turned_at_both F_turned_at_both.kp b_turned_at_both .nil pass0 (pa_cons (pv 0) (pa_cons (pv 1) pa_nil)))))), ?_⟩
    have e1 : Ev (tCall (sp_fits_row K ts) [] E0 (tCons (tVar 0) (tCons (tVar 1) tNil))) [some (.str (tx r)), some v] H (.bl (fitsO r o)) := ev_call (ea_cons (ev_var rfl) (ea_cons (ev_var rfl) ea_nil)) fun H1 e1 Q1 q1 E1 => ⟨r, v, o, rfl, hr0, hv.ex e1, hT.ex e1, q1⟩
    cases hf : fitsO r o with
    | false =>
      rw [hf] at e1
      rw [otherO_no hf] at q
      refine q_when (b := true) (et_not (et_B e1)) (fun hb H1 f1 => ?_) (fun hb H1 f1 => absurd hb (by decide))
      exact s_ret ev_c fun H2 f2 => q H2 (f1.trans f2)
    | true =>
      rw [hf] at e1
      cases o with
      | none => cases hf
      | some z =>
        obtain ⟨rfl, hz⟩ := id hv
        rw [otherO_yes hf] at q
        have hl : z.length = r.length := by
          have h1 : (decide (z.length = r.length) && (z.all fun c => decide (c ∈ [110, 121])) && (List.zipWith lt1 r z).all id) = true := hf
          rw [Bool.and_eq_true, Bool.and_eq_true] at h1
          exact of_decide_eq_true h1.1.1
        have hrl := hr0.1
        refine q_when (b := false) (et_not (et_B e1)) (fun hb H1 f1 => absurd hb (by decide)) (fun hb H1 f1 => ?_)
        exact c_call (ea_cons (ev_var rfl) (ea_cons (ev_var rfl) ea_nil)) fun H2 f2 => ⟨r, z, rfl, ⟨hl, by omega⟩, fun H3 f3 => q H3 (f1.trans (f2.trans f3))⟩
def sp_many_partings (K : PySem.W.Frag) (ts : List Addr) : Sp := fun vs H Q _ => ∃ r : List Nat, vs = [.str (tx r)] ∧ r.length ≤ 1000 ∧ RetV (.int (many r)) H Q
theorem ok_many_partings {ts : List Addr} (D : Df K mg "many_partings" st_many_partings ["row"]) (m_max : mg "max" = none) : At P w K mg base "many_partings" st_many_partings 1 ["row"] (sp_many_partings K ts) := by
  obtain ⟨f, fd, F, b, g⟩ := D
  refine ⟨f, fd, F, b, g, F.ok sc_many_partings (fun vs H Q E h => ?_) (fun cdv A outer s H vs Q E hr h => ?_)⟩
  · obtain ⟨r, rfl, _⟩ := h
    rfl
  · obtain ⟨r, rfl, hl, q⟩ := h
    refine ⟨_, (pss_one (ps_ret (pe_op op_shl pe_int (pe_callB (call_max2 rfl) (by rfl) m_max (by decide +kernel) (pa_cons pe_int (pa_cons (pe_op op_sub (pe_m1 PySem.F.slot_str_count PySem.F.type_str_count mt_count (pv 0) pe_str) pe_int) pa_nil)))))), ?_⟩
    have hcnt : Ev (tM1 (fun x xs H Q => ∃ a b, x = .str a ∧ xs = [.str b] ∧ Q (.int (Txt.count a b)) H) (tVar 0) (tC (.str "b"))) [some (.str (tx r))] H (.int (r.count 98)) := fun H1 e1 Q1 q1 => ⟨_, rfl, ⟨_, rfl⟩, tx r, "b", rfl, rfl, by
      have := count_one (tx r) 98
      rw [show (tx r).cps.toList = r by simp [tx]] at this
      rw [show Txt.count (tx r) "b" = (r.count 98 : Int) from this]
      exact q1 H1 (Ex.refl _)⟩
    have hc : r.count 98 ≤ r.length := List.count_le_length
    refine s_ret (ev_is (ev_op ev_c (ev_max2 ev_c (ev_op hcnt ev_c rv_I0)) (rv_I ⟨?_, ?_, by decide⟩)) ?_) fun H1 e1 => q H1 e1
    · split <;> omega
    · split <;> omega
    · unfold many
      have e : (if (r.count 98 : Int) - 1 > 0 then (r.count 98 : Int) - 1 else 0).toNat = r.count 98 - 1 := by split <;> omega
      show V.int (1 * 2 ^ (if (r.count 98 : Int) - 1 > 0 then (r.count 98 : Int) - 1 else 0).toNat) = _
      rw [e, Int.one_mul, Int.natCast_pow]
      rfl
def sp_is_whole (K : PySem.W.Frag) (ts : List Addr) : Sp := fun vs H Q _ => ∃ i : Int, vs = [.int i] ∧ RetV (.bl true) H Q
theorem ok_is_whole {ts : List Addr} (D : Df K mg "is_whole" st_is_whole ["thing"]) (m_isinstance : mg "isinstance" = none) (m_bool : mg "bool" = none) (m_int : mg "int" = none) : At P w K mg base "is_whole" st_is_whole 1 ["thing"] (sp_is_whole K ts) := by
  obtain ⟨f, fd, F, b, g⟩ := D
  refine ⟨f, fd, F, b, g, F.ok sc_is_whole (fun vs H Q E h => ?_) (fun cdv A outer s H vs Q E hr h => ?_)⟩
  · obtain ⟨i, rfl, _⟩ := h
    rfl
  · obtain ⟨i, rfl, q⟩ := h
    refine ⟨_, (pss_one (ps_ret (pe_and (pe_callB call_isi (by rfl) m_isinstance (by decide +kernel) (pa_cons (pv 0) (pa_cons (pe_bltn (v := .ty "int") (by rfl) m_int (by decide +kernel) rfl) pa_nil))) (pe_one (pe_not (pe_callB call_isi (by rfl) m_isinstance (by decide +kernel) (pa_cons (pv 0) (pa_cons (pe_bltn (v := .ty "bool") (by rfl) m_bool (by decide +kernel) rfl) pa_nil)))))))), ?_⟩
    exact s_ret (ev_andV (ev_isi (ev_var rfl) (fun _ _ => .base (.int i)) (b := true) (by decide +kernel)) fun _ => ev_notV (ev_isi (ev_var rfl) (fun _ _ => .base (.int i)) (b := false) (by decide +kernel))) fun H1 e1 => q H1 e1
def sp_lesser_half (K : PySem.W.Frag) (ts : List Addr) : Sp := fun vs H Q _ => ∃ (r : List Nat) (n : Nat), vs = [.str (tx r), .int (n : Nat)] ∧ r.length ≤ 1000 ∧ RetV (.str (tx (lesser r n))) H Q
theorem ok_lesser_half {ts : List Addr} {tHS : Tok} (D : Df K mg "lesser_half" st_lesser_half ["row", "number"]) (m_reversed : mg "reversed" = none) (c_HALF_SIGNS : mg "HALF_SIGNS" = some (.str "ny" tHS)) : At P w K mg base "lesser_half" st_lesser_half 1 ["row", "number"] (sp_lesser_half K ts) := by
  obtain ⟨f, fd, F, b, g⟩ := D
  refine ⟨f, fd, F, b, g, F.ok sc_lesser_half (fun vs H Q E h => ?_) (fun cdv A outer s H vs Q E hr h => ?_)⟩
  · obtain ⟨r, n, rfl, _⟩ := h
    rfl
  · obtain ⟨r, n, rfl, hl, q⟩ := h
    refine ⟨_, (pss_cons (ps_set (i := 2) sc_lesser_half.nd rfl (.inl rfl) (pe_lst pa_nil))
      (pss_cons (ps_set (i := 3) sc_lesser_half.nd rfl (.inl rfl) (pv 1))
      (pss_cons (ps_for PassesOwn.never rfl (Hid.pi_rs (by rfl) m_reversed (pv 0)) (pg_name (i := 4) sc_lesser_half.nd rfl (.inl rfl))
      (pss_one (ps_if (pt_cmpR op_eq (pv 4) pe_str (nomark _))
      (pss_cons (ps_expr (pe_bm PySem.F.plainAttrs_list PySem.F.slot_list_append PySem.F.type_list_append mt_append (pv 2) (pa_cons (pe_ix ix_str (pe_glob (v := .str "ny") (by rfl) c_HALF_SIGNS ⟨_, rfl⟩) (pe_op op_and (pv 3) pe_int) (fun _ _ => rfl)) pa_nil)))
      (pss_one (ps_aug (i := 3) sc_lesser_half.nd rfl (.inl rfl) pe_int Hid.ip_shr)))
      (pss_one (ps_expr (pe_bm PySem.F.plainAttrs_list PySem.F.slot_list_append PySem.F.type_list_append mt_append (pv 2) (pa_cons (pv 4) pa_nil)))))))
      (pss_one (ps_ret (Hid.pe_joinRev rfl (by rfl) m_reversed pe_str (pv 2))))))), ?_⟩
    have hsz : (tx r).cps.size = r.length := by simp [tx]
    refine q_asgL (el_lst ea_nil (by decide)) fun l H1 hl0 e1 h1 => ?_
    refine q_asg (ev_var rfl) fun H2 e2 => ?_
    refine ⟨_, rfl, tx r, rfl, Nat.le_trans (show (tx r).length ≤ 1000 by show (tx r).cps.size ≤ 1000; omega) (by decide), for_rs (fun i σ' H' => ∃ (k : Nat) (y4 : Option V) (ss : List Nat), σ' = [some (.str (tx r)), some (.int (n : Nat)), some (.ref l), some (.int (k : Nat)), y4] ∧ Ex H H' ∧ H' l = some (.lst (vs1 ss)) ∧ ss ++ lesR (r.reverse.drop i) k = lesR r.reverse n ∧ ss.length = i)
      ⟨n, none, [], rfl, e1.trans e2, e2 _ _ h1, rfl, rfl⟩ (fun i c σ' H3 hi hc hP => ?_) (fun σ' H3 hP => ?_)⟩
    · obtain ⟨k, y4, ss, rfl, e3, h3, hss, hsl⟩ := hP
      rw [hsz] at hi hc
      have hc' : r.reverse[i]? = some c := by
        rw [List.getElem?_reverse hi]
        simpa [tx] using hc
      have hdrop : r.reverse.drop i = c :: r.reverse.drop (i + 1) := by
        obtain ⟨hlt, he⟩ := List.getElem?_eq_some_iff.mp hc'
        rw [List.drop_eq_getElem_cons hlt, he]
      rw [hdrop] at hss
      have hlen : (vs1 ss).length < 100000 := by rw [List.length_map]; omega
      have happ : ∀ d : Nat, vs1 ss ++ [V.str (sg1 d)] = vs1 (ss ++ [d]) := fun d => by
        show _ = List.map _ _
        rw [List.map_append]
        rfl
      refine s_if (et_is (et_test (ev_op (ev_var rfl) ev_c (rv_eq rfl))) (str1_dec c 98)) (fun hb H4 e4 => ?_) (fun hb H4 e4 => ?_)
      · have hb' : c = 98 := of_decide_eq_true hb
        rw [show lesR (c :: r.reverse.drop (i + 1)) k = sgn k :: lesR (r.reverse.drop (i + 1)) (k / 2) by conv => lhs; unfold lesR; rw [if_pos hb']] at hss
        refine q_app (v := .str (sg1 (sgn k))) (e4 _ _ h3) (ev_var rfl) (ev_op ev_c (ev_op (ev_var rfl) ev_c rv_I0) (rv_ixS (by decide) ?_)) hlen fun H5 e5 => ?_
        · rw [bitAnd_pp (Int.natCast_nonneg k) (by decide)]
          have : ((k : Int).toNat &&& (1 : Int).toNat : Nat) = k % 2 := by
            rw [Int.toNat_natCast]
            exact Nat.and_one_is_mod k
          rw [this]
          unfold sgn
          rcases Nat.mod_two_eq_zero_or_one k with h | h <;> rw [h] <;> rfl
        · refine ⟨_, rfl, k, 1, rfl, rfl, (by show (0 : Int) ≤ 1; decide), k / 2, some (.str (sg1 c)), ss ++ [sgn k], ?_, (e3.trans e4 |>.trans e5).mut hl0, ?_, ?_, ?_⟩
          · show [_, _, _, some (V.int ((k : Int) / 2 ^ (1 : Int).toNat)), _] = _
            have : ((k : Int) / 2 ^ (1 : Int).toNat) = ((k / 2 : Nat) : Int) := by
              show (k : Int) / 2 = _
              omega
            rw [this] <;> rfl
          · rw [upd_same, happ]
          · rw [List.append_assoc]
            exact hss
          · rw [List.length_append, hsl]
            rfl
      · have hb' : c ≠ 98 := of_decide_eq_false hb
        rw [show lesR (c :: r.reverse.drop (i + 1)) k = c :: lesR (r.reverse.drop (i + 1)) k by conv => lhs; unfold lesR; rw [if_neg hb']] at hss
        refine s_app (v := .str (sg1 c)) (e4 _ _ h3) (ev_var rfl) (ev_var rfl) hlen fun H5 e5 => ?_
        refine ⟨k, _, ss ++ [c], rfl, (e3.trans e4 |>.trans e5).mut hl0, ?_, ?_, ?_⟩
        · rw [upd_same, happ]
        · rw [List.append_assoc]
          exact hss
        · rw [List.length_append, hsl]
          rfl
    · obtain ⟨k, y4, ss, rfl, e3, h3, hss, hsl⟩ := hP
      rw [hsz] at hss hsl
      rw [List.drop_eq_nil_of_le (by rw [List.length_reverse]; exact Nat.le_refl _)] at hss
      have hss2 : ss = lesR r.reverse n := by
        rw [← hss]
        show ss = ss ++ []
        rw [List.append_nil]
      refine ⟨tx [], rfl, _, rfl, l, ss.map sg1, rfl, by rw [← vs1_str]; exact sq_of h3, ?_, ?_⟩
      · rw [sg1_len]
        show ss.length + _ * 0 ≤ 16777216
        omega
      · rw [← List.map_reverse, join_one, hss2]
        exact q H3 e3
def sp_parting_at (K : PySem.W.Frag) (ts : List Addr) : Sp := fun vs H Q _ => ∃ (r : List Nat) (n : Nat), vs = [.str (tx r), .int (n : Nat)] ∧ (r.length ≤ 1000 ∧ n < many r) ∧ ∀ p H2, H p = none → Ex H H2 → H2 p = some (.tup [.str (tx (part r n).1), .str (tx (part r n).2)]) → Q (.ref p) H2
theorem ok_parting_at {ts : List Addr} (D : Df K mg "parting_at" st_parting_at ["row", "number"]) (A_many_partings : At P w K mg base "many_partings" st_many_partings 1 ["row"] (sp_many_partings K ts)) (A_is_whole : At P w K mg base "is_whole" st_is_whole 1 ["thing"] (sp_is_whole K ts)) (A_lesser_half : At P w K mg base "lesser_half" st_lesser_half 1 ["row", "number"] (sp_lesser_half K ts)) (A_turned_at_both : At P w K mg base "turned_at_both" st_turned_at_both 1 ["row", "half"] (sp_turned_at_both K ts)) : At P w K mg base "parting_at" st_parting_at 2 ["row", "number"] (sp_parting_at K ts) := by
  obtain ⟨f, fd, F, b, g⟩ := D
  obtain ⟨f_many_partings, fd_many_partings, F_many_partings, b_many_partings, g_many_partings, G_many_partings⟩ := A_many_partings
  obtain ⟨f_is_whole, fd_is_whole, F_is_whole, b_is_whole, g_is_whole, G_is_whole⟩ := A_is_whole
  obtain ⟨f_lesser_half, fd_lesser_half, F_lesser_half, b_lesser_half, g_lesser_half, G_lesser_half⟩ := A_lesser_half
  obtain ⟨f_turned_at_both, fd_turned_at_both, F_turned_at_both, b_turned_at_both, g_turned_at_both, G_turned_at_both⟩ := A_turned_at_both
  refine ⟨f, fd, F, b, g, F.ok sc_parting_at (fun vs H Q E h => ?_) (fun cdv A outer s H vs Q E hr h => ?_)⟩
  · obtain ⟨r, n, rfl, _⟩ := h
    rfl
  · obtain ⟨r, n, rfl, hl, q⟩ := h
    refine ⟨_, (pss_cons (ps_if (PW.pt (pw_or (pt_not (pt_val (pe_call G_is_whole (hr.mono (by decide)) (by rfl) g_is_whole F_is_whole.kp b_is_whole .nil pass0 (pa_cons (pv 1) pa_nil)))) (pw_or1 (pt_not (pt_chain op_le op_lt pe_int (pv 1) (pe_call G_many_partings (hr.mono (by decide)) (by rfl) g_many_partings F_many_partings.kp b_many_partings .nil pass0 (pa_cons (pv 0) pa_nil)))))))
      (pss_one ps_never)
      pss_nil)
      (pss_cons (ps_set (i := 2) sc_parting_at.nd rfl (.inl rfl) (pe_call G_lesser_half (hr.mono (by decide)) (by rfl) g_lesser_half F_lesser_half.kp b_lesser_half .nil pass0 (pa_cons (pv 0) (pa_cons (pv 1) pa_nil))))
      (pss_one (ps_ret (pe_tup (pa_cons (pv 2) (pa_cons (pe_call G_turned_at_both (hr.mono (by decide)) (by rfl) g_turned_at_both F_turned_at_both.kp b_turned_at_both .nil pass0 (pa_cons (pv 0) (pa_cons (pv 2) pa_nil))) pa_nil))))))), ?_⟩
    refine q_when (et_or (et_not (et_B (ev_call (ea_cons (ev_var rfl) ea_nil) (z := .bl true) fun Hx ex Qx qx Ee => ⟨_, rfl, qx⟩))) fun _ => et_not (et_test (ev_chain ev_c (ev_var rfl) rv_I0 (fun _ => ev_call (ea_cons (ev_var rfl) ea_nil) (z := .int (many r)) fun Hx ex Qx qx Ee => ⟨r, rfl, hl.1, qx⟩) fun _ => rv_I0))) (fun hb H1 e1 => ?_) (fun hb H1 e1 => ?_)
    · exfalso
      have c1 : decide ((0 : Int) ≤ (n : Int)) = true := decide_eq_true (Int.natCast_nonneg n)
      have c2 : decide ((n : Int) < (many r : Int)) = true := decide_eq_true (Int.ofNat_lt.mpr hl.2)
      rw [c1, c2] at hb
      cases hb
    · refine q_asg (ev_call (ea_cons (ev_var rfl) (ea_cons (ev_var rfl) ea_nil)) (z := .str (tx (lesser r n))) fun Hx ex Qx qx Ee => ⟨r, n, rfl, hl.1, qx⟩) fun H2 e2 => ?_
      exact s_retU (eu_tup (ea_cons (ev_var rfl) (ea_cons (ev_call (ea_cons (ev_var rfl) (ea_cons (ev_var rfl) ea_nil)) (z := .str (tx (turned r (lesser r n)))) fun Hx ex Qx qx Ee => ⟨r, lesser r n, rfl, ⟨lesser_len r n, hl.1⟩, qx⟩) ea_nil)) (by show 2 ≤ 100000; decide)) fun p H3 hp e3 h3 => q p H3 (fresh_back (e1.trans e2) hp) ((e1.trans e2).trans e3) h3
def sp_partings_of (K : PySem.W.Frag) (ts : List Addr) : Sp := fun vs H Q _ => ∃ r : List Nat, vs = [.str (tx r)] ∧ (r.length ≤ 1000 ∧ many r ≤ 1000) ∧ ∀ p H2 vs2, H p = none → Ex H H2 → H2 p = some (.lst vs2) → Prs K H2 vs2 ((List.range (many r)).map (part r)) → Q (.ref p) H2
theorem ok_partings_of {ts : List Addr} (D : Df K mg "partings_of" st_partings_of ["row"]) (m_range : mg "range" = none) (A_many_partings : At P w K mg base "many_partings" st_many_partings 1 ["row"] (sp_many_partings K ts)) (A_parting_at : At P w K mg base "parting_at" st_parting_at 2 ["row", "number"] (sp_parting_at K ts)) : At P w K mg base "partings_of" st_partings_of 3 ["row"] (sp_partings_of K ts) := by
  obtain ⟨f, fd, F, b, g⟩ := D
  obtain ⟨f_many_partings, fd_many_partings, F_many_partings, b_many_partings, g_many_partings, G_many_partings⟩ := A_many_partings
  obtain ⟨f_parting_at, fd_parting_at, F_parting_at, b_parting_at, g_parting_at, G_parting_at⟩ := A_parting_at
  refine ⟨f, fd, F, b, g, F.ok sc_partings_of (fun vs H Q E h => ?_) (fun cdv A outer s H vs Q E hr h => ?_)⟩
  · obtain ⟨r, rfl, _⟩ := h
    rfl
  · obtain ⟨r, rfl, hl, q⟩ := h
    refine ⟨_, (pss_one (ps_ret (pe_lc (own := [("number", 1)]) (g := gName 1) (by rfl) sc_partings_of.nd (pi_range1 (by rfl) m_range (pa_cons (pe_call G_many_partings (hr.mono (by decide)) (by rfl) g_many_partings F_many_partings.kp b_many_partings .nil pass0 (pa_cons (pv 0) pa_nil)) pa_nil)) (blkOk_by (N := ["row", "number"]) (sc := defScope st_partings_of) (by decide +kernel)) (fun _ _ _ _ _ => (pg_name (i := 1) sc_partings_of.nd rfl (.inl rfl))) (fun _ _ _ _ _ => pts_nil) (fun _ _ _ _ _ => (pe_call G_parting_at (hr.mono (by decide)) (by rfl) g_parting_at F_parting_at.kp b_parting_at .nil pass0 (pa_cons (pv 0) (pa_cons (pv 1) pa_nil))))))), ?_⟩
    refine ⟨_, rfl, ⟨r, rfl, hl.1, fun H1 e1 => ⟨_, rfl, by omega, by omega, fun D hD => ?_⟩⟩⟩
    rw [Int.toNat_natCast]
    refine lc_range (lo := 0) (n := many r) (fun i H' => Ex H H' ∧ ∃ vs2, H' D = some (.lst vs2) ∧ Prs K H' vs2 ((List.range i).map (part r))) ⟨e1.trans (Ex.new hD), [], upd_same, .nil⟩ (fun i H2 hi hP => ?_) (fun H2 hP => ?_)
    · obtain ⟨e2, vs2, h2, hp2⟩ := hP
      have hlen := paired_len hp2
      rw [List.length_map, List.length_range] at hlen
      have e0 : (0 : Int) + (i : Int) = (i : Int) := Int.zero_add _
      refine ⟨rfl, tyes ⟨_, rfl, _, rfl, r, i, by rw [e0]; rfl, ⟨hl.1, hi⟩, fun p H3 hp e3 h3 => ⟨vs2, e3 _ _ h2, sz_lt (by omega), (e2.trans e3).mut (fresh_back e1 hD), vs2 ++ [.ref p], upd_same, ?_⟩⟩⟩
      rw [List.range_succ, List.map_append]
      exact Prs.upd (e3 _ _ h2) (paired_app (hp2.ex e3) (.cons ⟨p, rfl, h3⟩ .nil))
    · obtain ⟨e2, vs2, h2, hp2⟩ := hP
      exact q D H2 vs2 (fresh_back e1 hD) e2 h2 hp2
def sp__law_any_row (K : PySem.W.Frag) (ts : List Addr) : Sp := fun vs H Q _ => ∃ (a : Addr) (xs : List Int) (n : Nat), vs = [.ref a, .int (n : Nat)] ∧ SqL K H a (xs.map V.int) ∧ (n ≤ xs.length ∧ n ≤ 1000) ∧ ∀ l : List Nat, l.length = n → (∀ c ∈ l, c = 110 ∨ c = 98 ∨ c = 121) → RetV (.str (tx l)) H Q
theorem ok__law_any_row {ts : List Addr} (D : Df K mg "_law_any_row" st__law_any_row ["_law_xs", "_law_places"]) (m_range : mg "range" = none) : At P w K mg base "_law_any_row" st__law_any_row 1 ["_law_xs", "_law_places"] (sp__law_any_row K ts) := by
  obtain ⟨f, fd, F, b, g⟩ := D
  refine ⟨f, fd, F, b, g, F.ok sc__law_any_row (fun vs H Q E h => ?_) (fun cdv A outer s H vs Q E hr h => ?_)⟩
  · obtain ⟨a, xs, n, rfl, _⟩ := h
    rfl
  · obtain ⟨a, xs, n, rfl, hS, hn, q⟩ := h
    refine ⟨_, (pss_one (ps_ret (pe_join pe_str (pe_lc (own := [("_law_k", 2)]) (g := gName 2) (by rfl) sc__law_any_row.nd (pi_range1 (by rfl) m_range (pa_cons (pv 1) pa_nil)) (blkOk_by (N := ["_law_xs", "_law_places", "_law_k"]) (sc := defScope st__law_any_row) (by decide +kernel)) (fun _ _ _ _ _ => (pg_name (i := 2) sc__law_any_row.nd rfl (.inl rfl))) (fun _ _ _ _ _ => pts_nil) (fun _ _ _ _ _ => (pe_ix ix_str pe_str (pe_op op_mod (pe_ix (show IxR _ (rIxL K) from ix_list) (pv 0) (pv 2) (fun _ _ => rfl)) pe_int) (fun _ _ => rfl))))))), ?_⟩
    refine ⟨⟨_, rfl⟩, ?_⟩
    have hcd : ∀ x : Int, atI ("nbybn" : Str).cps.toList (x % 5) = some ([110, 98, 121, 98, 110].getD (x % 5).toNat 110) := fun x => by
      have h0 := Int.emod_nonneg x (show (5 : Int) ≠ 0 by decide)
      have h1 := Int.emod_lt_of_pos x (show (0 : Int) < 5 by decide)
      generalize x % 5 = y at h0 h1
      have : y = 0 ∨ y = 1 ∨ y = 2 ∨ y = 3 ∨ y = 4 := by omega
      rcases this with h | h | h | h | h <;> subst h <;> rfl
    have hcm : ∀ x : Int, ([110, 98, 121, 98, 110].getD (x % 5).toNat 110 = 110 ∨ [110, 98, 121, 98, 110].getD (x % 5).toNat 110 = 98 ∨ [110, 98, 121, 98, 110].getD (x % 5).toNat 110 = 121) := fun x => by
      have h0 := Int.emod_nonneg x (show (5 : Int) ≠ 0 by decide)
      have h1 := Int.emod_lt_of_pos x (show (0 : Int) < 5 by decide)
      generalize x % 5 = y at h0 h1
      have : y = 0 ∨ y = 1 ∨ y = 2 ∨ y = 3 ∨ y = 4 := by omega
      rcases this with h | h | h | h | h <;> subst h <;> decide
    refine (el_lcR1 (fun _ => true) (fun i => V.str (sg1 ([110, 98, 121, 98, 110].getD (xs.getD i 0 % 5).toNat 110))) (ea_cons (ev_var rfl) ea_nil) ⟨by omega, by omega⟩ (fun _ => rfl) (fun i H1 e1 hi => et_yes) (fun i H1 e1 hi _ => ?_)) H (Ex.refl _) _ fun p H2 hp e2 h2 => ?_
    · have hi' : i < xs.length := by omega
      refine ev_op ev_c (ev_op (ev_op (ev_var rfl) (ev_var rfl) (rv_ixL (ex_l e1 hS) (v := .int (xs.getD i 0)) ?_)) ev_c (rv_I (by show (0 : Int) < 5; decide))) (rv_ixS (by decide) (hcd _))
      refine atI_nat ?_
      rw [List.getElem?_map, List.getD_eq_getElem?_getD, List.getElem?_eq_getElem hi']
      rfl
    · rw [Int.toNat_natCast, given_true] at h2
      have e : (List.range n).map (fun i => V.str (sg1 ([110, 98, 121, 98, 110].getD (xs.getD i 0 % 5).toNat 110))) = vs1 ((List.range n).map fun i => [110, 98, 121, 98, 110].getD (xs.getD i 0 % 5).toNat 110) := by
        show _ = List.map _ _
        rw [List.map_map]
        rfl
      rw [e] at h2
      refine r_join (sq_of h2) (by rw [List.length_map, List.length_range]; omega) (q _ (by rw [List.length_map, List.length_range]) (fun c hc => ?_) H2 e2)
      obtain ⟨i, _, rfl⟩ := List.mem_map.mp hc
      exact hcm _
def sp__law_drawn_rows (K : PySem.W.Frag) (ts : List Addr) : Sp := fun vs H Q _ => ∃ (a : Addr) (ns : List Int) (n : Int), vs = [.ref a, .int n] ∧ SqL K H a (ns.map V.int) ∧ (0 ≤ n ∧ n ≤ 100) ∧ ∀ rs : List (List Nat), rs.length ≤ 900 → (∀ r ∈ rs, RowL r) → RetL (rs.map fun r => .str (tx r)) H Q
theorem ok__law_drawn_rows {ts : List Addr} (D : Df K mg "_law_drawn_rows" st__law_drawn_rows ["_law_script", "_law_amount"]) (m_range : mg "range" = none) (A__law_numbers : At P w K mg base "_law_numbers" st__law_numbers 1 ["_law_cell_here", "_law_many"] (sp__law_numbers K ts)) (A__law_cell : At P w K mg base "_law_cell" st__law_cell 1 ["_law_script", "_law_k"] (sp__law_cell K ts)) (A__law_any_row : At P w K mg base "_law_any_row" st__law_any_row 1 ["_law_xs", "_law_places"] (sp__law_any_row K ts)) : At P w K mg base "_law_drawn_rows" st__law_drawn_rows 2 ["_law_script", "_law_amount"] (sp__law_drawn_rows K ts) := by
  obtain ⟨f, fd, F, b, g⟩ := D
  obtain ⟨f__law_numbers, fd__law_numbers, F__law_numbers, b__law_numbers, g__law_numbers, G__law_numbers⟩ := A__law_numbers
  obtain ⟨f__law_cell, fd__law_cell, F__law_cell, b__law_cell, g__law_cell, G__law_cell⟩ := A__law_cell
  obtain ⟨f__law_any_row, fd__law_any_row, F__law_any_row, b__law_any_row, g__law_any_row, G__law_any_row⟩ := A__law_any_row
  refine ⟨f, fd, F, b, g, F.ok sc__law_drawn_rows (fun vs H Q E h => ?_) (fun cdv A outer s H vs Q E hr h => ?_)⟩
  · obtain ⟨a, ns, n, rfl, _⟩ := h
    rfl
  · obtain ⟨a, ns, n, rfl, hS, hn, q⟩ := h
    refine ⟨_, (pss_cons (ps_set (i := 2) sc__law_drawn_rows.nd rfl (.inl rfl) (pe_lst (pa_cons pe_str (pa_cons pe_str (pa_cons pe_str (pa_cons pe_str pa_nil))))))
      (pss_cons (ps_for PassesOwn.never rfl (pi_range1 (by rfl) m_range (pa_cons (pv 1) pa_nil)) (pg_name (i := 3) sc__law_drawn_rows.nd rfl (.inl rfl))
      (pss_cons (ps_set (i := 4) sc__law_drawn_rows.nd rfl (.inl rfl) (pe_call G__law_numbers (hr.mono (by decide)) (by rfl) g__law_numbers F__law_numbers.kp b__law_numbers .nil pass0 (pa_cons (pe_call G__law_cell (hr.mono (by decide)) (by rfl) g__law_cell F__law_cell.kp b__law_cell .nil pass0 (pa_cons (pv 0) (pa_cons (pv 3) pa_nil))) (pa_cons pe_int pa_nil))))
      (pss_cons (ps_expr (pe_bm PySem.F.plainAttrs_list PySem.F.slot_list_append PySem.F.type_list_append mt_append (pv 2) (pa_cons (pe_call G__law_any_row (hr.mono (by decide)) (by rfl) g__law_any_row F__law_any_row.kp b__law_any_row .nil pass0 (pa_cons (pv 4) (pa_cons (pe_op op_add pe_int (pe_op op_mod (pe_ix ix_list (pv 4) pe_int (fun _ _ => rfl)) pe_int)) pa_nil))) pa_nil)))
      (pss_one (ps_if (pt_cmpR op_eq (pe_op op_mod (pe_ix ix_list (pv 4) pe_int (fun _ _ => rfl)) pe_int) pe_int (nomark _))
      (pss_one (ps_expr (pe_bm PySem.F.plainAttrs_list PySem.F.slot_list_append PySem.F.type_list_append mt_append (pv 2) (pa_cons (pe_op Hid.op_mul_str pe_str (pe_op op_add pe_int (pe_op op_mod (pe_ix ix_list (pv 4) pe_int (fun _ _ => rfl)) pe_int))) pa_nil))))
      pss_nil)))))
      (pss_one (ps_ret (pv 2))))), ?_⟩
    refine q_asgL (el_lst (ea_cons ev_c (ea_cons ev_c (ea_cons ev_c (ea_cons ev_c ea_nil)))) (by decide)) fun l H1 hl0 e1 h1 => ?_
    refine q_forR1 (ea_cons (ev_var rfl) ea_nil) ⟨hn.1, by omega⟩ (fun i σ' H' => ∃ (rs : List (List Nat)) (y3 y4 : Option V), σ' = [some (.ref a), some (.int n), some (.ref l), y3, y4] ∧ Ex H H' ∧ (∀ r ∈ rs, RowL r) ∧ rs.length ≤ 4 + 2 * i ∧ H' l = some (.lst (rs.map fun r => .str (tx r)))) (fun H2 e2 => ⟨[[98], [110], [98, 98, 98, 98, 98, 98, 98, 98], [110, 121, 110, 121, 110, 121, 110, 121]], _, _, rfl, e1.trans e2, ?_, by decide, e2 _ _ h1⟩) (fun i σ' H2 hi hP => ?_) (fun σ' H2 hP => ?_)
    · intro r hr
      have : r = [98] ∨ r = [110] ∨ r = [98, 98, 98, 98, 98, 98, 98, 98] ∨ r = [110, 121, 110, 121, 110, 121, 110, 121] := by simpa using hr
      rcases this with h | h | h | h <;> subst h <;> exact ⟨by decide, by decide⟩
    · obtain ⟨rs, y3, y4, rfl, e2, hr2, hlen, h2⟩ := hP
      refine ⟨_, rfl, _, rfl, a, ns, i, rfl, ex_l e2 hS, by omega, fun c H3 e3 => ?_⟩
      refine ⟨c, 11, rfl, by decide, fun xs hxl hxp p H4 hp e4 h4 => ?_⟩
      have hx : xs.length = 11 := by omega
      have hix : ∀ (j : Nat), j < 11 → ∀ G, Ex H4 G → ∃ v : Int, 0 ≤ v ∧ atI (xs.map V.int) (j : Int) = some (.int v) := fun j hj G _ => ⟨xs[j], hxp _ (List.getElem_mem _), atI_nat (by rw [List.getElem?_map, List.getElem?_eq_getElem (by omega)]; rfl)⟩
      obtain ⟨v8, p8, a8⟩ := hix 8 (by decide) H4 (Ex.refl _)
      obtain ⟨v9, p9, a9⟩ := hix 9 (by decide) H4 (Ex.refl _)
      obtain ⟨v10, p10, a10⟩ := hix 10 (by decide) H4 (Ex.refl _)
      replace a8 : atI (xs.map V.int) 8 = some (.int v8) := a8
      replace a9 : atI (xs.map V.int) 9 = some (.int v9) := a9
      replace a10 : atI (xs.map V.int) 10 = some (.int v10) := a10
      have e24 : Ex H H4 := (e2.trans e3).trans e4
      have h4l : H4 l = some (.lst (rs.map fun r => .str (tx r))) := e4 _ _ (e3 _ _ h2)
      have hnat : (1 : Int) + v8 % 8 = ((1 + v8 % 8).toNat : Nat) := by
        have := Int.emod_nonneg v8 (show (8 : Int) ≠ 0 by decide)
        omega
      have hb8 : (1 + v8 % 8).toNat ≤ 8 ∧ 1 ≤ (1 + v8 % 8).toNat := by
        have := Int.emod_nonneg v8 (show (8 : Int) ≠ 0 by decide)
        have := Int.emod_lt_of_pos v8 (show (0 : Int) < 8 by decide)
        omega
      -- found.append(any_row(..))
      refine ⟨_, rfl, .inl ⟨rfl, _, sq_of h4l⟩, c_call1 (ea_cons (ev_var rfl) (ea_cons (ev_op ev_c (ev_op (ev_op (ev_var rfl) ev_c (rv_ixL (sq_of h4) a8)) ev_c (rv_I (by show (0 : Int) < 8; decide))) rv_I0) ea_nil)) fun G4 f4 => ⟨p, xs, (1 + v8 % 8).toNat, ?_, ex_l f4 (sq_of h4), ⟨by omega, by omega⟩, fun w hw hwc H5 e5' => ?_⟩⟩
      · show [V.ref p, V.int (1 + v8 % 8)] = _
        rw [hnat] <;> rfl
      · have e5 : Ex H4 H5 := f4.trans e5'
        have hrow : RowL w := ⟨by omega, hwc⟩
        refine ⟨l, _, _, rfl, rfl, e5 _ _ h4l, sz_lt (by rw [List.length_map]; omega), ?_⟩
        have h6 : ∀ r ∈ rs ++ [w], RowL r := fun r hr => by
          rcases List.mem_append.mp hr with h | h
          · exact hr2 r h
          · rw [List.mem_singleton.mp h]
            exact hrow
        have e6 : Ex H (upd H5 l (.lst (rs.map (fun r => V.str (tx r)) ++ [.str (tx w)]))) := (e24.trans e5).mut hl0
        have h6p : (upd H5 l (.lst (rs.map (fun r => V.str (tx r)) ++ [.str (tx w)]))) p = some (.lst (xs.map V.int)) := by
          rw [upd_ne]
          · exact e5 _ _ h4
          · intro z
            rw [z] at hp
            rw [e3 _ _ h2] at hp
            cases hp
        have h6l : (upd H5 l (.lst (rs.map (fun r => V.str (tx r)) ++ [.str (tx w)]))) l = some (.lst ((rs ++ [w]).map fun r => .str (tx r))) := by
          rw [upd_same, List.map_append] <;> rfl
        refine s_when (et_test (ev_op (ev_op (ev_op (ev_var rfl) ev_c (rv_ixL (sq_of h6p) a9)) ev_c (rv_I (by show (0 : Int) < 4; decide))) ev_c (rv_eq rfl))) (fun hb H7 e7 => ?_) (fun hb H7 e7 => ?_)
        · have hb10 : 0 ≤ 1 + v10 % 8 ∧ 1 + v10 % 8 ≤ 8 ∧ 1 ≤ 1 + v10 % 8 := by
            have := Int.emod_nonneg v10 (show (8 : Int) ≠ 0 by decide)
            have := Int.emod_lt_of_pos v10 (show (0 : Int) < 8 by decide)
            omega
          refine s_app (v := .str (tx (List.replicate (1 + v10 % 8).toNat 98))) (e7 _ _ h6l) (ev_var rfl) (ev_op ev_c (ev_op ev_c (ev_op (ev_op (ev_var rfl) ev_c (rv_ixL (ex_l e7 (sq_of h6p)) a10)) ev_c (rv_I (by show (0 : Int) < 8; decide))) rv_I0) (rv_val fun Hx ex Qx qx => ⟨_, _, rfl, rfl, hb10.1, by omega, by decide, ?_⟩)) (by rw [List.length_map]; simp; omega) fun H8 e8 => ?_
          · rw [mul_b _ hb10.2.2]
            exact qx
          · refine ⟨(rs ++ [w]) ++ [List.replicate (1 + v10 % 8).toNat 98], _, _, rfl, ((e6.trans e7).trans e8).mut hl0, fun r hr => ?_, by simp; omega, ?_⟩
            · rcases List.mem_append.mp hr with h | h
              · exact h6 r h
              · rw [List.mem_singleton.mp h]
                refine ⟨by rw [List.length_replicate]; omega, fun c hc => .inr (.inl (List.eq_of_mem_replicate hc))⟩
            · rw [upd_same, List.map_append (l₁ := rs ++ [w])] <;> rfl
        · exact ⟨rs ++ [w], _, _, rfl, e6.trans e7, h6, by simp; omega, e7 _ _ h6l⟩
    · obtain ⟨rs, y3, y4, rfl, e2, hr2, hlen, h2⟩ := hP
      exact s_ret (ev_var rfl) fun H3 e3 => q rs (by omega) hr2 l H3 hl0 (e2.trans e3) (e3 _ _ h2)
end
end Hid

namespace Hid
open PySem PySem.Spec PyProof.Rows L2 Evl
theorem many_small {r : List Nat} (h : RowL r) : many r ≤ 1000 := by
  unfold many
  have := List.count_le_length (a := 98) (l := r)
  have h1 := h.1
  exact Nat.le_trans (Nat.pow_le_pow_right (by decide) (show r.count 98 - 1 ≤ 8 by omega)) (by decide)
theorem les_small : ∀ (r : List Nat) (k : Nat), (∀ c ∈ r, c < 200) → ∀ c ∈ lesR r k, c < 200
  | [], _, _ => fun c hc => nomatch hc
  | d :: r, k, h => by
    intro c hc
    unfold lesR at hc
    split at hc
    · rcases List.mem_cons.mp hc with e | e
      · rcases sgn_or k with z | z <;> omega
      · exact les_small r _ (fun x hx => h x (List.mem_cons_of_mem _ hx)) c e
    · rcases List.mem_cons.mp hc with e | e
      · rw [e]; exact h d List.mem_cons_self
      · exact les_small r _ (fun x hx => h x (List.mem_cons_of_mem _ hx)) c e
theorem tw_small : ∀ (r h : List Nat), (∀ c ∈ h, c < 200) → ∀ c ∈ turned r h, c < 200
  | [], _, _ => fun c hc => by cases ‹List Nat› <;> cases hc
  | _ :: _, [], _ => fun c hc => nomatch hc
  | d :: r, x :: h, hh => by
    intro c hc
    rcases List.mem_cons.mp (show c ∈ tw d x :: turned r h from hc) with e | e
    · rw [e]
      have := hh x List.mem_cons_self
      unfold tw
      split
      · split <;> decide
      · exact this
    · exact tw_small r h (fun y hy => hh y (List.mem_cons_of_mem _ hy)) c e
theorem part_small {r : List Nat} (h : RowL r) (k : Nat) : (∀ c ∈ (part r k).1, c < 200) ∧ ∀ c ∈ (part r k).2, c < 200 := by
  have h1 : ∀ c ∈ lesser r k, c < 200 := fun c hc => by
    unfold lesser at hc
    refine les_small _ k (fun d hd => ?_) c (List.mem_reverse.mp hc)
    rcases h.2 d (List.mem_reverse.mp hd) with z | z | z <;> omega
  exact ⟨h1, tw_small r _ h1⟩
theorem shaped_1 {p : List Nat × List Nat} (hs : (∀ c ∈ p.1, c < 200) ∧ ∀ c ∈ p.2, c < 200) : SeqAt.shaped (dSS p) = true := by
  have ga := strOk_sm hs.1
  have gb := strOk_sm hs.2
  unfold SeqAt.shaped
  simp [dSS, PyData.canLay0, PyData.canLayAll0, PyData.depth, PyData.depthAll, ga, gb]
theorem eqv_ss (p q : List Nat × List Nat) : PyData.eqv (dSS p) (dSS q) = decide (p = q) := by
  by_cases h : p = q
  · subst h
    rw [PySem.W.eqv_refl_alike _ (by simp [dSS, PySem.W.alike, PySem.W.alikeAll]), decide_eq_true rfl]
  · rw [decide_eq_false h]
    have : ¬ (tx p.1 = tx q.1 ∧ tx p.2 = tx q.2) := fun ⟨a, b⟩ => h (Prod.ext (tx_inj a) (tx_inj b))
    simpa [dSS, PyData.eqv, PyData.eqvAll] using this
theorem eqv_part {r : List Nat} {k i : Nat} (hk : k < many r) (hi : i < many r) : PyData.eqv (dSS (part r k)) (dSS (part r i)) = decide (k = i) := by
  rw [eqv_ss]
  refine decide_eq_decide.mpr ⟨fun z => ?_, fun z => by rw [z]⟩
  rcases Nat.lt_trichotomy k i with h | h | h
  · exact absurd (congrArg Prod.fst z) (lt_ne ((part_good r).2.2 k i h hi))
  · exact h
  · exact absurd (congrArg Prod.fst z).symm (lt_ne ((part_good r).2.2 i k h hk))
section
variable {P : Program} {w : World} {K : PySem.W.Frag} {mg : Str → Option Value} {base : Heap}
def sp_is_tuple_of (K : PySem.W.Frag) (ts : List Addr) : Sp := fun vs H Q _ => ∃ (t : Addr) (a b : V), vs = [.ref t, .int 2] ∧ H t = some (.tup [a, b]) ∧ RetV (.bl true) H Q
theorem ok_is_tuple_of {ts : List Addr} (D : Df K mg "is_tuple_of" st_is_tuple_of ["thing", "many"]) (m_len : mg "len" = none) (m_isinstance : mg "isinstance" = none) (m_tuple : mg "tuple" = none) : At P w K mg base "is_tuple_of" st_is_tuple_of 1 ["thing", "many"] (sp_is_tuple_of K ts) := by
  obtain ⟨f, fd, F, b, g⟩ := D
  refine ⟨f, fd, F, b, g, F.ok sc_is_tuple_of (fun vs H Q E h => ?_) (fun cdv A outer s H vs Q E hr h => ?_)⟩
  · obtain ⟨t, a, b, rfl, _⟩ := h
    rfl
  · obtain ⟨t, a, b, rfl, ht, q⟩ := h
    refine ⟨_, (pss_one (ps_ret (pe_and (pe_callB call_isi (by rfl) m_isinstance (by decide +kernel) (pa_cons (pv 0) (pa_cons (pe_bltn (v := .ty "tuple") (by rfl) m_tuple (by decide +kernel) rfl) pa_nil))) (pe_one (pe_cmpR op_eq (pe_callB call_len_seq (by rfl) m_len (by decide +kernel) (pa_cons (pv 0) pa_nil)) (pv 1) (nomark _)))))), ?_⟩
    exact s_ret (ev_is (ev_andV (ev_isi (ev_var rfl) (fun H1 e => .base (.tup (e _ _ ht))) (b := true) (by decide +kernel)) fun _ => ev_op (ev_lenT (ev_var rfl) (st_of ht)) (ev_var rfl) (rv_eq rfl)) (congrArg V.bl (by rw [decide_eq_true (show V.int (([a, b] : List V).length : Int) = V.int 2 from rfl)]; rfl))) fun H1 e1 => q H1 e1
def sp_are_two_texts (K : PySem.W.Frag) (ts : List Addr) : Sp := fun vs H Q _ => ∃ (t : Addr) (a b : Str), vs = [.ref t] ∧ H t = some (.tup [.str a, .str b]) ∧ RetV (.bl true) H Q
theorem ok_are_two_texts {ts : List Addr} (D : Df K mg "are_two_texts" st_are_two_texts ["thing"]) (m_isinstance : mg "isinstance" = none) (m_str : mg "str" = none) (A_is_tuple_of : At P w K mg base "is_tuple_of" st_is_tuple_of 1 ["thing", "many"] (sp_is_tuple_of K ts)) : At P w K mg base "are_two_texts" st_are_two_texts 2 ["thing"] (sp_are_two_texts K ts) := by
  obtain ⟨f, fd, F, b, g⟩ := D
  obtain ⟨f_is_tuple_of, fd_is_tuple_of, F_is_tuple_of, b_is_tuple_of, g_is_tuple_of, G_is_tuple_of⟩ := A_is_tuple_of
  refine ⟨f, fd, F, b, g, F.ok sc_are_two_texts (fun vs H Q E h => ?_) (fun cdv A outer s H vs Q E hr h => ?_)⟩
  · obtain ⟨t, a, b, rfl, _⟩ := h
    rfl
  · obtain ⟨t, a, b, rfl, ht, q⟩ := h
    refine ⟨_, (pss_one (ps_ret (pe_and (pe_call G_is_tuple_of (hr.mono (by decide)) (by rfl) g_is_tuple_of F_is_tuple_of.kp b_is_tuple_of .nil pass0 (pa_cons (pv 0) (pa_cons pe_int pa_nil))) (pe_and (pe_callB call_isi (by rfl) m_isinstance (by decide +kernel) (pa_cons (pe_ix ix_tup (pv 0) pe_int (fun _ _ => rfl)) (pa_cons (pe_bltn (v := .ty "str") (by rfl) m_str (by decide +kernel) rfl) pa_nil))) (pe_one (pe_callB call_isi (by rfl) m_isinstance (by decide +kernel) (pa_cons (pe_ix ix_tup (pv 0) pe_int (fun _ _ => rfl)) (pa_cons (pe_bltn (v := .ty "str") (by rfl) m_str (by decide +kernel) rfl) pa_nil)))))))), ?_⟩
    exact s_ret (ev_is (ev_andV (ev_call (ea_cons (ev_var rfl) (ea_cons ev_c ea_nil)) (z := .bl true) fun G g Q1 q1 E1 => ⟨t, _, _, rfl, g _ _ ht, q1⟩) fun _ => ev_andV (ev_isi (ev_op (ev_var rfl) ev_c (rv_ixT (st_of ht) (atI_nat (j := 0) rfl))) (fun _ _ => .base (.str _)) (b := true) (by decide +kernel)) fun _ => ev_isi (ev_op (ev_var rfl) ev_c (rv_ixT (st_of ht) (atI_nat (j := 1) rfl))) (fun _ _ => .base (.str _)) (b := true) (by decide +kernel)) rfl) fun H1 e1 => q H1 e1
def sp_number_of (K : PySem.W.Frag) (ts : List Addr) : Sp := fun vs H Q _ => ∃ (r : List Nat) (t : Addr) (k : Nat), vs = [.str (tx r), .ref t] ∧ RowL r ∧ k < many r ∧ H t = some (.tup (pT (part r k))) ∧ RetV (.int (k : Nat)) H Q
theorem ok_number_of {ts : List Addr} (D : Df K mg "number_of" st_number_of ["row", "parting"]) (m_enumerate : mg "enumerate" = none) (A_are_two_texts : At P w K mg base "are_two_texts" st_are_two_texts 2 ["thing"] (sp_are_two_texts K ts)) (A_partings_of : At P w K mg base "partings_of" st_partings_of 3 ["row"] (sp_partings_of K ts)) : At P w K mg base "number_of" st_number_of 4 ["row", "parting"] (sp_number_of K ts) := by
  obtain ⟨f, fd, F, b, g⟩ := D
  obtain ⟨f_are_two_texts, fd_are_two_texts, F_are_two_texts, b_are_two_texts, g_are_two_texts, G_are_two_texts⟩ := A_are_two_texts
  obtain ⟨f_partings_of, fd_partings_of, F_partings_of, b_partings_of, g_partings_of, G_partings_of⟩ := A_partings_of
  refine ⟨f, fd, F, b, g, F.ok sc_number_of (fun vs H Q E h => ?_) (fun cdv A outer s H vs Q E hr h => ?_)⟩
  · obtain ⟨r, t, k, rfl, _⟩ := h
    rfl
  · obtain ⟨r, t, k, rfl, hr0, hk, ht, q⟩ := h
    refine ⟨_, (pss_cons (ps_if (pt_val (pe_call G_are_two_texts (hr.mono (by decide)) (by rfl) g_are_two_texts F_are_two_texts.kp b_are_two_texts .nil pass0 (pa_cons (pv 1) pa_nil)))
      (pss_one (ps_for PassesOwn.never rfl (pi_enum (by rfl) m_enumerate (pa_cons (pe_call G_partings_of (hr.mono (by decide)) (by rfl) g_partings_of F_partings_of.kp b_partings_of .nil pass0 (pa_cons (pv 0) pa_nil)) pa_nil)) (pg_tup (by rfl) (pgs_cons (pg_name (i := 2) sc_number_of.nd rfl (.inl rfl)) (pgs_cons (pg_name (i := 3) sc_number_of.nd rfl (.inl rfl)) pgs_nil)))
      (pss_one (ps_if (pt_cmpR (op_eqD hr.units) (pv 1) (pv 3) (nomark _))
      (pss_one (ps_ret (pv 2)))
      pss_nil))))
      pss_nil)
      (pss_one ps_never)), ?_⟩
    have hm := many_small hr0
    have hrl := hr0.1
    refine q_when (b := true) (et_B (ev_call (ea_cons (ev_var rfl) ea_nil) (z := .bl true) fun G g Q1 q1 E1 => ⟨t, _, _, rfl, g _ _ ht, q1⟩)) (fun hb H1 e1 => ?_) (fun hb H1 e1 => absurd hb (by decide))
    unfold tFor iEnum
    refine c_call1 (ea_cons (ev_var rfl) ea_nil) fun H2 e2 => ⟨r, rfl, ⟨by omega, hm⟩, fun p H3 vs2 hp e3 h3 hp3 => ⟨p, vs2, rfl, sq_of h3, ?_⟩⟩
    have hl2 : vs2.length = many r := by rw [paired_len hp3, List.length_map, List.length_range]
    have e13 : Ex H H3 := e1.trans (e2.trans e3)
    refine for_it walk_enum (fun i σ' H' => ∃ y2 y3 : Option V, σ' = [some (.str (tx r)), some (.ref t), y2, y3] ∧ Ex H3 H' ∧ i ≤ k) ⟨_, _, rfl, Ex.refl _, Nat.zero_le _⟩ (fun i σ' H' _ hP => sq_of (hP.choose_spec.choose_spec.2.1 _ _ h3)) (fun i x σ' G G' hi hP hY => ?_) (fun σ' G hP => ?_)
    · obtain ⟨y2, y3, rfl, g, hik⟩ := hP
      obtain ⟨T, x1, y1, rfl, hT, rfl, hx1, hy1⟩ := hY
      cases hx1
      obtain ⟨p', hp', hpt⟩ := paired_get hp3 i y1 hy1
      rw [List.getElem?_map, List.getElem?_range (by omega)] at hp'
      cases hp'
      have hpt' := hpt.ex (g.trans (Ex.new (o := .tup [.int (i : Nat), y1]) hT))
      have ht' := (e13.trans (g.trans (Ex.new (o := .tup [.int (i : Nat), y1]) hT))) _ _ ht
      refine ⟨T, [.int (i : Nat), y1], rfl, st_of upd_same, rfl, _, _, rfl, _, _, rfl, rfl, ?_⟩
      refine s_when (et_is (et_test (ev_op (ev_var rfl) (ev_var rfl) (fun G1 g1 Q1 q1 => ⟨dSS (part r k), dSS (part r i), PrT.dp (p := part r k) ⟨t, rfl, g1 _ _ ht'⟩, (hpt'.ex g1).dp, shaped_1 (part_small hr0 k), shaped_1 (part_small hr0 i), q1 G1 (Ex.refl _)⟩))) (eqv_part (i := i) hk (by omega))) (fun hb G1 g1 => ?_) (fun hb G1 g1 => ?_)
      · obtain rfl : k = i := of_decide_eq_true hb
        exact s_ret (ev_var rfl) fun G2 g2 => q G2 (e13.trans (g.trans ((Ex.new hT).trans (g1.trans g2))))
      · have hne : ¬ k = i := of_decide_eq_false hb
        exact ⟨_, _, rfl, g.trans ((Ex.new hT).trans g1), by omega⟩
    · obtain ⟨y2, y3, rfl, g, hik⟩ := hP
      omega
end
end Hid

namespace Hid
open PySem PySem.Spec PyProof.Rows L2 Evl
/-! families: what a thing is, as far as it is looked at -/
def NotU (K : PySem.W.Frag) (H : Hp) (v : V) : Prop := ∃ t, kitB t "tuple" = some false ∧ ∀ H1, Ex H H1 → TyX K H1 v (.type t)
section
variable {K : PySem.W.Frag} {H H' : Hp} {v : V}
theorem NotU.ex (h : NotU K H v) (e : Ex H H') : NotU K H' v := let ⟨t, a, b⟩ := h; ⟨t, a, fun H1 e1 => b H1 (e.trans e1)⟩
theorem nu_non : NotU K H .non := ⟨"NoneType", by decide +kernel, fun _ _ => .base .non⟩
theorem nu_str (x : Str) : NotU K H (.str x) := ⟨"str", by decide +kernel, fun _ _ => .base (.str x)⟩
theorem nu_lst {a : Addr} {xs : List V} (h : H a = some (.lst xs)) : NotU K H (.ref a) := ⟨"list", by decide +kernel, fun _ e => .base (.lst (e _ _ h))⟩
theorem nu_dict {a : Addr} {xs : List (Key × V)} (h : H a = some (.dK xs)) : NotU K H (.ref a) := ⟨"dict", by decide +kernel, fun _ e => .base (.dK (e _ _ h))⟩
end
abbrev nby : List Nat := [110, 98, 121]
def rowO (o : Option (List Nat)) (n : Nat) : Bool := wr o nby && (match o with | none => false | some z => decide (z.length = n))
inductive Fm where
  | non
  | len (n : Nat)
  | three (x y : Option (List Nat)) (z : Option (List (Option (List Nat))))
def YgOk (K : PySem.W.Frag) (H : Hp) (v : V) : Option (List (Option (List Nat))) → Prop
  | none => NotU K H v
  | some os => ∃ b vs, v = .ref b ∧ H b = some (.tup vs) ∧ Paired (Th K H) vs os
def FmOk (K : PySem.W.Frag) (H : Hp) (v : V) : Fm → Prop
  | .non => NotU K H v
  | .len n => n ≠ 3 ∧ ∃ a xs, v = .ref a ∧ H a = some (.tup xs) ∧ xs.length = n
  | .three ox oy oz => ∃ a x y z, v = .ref a ∧ H a = some (.tup [x, y, z]) ∧ Th K H x ox ∧ Th K H y oy ∧ YgOk K H z oz
def famB : Fm → Bool
  | .three (some z) oy (some os) => wr (some z) nby && (rowO oy z.length && (decide (1 ≤ os.length ∧ os.length ≤ 3) && os.all fun o => rowO o z.length))
  | _ => false
section
variable {K : PySem.W.Frag} {H H' : Hp} {v : V}
theorem YgOk.ex : ∀ {o : Option (List (Option (List Nat)))}, YgOk K H v o → Ex H H' → YgOk K H' v o
  | none, h, e => NotU.ex h e
  | some os, h, e => let ⟨b, vs, a, c, d⟩ := h; ⟨b, vs, a, e _ _ c, paired_mono (fun _ _ q => q.ex e) d⟩
theorem FmOk.ex : ∀ {f : Fm}, FmOk K H v f → Ex H H' → FmOk K H' v f
  | .non, h, e => NotU.ex h e
  | .len n, h, e => let ⟨h0, a, xs, h1, h2, h3⟩ := h; ⟨h0, a, xs, h1, e _ _ h2, h3⟩
  | .three ox oy oz, h, e => let ⟨a, x, y, z, h1, h2, h3, h4, h5⟩ := h; ⟨a, x, y, z, h1, e _ _ h2, h3.ex e, h4.ex e, h5.ex e⟩
end
theorem rowO_none (n : Nat) : rowO none n = false := rfl
theorem rowO_len {z : List Nat} {n : Nat} (h : z.length ≠ n) : rowO (some z) n = false := by
  unfold rowO
  show (_ && decide (z.length = n)) = false
  rw [decide_eq_false h, Bool.and_false]
theorem rowO_wr {o : Option (List Nat)} {n : Nat} (h : wr o nby = false) : rowO o n = false := by unfold rowO; rw [h, Bool.false_and]
theorem rowO_row {r : List Nat} (h : RowL r) : rowO (some r) r.length = true := by
  unfold rowO
  rw [row_wr h]
  show (true && decide (r.length = r.length)) = true
  rw [decide_eq_true rfl]
  rfl
theorem bad_x {ox oy : Option (List Nat)} {oz : Option (List (Option (List Nat)))} (h : wr ox nby = false) : famB (.three ox oy oz) = false := by
  cases ox with
  | none => rfl
  | some z =>
    cases oz with
    | none => rfl
    | some os =>
      show (wr (some z) nby && _) = false
      rw [h, Bool.false_and]
theorem bad_y {z : List Nat} {oy : Option (List Nat)} {oz : Option (List (Option (List Nat)))} (h : rowO oy z.length = false) : famB (.three (some z) oy oz) = false := by
  cases oz with
  | none => rfl
  | some os =>
    show (_ && (rowO oy z.length && _)) = false
    rw [h, Bool.false_and, Bool.and_false]
theorem bad_z {ox oy : Option (List Nat)} : famB (.three ox oy none) = false := by cases ox <;> rfl
theorem bad_l {ox oy : Option (List Nat)} {os : List (Option (List Nat))} (h : ¬ (1 ≤ os.length ∧ os.length ≤ 3)) : famB (.three ox oy (some os)) = false := by
  cases ox with
  | none => rfl
  | some z =>
    show (_ && (_ && (decide (1 ≤ os.length ∧ os.length ≤ 3) && _))) = false
    rw [decide_eq_false h, Bool.false_and, Bool.and_false, Bool.and_false]
theorem bad_o {z : List Nat} {oy o : Option (List Nat)} {os : List (Option (List Nat))} (ho : o ∈ os) (h : rowO o z.length = false) : famB (.three (some z) oy (some os)) = false := by
  show (_ && (_ && (_ && os.all fun o => rowO o z.length))) = false
  have : (os.all fun o => rowO o z.length) = false := by
    rw [Bool.eq_false_iff]
    intro hall
    have := List.all_eq_true.mp hall o ho
    rw [h] at this
    cases this
  rw [this, Bool.and_false, Bool.and_false, Bool.and_false]
theorem fam_good {r1 r2 : List Nat} {ys : List (List Nat)} (h1 : RowL r1) (h2 : RowL r2) (hl : r2.length = r1.length) (hn : 1 ≤ ys.length ∧ ys.length ≤ 3) (hy : ∀ y ∈ ys, RowL y ∧ y.length = r1.length) : famB (.three (some r1) (some r2) (some (ys.map some))) = true := by
  show (wr (some r1) nby && (rowO (some r2) r1.length && (decide (1 ≤ (ys.map some).length ∧ (ys.map some).length ≤ 3) && (ys.map some).all fun o => rowO o r1.length))) = true
  have h3 := rowO_row h2
  rw [hl] at h3
  have h4 : ((ys.map some).all fun o => rowO o r1.length) = true := List.all_eq_true.mpr fun o ho => by
    obtain ⟨y, hm, rfl⟩ := List.mem_map.mp ho
    obtain ⟨a, b⟩ := hy y hm
    rw [← b]
    exact rowO_row a
  rw [row_wr h1, h3, h4, List.length_map, decide_eq_true hn]
  rfl
/-! what is no family -/
def Bad (K : PySem.W.Frag) (v : V) (H : Hp) : Prop := ∃ f, FmOk K H v f ∧ famB f = false
theorem Bad.ex {K : PySem.W.Frag} {H H' : Hp} {v : V} (h : Bad K v H) (e : Ex H H') : Bad K v H' := let ⟨f, a, b⟩ := h; ⟨f, a.ex e, b⟩
def Bads (K : PySem.W.Frag) (n : Nat) (vs : List V) (H : Hp) : Prop := vs.length = n ∧ ∀ v ∈ vs, Bad K v H
theorem Bads.ex {K : PySem.W.Frag} {H H' : Hp} {n : Nat} {vs : List V} (h : Bads K n vs H) (e : Ex H H') : Bads K n vs H' := ⟨h.1, fun v hv => (h.2 v hv).ex e⟩
theorem Bads.app {K : PySem.W.Frag} {H : Hp} {m n : Nat} {vs ws : List V} (h : Bads K m vs H) (h' : Bads K n ws H) : Bads K (m + n) (vs ++ ws) H := ⟨by rw [List.length_append, h.1, h'.1], fun v hv => by
  rcases List.mem_append.mp hv with z | z
  · exact h.2 v z
  · exact h'.2 v z⟩
section
variable {K : PySem.W.Frag} {σ : L2.St} {H H' : Hp} {ta tb tc te : TE} {ts : TA} {D : Ends} {tz : TS}
abbrev EvX (K : PySem.W.Frag) (te : TE) (σ : L2.St) (H : Hp) (o : Option (List Nat)) : Prop := EvP te σ H fun v H => Th K H v o
abbrev EvY (K : PySem.W.Frag) (te : TE) (σ : L2.St) (H : Hp) (o : Option (List (Option (List Nat)))) : Prop := EvP te σ H fun v H => YgOk K H v o
theorem ep_ev {v : V} {P : V → Hp → Prop} (h : Ev te σ H v) (hp : ∀ H1, Ex H H1 → P v H1) : EvP te σ H P := fun H1 e Q q => h H1 e _ fun H2 e2 => q _ H2 e2 (hp H2 (e.trans e2))
theorem ep_mono {P : V → Hp → Prop} (h : EvP te σ H P) (e : Ex H H') : EvP te σ H' P := fun H1 e1 Q q => h H1 (e.trans e1) Q q
theorem ex_ev {v : V} {o : Option (List Nat)} (h : Ev te σ H v) (hp : Th K H v o) : EvX K te σ H o := ep_ev h fun _ e => hp.ex e
theorem ey_ev {v : V} {o : Option (List (Option (List Nat)))} (h : Ev te σ H v) (hp : YgOk K H v o) : EvY K te σ H o := ep_ev h fun _ e => hp.ex e
theorem bad3 {ox oy : Option (List Nat)} {oz : Option (List (Option (List Nat)))} (h1 : EvX K ta σ H ox) (h2 : EvX K tb σ H oy) (h3 : EvY K tc σ H oz) (hb : famB (.three ox oy oz) = false) : EvP (tTup (tCons ta (tCons tb (tCons tc tNil)))) σ H (Bad K) := fun H1 e Q q =>
  h1 H1 e _ fun x H2 e2 hx => h2 H2 (e.trans e2) _ fun y H3 e3 hy => h3 H3 ((e.trans e2).trans e3) _ fun z H4 e4 hz => ⟨by show 3 ≤ sizeLine; decide, fun p hp => q _ _ ((e2.trans (e3.trans e4)).trans (Ex.new hp)) ⟨.three ox oy oz, ⟨p, x, y, z, rfl, upd_same, hx.ex ((e3.trans e4).trans (Ex.new hp)), hy.ex (e4.trans (Ex.new hp)), hz.ex (Ex.new hp)⟩, hb⟩⟩
/-- so many of any kind -/
def Any (n : Nat) (vs : List V) (_ : Hp) : Prop := vs.length = n
theorem an_nil : EvPs tNil σ H (Any 0) := fun H1 _ Q q => q [] H1 (Ex.refl _) rfl
theorem an_cons {P : V → Hp → Prop} {n : Nat} (h : EvP ta σ H P) (hr : EvPs ts σ H (Any n)) : EvPs (tCons ta ts) σ H (Any (n + 1)) := fun H1 e Q q =>
  h H1 e _ fun v H2 e2 _ => hr H2 (e.trans e2) _ fun vs H3 e3 hv => q _ H3 (e2.trans e3) (congrArg Nat.succ hv)
theorem badN {n : Nat} (h : EvPs ts σ H (Any n)) (hn : n ≠ 3) (hl : n ≤ 100000) : EvP (tTup ts) σ H (Bad K) := fun H1 e Q q =>
  h H1 e _ fun vs H2 e2 hv => ⟨sz_of (by have : vs.length = n := hv; omega), fun p hp => q _ _ (e2.trans (Ex.new hp)) ⟨.len n, ⟨hn, p, vs, rfl, upd_same, hv⟩, rfl⟩⟩
theorem badL {n : Nat} (h : EvPs ts σ H (Any n)) (hl : n ≤ 100000) : EvP (tLst ts) σ H (Bad K) := fun H1 e Q q =>
  h H1 e _ fun vs H2 e2 hv => ⟨sz_of (by have : vs.length = n := hv; omega), fun p hp => q _ _ (e2.trans (Ex.new hp)) ⟨.non, nu_lst upd_same, rfl⟩⟩
theorem yg0 : EvY K (tTup tNil) σ H (some []) := fun H1 e Q q => ⟨by show 0 ≤ sizeLine; decide, fun p hp => q _ _ (Ex.new hp) ⟨p, [], rfl, upd_same, .nil⟩⟩
theorem yg1 {o : Option (List Nat)} (h : EvX K ta σ H o) : EvY K (tTup (tCons ta tNil)) σ H (some [o]) := fun H1 e Q q =>
  h H1 e _ fun x H2 e2 hx => ⟨by show 1 ≤ sizeLine; decide, fun p hp => q _ _ (e2.trans (Ex.new hp)) ⟨p, [x], rfl, upd_same, .cons (hx.ex (Ex.new hp)) .nil⟩⟩
theorem yg4 {o : Option (List Nat)} (h : EvX K ta σ H o) : EvY K (tOp (rRepT K) (tTup (tCons ta tNil)) (tC (.int 4))) σ H (some [o, o, o, o]) := fun H1 e Q q =>
  h H1 e _ fun x H2 e2 hx => ⟨by show 1 ≤ sizeLine; decide, fun p hp => ⟨p, 4, [x], rfl, rfl, st_of upd_same, by simp, by decide, by decide, by show 1 ≤ 1000; decide, fun p2 hp2 => by
    have e3 := Ex.new (o := .tup [x]) hp
    have e4 := Ex.new (o := .tup (List.replicate (4 : Int).toNat [x]).flatten) hp2
    have hx' := hx.ex (e3.trans e4)
    exact q _ _ (e2.trans (e3.trans e4)) ⟨p2, [x, x, x, x], rfl, upd_same, .cons hx' (.cons hx' (.cons hx' (.cons hx' .nil)))⟩⟩⟩
theorem ygA {a : Addr} {vs : List V} {os : List (Option (List Nat))} {o : Option (List Nat)} (ha : Ev ta σ H (.ref a)) (hs : H a = some (.tup vs)) (hp : Paired (Th K H) vs os) (h0 : vs ≠ []) (hl : vs.length ≤ 1000) (h : EvX K tb σ H o) :
    EvY K (tOp (rCatA K) ta (tTup (tCons tb tNil))) σ H (some (os ++ [o])) := fun H1 e Q q =>
  ha H1 e _ fun H2 e2 => h H2 (e.trans e2) _ fun x H3 e3 hx => ⟨by show 1 ≤ sizeLine; decide, fun p np => by
    have e4 := Ex.new (o := .tup [x]) np
    have e14 : Ex H (upd H3 p (.tup [x])) := e.trans (e2.trans (e3.trans e4))
    refine ⟨a, p, vs, [x], rfl, rfl, st_of (e14 _ _ hs), st_of upd_same, sz_of (by show vs.length + 1 ≤ 100000; omega), fun z => absurd z h0, fun _ z => by simp at z, fun _ _ p2 np2 => ?_⟩
    have e5 := Ex.new (o := .tup (vs ++ [x])) np2
    exact q _ _ ((e2.trans (e3.trans e4)).trans e5) ⟨p2, vs ++ [x], rfl, upd_same, paired_app (paired_mono (fun _ _ z => z.ex (e14.trans e5)) hp) (.cons (hx.ex (e4.trans e5)) .nil)⟩⟩
theorem bps_nil : EvPs tNil σ H (Bads K 0) := fun H1 _ Q q => q [] H1 (Ex.refl _) ⟨rfl, fun _ z => nomatch z⟩
theorem bps_cons {n : Nat} (h : EvP ta σ H (Bad K)) (hr : EvPs ts σ H (Bads K n)) : EvPs (tCons ta ts) σ H (Bads K (n + 1)) := fun H1 e Q q =>
  h H1 e _ fun v H2 e2 hv => hr H2 (e.trans e2) _ fun vs H3 e3 hvs => q _ H3 (e2.trans e3) ⟨congrArg Nat.succ hvs.1, fun x hx => by
    rcases List.mem_cons.mp hx with z | z
    · rw [z]; exact hv.ex e3
    · exact hvs.2 x z⟩
theorem q_asgBs {i n : Nat} (h : EvPs ts σ H (Bads K n)) (hn : n ≤ 1000) (k : ∀ p vs H1, H1 p = none → Ex H H1 → Bads K n vs H1 → tz D (σ.set i (some (.ref p))) (upd H1 p (.lst vs))) : tSeq (tAsg (tLst ts) (gName i)) tz D σ H :=
  h H (Ex.refl _) _ fun vs H1 e1 hv => ⟨sz_of (by have := hv.1; omega), fun p hp => k p vs H1 hp e1 hv⟩
theorem q_asgCt {i j n m : Nat} {l : Addr} {xs : List V} (hx : σ[j]? = some (some (.ref l))) (hl : H l = some (.lst xs)) (hb : Bads K m xs H) (h : EvPs ts σ H (Bads K n)) (hn : m + n ≤ 1000) (k : ∀ p vs H1, H1 p = none → Ex H H1 → Bads K (m + n) vs H1 → tz D (σ.set i (some (.ref p))) (upd H1 p (.lst vs))) :
    tSeq (tAsg (tOp rCat (tVar j) (tLst ts)) (gName i)) tz D σ H :=
  ⟨_, hx, h H (Ex.refl _) _ fun vs H1 e1 hv => ⟨sz_of (by have := hv.1; omega), fun p np => by
    have e2 := Ex.new (o := .lst vs) np
    refine ⟨l, p, xs, vs, rfl, rfl, e2 _ _ (e1 _ _ hl), upd_same, sz_of (by rw [hb.1, hv.1]; omega), fun r hr => k r _ _ hr (e1.trans e2) ((hb.ex (e1.trans e2)).app (hv.ex e2))⟩⟩⟩
end
/-- a family as it stands -/
structure FamAt (H : Hp) (t b : Addr) (n : Nat) (r1 r2 : List Nat) (ys : List (List Nat)) : Prop where
  ht : H t = some (.tup [.str (tx r1), .str (tx r2), .ref b])
  hb : H b = some (.tup (ys.map fun y => .str (tx y)))
  h1 : RowL r1
  h2 : RowL r2
  l1 : r1.length = n
  l2 : r2.length = n
  hn : 1 ≤ ys.length ∧ ys.length ≤ 3
  hy : ∀ y ∈ ys, RowL y ∧ y.length = n
theorem FamAt.ex {H H' : Hp} {t b : Addr} {n : Nat} {r1 r2 : List Nat} {ys : List (List Nat)} (h : FamAt H t b n r1 r2 ys) (e : Ex H H') : FamAt H' t b n r1 r2 ys := { h with ht := e _ _ h.ht, hb := e _ _ h.hb }
theorem rows_th {K : PySem.W.Frag} {H : Hp} : ∀ {ys : List (List Nat)}, (∀ y ∈ ys, y.length ≤ 1000) → Paired (Th K H) (ys.map fun y => V.str (tx y)) (ys.map some)
  | [], _ => .nil
  | y :: ys, h => .cons (th_str y (h y List.mem_cons_self)) (rows_th fun z hz => h z (List.mem_cons_of_mem _ hz))
theorem FamAt.fm {K : PySem.W.Frag} {H : Hp} {t b : Addr} {n : Nat} {r1 r2 : List Nat} {ys : List (List Nat)} (h : FamAt H t b n r1 r2 ys) : FmOk K H (.ref t) (.three (some r1) (some r2) (some (ys.map some))) :=
  ⟨t, _, _, _, rfl, h.ht, th_str r1 (by have := h.h1.1; omega), th_str r2 (by have := h.h2.1; omega), b, _, rfl, h.hb, rows_th fun y hy => by have := (h.hy y hy).1.1; omega⟩
theorem FamAt.good {H : Hp} {t b : Addr} {n : Nat} {r1 r2 : List Nat} {ys : List (List Nat)} (h : FamAt H t b n r1 r2 ys) : famB (.three (some r1) (some r2) (some (ys.map some))) = true :=
  fam_good h.h1 h.h2 (by rw [h.l1, h.l2]) h.hn fun y hy => ⟨(h.hy y hy).1, by rw [(h.hy y hy).2, h.l1]⟩
end Hid

namespace Hid
open PySem PySem.Spec PyProof.Rows L2 Evl
/-! books as the laws draw them -/
theorem tx_sn (a : List Nat) (c : Nat) : tx a ++ (⟨#[c]⟩ : Str) = tx (a ++ [c]) := by
  show (⟨a.toArray ++ #[c]⟩ : Str) = ⟨(a ++ [c]).toArray⟩
  simp
theorem tx_app (a b : List Nat) : tx a ++ tx b = tx (a ++ b) := by
  show (⟨a.toArray ++ b.toArray⟩ : Str) = ⟨(a ++ b).toArray⟩
  simp
theorem tx_len (a : List Nat) : (tx a).length = a.length := by simp [tx, Str.length]
theorem tx_sz (a : List Nat) : (tx a).cps.size = a.length := by simp [tx]
theorem tx_toList (a : List Nat) : (tx a).cps.toList = a := by simp [tx]
theorem cutS_take (z : List Nat) (k : Nat) (h : k ≤ z.length) : cutS (tx z) none (some (k : Int)) = tx (z.take k) := by
  unfold cutS
  rw [HT.sIx_nat, tx_len, Nat.min_eq_left h]
  show (⟨((tx z).cps.toList.drop 0 |>.take (k - 0)).toArray⟩ : Str) = _
  simp [tx]
theorem cutS_drop (z : List Nat) (k : Nat) : cutS (tx z) (some (k : Int)) none = tx (z.drop k) := by
  unfold cutS
  rw [HT.sIx_nat, tx_len]
  show (⟨((tx z).cps.toList.drop (min k z.length) |>.take (z.length - min k z.length)).toArray⟩ : Str) = _
  rw [tx_toList]
  by_cases h : k ≤ z.length
  · rw [Nat.min_eq_left h, List.take_of_length_le (by rw [List.length_drop]; exact Nat.le_refl _)] <;> rfl
  · rw [Nat.min_eq_right (by omega), Nat.sub_self, List.drop_eq_nil_of_le (by omega : z.length ≤ k)] <;> rfl
theorem cut_drop {xs : List V} (n : Nat) : cutV xs (some (n : Int)) none = xs.drop n := by
  unfold cutV
  rw [HT.sIx_nat]
  show List.take (xs.length - min n xs.length) (List.drop (min n xs.length) xs) = _
  by_cases h : n ≤ xs.length
  · rw [Nat.min_eq_left h, List.take_of_length_le (by rw [List.length_drop]; exact Nat.le_refl _)]
  · rw [Nat.min_eq_right (by omega), Nat.sub_self, List.drop_eq_nil_of_le (by omega : xs.length ≤ n)] <;> rfl
theorem mul_c (c : Nat) (n : Int) (h : 1 ≤ n) : Txt.mul (sg1 c) n = tx (List.replicate n.toNat c) := by
  unfold Txt.mul
  rw [if_neg (by omega)]
  by_cases h1 : n = 1
  · subst h1
    rfl
  · have hc : (n == 1 || (sg1 c).length == 0) = false := by
      have : (n == 1) = false := by simpa using h1
      rw [this]
      rfl
    rw [hc, if_neg Bool.false_ne_true]
    have : ∀ (k : Nat) (acc : Array Nat), (List.replicate k (sg1 c).cps).foldl (· ++ ·) acc = acc ++ (List.replicate k c).toArray := by
      intro k
      induction k with
      | zero => intro acc; simp
      | succ k ih =>
        intro acc
        rw [List.replicate_succ, List.foldl_cons, ih, List.replicate_succ]
        have : (sg1 c).cps = #[c] := rfl
        rw [this]
        exact Array.toList_inj.mp (by simp)
    rw [this]
    simp [tx]
abbrev rJoin (K : PySem.W.Frag) : V → List V → Hp → VK → Prop := fun x xs H Q => ∃ a p, ∃ ys : List Str, x = .str a ∧ xs = [.ref p] ∧ (SqL K H p (ys.map V.str) ∨ SqT K H p (ys.map V.str)) ∧ (ys.map (·.length)).sum + ys.length * a.length ≤ 16777216 ∧ Q (.str (Txt.join a ys)) H
theorem ev_join {K : PySem.W.Frag} {te : TE} {σ : L2.St} {H : Hp} {l : List Nat} (h : EvL te σ H (vs1 l)) (hl : l.length ≤ 1000000) : Ev (tM1 (rJoin K) (tC (.str (tx []))) te) σ H (.str (tx l)) := fun H1 e Q q =>
  ⟨⟨_, rfl⟩, h H1 e _ fun p H2 hp e2 h2 => r_join (K := K) (Q := Q) (sq_of h2) hl (q H2 e2)⟩
theorem erase_map {α β : Type} (f : α → β) : ∀ (l : List α) (k : Nat), (l.eraseIdx k).map f = (l.map f).eraseIdx k
  | [], _ => rfl
  | _ :: _, 0 => rfl
  | x :: l, k + 1 => by
    show f x :: (l.eraseIdx k).map f = f x :: (l.map f).eraseIdx k
    rw [erase_map f l k]
/-! names -/
def nSuf (b : Nat) : List Nat := [[], [98], [98, 97], [97, 98, 99, 100, 101, 102, 103]].getD b []
def nPre (b : Nat) : List Nat := [[], [100], [100, 100], [99, 99, 99, 99, 99, 99, 99]].getD b []
def nLet (a k : Nat) : Nat := 97 + (k + a) % 10
def nameOf (a b c k : Nat) : List Nat := if c = 1 then List.replicate (1 + k % 8) (97 + k / 8) else if c = 2 then nPre b ++ [nLet a k] else nLet a k :: nSuf b
def NameL (z : List Nat) : Prop := (1 ≤ z.length ∧ z.length ≤ 8) ∧ ∀ c ∈ z, 97 ≤ c ∧ c ≤ 122
instance (z : List Nat) : Decidable (NameL z) := by unfold NameL; infer_instance
theorem names_ok : ∀ a < 10, ∀ b < 4, ∀ c < 3, ((List.range 10).map (nameOf a b c)).Nodup ∧ ∀ k < 10, NameL (nameOf a b c k) := by decide +kernel
/-! lists of ints, of pairs, against [] -/
theorem ints_dp {K : PySem.W.Frag} {H : Hp} : ∀ ns : List Int, DpAll K H (ns.map V.int) (ns.map PyData.int)
  | [] => .nil
  | n :: ns => .cons (.int n) (ints_dp ns)
theorem shaped_ints (ns : List Int) : SeqAt.shaped (.list (ns.map PyData.int)) = true := by
  have h1 : ∀ ns : List Int, PyData.canLayAll0 (ns.map PyData.int) = true := by
    intro ns
    induction ns with
    | nil => rfl
    | cons n ns ih => show (PyData.canLay0 (.int n) && PyData.canLayAll0 (ns.map PyData.int)) = true; rw [ih]; rfl
  have h2 : ∀ ns : List Int, PyData.depthAll (ns.map PyData.int) ≤ 2 := by
    intro ns
    induction ns with
    | nil => exact Nat.zero_le _
    | cons n ns ih =>
      show max (PyData.depth (.int n)) (PyData.depthAll (ns.map PyData.int)) ≤ 2
      have : PyData.depth (.int n) ≤ 2 := by simp [PyData.depth]
      omega
  unfold SeqAt.shaped
  rw [Bool.and_eq_true]
  refine ⟨h1 ns, decide_eq_true ?_⟩
  have := h2 ns
  simp only [PyData.depth]
  omega
theorem shaped_prs (ps : List (List Nat × List Nat)) (hs : ∀ p ∈ ps, (∀ c ∈ p.1, c < 200) ∧ ∀ c ∈ p.2, c < 200) : SeqAt.shaped (.list (ps.map dSS)) = true ∧ SeqAt.shaped (.tuple (ps.map dSS)) = true := by
  have h1 : ∀ ps : List (List Nat × List Nat), (∀ p ∈ ps, (∀ c ∈ p.1, c < 200) ∧ ∀ c ∈ p.2, c < 200) → PyData.canLayAll0 (ps.map dSS) = true := by
    intro ps
    induction ps with
    | nil => intro _; rfl
    | cons p ps ih =>
      intro hh
      have hp := hh p List.mem_cons_self
      show (PyData.canLay0 (dSS p) && PyData.canLayAll0 (ps.map dSS)) = true
      rw [ih fun q hq => hh q (List.mem_cons_of_mem _ hq)]
      simp [dSS, PyData.canLay0, PyData.canLayAll0, strOk_sm hp.1, strOk_sm hp.2]
  have h2 : ∀ ps : List (List Nat × List Nat), PyData.depthAll (ps.map dSS) ≤ 4 := by
    intro ps
    induction ps with
    | nil => exact Nat.zero_le _
    | cons p ps ih =>
      show max (PyData.depth (dSS p)) (PyData.depthAll (ps.map dSS)) ≤ 4
      have : PyData.depth (dSS p) ≤ 4 := by simp [dSS, PyData.depth, PyData.depthAll]
      omega
  have a := h1 ps hs
  have b := h2 ps
  unfold SeqAt.shaped
  simp [PyData.canLay0, PyData.depth, a]
  omega
theorem eqv_nil (ds : List PyData) : PyData.eqv (.list ds) (.list []) = decide (ds = []) := by
  cases ds with
  | nil => rfl
  | cons d ds =>
    rw [decide_eq_false (by simp)]
    simp [PyData.eqv, PyData.eqvAll]
theorem shaped_nil : SeqAt.shaped (.list []) = true := by decide
section
variable {K : PySem.W.Frag} {σ : L2.St} {H : Hp} {ta tb : TE}
theorem ev_neN {l : Addr} {vs : List V} {ds : List PyData} (ha : Ev ta σ H (.ref l)) (hl : H l = some (.lst vs)) (hd : DpAll K H vs ds) (hs : SeqAt.shaped (.list ds) = true) (hmono : ∀ H1, Ex H H1 → DpAll K H1 vs ds) : Ev (tOp (rNeD K) ta (tLst tNil)) σ H (.bl (!decide (ds = []))) := fun H1 e Q q =>
  ha H1 e _ fun H2 e2 => ⟨by show 0 ≤ sizeLine; decide, fun p np => ⟨.list ds, .list [], .lst (sq_of ((Ex.new np) _ _ (e2 _ _ (e _ _ hl)))) (hmono _ (e.trans (e2.trans (Ex.new np)))), .lst (sq_of upd_same) .nil, hs, shaped_nil, by rw [eqv_nil]; exact q _ (e2.trans (Ex.new np))⟩⟩
theorem ev_eqN {l : Addr} {vs : List V} {ds : List PyData} (ha : Ev ta σ H (.ref l)) (hl : H l = some (.lst vs)) (hs : SeqAt.shaped (.list ds) = true) (hmono : ∀ H1, Ex H H1 → DpAll K H1 vs ds) : Ev (tOp (rEqD K) ta (tLst tNil)) σ H (.bl (decide (ds = []))) := fun H1 e Q q =>
  ha H1 e _ fun H2 e2 => ⟨by show 0 ≤ sizeLine; decide, fun p np => ⟨.list ds, .list [], .lst (sq_of ((Ex.new np) _ _ (e2 _ _ (e _ _ hl)))) (hmono _ (e.trans (e2.trans (Ex.new np)))), .lst (sq_of upd_same) .nil, hs, shaped_nil, by rw [eqv_nil]; exact q _ (e2.trans (Ex.new np))⟩⟩
end
/-! a book as it stands -/
structure BookOk (n : Nat) (rs : List (List Nat × List Nat)) : Prop where
  hn : 1 ≤ n ∧ n ≤ 8
  hl : rs.length ≤ 10
  hr : ∀ p ∈ rs, RowL p.2 ∧ p.2.length = n
  hm : ∀ p ∈ rs, NameL p.1
  hd : (rs.map (·.1)).Nodup
def BookAt (K : PySem.W.Frag) (H : Hp) (v : V) (n : Nat) (rs : List (List Nat × List Nat)) : Prop := ∃ t b vs, v = .ref t ∧ H t = some (.tup [.int (n : Nat), .ref b]) ∧ H b = some (.tup vs) ∧ Prs K H vs rs
theorem BookAt.ex {K : PySem.W.Frag} {H H' : Hp} {v : V} {n : Nat} {rs : List (List Nat × List Nat)} (h : BookAt K H v n rs) (e : Ex H H') : BookAt K H' v n rs := let ⟨t, b, vs, a, c, d, f⟩ := h; ⟨t, b, vs, a, e _ _ c, e _ _ d, f.ex e⟩
theorem BookOk.small {n : Nat} {rs : List (List Nat × List Nat)} (h : BookOk n rs) : ∀ p ∈ rs, (∀ c ∈ p.1, c < 200) ∧ ∀ c ∈ p.2, c < 200 := fun p hp => ⟨fun c hc => by have := (h.hm p hp).2 c hc; omega, fun c hc => by rcases (h.hr p hp).1.2 c hc with z | z | z <;> omega⟩
theorem tup_lst {H : Hp} {t l : Addr} {xs ys : List V} (ht : H t = some (.tup xs)) (hl : H l = some (.lst ys)) : t ≠ l := fun z => by rw [z, hl] at ht; cases ht
end Hid

namespace Hid
open PySem PySem.Spec PyProof.Rows L2
section
variable {prog : Program} {w : World} {A : Around} {E : Value → Shared → Prop} {s : Shared}
theorem tSetOfL {l : Addr} {items : Array Value} {xs : List Str} {Q : Value → Shared → Prop} (hh : A.handled = none) (hl : s.heap.IsList l items) (hi : StrsAre items.toList xs) (hsm : xs.length < 4000)
    (h : ∀ (h' : Heap) (tk : Nat), SetT w h' s.heap.objs.size (putAll [] xs) → (∀ b o, b < s.heap.objs.size → s.heap.get? b = some o → h'.get? b = some o) → Q (.ref s.heap.objs.size) { s with heap := h', toks := tk }) :
    wpAny (model prog w) A (call (.type "set") [.ref l]) Q E s := by
  obtain ⟨c, tl, hmro⟩ := PySem.F.called_set.mro
  have hmade := PySem.F.called_set.made; have hsub := PySem.F.called_set.sub
  refine wpAny_call (codeAny_of_tree ?_)
  show wpAny _ _ (callAny (.type "set") _) _ _ _
  refine wpAny_pure ⟨Code.quiet_builtin _ (by decide +kernel), codeAny_builtin PySem.F.entry_type_call ?_⟩
  rw [Around.under_plain (weight_type_call_type "set" [.ref l] []) rfl]
  have h1 := PySem.F.called_set.notType; have h2 := PySem.F.called_set.canCreate; have hct := PySem.F.typeCall_set_1 (.ref l)
  repeat any_goals (first | assumption | wp_step)
  refine codeAny_mono (tSetNew (.ref l) (E := E) (Q₁ := fun obj s₁ => obj = .ref s.heap.objs.size ∧ s₁ = { s with heap := s.heap.push (newSet (!w.params.followText "set-order")) }) ⟨rfl, rfl⟩) fun r s₁ hr => ?_
  cases r with
  | error e => exact hr
  | ok fl =>
    cases fl with
    | next => exact hr.elim
    | brk => exact hr.elim
    | cont => exact hr.elim
    | ret obj =>
      obtain ⟨rfl, rfl⟩ := hr
      generalize hled : (!w.params.followText "set-order") = led
      have hlo : w.params.followText "set-order" = true ∨ led = true := by
        rw [← hled]
        cases w.params.followText "set-order" <;> simp
      have hS : (s.heap.push (newSet led)).get? s.heap.objs.size = some (newSet led) := Heap.get?_push_size _ rfl
      have hT : Shared.TypeIs { s with heap := s.heap.push (newSet led) } (.ref s.heap.objs.size) "set" := ⟨_, hS, rfl⟩
      have hli := PySem.F.called_set.init.lookup; have hbi := PySem.F.called_set.init.bind (.ref s.heap.objs.size)
      repeat any_goals (first | assumption | wp_step)
      refine codeAny_mono (codeAny_call_builtin (R := wants (fun r s₂ => r = .none ∧ ∃ h' tk, s₂ = { s with heap := h', toks := tk } ∧ SetT w h' s.heap.objs.size (putAll [] xs) ∧ (∀ b o, b < s.heap.objs.size → s.heap.get? b = some o → h'.get? b = some o)) E) PySem.F.called_set.init.plain PySem.F.entry_set_init (check_set_init_1 hT ?_)) fun r₂ s₂ hr₂ => ?_
      · obtain ⟨⟨ocls, odict, odata, oslots⟩, hol, hcl, nl, hdl⟩ := hl
        simp only at hcl hdl
        subst hcl; subst hdl
        have hol' : (s.heap.push (newSet led)).get? l = some { cls := .type "list", dict := odict, data := .seq items nl, slots := oslots } := Heap.get?_push_of_some _ hol
        have hsls := PySem.F.sub_list_set; have hslf := PySem.F.sub_list_frozenset
        have hne : (Value.type "list" == Value.type "dict") = false := by decide
        have hl1 : (s.heap.push (newSet led)).IsList l items := ⟨_, hol', rfl, nl, rfl⟩
        unfold Builtin.«set.__init__» noKeywords Builtin.Frozenset.updateFrom
        generalize hPI : pyIter = PI
        wp_walk
        subst hPI
        refine wpAny_pyIter_list hl1 (wpAny_bind (wpAny_runValue ?_))
        have hlS : l < s.heap.objs.size := Heap.lt_size hol
        have hh3 : A.in1.in1.in1.handled = none := by simp [hh]
        have hneI : l ≠ (s.heap.push (newSet led)).objs.size := by
          rw [Heap.size_push]
          exact Nat.ne_of_lt (Nat.lt_succ_of_lt hlS)
        have hSf : s.heap.objs.size ∉ [(s.heap.push (newSet led)).objs.size, l] := by
          rw [Heap.size_push]
          simp only [List.mem_cons, List.not_mem_nil, or_false, not_or]
          exact ⟨Nat.ne_of_lt (Nat.lt_succ_self _), Nat.ne_of_gt hlS⟩
        have hsz : xs.length = items.size := by rw [← StrsAre.len_eq hi, Array.length_toList]
        refine tFill ((Walks.list hh3 _ l hneI items).toS) s.heap.objs.size hSf xs hsz (by omega) (fun i v hv => SS.strs_at hi i v (by rw [Array.getElem?_toList]; exact hv)) (items.size - 0) 0 _ (by omega) (Nat.zero_le _)
          ⟨⟨_, Heap.get?_push_size _ rfl, rfl, rfl⟩, (hl1.push _)⟩ (newSet_ok hlo (Heap.get?_push_of_some _ hS)) fun s' hm hS' => ?_
        obtain ⟨h', g', d', tk', os'⟩ := s'
        obtain rfl : g' = s.gens := hm.gens
        obtain rfl : d' = s.drawn := hm.drawn
        obtain rfl : os' = s.os := hm.os
        show wpAny _ _ _ _ _ _
        refine wpAny_pure ?_
        show wpAny _ _ (ret Value.none) _ _ _
        refine wpAny_pure ⟨rfl, h', tk', rfl, hS', fun b o hb e => hm.heap b o ?_ (Heap.get?_push_of_some _ (Heap.get?_push_of_some _ e))⟩
        simp only [List.mem_cons, List.not_mem_nil, or_false, not_or]
        refine ⟨Nat.ne_of_lt hb, ?_⟩
        rw [Heap.size_push]
        exact Nat.ne_of_lt (Nat.lt_succ_of_lt hb)
      · cases r₂ with
        | error e => exact hr₂
        | ok fl₂ =>
          cases fl₂ with
          | next => exact hr₂.elim
          | brk => exact hr₂.elim
          | cont => exact hr₂.elim
          | ret r =>
            obtain ⟨rfl, h', tk, rfl, hS', hk'⟩ := hr₂
            repeat any_goals (first | assumption | wp_step)
            exact h _ _ hS' hk'
end
/-- sorted(set(e)), e a list of texts -/
def tSortSetL (K : PySem.W.Frag) (te : TE) : TE := fun σ H Q => te σ H fun v H1 => ∃ (a : Addr) (xs : List Str), v = .ref a ∧ SqL K H1 a (xs.map V.str) ∧ xs.length < 4000 ∧ ∀ (ys : List Str) (p : Addr), Rise ys → ys.length ≤ xs.length → (∀ x, x ∈ ys ↔ x ∈ xs) → H1 p = none → Q (.ref p) (upd H1 p (.lst (ys.map V.str)))
theorem pe_sortSetL {X : Cx} {e : Expr} {te : TE} {p p2 pos pos2 : Pos} (hc : X.calm = true) (hu : X.A.units + 64 < cLine) (hg : Gl X "sorted") (hm : X.mg "sorted" = none) (hg2 : Gl X "set") (hm2 : X.mg "set" = none) (he : PE X e te)
    (hs : starEach [e] X.env = (false, eval e X.env) :: starEach [] X.env := by rfl)
    (hs2 : starEach [.Call (.Name "set" p2) [e] [] pos2] X.env = (false, eval (.Call (.Name "set" p2) [e] [] pos2) X.env) :: starEach [] X.env := by rfl) :
    PE X (.Call (.Name "sorted" p) [.Call (.Name "set" p2) [e] [] pos2] [] pos) (tSortSetL X.K te) := by
  refine ⟨fun pins s σ H Q I h => ?_⟩
  refine wpAny_Call_Name_kw (ld_blt I hg hm (by decide +kernel : bootBuiltins "sorted" = some (.builtin "sorted")) ?_)
  refine callWith_builtin1 (args_cons (Call_ (ld_blt I hg2 hm2 (by decide +kernel : bootBuiltins "set" = some (.type "set")) (callWith_type1 (args_cons (thn (he.run pins s σ H _ I h) fun u s1 ⟨v, H1, I1, r1, q1⟩ => args_nil ?_) hs) hs rfl))) hs2) hs2 rfl
  obtain ⟨a, xs, ev, hq, hsm, q⟩ := q1
  subst ev
  obtain rfl : u = Value.ref a := r1
  obtain ⟨its, rv, p', hz⟩ := I1.list hq
  have hh := I1.ok.hd hc
  obtain ⟨o0, n0, e0, c0, _, d0⟩ := p'
  refine tSetOfL hh ⟨o0, e0, c0, n0, d0⟩ (by rw [List.toList_toArray]; exact strs_of_vals rv) hsm fun h' tk hS hk => args_nil ?_
  have I2 : Inv X pins σ H1 { s1 with heap := h', toks := tk } := I1.kept (t' := tk) fun b o e => hk b o (Heap.lt_size e) e
  refine tSorted (s := { s1 with heap := h', toks := tk }) hS hh hu fun s' p3 out c ys k g o hp hget hst hri hpm => ?_
  have hn : H1 p3 = none := I2.hok.fresh hp
  have hys : ys.length ≤ sizeLine := by
    have h1 := putAll_len xs []
    rw [hpm.length_eq, sizeLine_eq]
    rw [List.length_nil] at h1
    omega
  have J : Inv X pins σ (upd H1 p3 (.lst (ys.map V.str))) { ({ s1 with heap := h', toks := tk } : Shared) with heap := s'.heap, gens := s'.gens, drawn := s'.drawn, toks := s'.toks } :=
    I2.call (ch := []) (Un.laid k hp hn) (I2.hok.laid k hp ⟨by rw [List.length_map]; exact hys, out.toList, c, vals_of_strs hst, hget⟩) (by rw [g]; exact I2.bare) (fun _ z => nomatch z)
  have e : s' = { ({ s1 with heap := h', toks := tk } : Shared) with heap := s'.heap, gens := s'.gens, drawn := s'.drawn, toks := s'.toks } := by
    have o2 : s'.os = s1.os := o
    obtain ⟨x1, x2, x3, x4, x5⟩ := s'
    dsimp only at o2 ⊢
    rw [o2]
  rw [e]
  refine ⟨.ref p3, _, J, rfl, q ys p3 hri (by have h1 := putAll_len xs []; rw [List.length_nil] at h1; rw [hpm.length_eq]; omega) (fun x => ?_) hn⟩
  rw [hpm.mem_iff, putAll_mem]
  simp
end Hid

namespace Hid
open PySem PySem.Spec PyProof.Rows L2 Evl
/-! sorted of a tuple of whole numbers -/
section
variable {prog : Program} {w : World} {A : Around} {E : Value → Shared → Prop} {s : Shared}
theorem each_ints {R : Value → Int → Prop} (hR : ∀ v k, R v k → ∃ t, v = .int k t) : ∀ {out : List Value} {ks : List Int}, PySem.W.EachIs R out ks → Vals (ks.map V.int) out
  | _, _, .nil => .nil
  | _, _, .cons a t => .cons (hR _ _ a) (each_ints hR t)
theorem vals_ints : ∀ {ks : List Int} {us : List Value}, Vals (ks.map V.int) us → PySem.W.EachIs (fun v k => ∃ t, v = Value.int k t) us ks
  | [], _, .nil => .nil
  | _ :: _, _, .cons r rs => .cons r (vals_ints rs)
theorem sorted_tupI {l : Addr} {items : Array Value} {ks : List Int} {Q : Value → Shared → Prop} (ht : IsTup s.heap l items) (hi : Vals (ks.map V.int) items.toList) (hz : items.size ≤ 100000) (hu : A.units + 64 < cLine)
    (hQ : ∀ (h1 h' : Heap) (out : Array Value) (c : Nat), (∀ b o, s.heap.get? b = some o → h1.get? b = some o) → (∀ b o, h1.get? b = some o → h'.get? b = some o) → h'.get? h1.objs.size = some (seqObj "list" out c) → Vals ((ks.mergeSort fun a b => decide (a ≤ b)).map V.int) out.toList → Q (.ref h1.objs.size) { s with heap := h' }) :
    wpAny (model prog w) A (call (.builtin "sorted") [.ref l]) Q E s := by
  obtain ⟨o, ho, hc, n, hd⟩ := id ht
  refine Calls.call_function_entry kind_sorted plain_sorted entry_sorted (args_sorted1 _) ?_
  unfold Builtin.«sorted»
  have hsz : items.size ≤ sizeLine := Nat.le_trans hz (by decide)
  refine wpAny_bind (m := checkCount "sorted" 1 1 _) (wpAny_pure (wpAny_bind (wpAny_collect_seq (A := A.in1) l (.inr rfl) ho hc hd (fun h1 k1 => ?_) hsz)))
  have hlen : items.toList.length ≤ sizeLine := by rw [Array.length_toList]; exact hsz
  have ek := vals_ints hi
  have hkl : ks.length = items.toList.length := ek.length.symm
  refine wpAny_bind (wpAny_newList ?_ hlen)
  have hoL : (h1.push (seqObj "list" items.toList.toArray 0)).get? h1.objs.size = some (seqObj "list" items.toList.toArray 0) := Heap.get?_push_size _ rfl
  refine wpAny_bind (wpAny_holding ?_)
  refine PySem.W.list_sort_data (s := { s with heap := h1.push (seqObj "list" items.toList.toArray 0) }) (enc := fun k : Int => PyData.int k) hoL ek (each_mono2 (fun v k h => ?_) ek) ?_ ?_ (by rw [hkl]; exact hlen) (fun k _ => ?_) fun out hlo eo => ?_
  · obtain ⟨t, rfl⟩ := h
    exact ⟨[], .int k t, fun m => nomatch m⟩
  · exact PySem.W.AllAlike.of fun _ _ => by simp [PySem.W.alike]
  · exact PySem.W.Sortable.others fun _ => ⟨(fun z => nomatch z), (fun _ z => nomatch z)⟩
  · show A.in1.units + 1 + PyData.depth (.int k) < cLine
    have : PyData.depth (.int k) = 0 := by simp [PyData.depth]
    have h2 : A.in1.units = A.units + 1 := rfl
    omega
  · rw [PySem.W.dataLe_int (β := Int) (fun k => k)] at eo
    obtain ⟨c, hcc⟩ := sortedHeap_at (vs := items.toList) (out := out.toArray) hoL
    refine wpAny_pure ⟨_, rfl, hQ h1 _ out.toArray c k1 (fun b u q => ?_) hcc (by rw [List.toList_toArray]; exact each_ints (fun _ _ h => h) eo)⟩
    have hlt := Heap.lt_size q
    show (sortedHeap (h1.push (seqObj "list" items.toList.toArray 0)) h1.objs.size items.toList out.toArray).get? b = some u
    rw [sortedHeap_old (Nat.ne_of_lt hlt) (by rw [size_push']; exact Nat.lt_succ_of_lt hlt)]
    exact Heap.get?_push_of_some _ q
end
def rSortTI (K : PySem.W.Frag) : List V → Hp → VK → Prop := fun vs H Q => ∃ (a : Addr) (ks : List Int), vs = [.ref a] ∧ SqT K H a (ks.map V.int) ∧ ks.length ≤ 100000 ∧ ∀ p, H p = none → Q (.ref p) (upd H p (.lst ((ks.mergeSort fun a b => decide (a ≤ b)).map V.int)))
theorem cr_sortTI {X : Cx} (hu : X.A.units + 64 < cLine) : CallR X (.builtin "sorted") (rSortTI X.K) := by
  intro pins s σ H vs us Q I r h
  obtain ⟨a, ks, rfl, hs, hl, q⟩ := h
  obtain ⟨its, rv, ht, hz⟩ := I.tuple hs
  rw [Vals.ref1 r]
  refine sorted_tupI (ks := ks) ht (by rw [List.toList_toArray]; exact rv) (by rw [List.size_toArray, ← rv.length, List.length_map]; exact hl) hu fun h1 h' out c k1 k2 hget hst => ?_
  have I1 := I.kept (t' := s.toks) k1
  refine ⟨.ref h1.objs.size, _, I1.laid (t' := s.toks) (o := .lst ((ks.mergeSort fun a b => decide (a ≤ b)).map V.int)) k2 (Nat.le_refl _) ⟨?_, out.toList, c, hst, hget⟩, rfl, q _ (I1.hok.fresh (Nat.le_refl _))⟩
  rw [List.length_map, List.length_mergeSort]
  exact Nat.le_trans hl (by decide)
end Hid

namespace Hid
open PySem PySem.Spec PyProof.Rows L2
/-! sets of objects that are told by a key: how such an object is asked -/
structure KeyV (P : Program) (w : World) (κ : Type) [DecidableEq κ] where
  is : Heap → κ → Addr → Prop
  hs : κ → Int
  eq : ∀ {A : Around} {E : Value → Shared → Prop} {s : Shared} {kx ky : κ} {x y : Addr} {Q : Bool → Shared → Prop}, A.units < cLine → is s.heap kx x → is s.heap ky y → Q (decide (kx = ky)) s → wpAny (model P w) A (eqBool (.ref x) (.ref y)) Q E s
  seen : ∀ {A : Around} {E : Value → Shared → Prop} {s : Shared} {k : κ} {x : Addr} {ys : List Value} {Q : Bool → Shared → Prop}, is s.heap k x → (∀ y ∈ ys, ∃ k' c, y = Value.ref c ∧ is s.heap k' c) → Q false s → wpAny (model P w) A (searchCouldBeSeen (.ref x) ys) Q E s
  byv : ∀ {A : Around} {E : Value → Shared → Prop} {s : Shared} {k : κ} {x : Addr} {Q : Bool → Shared → Prop}, is s.heap k x → (∀ b, Q b s) → wpAny (model P w) A (hashByValue 8 (.ref x)) Q E s
  hash : ∀ {A : Around} {E : Value → Shared → Prop} {s : Shared} {k : κ} {x : Addr} {Q : Int → Shared → Prop}, A.units < cLine → is s.heap k x → (∀ n, s.toks ≤ n → Q (hs k) { s with toks := n }) → wpAny (model P w) A (pyHash (.ref x)) Q E s
  keep : ∀ {h h' : Heap} {k : κ} {x : Addr}, is h k x → (∀ o, h.get? x = some o → h'.get? x = some o) → is h' k x
  obj : ∀ {h : Heap} {k : κ} {x : Addr}, is h k x → ∃ o, h.get? x = some o ∧ ∀ es ep t, o.data ≠ .set es ep t
section
variable {P : Program} {w : World} {κ : Type} [DecidableEq κ] {V : KeyV P w κ}
def kRow (V : KeyV P w κ) (p : Addr × κ) : Int × Value := (V.hs p.2, .ref p.1)
/-- the set at a has just these, its table finds each -/
structure KSet (V : KeyV P w κ) (h : Heap) (a : Addr) (L : List (Addr × κ)) (es : Array (Int × Value)) (ep : Nat) (t : SetTable) : Prop where
  at_ : ∃ o, h.get? a = some o ∧ o.ExactSet ∧ o.data = .set es ep t
  row : es.toList = L.map (kRow V)
  tab : L2.TabOk t (L.map fun p => V.hs p.2)
  nd : (L.map Prod.snd).Nodup
  all : ∀ p ∈ L, V.is h p.2 p.1
  ld : w.params.followText "set-order" = true ∨ t.led = true
  free : L.length * 5 < t.mask * 3
  few : L.length < 64
variable {h : Heap} {a : Addr} {L : List (Addr × κ)} {es : Array (Int × Value)} {ep : Nat} {t : SetTable}
theorem row_len' (e : es.toList = L.map (kRow V)) : es.size = L.length := by
  have z := congrArg List.length e
  simpa using z
theorem row_at (e : es.toList = L.map (kRow V)) {i : Nat} {p : Addr × κ} (hp : L[i]? = some p) : es[i]? = some (kRow V p) := by
  rw [← Array.getElem?_toList, e, List.getElem?_map, hp]
  rfl
theorem fits_of {n : Nat} (d : t.dummies = #[]) (z : t.place.size = n) (f : n ≤ t.mask) : t.fits n = true := by
  unfold SetTable.fits SetTable.fill
  rw [d, Bool.and_eq_true]
  exact ⟨beq_iff_eq.mpr z, decide_eq_true (by show t.place.size + 0 ≤ t.mask; omega)⟩
theorem KSet.fit (R : KSet V h a L es ep t) : t.fits es.size = true := by
  have z := R.tab.sz
  rw [List.length_map] at z
  have f := R.free
  exact fits_of R.tab.dm (z.trans (row_len' R.row).symm) (by rw [row_len' R.row]; omega)
theorem KSet.stay {h' : Heap} (R : KSet V h a L es ep t) (k1 : ∀ o, h.get? a = some o → h'.get? a = some o) (k2 : ∀ p ∈ L, V.is h' p.2 p.1) : KSet V h' a L es ep t := by
  obtain ⟨⟨o, a1, a2, a3⟩, b, c, d, _, g, i, j⟩ := R
  exact ⟨⟨o, k1 o a1, a2, a3⟩, b, c, d, k2, g, i, j⟩
/-- a key's object is none of the sets -/
theorem key_but {h' : Heap} {o : Obj} {k : κ} {x : Addr} (hx : V.is h k x) (ho : h.get? a = some o) (hd : o.data = .set es ep t) (sb : Heap.SameBut a h h') : V.is h' k x := by
  obtain ⟨u, hu, nu⟩ := V.obj hx
  refine V.keep hx fun o' e => ?_
  have ne : x ≠ a := fun z => by
    rw [z, ho] at hu
    cases hu
    exact nu _ _ _ hd
  exact (sb.2 x ne).trans e
variable {A : Around} {E : Value → Shared → Prop} {s : Shared}
abbrev pb (t : SetTable) (z : Int) (c : Nat) : SetTable.Probe := nth t.mask (runAt t.mask (SetTable.bits z % (t.mask + 1)) (SetTable.bits z)) c
theorem pb_dummy (t : SetTable) (z : Int) (c : Nat) : (pb t z c).dummy = none := by
  have key : ∀ (c : Nat) (p : SetTable.Probe), p.dummy = none → (nth t.mask p c).dummy = none := by
    intro c
    induction c with
    | zero => exact fun p e => e
    | succ c ih =>
      intro p e
      refine ih _ ?_
      unfold adv
      split <;> exact e
  exact key c _ rfl
theorem pb_more (t : SetTable) (z : Int) (c q : Nat) : nth t.mask (pb t z c) q = pb t z (c + q) := (nth_add t.mask c _ q).symm
/-- the search for adding, from the c-th place of the way on -/
theorem k_search (R : KSet V s.heap a L es ep t) {x : Addr} {k : κ} (hx : V.is s.heap k x) (hu : A.units < cLine) {N : Nat} (hN : N < 10 * SetTable.turns t.mask) (n1 : way t.mask (V.hs k) N ∉ t.place.toList) (n2 : ∀ c, c < N → way t.mask (V.hs k) c ∈ t.place.toList)
    {Q : SetFound → Shared → Prop} (yes : k ∈ L.map Prod.snd → Q (.there none) s) (no : k ∉ L.map Prod.snd → Q (.free (way t.mask (V.hs k) N) false) s) : ∀ (f c : Nat) (st : Option SetTable.Probe), st.getD (t.probeStart (V.hs k)) = pb t (V.hs k) c → c ≤ N → N - c < f →
      (∀ (i : Nat) (p : Addr × κ), L[i]? = some p → p.2 = k → ∃ c', (c ≤ c' ∧ c' < N) ∧ t.place.toList[i]? = some (way t.mask (V.hs k) c')) → wpAny (model P w) A (setSearchFrom a (.ref x) (V.hs k) true f st) Q E s := by
  intro f
  induction f with
  | zero => intro c st _ _ hf; exact absurd hf (Nat.not_lt_zero _)
  | succ f ih =>
    intro c st hst hc hf hre
    obtain ⟨o, ho, hex, hd⟩ := R.at_
    have gw : ¬ t.gaveWay = true := by
      unfold SetTable.gaveWay
      rw [mask_odd R.tab.mok]
      exact Bool.false_ne_true
    rw [setSearchFrom_succ]
    refine wpAny_bind (wpAny_setState_of ho hd R.fit ?_)
    dsimp only
    refine wp_if_neg gw ?_
    try refine wpAny_bind (wpAny_pure ?_)
    have ej : ∀ q, (nth t.mask (pb t (V.hs k) c) q).j = way t.mask (V.hs k) (c + q) := fun q => congrArg SetTable.Probe.j (pb_more t _ c q)
    have hsh : ∀ (i : Nat) (p : Addr × κ), L[i]? = some p → (es[i]?.map (·.1)).getD 0 = V.hs p.2 := fun i p hp => by rw [row_at R.row hp]; rfl
    rcases go_spec t R.tab.ris R.tab.dm (fun i => (es[i]?.map (·.1)).getD 0) (V.hs k) (10 * SetTable.turns t.mask) (N - c) _ (pb_dummy t (V.hs k) c) (by omega) (fun q hq => by rw [ej]; exact n2 _ (by omega)) (by rw [ej, show c + (N - c) = N by omega]; exact n1) with ⟨q, i, hq, hi, _, hno, hpr⟩ | ⟨hno, hpr⟩
    · have hpr' : t.probe (fun i => (es[i]?.map (·.1)).getD 0) (V.hs k) (st.getD (t.probeStart (V.hs k))) = some (.candidate (way t.mask (V.hs k) (c + q)) i (pb t (V.hs k) (c + (q + 1)))) := by
        rw [hst, ← ej, ← pb_more]
        exact hpr
      rw [hpr']
      dsimp only
      rw [ej] at hi
      have hil : i < L.length := by
        have z1 := (List.getElem?_eq_some_iff.mp hi).1
        have z2 := R.tab.sz
        rw [List.length_map] at z2
        rw [Array.length_toList] at z1
        omega
      obtain ⟨p, hp⟩ : ∃ p, L[i]? = some p := ⟨_, List.getElem?_eq_getElem hil⟩
      have hm := List.mem_of_getElem? hp
      have go : wpAny (model P w) A (searchRest a (.ref x) (V.hs k) true f es t (way t.mask (V.hs k) (c + q)) i (pb t (V.hs k) (c + (q + 1)))) Q E s := by
        unfold searchRest
        rw [row_at R.row hp]
        refine wpAny_bind (wpAny_holding (V.eq hu (R.all p hm) hx (wpAny_bind (wpAny_setState_of ho hd R.fit ?_))))
        dsimp only
        by_cases hk : p.2 = k
        · refine wp_if_pos (by rw [decide_eq_true hk]; rfl) (wpAny_pure (yes (List.mem_map.mpr ⟨p, hm, hk⟩)))
        · refine wp_if_neg (by rw [decide_eq_false hk]; simp) ?_
          try refine wpAny_bind (wpAny_pure ?_)
          have hsl := slot_live R.tab.ris hi
          rw [sameMem]
          dsimp only
          simp only [if_true, hsl, row_at R.row hp]
          refine wpAny_bind (wpAny_isSame_ref_self (wpAny_bind (wpAny_pure ?_)))
          simp only [if_true]
          refine wp_if_neg (by rw [decide_eq_false hk]; simp) (ih (c + (q + 1)) _ rfl (by omega) (by omega) fun i0 p0 h0 k0 => ?_)
          obtain ⟨c', ⟨z1, z2⟩, z3⟩ := hre i0 p0 h0 k0
          refine ⟨c', ⟨?_, z2⟩, z3⟩
          have ne1 : ¬ c' < c + q := fun z => hno (c' - c) i0 (by omega) (by rw [ej, show c + (c' - c) = c' by omega]; exact z3) (by rw [hsh i0 p0 h0, k0])
          have ne2 : c' ≠ c + q := fun z => by
            rw [z] at z3
            have e1 := slot_live R.tab.ris z3
            rw [hsl] at e1
            injection e1 with e1
            rw [← e1, hp] at h0
            cases h0
            exact hk k0
          omega
      by_cases hl : t.led = true
      · refine wp_if_neg (by rw [hl]; decide) ?_
        try refine wpAny_bind (wpAny_pure ?_)
        exact go
      · refine wp_if_pos (by simpa using hl) (wpAny_bind (V.seen hx (fun y hy => ?_) (wp_if_neg Bool.false_ne_true ?_)))
        · obtain ⟨e, he, rfl⟩ := List.mem_map.mp hy
          have he2 : e ∈ es.toList := by
            have : e ∈ es ∧ e.1 = V.hs k := by simpa using he
            simpa using this.1
          rw [R.row] at he2
          obtain ⟨p2, hp2, rfl⟩ := List.mem_map.mp he2
          exact ⟨p2.2, p2.1, rfl, R.all p2 hp2⟩
        · try refine wpAny_bind (wpAny_pure ?_)
          exact go
    · have hpr' : t.probe (fun i => (es[i]?.map (·.1)).getD 0) (V.hs k) (st.getD (t.probeStart (V.hs k))) = some (.empty (way t.mask (V.hs k) N) none) := by
        rw [hst, show way t.mask (V.hs k) N = (nth t.mask (pb t (V.hs k) c) (N - c)).j by rw [ej, show c + (N - c) = N by omega]]
        exact hpr
      rw [hpr']
      refine wpAny_pure (no fun hm => ?_)
      obtain ⟨p0, h0, k0⟩ := List.mem_map.mp hm
      obtain ⟨i0, hi0, e0⟩ := List.getElem_of_mem h0
      have h00 : L[i0]? = some p0 := by rw [List.getElem?_eq_getElem hi0, e0]
      obtain ⟨c', ⟨z1, z2⟩, z3⟩ := hre i0 p0 h00 k0
      exact hno (c' - c) i0 (by omega) (by rw [ej, show c + (c' - c) = c' by omega]; exact z3) (by rw [hsh i0 p0 h00, k0])
theorem k_look (R : KSet V s.heap a L es ep t) {x : Addr} {k : κ} (hx : V.is s.heap k x) (hu : A.units < cLine) {Q : SetFound → Shared → Prop} (yes : k ∈ L.map Prod.snd → Q (.there none) s)
    (no : ∀ N, k ∉ L.map Prod.snd → way t.mask (V.hs k) N ∉ t.place.toList → (∀ c, c < N → way t.mask (V.hs k) c ∈ t.place.toList) → Q (.free (way t.mask (V.hs k) N) false) s) : wpAny (model P w) A (setSearch a (.ref x) (V.hs k) true) Q E s := by
  have f := R.free
  obtain ⟨N, hN, n1, n2⟩ := R.tab.first (by rw [List.length_map]; omega) (V.hs k)
  have big : 10 * SetTable.turns t.mask < 100000 := by
    unfold SetTable.turns
    rcases R.tab.mok with e | e | e <;> rw [e] <;> decide
  unfold setSearch
  refine k_search R hx hu hN n1 n2 yes (fun z => no N z n1 n2) 100000 0 none rfl (Nat.zero_le _) (by omega) fun i p hp hk => ?_
  have hi : (L.map fun p => V.hs p.2)[i]? = some (V.hs k) := by rw [List.getElem?_map, hp, ← hk]; rfl
  have hil : i < t.place.toList.length := by
    have z1 := (List.getElem?_eq_some_iff.mp hp).1
    have z2 := R.tab.sz
    rw [List.length_map] at z2
    rw [Array.length_toList]
    omega
  obtain ⟨c, z1, z2⟩ := R.tab.before n1 hi (List.getElem?_eq_getElem hil)
  exact ⟨c, ⟨Nat.zero_le _, z1⟩, by rw [List.getElem?_eq_getElem hil, z2]⟩
end
end Hid

namespace Hid
open PySem PySem.Spec PyProof.Rows L2
theorem range_all {α : Type} (l : List α) : ∀ n, (List.range n).filterMap (fun i => l[i]?) = l.take n
  | 0 => rfl
  | n + 1 => by
    rw [List.range_succ, List.filterMap_append, range_all l n, List.take_add_one]
    refine congrArg (List.take n l ++ ·) ?_
    cases h : l[n]? with
    | none => rw [List.filterMap_cons_none h]; rfl
    | some v => rw [List.filterMap_cons_some h]; rfl
section
variable {P : Program} {w : World} {κ : Type} [DecidableEq κ] {V : KeyV P w κ} {a : Addr} {L : List (Addr × κ)} {es : Array (Int × Value)} {ep : Nat} {t : SetTable} {A : Around} {E : Value → Shared → Prop} {s : Shared}
/-- the entries in another order -/
theorem k_order (e : es.toList = L.map (kRow V)) : ∀ l : List Nat, (∀ i ∈ l, i < L.length) → (l.filterMap fun i => es[i]?) = (l.filterMap fun i => L[i]?).map (kRow V) ∧ ((l.filterMap fun i => L[i]?).map fun p => V.hs p.2) = l.map fun i => (es.map (·.1)).getD i 0
  | [], _ => ⟨rfl, rfl⟩
  | i :: l, hl => by
    have hi := hl i List.mem_cons_self
    obtain ⟨z1, z2⟩ := k_order e l fun j hj => hl j (List.mem_cons_of_mem _ hj)
    have el : L[i]? = some L[i] := List.getElem?_eq_getElem hi
    have ee := row_at e el
    refine ⟨?_, ?_⟩
    · rw [List.filterMap_cons_some ee, List.filterMap_cons_some el, z1, List.map_cons]
    · rw [List.filterMap_cons_some el, List.map_cons, List.map_cons, z2]
      have e5 : (es.map (·.1))[i]? = some (V.hs (L[i]).2) := by
        rw [Array.getElem?_map, ee]
        rfl
      have e6 : (es.map (·.1)).getD i 0 = V.hs (L[i]).2 := by simp [Array.getD_eq_getD_getElem?, e5]
      rw [e6]
theorem k_relay {o : Obj} {wanted M : Nat} {Q : Unit → Shared → Prop} (ho : s.heap.get? a = some o) (hex : o.ExactSet) (hd : o.data = .set es ep t) (row : es.toList = L.map (kRow V)) (hz : t.place.size = es.size) (dm : t.dummies = #[]) (fl : es.size ≤ t.mask)
    (nd : (L.map Prod.snd).Nodup) (all : ∀ p ∈ L, V.is s.heap p.2 p.1) (ld : w.params.followText "set-order" = true ∨ t.led = true) (few : L.length < 64)
    (hw : SetTable.sizeAbove wanted - 1 = M) (hM : MaskOk M) (h128 : SetTable.sizeAbove wanted ≤ 128) (room : L.length * 5 < M * 3) (hQ : ∀ h' L' es' ep' t', Heap.SameBut a s.heap h' → KSet V h' a L' es' ep' t' → L'.Perm L → Q () { s with heap := h' }) :
    wpAny (model P w) A (setRelay a wanted) Q E s := by
  have hsl := row_len' row
  obtain ⟨t', od, er, hp, tab, em, el, epl, _⟩ := relaid_ok t (hs := es.map (·.1)) hw hM (by rw [Array.size_map, hsl]; omega)
  rw [Array.size_map, hsl] at hp
  obtain ⟨z1, z2⟩ := k_order row od.toList fun i hi => List.mem_range.mp (hp.mem_iff.mp hi)
  have pm : (od.toList.filterMap fun i => L[i]?).Perm L := by
    have z := hp.filterMap fun i => L[i]?
    rw [range_all, List.take_length] at z
    exact z
  have row' : (od.filterMap (es[·]?)).toList = (od.toList.filterMap fun i => L[i]?).map (kRow V) := by first | (rw [Array.toList_filterMap]; exact z1) | simpa using z1
  rw [← z2] at tab
  generalize (od.toList.filterMap fun i => L[i]?) = L2 at pm row' tab
  have hs2 := row_len' row'
  rw [pm.length_eq] at hs2
  rw [setRelay_eq]
  refine wpAny_bind (wpAny_setState_of ho hd (fits_of dm hz fl) ?_)
  dsimp only
  refine wp_if_neg (by rw [sizeLine_eq]; omega) ?_
  try refine wpAny_bind (wpAny_pure ?_)
  rw [er]
  dsimp only
  refine wpAny_bind (wp_if_neg (by rw [hs2, hsl]; simp) ?_)
  try refine wpAny_bind (wpAny_pure ?_)
  refine wpAny_pure ?_
  dsimp only
  refine wpAny_storeSet_of ho hd ?_ (by rw [hs2, sizeLine_eq]; omega)
  have sb : Heap.SameBut a s.heap (s.heap.update a (Obj.putSet (od.filterMap (es[·]?)) t')) := Heap.SameBut.update ..
  exact hQ _ L2 (od.filterMap (es[·]?)) (ep + 1) t' sb ⟨⟨_, store_at ho hd, ⟨hex.1, hex.2.1, hex.2.2⟩, rfl⟩, row', tab, (pm.map _).nodup_iff.mpr nd, fun p hp => key_but (all p (pm.mem_iff.mp hp)) ho hd sb, by rw [el]; exact ld, by rw [pm.length_eq, em]; exact room, by rw [pm.length_eq]; exact few⟩ pm
theorem k_byv {x : Addr} {k : κ} (hx : V.is s.heap k x) {α : Type} {f : Bool → Sem α} {Q : α → Shared → Prop} (h : ∀ b, wpAny (model P w) A (f b) Q E s) : wpAny (model P w) A (if t.plain = true then hashByValue 8 (.ref x) >>= f else pure true >>= f) Q E s := by
  by_cases z : t.plain = true
  · exact wp_if_pos z (wpAny_bind (V.byv hx h))
  · exact wp_if_neg z (wpAny_bind (wpAny_pure (h true)))
theorem tab_as {t' : SetTable} {hs : List Int} (e1 : t'.place = t.place) (e2 : t'.dummies = t.dummies) (e3 : t'.mask = t.mask) (T : L2.TabOk t hs) : L2.TabOk t' hs := by
  obtain ⟨a, b, c, d, f, g⟩ := T
  exact ⟨by rw [e1]; exact a, by rw [e2]; exact b, by rw [e1]; exact c, by rw [e3]; exact d, by rw [e1, e3]; exact f, by rw [e1, e3]; exact g⟩
/-- one more put in, where its key isn't in -/
theorem k_add (R : KSet V s.heap a L es ep t) {x : Addr} {k : κ} (hx : V.is s.heap k x) (hu : A.units < cLine) (room : L.length + 1 < 64) {Q : Bool → Shared → Prop}
    (hQ : ∀ b h' L' es' ep' t', Heap.SameBut a s.heap h' → KSet V h' a L' es' ep' t' → (k ∈ L.map Prod.snd → L' = L) → (k ∉ L.map Prod.snd → L'.Perm ((x, k) :: L)) → Q b { s with heap := h' }) :
    wpAny (model P w) A (setAddHashed a (.ref x) (V.hs k)) Q E s := by
  obtain ⟨o, ho, hex, hd⟩ := R.at_
  have hsl := row_len' R.row
  have hfree := R.free
  unfold setAddHashed
  refine wpAny_holding ?_
  rw [show (100000 : Nat) = 99999 + 1 from rfl, setAddHashedIn_succ]
  refine wpAny_bind (wpAny_setState_of ho hd R.fit ?_)
  dsimp only
  refine wp_if_neg (by simp [byScan, Value.scannable]) ?_
  try refine wpAny_bind (wpAny_pure ?_)
  refine wpAny_bind (k_look R hx hu (fun hm => ?_) fun N hm n1 n2 => ?_)
  · exact wpAny_pure (hQ false s.heap L es ep t (Heap.SameBut.refl a s.heap) R (fun _ => rfl) fun z => absurd hm z)
  dsimp only
  refine wpAny_bind (wpAny_setState_of ho hd R.fit ?_)
  dsimp only
  obtain ⟨j1, j2, j3, j4, j5, j6, _, _, j9⟩ := R.tab.put n1 n2
  generalize t.put (way t.mask (V.hs k) N) = pt at j1 j3 j4 j5 j6 j9 ⊢
  obtain ⟨t0, q⟩ := pt
  dsimp only at j1 j3 j4 j5 j6 j9 ⊢
  subst j1
  refine k_byv hx fun b => ?_
  have tt : (if b = true then t0 else { t0 with plain := false }).place = t0.place ∧ (if b = true then t0 else { t0 with plain := false }).dummies = t0.dummies ∧ (if b = true then t0 else { t0 with plain := false }).mask = t0.mask ∧ (if b = true then t0 else { t0 with plain := false }).led = t0.led := by cases b <;> exact ⟨rfl, rfl, rfl, rfl⟩
  generalize (if b = true then t0 else { t0 with plain := false }) = t1 at tt ⊢
  obtain ⟨y1, y2, y3, y4⟩ := tt
  have j3 : L2.TabOk t1 _ := tab_as y1 y2 y3 j3
  rw [← y3] at j4
  rw [← y4] at j5
  have j9 : t1.fill = (L.map fun p => V.hs p.2).length + 1 := by
    unfold SetTable.fill at j9 ⊢
    rw [y1, y2]
    exact j9
  have row1 : (SetTable.insertAt es (SetTable.below t.place (way t.mask (V.hs k) N)) (V.hs k, Value.ref x)).toList = (L.take (SetTable.below t.place (way t.mask (V.hs k) N)) ++ (x, k) :: L.drop (SetTable.below t.place (way t.mask (V.hs k) N))).map (kRow V) := by
    rw [SetTable.toList_insertAt, R.row, List.map_append, List.map_cons, List.map_take, List.map_drop]
    rfl
  generalize SetTable.below t.place (way t.mask (V.hs k) N) = q at j2 j3 row1 ⊢
  have pm : (L.take q ++ (x, k) :: L.drop q).Perm ((x, k) :: L) := by
    have z : (L.take q ++ (x, k) :: L.drop q).Perm ((x, k) :: (L.take q ++ L.drop q)) := List.perm_middle
    rw [List.take_append_drop] at z
    exact z
  have tab1 : L2.TabOk t1 ((L.take q ++ (x, k) :: L.drop q).map fun p => V.hs p.2) := by
    rw [List.map_append, List.map_cons, List.map_take, List.map_drop]
    exact j3
  generalize SetTable.insertAt es q (V.hs k, Value.ref x) = es1 at row1 ⊢
  generalize L.take q ++ (x, k) :: L.drop q = L1 at pm row1 tab1
  have hl1 : L1.length = L.length + 1 := pm.length_eq
  have hs1 := row_len' row1
  have nd1 : (L1.map Prod.snd).Nodup := (pm.map Prod.snd).nodup_iff.mpr (List.nodup_cons.mpr ⟨hm, R.nd⟩)
  refine wpAny_bind (wpAny_storeSet_of ho hd ?_ (by rw [hs1, hl1, sizeLine_eq]; omega))
  have sb : Heap.SameBut a s.heap (s.heap.update a (Obj.putSet es1 t1)) := Heap.SameBut.update ..
  have ho1 := store_at (es' := es1) (t' := t1) ho hd
  generalize s.heap.update a (Obj.putSet es1 t1) = h1 at sb ho1 ⊢
  have all1 : ∀ p ∈ L1, V.is h1 p.2 p.1 := fun p hp => by
    rcases List.mem_cons.mp (pm.mem_iff.mp hp) with z | z
    · rw [z]
      exact key_but hx ho hd sb
    · exact key_but (R.all p z) ho hd sb
  have ld1 : w.params.followText "set-order" = true ∨ t1.led = true := by rw [j5]; exact R.ld
  have hfl : t1.tooFull = true ↔ (L.length + 1) * 5 ≥ t1.mask * 3 := by
    unfold SetTable.tooFull
    rw [decide_eq_true_eq, j9, List.length_map]
  by_cases hf : t1.tooFull = true
  · have hfull := hfl.mp hf
    first
      | (refine wpAny_bind ?_; refine wp_if_pos (by simp [hf]) ?_)
      | (refine wp_if_pos (by simp [hf]) ?_; refine wpAny_bind ?_)
    rw [hsl]
    have two : (t.mask = 7 ∧ L.length = 4) ∨ (t.mask = 31 ∧ L.length = 18) := by
      rcases R.tab.mok with e | e | e
      · rw [j4, e] at hfull
        rw [e] at hfree
        exact .inl ⟨e, by omega⟩
      · rw [j4, e] at hfull
        rw [e] at hfree
        exact .inr ⟨e, by omega⟩
      · rw [j4, e] at hfull
        omega
    have hz1 : t1.place.size = es1.size := by
      have z := tab1.sz
      rw [List.length_map] at z
      rw [z, hs1]
    have go : ∀ M, SetTable.sizeAbove (SetTable.grown (L.length + 1)) - 1 = M → MaskOk M → SetTable.sizeAbove (SetTable.grown (L.length + 1)) ≤ 128 → (L.length + 1) * 5 < M * 3 →
        wpAny (model P w) A (setRelay a (SetTable.grown (L.length + 1))) (fun _ s' => wpAny (model P w) A (pure true) Q E s') E { s with heap := h1 } := fun M m1 m2 m3 m4 =>
      k_relay (s := { s with heap := h1 }) ho1 ⟨hex.1, hex.2.1, hex.2.2⟩ rfl row1 hz1 tab1.dm (by rw [hs1, hl1, j4]; rcases two with ⟨z1, z2⟩ | ⟨z1, z2⟩ <;> omega) nd1 all1 ld1 (by omega) m1 m2 m3 (by rw [hl1]; exact m4) fun h2 L2 es2 ep2 t2 sb2 R2 pm2 => wpAny_pure (hQ true h2 L2 es2 ep2 t2 (sb.trans sb2) R2 (fun z => absurd z hm) fun _ => pm2.trans pm)
    rcases two with ⟨_, z⟩ | ⟨_, z⟩
    · exact go 31 (by rw [z, size_20]) (.inr (.inl rfl)) (by rw [z, size_20]; decide) (by omega)
    · exact go 127 (by rw [z, size_76]) (.inr (.inr rfl)) (by rw [z, size_76]; decide) (by omega)
  · have hfull : ¬ (L.length + 1) * 5 ≥ t1.mask * 3 := fun z => hf (hfl.mpr z)
    first
      | refine wp_if_neg (by simp [hf]) ?_
      | (refine wpAny_bind ?_; refine wp_if_neg (by simp [hf]) ?_; refine wpAny_pure ?_)
    exact wpAny_pure (hQ true h1 L1 es1 (ep + 1) t1 sb ⟨⟨_, ho1, ⟨hex.1, hex.2.1, hex.2.2⟩, rfl⟩, row1, tab1, nd1, all1, ld1, by rw [hl1]; omega, by omega⟩ (fun z => absurd z hm) fun _ => pm)
theorem k_new {h : Heap} (V : KeyV P w κ) {led : Bool} (hl : w.params.followText "set-order" = true ∨ led = true) (ho : h.get? a = some (newSet led)) : KSet V h a [] #[] 0 (.fresh 0 0 led) :=
  ⟨⟨_, ho, ⟨rfl, rfl, rfl⟩, rfl⟩, rfl, ⟨List.Pairwise.nil, rfl, rfl, .inl rfl, (fun _ z => nomatch z), fun i _ _ z => by simp at z⟩, List.nodup_nil, (fun _ z => nomatch z), hl, by show 0 * 5 < 7 * 3; decide, by show 0 < 64; decide⟩
end
end Hid

namespace Hid
open PySem PySem.Spec PyProof.Rows L2
/-- L has each key of ks once, and nothing else -/
structure KFill {κ : Type} (ks L : List (Addr × κ)) : Prop where
  sub : ∀ p ∈ L, p ∈ ks
  all : ∀ p ∈ ks, p.2 ∈ L.map Prod.snd
  len : L.length ≤ ks.length
section
variable {P : Program} {w : World} {κ : Type} [DecidableEq κ] {V : KeyV P w κ} {A : Around} {E : Value → Shared → Prop} {s : Shared} {I : Addr} {fp wr : List Addr} {G : Array GenState → Array GenState → Prop} {n : Nat} {Pv : Nat → Value → Prop} {St : Nat → Shared → Prop} {R : Result → Shared → Prop}
theorem k_fill (W : WalksS P w A.in1 I fp wr G n Pv St) (S : Addr) (hSf : S ∉ fp) (ks : List (Addr × κ)) (hlen : n = ks.length) (few : ks.length < 64) (hval : ∀ i v, Pv i v → ∃ p, ks[i]? = some p ∧ v = .ref p.1)
    (h0 : Heap) (hk : ∀ p ∈ ks, V.is h0 p.2 p.1) (hS0 : h0.get? S = none) (hw0 : ∀ b ∈ wr, h0.get? b = none) (hu : A.in1.units < cLine) :
    ∀ (j i : Nat) (s : Shared), n - i = j → i ≤ n → St i s → (∀ b o, h0.get? b = some o → s.heap.get? b = some o) → (∃ L es ep t, KSet V s.heap S L es ep t ∧ (∀ p ∈ L, p ∈ ks) ∧ (∀ p ∈ ks.take i, p.2 ∈ L.map Prod.snd) ∧ L.length ≤ i) →
      (∀ s' L es ep t, Moved (S :: wr) G s s' → KSet V s'.heap S L es ep t → KFill ks L → R (.ok (.ret .none)) s') → codeAny (model P w) A (.builtin "set.update.loop" ⟨[.ref S, .ref I], []⟩) R s := by
  have hSw : S ∉ wr := fun h => hSf (W.sub _ h)
  have up : ∀ b ∈ wr, b ∈ S :: wr := fun b hb => List.mem_cons_of_mem _ hb
  have old : ∀ {s s' : Shared}, Moved wr G s s' → (∀ b o, h0.get? b = some o → s.heap.get? b = some o) → ∀ b o, h0.get? b = some o → s'.heap.get? b = some o := fun hm kp b o e => hm.heap b o (fun z => by rw [hw0 b z] at e; cases e) (kp b o e)
  intro j
  induction j with
  | zero =>
    intro i s hj hi hst kp ⟨L, es, ep, t, hS, g1, g2, g3⟩ hR
    obtain rfl : i = n := by omega
    refine codeAny_builtin PyProof.Rows.F.entry_set_update_loop ?_
    rw [Around.under_plainId PyProof.Rows.F.plain_set_update_loop _] <;> show wpAny _ A.in1 (pyNext (.ref I) >>= _) _ _ s
    refine wpAny_bind (W.done s _ _ hst fun s' hm => ?_)
    show wpAny _ A.in1 (ret Value.none) _ _ s'
    have kp' := old hm kp
    exact wpAny_pure (hR s' L es ep t (hm.mono up) (hS.stay (fun o e => hm.heap S _ hSw e) fun p hp => V.keep (hk p (g1 p hp)) fun o e => kp' _ _ e) ⟨g1, fun p hp => g2 p (by rw [List.take_of_length_le (Nat.le_of_eq hlen.symm)]; exact hp), by omega⟩)
  | succ j ih =>
    intro i s hj hi hst kp ⟨L, es, ep, t, hS, g1, g2, g3⟩ hR
    have hlt : i < n := by omega
    refine codeAny_builtin PyProof.Rows.F.entry_set_update_loop ?_
    rw [Around.under_plainId PyProof.Rows.F.plain_set_update_loop _] <;> show wpAny _ A.in1 (pyNext (.ref I) >>= _) _ _ s
    refine wpAny_bind (W.item i s _ _ hlt hst fun v s' hP hst' hm => ?_)
    obtain ⟨p, hp, rfl⟩ := hval i v hP
    have kp' := old hm kp
    have hx : V.is s'.heap p.2 p.1 := V.keep (hk p (List.mem_of_getElem? hp)) fun o e => kp' _ _ e
    show wpAny _ A.in1 (holding [Value.ref p.1] (setAdd S (.ref p.1)) >>= _) _ _ s'
    refine wpAny_bind (wpAny_holding ?_) <;> unfold setAdd
    refine wpAny_holding (wpAny_bind (V.hash hu hx fun m hmm => ?_))
    refine k_add (s := { s' with toks := m }) (hS.stay (fun o e => hm.heap S _ hSw e) fun q hq => V.keep (hk q (g1 q hq)) fun o e => kp' _ _ e) hx hu (by omega) fun b h' L' es' ep' t' sb hS2 c1 c2 => ?_
    have g' : (∀ q ∈ L', q ∈ ks) ∧ (∀ q ∈ ks.take (i + 1), q.2 ∈ L'.map Prod.snd) ∧ L'.length ≤ i + 1 := by
      by_cases c : p.2 ∈ L.map Prod.snd
      · rw [c1 c]
        refine ⟨g1, fun q hq => ?_, by omega⟩
        rw [List.take_add_one, hp] at hq
        rcases List.mem_append.mp hq with z | z
        · exact g2 q z
        · rw [List.mem_singleton.mp z]
          exact c
      · have pm := c2 c
        have pm2 := pm.map Prod.snd
        refine ⟨fun q hq => ?_, fun q hq => ?_, by rw [pm.length_eq, List.length_cons]; omega⟩
        · rcases List.mem_cons.mp (pm.mem_iff.mp hq) with z | z
          · rw [z]
            exact List.mem_of_getElem? hp
          · exact g1 q z
        · rw [List.take_add_one, hp] at hq
          refine pm2.mem_iff.mpr ?_
          rcases List.mem_append.mp hq with z | z
          · exact List.mem_cons_of_mem _ (g2 q z)
          · rw [List.mem_singleton.mp z]
            exact List.mem_cons_self
    refine wpAny_pure ⟨plainId_quiet PyProof.Rows.F.plain_set_update_loop _, ih (i + 1) _ (by omega) hlt (W.frame _ s' _ _ hst' hmm fun b hb o e => ?_) (fun b o e => (sb.2 b (fun z => by rw [z, hS0] at e; cases e)).trans (kp' b o e)) ⟨L', es', ep', t', hS2, g'⟩ fun s'' L2 es2 ep2 t2 hm2 hS4 g4 => ?_⟩
    · rw [sb.2 b (fun h : b = S => hSf (by rw [← h]; exact hb))]
      exact e
    · refine hR s'' L2 es2 ep2 t2 (Moved.trans W.gtrans ((hm.mono up).then_heap hmm fun b o hb e => ?_) hm2) hS4 g4
      rw [sb.2 b (fun h : b = S => hb (by rw [h]; exact List.mem_cons_self))]
      exact e
end
section
variable {P : Program} {w : World} {κ : Type} [DecidableEq κ] {V : KeyV P w κ} {A : Around} {E : Value → Shared → Prop} {s : Shared}
theorem k_setOf {l : Addr} {items : Array Value} {ks : List (Addr × κ)} {Q : Value → Shared → Prop} (hh : A.handled = none) (hl : s.heap.IsList l items) (hi : items.toList = ks.map fun p => Value.ref p.1) (hk : ∀ p ∈ ks, V.is s.heap p.2 p.1) (few : ks.length < 64) (hu : A.units + 8 < cLine)
    (h : ∀ (h' : Heap) (tk : Nat) L es ep t, KSet V h' s.heap.objs.size L es ep t → KFill ks L → (∀ b o, b < s.heap.objs.size → s.heap.get? b = some o → h'.get? b = some o) → Q (.ref s.heap.objs.size) { s with heap := h', toks := tk }) :
    wpAny (model P w) A (call (.type "set") [.ref l]) Q E s := by
  obtain ⟨c, tl, hmro⟩ := PySem.F.called_set.mro
  have hmade := PySem.F.called_set.made; have hsub := PySem.F.called_set.sub
  refine wpAny_call (codeAny_of_tree ?_)
  show wpAny _ _ (callAny (.type "set") _) _ _ _
  refine wpAny_pure ⟨Code.quiet_builtin _ (by decide +kernel), codeAny_builtin PySem.F.entry_type_call ?_⟩
  rw [Around.under_plain (weight_type_call_type "set" [.ref l] []) rfl]
  have h1 := PySem.F.called_set.notType; have h2 := PySem.F.called_set.canCreate; have hct := PySem.F.typeCall_set_1 (.ref l)
  repeat any_goals (first | assumption | wp_step)
  refine codeAny_mono (tSetNew (.ref l) (E := E) (Q₁ := fun obj s₁ => obj = .ref s.heap.objs.size ∧ s₁ = { s with heap := s.heap.push (newSet (!w.params.followText "set-order")) }) ⟨rfl, rfl⟩) fun r s₁ hr => ?_
  cases r with
  | error e => exact hr
  | ok fl =>
    cases fl with
    | next => exact hr.elim
    | brk => exact hr.elim
    | cont => exact hr.elim
    | ret obj =>
      obtain ⟨rfl, rfl⟩ := hr
      generalize hled : (!w.params.followText "set-order") = led
      have hlo : w.params.followText "set-order" = true ∨ led = true := by
        rw [← hled]
        cases w.params.followText "set-order" <;> simp
      have hS : (s.heap.push (newSet led)).get? s.heap.objs.size = some (newSet led) := Heap.get?_push_size _ rfl
      have hT : Shared.TypeIs { s with heap := s.heap.push (newSet led) } (.ref s.heap.objs.size) "set" := ⟨_, hS, rfl⟩
      have hli := PySem.F.called_set.init.lookup; have hbi := PySem.F.called_set.init.bind (.ref s.heap.objs.size)
      repeat any_goals (first | assumption | wp_step)
      refine codeAny_mono (codeAny_call_builtin (R := wants (fun r s₂ => r = .none ∧ ∃ h' tk L es ep t, s₂ = { s with heap := h', toks := tk } ∧ KSet V h' s.heap.objs.size L es ep t ∧ KFill ks L ∧ (∀ b o, b < s.heap.objs.size → s.heap.get? b = some o → h'.get? b = some o)) E) PySem.F.called_set.init.plain PySem.F.entry_set_init (check_set_init_1 hT ?_)) fun r₂ s₂ hr₂ => ?_
      · obtain ⟨⟨ocls, odict, odata, oslots⟩, hol, hcl, nl, hdl⟩ := hl
        simp only at hcl hdl
        subst hcl; subst hdl
        have hol' : (s.heap.push (newSet led)).get? l = some { cls := .type "list", dict := odict, data := .seq items nl, slots := oslots } := Heap.get?_push_of_some _ hol
        have hsls := PySem.F.sub_list_set; have hslf := PySem.F.sub_list_frozenset
        have hne : (Value.type "list" == Value.type "dict") = false := by decide
        have hl1 : (s.heap.push (newSet led)).IsList l items := ⟨_, hol', rfl, nl, rfl⟩
        unfold Builtin.«set.__init__» noKeywords Builtin.Frozenset.updateFrom
        generalize hPI : pyIter = PI
        wp_walk
        subst hPI
        refine wpAny_pyIter_list hl1 (wpAny_bind (wpAny_runValue ?_))
        have hlS : l < s.heap.objs.size := Heap.lt_size hol
        have hh3 : A.in1.in1.in1.handled = none := by simp [hh]
        have hneI : l ≠ (s.heap.push (newSet led)).objs.size := by
          rw [Heap.size_push]
          exact Nat.ne_of_lt (Nat.lt_succ_of_lt hlS)
        have hSf : s.heap.objs.size ∉ [(s.heap.push (newSet led)).objs.size, l] := by
          rw [Heap.size_push]
          simp only [List.mem_cons, List.not_mem_nil, or_false, not_or]
          exact ⟨Nat.ne_of_lt (Nat.lt_succ_self _), Nat.ne_of_gt hlS⟩
        have hsz : items.size = ks.length := by
          have z := congrArg List.length hi
          rw [Array.length_toList, List.length_map] at z
          exact z
        have hval : ∀ (i : Nat) (v : Value), items[i]? = some v → ∃ p, ks[i]? = some p ∧ v = .ref p.1 := fun i v hv => by
          rw [← Array.getElem?_toList, hi, List.getElem?_map] at hv
          obtain ⟨p, z1, z2⟩ := Option.map_eq_some_iff.mp hv
          exact ⟨p, z1, z2.symm⟩
        have hw0 : ∀ b ∈ [(s.heap.push (newSet led)).objs.size], s.heap.get? b = none := fun b hb => by
          rw [List.mem_singleton.mp hb]
          cases z : s.heap.get? (s.heap.push (newSet led)).objs.size with
          | none => rfl
          | some u =>
            have z1 := Heap.lt_size z
            have z2 : (s.heap.push (newSet led)).objs.size = s.heap.objs.size + 1 := Heap.size_push ..
            exact absurd z1 (by rw [z2]; exact Nat.not_lt.mpr (Nat.le_succ _))
        have hS0 : s.heap.get? s.heap.objs.size = none := by
          cases z : s.heap.get? s.heap.objs.size with
          | none => rfl
          | some u => exact absurd (Heap.lt_size z) (Nat.lt_irrefl _)
        refine k_fill (V := V) ((Walks.list hh3 _ l hneI items).toS) s.heap.objs.size hSf ks hsz few hval s.heap hk hS0 hw0 (by show A.units + 1 + 1 + 1 < cLine; omega) (items.size - 0) 0 _ (by omega) (Nat.zero_le _)
          ⟨⟨_, Heap.get?_push_size _ rfl, rfl, rfl⟩, (hl1.push _)⟩ (fun b o e => Heap.get?_push_of_some _ (Heap.get?_push_of_some _ e)) ⟨[], _, _, _, k_new V hlo (Heap.get?_push_of_some _ hS), (fun _ z => nomatch z), (fun p z => by rw [List.take_zero] at z; cases z), Nat.le_refl 0⟩ fun s' L es ep t hm hS' hf => ?_
        obtain ⟨h', g', d', tk', os'⟩ := s'
        obtain rfl : g' = s.gens := hm.gens
        obtain rfl : d' = s.drawn := hm.drawn
        obtain rfl : os' = s.os := hm.os
        show wpAny _ _ _ _ _ _
        refine wpAny_pure ?_
        show wpAny _ _ (ret Value.none) _ _ _
        refine wpAny_pure ⟨rfl, h', tk', L, es, ep, t, rfl, hS', hf, fun b o hb e => hm.heap b o ?_ (Heap.get?_push_of_some _ (Heap.get?_push_of_some _ e))⟩
        simp only [List.mem_cons, List.not_mem_nil, or_false, not_or]
        refine ⟨Nat.ne_of_lt hb, ?_⟩
        rw [Heap.size_push]
        exact Nat.ne_of_lt (Nat.lt_succ_of_lt hb)
      · cases r₂ with
        | error e => exact hr₂
        | ok fl₂ =>
          cases fl₂ with
          | next => exact hr₂.elim
          | brk => exact hr₂.elim
          | cont => exact hr₂.elim
          | ret r =>
            obtain ⟨rfl, h', tk, L, es, ep, t, rfl, hS', hf, hk'⟩ := hr₂
            repeat any_goals (first | assumption | wp_step)
            exact h _ _ _ _ _ _ hS' hf hk'
end
end Hid

namespace Hid
open PySem PySem.Spec PyProof.Rows L2 Evl
/-! sorted of tuples of texts and whole numbers, of one shape or more -/
abbrev Sc := Int ⊕ List Nat
def scV : Sc → V
  | .inl z => .int z
  | .inr l => .str (tx l)
def scD : Sc → PyData
  | .inl z => .int z
  | .inr l => .str (tx l)
/-- where they differ first both are of one kind -/
def Cmt : List Sc → List Sc → Prop
  | a :: l, b :: m => (a = b → Cmt l m) ∧ (a ≠ b → (∃ x y, a = .inl x ∧ b = .inl y) ∨ ∃ x y, a = .inr x ∧ b = .inr y)
  | _, _ => True
abbrev scLt (a b : List Sc) : Bool := lexLt itemOrd a b
def scSort (ds : List (List Sc)) : List (List Sc) := ds.mergeSort fun a b => !scLt b a
theorem scLt_asym {a b : List Sc} (h : scLt a b = true) : scLt b a = false := by
  cases z : scLt b a with
  | false => rfl
  | true =>
    have := lex_trans (O := itemOrd) a b a h z
    rw [lex_irrefl (O := itemOrd)] at this
    cases this
theorem scLt_tr {x y z : List Sc} (h1 : scLt y x = false) (h2 : scLt z y = false) : scLt z x = false := by
  cases c : scLt z x with
  | false => rfl
  | true =>
    rcases lex_negTrans (O := itemOrd) z y x c with k | k
    · rw [show lexLt itemOrd z y = false from h2] at k
      cases k
    · rw [show lexLt itemOrd y x = false from h1] at k
      cases k
theorem scSort_perm (ds : List (List Sc)) : (scSort ds).Perm ds := List.mergeSort_perm _ _
theorem scSort_le (ds : List (List Sc)) : (scSort ds).Pairwise fun a b => scLt b a = false := by
  have h := List.pairwise_mergeSort (le := fun a b : List Sc => !scLt b a) (fun a b c x y => by
    simp only [Bool.not_eq_true'] at *
    exact scLt_tr x y) (fun a b => by
    cases h1 : scLt b a with
    | false => rfl
    | true => rw [scLt_asym h1]; rfl) ds
  exact h.imp fun z => by simpa using z
theorem scSort_uniq {as ds : List (List Sc)} (hp : as.Perm ds) (hs : as.Pairwise fun a b => scLt b a = false) : as = scSort ds :=
  (hp.trans (scSort_perm ds).symm).eq_of_pairwise (fun a b _ _ x y => lex_total (O := itemOrd) a b y x) hs (scSort_le ds)
section
variable {prog : Program} {w : World} {A : Around} {E : Value → Shared → Prop} {s : Shared}
theorem sc_lex {b fin : Bool} {Q : Bool → Shared → Prop} : ∀ (as bs : List Sc) (ps qs : List Value) (i : Nat), Vals (as.map scV) ps → Vals (bs.map scV) qs → Cmt as bs → fin = decide (as.length < bs.length) → Q (scLt as bs) s → PySem.W.KatLex prog w A b fin Q (ps.zip qs) i s
  | [], [], _, _, i, .nil, .nil, _, hf, h => by
    subst hf
    exact h
  | [], _ :: _, _, _, i, .nil, .cons _ _, _, hf, h => by
    subst hf
    exact h
  | _ :: _, [], _, _, i, .cons _ _, .nil, _, hf, h => by
    subst hf
    exact h
  | a :: as, c :: bs, _, _, i, .cons rp r1, .cons rq r2, hc, hf, h => by
    have hf' : fin = decide (as.length < bs.length) := by
      rw [hf]
      simp only [List.length_cons, Nat.add_lt_add_iff_right]
    rcases a with x | x
    · rcases c with y | y
      · obtain ⟨t, rfl⟩ := rp
        obtain ⟨u, rfl⟩ := rq
        refine PySem.W.kat_cons (wpAny_eqBool_int (PySem.W.kat_go (fun e => PySem.W.kat_yes ?_) fun e => PySem.W.kat_no ?_))
        · have hxy : x = y := by simpa using e
          subst hxy
          rw [show scLt (Sum.inl x :: as) (Sum.inl x :: bs) = scLt as bs from lex_self (O := itemOrd) _ _ _] at h
          exact sc_lex as bs _ _ (i + 1) r1 r2 (hc.1 rfl) hf' h
        · have hxy : ¬ x = y := by simpa using e
          rw [show scLt (Sum.inl x :: as) (Sum.inl y :: bs) = decide (x < y) from lex_diff (O := itemOrd) fun z => hxy (Sum.inl.inj z)] at h
          exact oneLt_any_int h
      · rcases hc.2 (fun z => nomatch z) with ⟨_, _, _, z⟩ | ⟨_, _, z, _⟩ <;> cases z
    · rcases c with y | y
      · rcases hc.2 (fun z => nomatch z) with ⟨_, _, z, _⟩ | ⟨_, _, _, z⟩ <;> cases z
      · obtain ⟨t, rfl⟩ := rp
        obtain ⟨u, rfl⟩ := rq
        refine PySem.W.kat_cons (wpAny_eqBool_str (PySem.W.kat_go (fun e => PySem.W.kat_yes ?_) fun e => PySem.W.kat_no ?_))
        · have hxy : x = y := by
            have z := congrArg (fun q : Str => q.cps.toList) (of_decide_eq_true e)
            simpa [tx_toList] using z
          subst hxy
          rw [show scLt (Sum.inr x :: as) (Sum.inr x :: bs) = scLt as bs from lex_self (O := itemOrd) _ _ _] at h
          exact sc_lex as bs _ _ (i + 1) r1 r2 (hc.1 rfl) hf' h
        · have hxy : x ≠ y := fun z => of_decide_eq_false e (by rw [z])
          have e2 : scLt (Sum.inr x :: as) (Sum.inr y :: bs) = decide ((tx x).cps.toList < (tx y).cps.toList) := by
            rw [show scLt (Sum.inr x :: as) (Sum.inr y :: bs) = PyProof.Rows.strKind.blt x y from lex_diff (O := itemOrd) fun z => hxy (Sum.inr.inj z), tx_toList, tx_toList]
          rw [e2] at h
          exact oneLt_any_str h
def IsSc (h : Heap) (v : Value) (ds : List Sc) : Prop := ∃ a o xs n, v = .ref a ∧ h.get? a = some o ∧ o.cls = .type "tuple" ∧ o.data = .seq xs n ∧ Vals (ds.map scV) xs.toList
theorem sc_firsts {h : Heap} {k : Value → List Sc} : ∀ vs : List Value, (∀ v ∈ vs, IsSc h v (k v)) → (∀ v ∈ vs, ∃ x l, k v = .inr x :: l) → ∃ fs, PySem.W.KatTups h vs fs ∧ fs.length = vs.length ∧ ∀ f ∈ fs, ∃ x t, f = Value.str x t
  | [], _, _ => ⟨[], trivial, rfl, fun _ z => nomatch z⟩
  | v :: vs, hp, hf => by
    obtain ⟨fs, h1, h2, h3⟩ := sc_firsts vs (fun u hu => hp u (List.mem_cons_of_mem _ hu)) fun u hu => hf u (List.mem_cons_of_mem _ hu)
    obtain ⟨a, o, xs, n, rfl, ho, hc, hd, hv⟩ := hp v List.mem_cons_self
    obtain ⟨x, l, e⟩ := hf _ List.mem_cons_self
    rw [e] at hv
    obtain ⟨xs⟩ := xs
    cases hv with
    | cons r0 rs =>
      obtain ⟨t, rfl⟩ := r0
      refine ⟨.str (tx x) t :: fs, PySem.W.KatTups.cons ho hc hd (by simp) h1, by rw [List.length_cons, List.length_cons, h2], fun f hf' => ?_⟩
      rcases List.mem_cons.mp hf' with z | z
      · exact ⟨_, _, z⟩
      · exact h3 f z
theorem sc_cmp {vs : List Value} {k : Value → List Sc} (hp : ∀ v ∈ vs, IsSc s.heap v (k v)) (hc : ∀ v ∈ vs, ∀ u ∈ vs, Cmt (k v) (k u)) : SrtO.Cmp prog w A s (tuples' true) (fun p => p.1 ∈ vs) (SrtO.lt2 fun v u => scLt (k v) (k u)) := by
  intro p q hm hm'
  obtain ⟨a, o, xs, n, e1, ho, _, hd, hv⟩ := hp _ hm
  obtain ⟨a', o', ys, n', e2, ho', _, hd', hv'⟩ := hp _ hm'
  have hcc := hc _ hm _ hm'
  show wpAny (model prog w) A (keyLt' (tuples' true) p.1 q.1) (fun r s' => s' = s ∧ r = scLt (k p.1) (k q.1)) (fun _ _ => False) s
  generalize k p.1 = l at hv hcc
  generalize k q.1 = m at hv' hcc
  rw [e1, e2]
  refine PySem.W.kat_lt ho hd ho' hd' (sc_lex l m xs.toList ys.toList 0 hv hv' hcc ?_ ⟨rfl, rfl⟩)
  have z1 : l.length = xs.size := by have := hv.length; rw [List.length_map, Array.length_toList] at this; exact this
  have z2 : m.length = ys.size := by have := hv'.length; rw [List.length_map, Array.length_toList] at this; exact this
  rw [z1, z2]
theorem sc_swo (k : Value → List Sc) : SrtO.Swo fun v u => scLt (k v) (k u) := ⟨fun _ _ h => scLt_asym h, fun _ _ _ h1 h2 => scLt_tr h1 h2⟩
theorem sc_sortable {a : Addr} {vs : List Value} {k : Value → List Sc} (h0 : 0 < vs.length) (hp : ∀ v ∈ vs, IsSc s.heap v (k v)) (hf : ∀ v ∈ vs, ∃ x l, k v = .inr x :: l) (hc : ∀ v ∈ vs, ∀ u ∈ vs, Cmt (k v) (k u)) (ha : ∀ o, s.heap.get? a = some o → o.cls ≠ .type "tuple") :
    SrtO.SortableO prog w A s a vs fun v u => scLt (k v) (k u) := by
  intro h' keep
  have hp' : ∀ v ∈ vs, IsSc h' v (k v) := fun v hm => by
    obtain ⟨b, o, xs, n, e, ho, c, d, v'⟩ := hp v hm
    exact ⟨b, o, xs, n, e, keep b o (fun z => by subst z; exact ha o ho c) ho, c, d, v'⟩
  obtain ⟨fs, h1, h2, h3⟩ := sc_firsts vs hp' hf
  refine ⟨tuples' true, fun Q E hq => ?_, sc_cmp hp' hc⟩
  refine PySem.W.kat_kind (T := .type "str") h1 (by omega) (fun f hm => ?_) (by rfl) ?_
  · obtain ⟨x, t, rfl⟩ := h3 f hm
    exact PySem.W.Looks.now
  · rw [show (Value.type "str" != Value.type "tuple") = true by first | decide +kernel | rfl | decide]
    exact hq
end
/-- the tuple of these -/
def ScT (K : PySem.W.Frag) (H : Hp) (v : V) (d : List Sc) : Prop := ∃ t, v = .ref t ∧ H t = some (.tup (d.map scV))
theorem ScT.ex {K : PySem.W.Frag} {H H' : Hp} {v : V} {d : List Sc} (h : ScT K H v d) (e : Ex H H') : ScT K H' v d := let ⟨t, a, b⟩ := h; ⟨t, a, e _ _ b⟩
def scOf : V → Sc
  | .int z => .inl z
  | .str x => .inr x.cps.toList
  | _ => .inl 0
theorem scOf_V (c : Sc) : scOf (scV c) = c := by
  rcases c with z | l
  · rfl
  · show Sum.inr (tx l).cps.toList = _
    rw [tx_toList]
/-- what a value's tuple says, by H -/
def scAt (H : Hp) (u : Value) : List Sc := match u with
  | .ref t => (match H t with | some (.tup ws) => ws.map scOf | _ => [])
  | _ => []
theorem scAt_of {K : PySem.W.Frag} {H : Hp} {t : Addr} {d : List Sc} (h : H t = some (.tup (d.map scV))) : scAt H (.ref t) = d := by
  show (match H t with | some (.tup ws) => ws.map scOf | _ => []) = d
  rw [h]
  show (d.map scV).map scOf = d
  rw [List.map_map, show scOf ∘ scV = id from funext scOf_V, List.map_id]
def rSortSc (K : PySem.W.Frag) : List V → Hp → VK → Prop := fun vs H Q => ∃ (a : Addr) (xs : List V) (ds : List (List Sc)), vs = [V.ref a] ∧ SqL K H a xs ∧ Paired (ScT K H) xs ds ∧ (∀ d ∈ ds, ∃ x l, d = .inr x :: l) ∧ (∀ d ∈ ds, ∀ e ∈ ds, Cmt d e) ∧
  ∀ ys p, Paired (ScT K H) ys (scSort ds) → H p = none → Q (.ref p) (upd H p (.lst ys))
theorem sc_back {K : PySem.W.Frag} {H : Hp} : ∀ {xs : List V} {ds : List (List Sc)}, Paired (ScT K H) xs ds → ∀ {us : List Value}, Vals xs us → us.map (scAt H) = ds ∧ (∀ u ∈ us, ∃ t, u = Value.ref t ∧ H t = some (.tup ((scAt H u).map scV))) ∧ xs = us.map backV
  | _, _, .nil, _, .nil => ⟨rfl, (fun _ z => nomatch z), rfl⟩
  | _, _, .cons h t, _, .cons r rs => by
    obtain ⟨b, rfl, hb⟩ := h
    cases r
    obtain ⟨i1, i2, i3⟩ := sc_back t rs
    have e := scAt_of (K := K) hb
    refine ⟨?_, fun u hu => ?_, ?_⟩
    · show scAt H (.ref b) :: _ = _
      rw [e, i1]
    · rcases List.mem_cons.mp hu with z | z
      · rw [z, e]
        exact ⟨b, rfl, hb⟩
      · exact i2 u z
    · rw [List.map_cons, ← i3]
      rfl
theorem sc_forth {K : PySem.W.Frag} {H : Hp} : ∀ out : List Value, (∀ u ∈ out, ∃ t, u = Value.ref t ∧ H t = some (.tup ((scAt H u).map scV))) → Paired (ScT K H) (out.map backV) (out.map (scAt H)) ∧ Vals (out.map backV) out
  | [], _ => ⟨.nil, .nil⟩
  | u :: out, h => by
    obtain ⟨i1, i2⟩ := sc_forth (K := K) out fun v hv => h v (List.mem_cons_of_mem _ hv)
    obtain ⟨t, e, ht⟩ := h u List.mem_cons_self
    subst e
    exact ⟨.cons ⟨t, rfl, ht⟩ i1, .cons rfl i2⟩
theorem cr_sortSc {X : Cx} : CallR X (.builtin "sorted") (rSortSc X.K) := by
  intro pins s σ H vs us Q I r h
  obtain ⟨a, xs, ds, rfl, hs, hx, hf, hc, q⟩ := h
  obtain ⟨its, rv, hl, hz⟩ := I.list hs
  rw [Vals.ref1 r]
  obtain ⟨b1, b2, b3⟩ := sc_back hx rv
  have hmem : ∀ u ∈ its, scAt H u ∈ ds := fun u hu => by rw [← b1]; exact List.mem_map.mpr ⟨u, hu, rfl⟩
  have hp : ∀ v ∈ its, IsSc s.heap v (scAt H v) := fun v hv => by
    obtain ⟨t, e, ht⟩ := b2 v hv
    obtain ⟨_, its2, r2, o, ho, hcl, n, hd⟩ := I.hok _ _ ht
    exact ⟨t, o, its2.toArray, n, e, ho, hcl, hd, by rw [List.toList_toArray]; exact r2⟩
  refine SrtO.sorted_ord (sc_swo (scAt H)) hl.isList (by rw [← rv.length]; exact hz) (fun h2 h₁ a' ha kk => ?_) fun out hs1 hb => ?_
  · refine sc_sortable (s := { s with heap := h₁ }) (by omega) (fun v hm => ?_) (fun v hm => hf _ (hmem v hm)) (fun v hm u hu => hc _ (hmem v hm) _ (hmem u hu)) fun o e => ?_
    · obtain ⟨b, o, ys, n, e, ho, c, d, v'⟩ := hp v hm
      exact ⟨b, o, ys, n, e, (kk b o ho).2, c, d, v'⟩
    · have e' : some o = some (seqObj "list" its.toArray 0) := e.symm.trans ha
      cases e'
      intro c
      exact absurd (Value.type.inj c) (by decide)
  · obtain ⟨p1, p2⟩ := sc_forth (K := X.K) out fun u hu => b2 u (hb.perm.mem_iff.mp hu)
    obtain ⟨n, hn⟩ := sortedAll_at s.heap its out.toArray
    have hd : out.map (scAt H) = scSort ds := by
      refine scSort_uniq ?_ (List.pairwise_map.mpr hs1)
      rw [← b1]
      exact hb.perm.map _
    rw [hd] at p1
    refine ⟨.ref _, upd H (s.heap.objs.size + 1) (.lst (out.map backV)), I.laid (t' := s.toks) (fun _ _ => sortedAll_old) (Nat.le_succ _) ⟨?_, out, n, p2, hn⟩, rfl, q _ _ p1 (I.hok.fresh (Nat.le_succ _))⟩
    rw [List.length_map, hb.perm.length_eq, ← rv.length]
    exact hz
end Hid

namespace Hid
open PySem PySem.Spec PyProof.Rows L2
/-! tuples of texts as keys -/
section
variable {P : Program} {w : World} {A : Around} {E : Value → Shared → Prop} {s : Shared}
abbrev IsTx (P : Program) (w : World) (h : Heap) (k : List Str) (a : Addr) : Prop := IsTupleKey (PySem.strKind P w) h k a
theorem tx_items {k : List Str} {vs : List Value} (h : ItemsAre (PySem.strKind P w) k vs) : ∀ v ∈ vs, ∃ x t, v = Value.str x t := by
  induction h with
  | nil => exact fun v z => nomatch z
  | @cons k0 u ks us e _ ih =>
    intro v hv
    rcases List.mem_cons.mp hv with z | z
    · obtain ⟨t, e2⟩ := Value.isStrOf_shape (show Value.isStrOf k0 u = true from e)
      exact ⟨k0, t, z.trans e2⟩
    · exact ih v z
theorem tx_cls (n : Nat) (x : Str) (t : Tok) : ofAClassStatement n (.str x t) = pure false := by cases n <;> rfl
theorem tx_byv (n : Nat) (x : Str) (t : Tok) : hashByValue n (.str x t) = pure (plainKind (Value.str x t)) := hashByValue_scannable n rfl
theorem tx_noclass {k : List Str} {b : Addr} {Q : Bool → Shared → Prop} (hk : IsTx P w s.heap k b) (h : Q false s) : wpAny (model P w) A (ofAClassStatement 8 (.ref b)) Q E s := by
  have ty := hk.typeIs
  obtain ⟨o, items, n, ho, _, hd, hi⟩ := hk
  have all := tx_items hi
  unfold ofAClassStatement
  refine wpAny_bind (wpAny_typeOf ty ?_)
  dsimp only
  simp only [show (("tuple" : String) == "tuple") = true by decide, if_true, Bool.not_true, Bool.false_eq_true, if_false]
  try refine wpAny_bind (wpAny_pure ?_)
  try simp only [Bool.not_true, Bool.false_eq_true, if_false]
  show wpAny _ _ (seqItems? (.ref b) >>= _) _ _ s
  refine wpAny_bind (wpAny_seqItems ho hd (wpAny_bind ?_))
  show wpAny _ _ (forIn items _ _) _ _ s
  rw [← Array.forIn_toList]
  refine wpAny_forIn_list _ (fun rest r z => (r.1 = none ∧ z = s) ∧ ∀ v ∈ rest, ∃ x t, v = Value.str x t) _ ?_ ?_ _ _ ⟨⟨rfl, rfl⟩, all⟩
  · rintro v rest r z ⟨⟨_, rfl⟩, hv⟩
    obtain ⟨x, t, rfl⟩ := hv v List.mem_cons_self
    rw [tx_cls]
    refine wpAny_bind (wpAny_pure ?_)
    simp only [Bool.false_eq_true, if_false]
    exact wpAny_pure ⟨⟨rfl, rfl⟩, fun u hu => hv u (List.mem_cons_of_mem _ hu)⟩
  · rintro ⟨r1, r2⟩ z ⟨⟨hr, rfl⟩, _⟩
    simp only at hr
    subst hr
    exact wpAny_pure h
theorem tx_hashBy {k : List Str} {b : Addr} {Q : Bool → Shared → Prop} (hk : IsTx P w s.heap k b) (h : ∀ c, Q c s) : wpAny (model P w) A (hashByValue 8 (.ref b)) Q E s := by
  have ty := hk.typeIs
  obtain ⟨o, items, n, ho, _, hd, hi⟩ := hk
  have all := tx_items hi
  unfold hashByValue
  refine wpAny_bind (wpAny_specialOf ty PySem.F.slot_tuple_hash.lookup ?_)
  show wpAny _ _ (seqItems? (.ref b) >>= _) _ _ s
  refine wpAny_bind (wpAny_seqItems ho hd (wpAny_bind ?_))
  show wpAny _ _ (forIn items _ _) _ _ s
  rw [← Array.forIn_toList]
  refine wpAny_forIn_list _ (fun rest r z => z = s ∧ ∀ v ∈ rest, ∃ x t, v = Value.str x t) _ ?_ ?_ _ _ ⟨rfl, all⟩
  · rintro v rest r z ⟨rfl, hv⟩
    obtain ⟨x, t, rfl⟩ := hv v List.mem_cons_self
    rw [tx_byv]
    refine wpAny_bind (wpAny_pure ?_)
    cases plainKind (Value.str x t)
    · simp only [Bool.not_false, if_true]
      exact wpAny_pure (wpAny_pure (h _))
    · simp only [Bool.not_true, Bool.false_eq_true, if_false]
      exact wpAny_pure ⟨rfl, fun u hu => hv u (List.mem_cons_of_mem _ hu)⟩
  · rintro ⟨r1, r2⟩ z ⟨rfl, _⟩
    cases r1 with
    | none => exact wpAny_pure (h _)
    | some c => exact wpAny_pure (h _)
theorem tx_seen {k : List Str} {b : Addr} {ys : List Value} {Q : Bool → Shared → Prop} (hk : IsTx P w s.heap k b) (hy : ∀ y ∈ ys, ∃ k' c, y = Value.ref c ∧ IsTx P w s.heap k' c) (h : Q false s) : wpAny (model P w) A (searchCouldBeSeen (.ref b) ys) Q E s := by
  unfold searchCouldBeSeen
  refine wpAny_bind (wpAny_forIn_list _ (fun rest r z => (r.1 = none ∧ z = s) ∧ ∀ y ∈ rest, ∃ k' c, y = Value.ref c ∧ IsTx P w s.heap k' c) _ ?_ ?_ _ _ ⟨⟨rfl, rfl⟩, hy⟩)
  · rintro v rest r z ⟨⟨_, rfl⟩, hv⟩
    obtain ⟨k', c, rfl, hc⟩ := hv v List.mem_cons_self
    have done : (none, ()).1 = (none : Option Bool) ∧ z = z := ⟨rfl, rfl⟩
    have left : ∀ y ∈ rest, ∃ k' c, y = Value.ref c ∧ IsTx P w z.heap k' c := fun u hu => hv u (List.mem_cons_of_mem _ hu)
    dsimp only
    by_cases q : (b == c || (carriedByValue (.ref b) && carriedByValue (.ref c))) = true
    · exact wp_if_pos q (wpAny_pure ⟨⟨rfl, rfl⟩, left⟩)
    · refine wp_if_neg q (wpAny_bind (wpAny_eqIsQuiet_tuple hk ?_))
      simp only [Bool.not_true, Bool.false_eq_true, if_false]
      refine wpAny_bind (wpAny_eqIsQuiet_tuple hc ?_)
      simp only [Bool.not_true, Bool.false_eq_true, if_false]
      refine wpAny_bind (tx_noclass hk ?_)
      simp only [Bool.false_eq_true, if_false]
      refine wpAny_bind (tx_noclass hc ?_)
      simp only [Bool.false_eq_true, if_false]
      exact wpAny_pure ⟨⟨rfl, rfl⟩, left⟩
  · rintro ⟨r1, r2⟩ z ⟨⟨hr, rfl⟩, _⟩
    simp only at hr
    subst hr
    exact wpAny_pure h
end
def txV (P : Program) (w : World) : KeyV P w (List Str) where
  is := fun h k a => IsTx P w h k a
  hs := fun k => tupleKeyHash (PySem.strKind P w) k
  eq := fun hu hx hy q => wpAny_eqBool_tuple hu hx hy q
  seen := fun hk hy q => tx_seen hk hy q
  byv := fun hk q => tx_hashBy hk q
  hash := fun hu hk q => wpAny_pyHash_tuple hu hk (q _ (Nat.le_add_right _ _))
  keep := fun hk e => let ⟨o, items, n, ho, r⟩ := hk; ⟨o, items, n, e o ho, r⟩
  obj := fun hk => let ⟨o, items, n, ho, _, hd, _⟩ := hk; ⟨o, ho, fun es ep t z => by rw [hd] at z; cases z⟩
/-! sorted of such a set -/
section
variable {P : Program} {w : World} {κ : Type} [DecidableEq κ] {V : KeyV P w κ} {A : Around} {E : Value → Shared → Prop} {s : Shared} {a : Addr} {L : List (Addr × κ)} {es : Array (Int × Value)} {ep : Nat} {t : SetTable}
theorem k_sorted (R : KSet V s.heap a L es ep t) (hh : A.handled = none) {kf : Value → List Sc} (hp : ∀ p ∈ L, IsSc s.heap (.ref p.1) (kf (.ref p.1))) (hf : ∀ p ∈ L, ∃ x l, kf (.ref p.1) = .inr x :: l) (hc : ∀ p ∈ L, ∀ q ∈ L, Cmt (kf (.ref p.1)) (kf (.ref q.1)))
    {Q : Value → Shared → Prop} (hQ : ∀ s' p (out : List Value) (c : Nat), (∀ b o, s.heap.get? b = some o → s'.heap.get? b = some o) → s'.gens = s.gens → s'.os = s.os → s.heap.objs.size ≤ p → s'.heap.get? p = some (seqObj "list" out.toArray c) → out.Perm (L.map fun q => Value.ref q.1) → (out.map kf).Pairwise (fun x y => scLt y x = false) → Q (.ref p) s') :
    wpAny (model P w) A (call (.builtin "sorted") [.ref a]) Q E s := by
  obtain ⟨o, ho, hex, hd⟩ := R.at_
  have hsz := row_len' R.row
  have hfew := R.few
  refine Calls.call_function_entry kind_sorted plain_sorted entry_sorted (args_sorted1 _) ?_
  unfold Builtin.«sorted»
  refine wpAny_bind (m := checkCount "sorted" 1 1 _) (wpAny_pure (wpAny_bind (collect_set (A := A.in1) hh ⟨o, ho, hex.1, hd⟩ R.fit (by unfold scanBound; omega) R.tab.ris R.ld fun s1 vs k1 hz g1 o1 pm => ?_)))
  have hes : es.toList.map (·.2) = L.map fun q => Value.ref q.1 := by
    rw [R.row, List.map_map]
    rfl
  rw [hes] at pm
  have hvl : vs.length = L.length := by rw [pm.length_eq, List.length_map]
  have hm : ∀ v ∈ vs, ∃ p ∈ L, v = Value.ref p.1 := fun v hv => by
    obtain ⟨p, hp, e⟩ := List.mem_map.mp (pm.mem_iff.mp hv)
    exact ⟨p, hp, e.symm⟩
  have h100 : L.length ≤ sizeLine := by rw [sizeLine_eq]; omega
  refine wpAny_bind (wpAny_newList ?_ (by rw [hvl]; exact h100))
  have hoL : (s1.heap.push (seqObj "list" vs.toArray 0)).get? s1.heap.objs.size = some (seqObj "list" vs.toArray 0) := Heap.get?_push_size _ rfl
  have up : ∀ p ∈ L, IsSc (s1.heap.push (seqObj "list" vs.toArray 0)) (.ref p.1) (kf (.ref p.1)) := fun p q => by
    obtain ⟨b, u, xs, n, e, hu, c, d, z⟩ := hp p q
    exact ⟨b, u, xs, n, e, Heap.get?_push_of_some _ (k1 _ _ hu), c, d, z⟩
  refine wpAny_bind (wpAny_holding ?_)
  refine wpAny_call_entry slot_list_sort ⟨_, hoL, rfl⟩ entry_list_sort (SrtO.list_sort_ord (s := { s1 with heap := s1.heap.push (seqObj "list" vs.toArray 0) }) (sc_swo kf) hoL (by rw [hvl]; exact h100) (fun h2 => sc_sortable (by omega) (fun v hv => ?_) (fun v hv => ?_) (fun v hv u hu => ?_) fun o e => ?_) fun out h1 h2 => ⟨.none, rfl, ?_⟩) (args_list_sort _)
  · obtain ⟨p, hp', rfl⟩ := hm v hv
    exact up p hp'
  · obtain ⟨p, hp', rfl⟩ := hm v hv
    exact hf p hp'
  · obtain ⟨p, hp', rfl⟩ := hm v hv
    obtain ⟨q, hq', rfl⟩ := hm u hu
    exact hc p hp' q hq'
  · have e' : some o = some (seqObj "list" vs.toArray 0) := e.symm.trans hoL
    cases e'
    intro c
    exact absurd (Value.type.inj c) (by decide)
  · obtain ⟨c, hcc⟩ := sortedHeap_at (vs := vs) (out := out.toArray) hoL
    refine wpAny_pure ⟨_, rfl, hQ _ s1.heap.objs.size out c (fun b u e => ?_) g1 o1 hz hcc (h2.perm.trans pm) (List.pairwise_map.mpr h1)⟩
    have q := k1 b u e
    have hlt := Heap.lt_size q
    show (sortedHeap (s1.heap.push (seqObj "list" vs.toArray 0)) s1.heap.objs.size vs out.toArray).get? b = some u
    rw [sortedHeap_old (Nat.ne_of_lt hlt) (by rw [size_push']; exact Nat.lt_succ_of_lt hlt)]
    exact Heap.get?_push_of_some _ q
end
/-! sorted(set(e)), e a list of tuples of texts -/
def TxT (d : List Sc) : Prop := ∃ (x : List Nat) (ls : List (List Nat)), d = (x :: ls).map Sum.inr
def keyT (d : List Sc) : List Str := d.map fun c => match c with | .inr l => tx l | .inl _ => Str.empty
theorem cmt_tx : ∀ ls ms : List (List Nat), Cmt (ls.map Sum.inr) (ms.map Sum.inr)
  | [], [] => trivial
  | [], _ :: _ => trivial
  | _ :: _, [] => trivial
  | l :: ls, m :: ms => ⟨fun _ => cmt_tx ls ms, fun _ => .inr ⟨l, m, rfl, rfl⟩⟩
theorem keyT_inj {d e : List Sc} (hd : TxT d) (he : TxT e) (h : keyT d = keyT e) : d = e := by
  obtain ⟨x, ls, rfl⟩ := hd
  obtain ⟨y, ms, rfl⟩ := he
  have z : ∀ l : List (List Nat), keyT (l.map Sum.inr) = l.map tx := fun l => by
    unfold keyT
    rw [List.map_map]
    rfl
  rw [z, z] at h
  refine congrArg (fun l : List (List Nat) => l.map (Sum.inr : List Nat → Sc)) ?_
  exact (List.map_inj_right fun a b e => tx_inj e).mp h
theorem items_tx {P : Program} {w : World} : ∀ {ls : List (List Nat)} {us : List Value}, Vals ((ls.map Sum.inr).map scV) us → ItemsAre (PySem.strKind P w) (keyT (ls.map Sum.inr)) us
  | [], _, .nil => .nil
  | l :: ls, _, .cons r rs => by
    obtain ⟨t, rfl⟩ := r
    exact .cons (strKind_is P w (tx l) t) (items_tx rs)
def tSortSetT (K : PySem.W.Frag) (te : TE) : TE := fun σ H Q => te σ H fun v H1 => ∃ (a : Addr) (xs : List V) (ds : List (List Sc)), v = .ref a ∧ SqL K H1 a xs ∧ Paired (ScT K H1) xs ds ∧ (∀ d ∈ ds, TxT d) ∧ xs.length < 64 ∧
  ∀ (ys : List V) (es : List (List Sc)) (p : Addr), Paired (ScT K H1) ys es → (es.Pairwise fun x y => scLt x y = true) → (∀ d, d ∈ es ↔ d ∈ ds) → H1 p = none → Q (.ref p) (upd H1 p (.lst ys))
theorem pe_sortSetT {X : Cx} {e : Expr} {te : TE} {p p2 pos pos2 : Pos} (hc : X.calm = true) (hu : X.A.units + 64 < cLine) (hg : Gl X "sorted") (hm : X.mg "sorted" = none) (hg2 : Gl X "set") (hm2 : X.mg "set" = none) (he : PE X e te)
    (hs : starEach [e] X.env = (false, eval e X.env) :: starEach [] X.env := by rfl)
    (hs2 : starEach [.Call (.Name "set" p2) [e] [] pos2] X.env = (false, eval (.Call (.Name "set" p2) [e] [] pos2) X.env) :: starEach [] X.env := by rfl) :
    PE X (.Call (.Name "sorted" p) [.Call (.Name "set" p2) [e] [] pos2] [] pos) (tSortSetT X.K te) := by
  refine ⟨fun pins s σ H Q I h => ?_⟩
  refine wpAny_Call_Name_kw (ld_blt I hg hm (by decide +kernel : bootBuiltins "sorted" = some (.builtin "sorted")) ?_)
  refine callWith_builtin1 (args_cons (Call_ (ld_blt I hg2 hm2 (by decide +kernel : bootBuiltins "set" = some (.type "set")) (callWith_type1 (args_cons (thn (he.run pins s σ H _ I h) fun u s1 ⟨v, H1, I1, r1, q1⟩ => args_nil ?_) hs) hs rfl))) hs2) hs2 rfl
  obtain ⟨a, xs, ds, ev, hq, hpx, htx, hl64, q⟩ := q1
  subst ev
  obtain rfl : u = Value.ref a := r1
  obtain ⟨its, rv, p', hz⟩ := I1.list hq
  have hh := I1.ok.hd hc
  obtain ⟨b1, b2, b3⟩ := sc_back hpx rv
  have hmem : ∀ u ∈ its, scAt H1 u ∈ ds := fun u hu => by rw [← b1]; exact List.mem_map.mpr ⟨u, hu, rfl⟩
  have ex : ∀ us : List Value, (∀ u ∈ us, u ∈ its) → ∃ ks : List (Addr × List Str), us = ks.map (fun p => Value.ref p.1) ∧ ∀ p ∈ ks, Value.ref p.1 ∈ its ∧ p.2 = keyT (scAt H1 (.ref p.1)) := by
    intro us
    induction us with
    | nil => exact fun _ => ⟨[], rfl, fun _ z => nomatch z⟩
    | cons u us ih =>
      intro hus
      obtain ⟨ks, e1, e2⟩ := ih fun v hv => hus v (List.mem_cons_of_mem _ hv)
      have hu' := hus u List.mem_cons_self
      obtain ⟨t, rfl, _⟩ := b2 u hu'
      refine ⟨(t, keyT (scAt H1 (.ref t))) :: ks, by rw [List.map_cons, e1], fun p hp => ?_⟩
      rcases List.mem_cons.mp hp with z | z
      · rw [z]
        exact ⟨hu', rfl⟩
      · exact e2 p z
  obtain ⟨ks, hks, hkp⟩ := ex its fun u hu => hu
  have hkl : ks.length = xs.length := by
    have z := congrArg List.length hks
    rw [List.length_map] at z
    rw [← z, ← rv.length]
  have kis : ∀ {h : Heap}, (∀ b o, s1.heap.get? b = some o → h.get? b = some o) → ∀ p ∈ ks, (txV X.prog X.w).is h p.2 p.1 ∧ IsSc h (.ref p.1) (scAt H1 (.ref p.1)) := fun {h} kk p hp => by
    obtain ⟨hi, e⟩ := hkp p hp
    obtain ⟨t, e2, ht⟩ := b2 _ hi
    cases e2
    obtain ⟨_, its2, r2, o, ho, hcl, n, hd⟩ := I1.hok _ _ ht
    obtain ⟨x, ls, ed⟩ := htx _ (hmem _ hi)
    refine ⟨?_, p.1, o, its2.toArray, n, rfl, kk _ _ ho, hcl, hd, by rw [List.toList_toArray]; exact r2⟩
    rw [e]
    refine ⟨o, its2.toArray, n, kk _ _ ho, hcl, hd, ?_⟩
    rw [List.toList_toArray]
    rw [ed] at r2 ⊢
    exact items_tx r2
  obtain ⟨o0, n0, e0, c0, _, d0⟩ := p'
  refine k_setOf (V := txV X.prog X.w) (ks := ks) hh ⟨o0, e0, c0, n0, d0⟩ (by rw [List.toList_toArray]; exact hks) (fun p hp => (kis (fun _ _ z => z) p hp).1) (by omega) (by omega) fun h' tk L es ep t hS hf hk => args_nil ?_
  have I2 : Inv X pins σ H1 { s1 with heap := h', toks := tk } := I1.kept (t' := tk) fun b o e => hk b o (Heap.lt_size e) e
  have hk2 : ∀ b o, s1.heap.get? b = some o → h'.get? b = some o := fun b o e => hk b o (Heap.lt_size e) e
  have dL : ∀ p ∈ L, TxT (scAt H1 (.ref p.1)) := fun p hp => htx _ (hmem _ (hkp p (hf.sub p hp)).1)
  refine k_sorted (s := { s1 with heap := h', toks := tk }) hS hh (kf := scAt H1) (fun p hp => (kis hk2 p (hf.sub p hp)).2) (fun p hp => ?_) (fun p hp q hq => ?_) fun s' p3 out c kk g o hp hget hpm hpw => ?_
  · obtain ⟨x, ls, ed⟩ := dL p hp
    exact ⟨x, ls.map Sum.inr, ed⟩
  · obtain ⟨x, ls, ed⟩ := dL p hp
    obtain ⟨y, ms, ee⟩ := dL q hq
    rw [ed, ee]
    exact cmt_tx _ _
  have hn : H1 p3 = none := I2.hok.fresh hp
  have hom : ∀ u ∈ out, ∃ p ∈ L, u = Value.ref p.1 := fun u hu => by
    obtain ⟨p, hp, e⟩ := List.mem_map.mp (hpm.mem_iff.mp hu)
    exact ⟨p, hp, e.symm⟩
  obtain ⟨w1, w2⟩ := sc_forth (K := X.K) (H := H1) out fun u hu => by
    obtain ⟨p, hp, rfl⟩ := hom u hu
    exact b2 _ (hkp p (hf.sub p hp)).1
  have hys : (out.map backV).length ≤ sizeLine := by
    have z := hf.len
    rw [List.length_map, hpm.length_eq, List.length_map, sizeLine_eq]
    omega
  have J : Inv X pins σ (upd H1 p3 (.lst (out.map backV))) { ({ s1 with heap := h', toks := tk } : Shared) with heap := s'.heap, gens := s'.gens, drawn := s'.drawn, toks := s'.toks } :=
    I2.call (ch := []) (Un.laid kk hp hn) (I2.hok.laid kk hp ⟨hys, out, c, w2, hget⟩) (by rw [g]; exact I2.bare) (fun _ z => nomatch z)
  have e : s' = { ({ s1 with heap := h', toks := tk } : Shared) with heap := s'.heap, gens := s'.gens, drawn := s'.drawn, toks := s'.toks } := by
    have o2 : s'.os = s1.os := o
    obtain ⟨x1, x2, x3, x4, x5⟩ := s'
    dsimp only at o2 ⊢
    rw [o2]
  rw [e]
  refine ⟨.ref p3, _, J, rfl, q _ _ p3 w1 ?_ (fun d => ⟨fun hd => ?_, fun hd => ?_⟩) hn⟩
  · have nd : (out.map (scAt H1)).Nodup := by
      refine (hpm.map (scAt H1)).nodup_iff.mpr ?_
      rw [List.map_map]
      have z : ∀ p ∈ L, keyT (scAt H1 (.ref p.1)) = p.2 := fun p hp => (hkp p (hf.sub p hp)).2.symm
      refine List.pairwise_map.mpr (List.Pairwise.imp_of_mem (fun {p q} hp hq hne hh => hne ?_) (List.pairwise_map.mp hS.nd))
      rw [← z p hp, ← z q hq]
      exact congrArg keyT hh
    refine (List.pairwise_and_iff.mpr ⟨hpw, nd⟩ : (out.map (scAt H1)).Pairwise fun x y => scLt y x = false ∧ x ≠ y).imp fun {x y} h => ?_
    cases z : scLt x y with
    | true => rfl
    | false => exact absurd (lex_total (O := itemOrd) x y z h.1) h.2
  · obtain ⟨u, hu, rfl⟩ := List.mem_map.mp hd
    obtain ⟨p, hp, rfl⟩ := hom u hu
    exact hmem _ (hkp p (hf.sub p hp)).1
  · rw [← b1] at hd
    obtain ⟨u, hu, rfl⟩ := List.mem_map.mp hd
    rw [hks] at hu
    obtain ⟨p, hp, rfl⟩ := List.mem_map.mp hu
    obtain ⟨p', hp', e'⟩ := List.mem_map.mp (hf.all p hp)
    have k1 := (hkp p hp).2
    have k2 := (hkp p' (hf.sub p' hp')).2
    have e3 : scAt H1 (.ref p'.1) = scAt H1 (.ref p.1) := keyT_inj (dL p' hp') (htx _ (hmem _ (hkp p hp).1)) (by rw [← k1, ← k2]; exact e')
    rw [← e3]
    exact List.mem_map.mpr ⟨.ref p'.1, hpm.mem_iff.mpr (List.mem_map.mpr ⟨p', hp', rfl⟩), rfl⟩
end Hid

namespace Hid
open PySem PySem.Spec PyProof.Rows L2
section
variable {prog : Program} {w : World} {A : Around} {E : Value → Shared → Prop} {s : Shared}
theorem tSetOfI {l : Addr} {items : Array Value} {xs : List Int} {Q : Value → Shared → Prop} (hh : A.handled = none) (hl : s.heap.IsList l items) (hi : IntsAre items.toList xs) (hsm : xs.length < 4000)
    (h : ∀ (h' : Heap) (tk c : Nat), SetR w h' s.heap.objs.size (fun j => decide (j ∈ xs)) c → c ≤ xs.length → (∀ b o, b < s.heap.objs.size → s.heap.get? b = some o → h'.get? b = some o) → Q (.ref s.heap.objs.size) { s with heap := h', toks := tk }) :
    wpAny (model prog w) A (call (.type "set") [.ref l]) Q E s := by
  obtain ⟨c, tl, hmro⟩ := PySem.F.called_set.mro
  have hmade := PySem.F.called_set.made; have hsub := PySem.F.called_set.sub
  refine wpAny_call (codeAny_of_tree ?_)
  show wpAny _ _ (callAny (.type "set") _) _ _ _
  refine wpAny_pure ⟨Code.quiet_builtin _ (by decide +kernel), codeAny_builtin PySem.F.entry_type_call ?_⟩
  rw [Around.under_plain (weight_type_call_type "set" [.ref l] []) rfl]
  have h1 := PySem.F.called_set.notType; have h2 := PySem.F.called_set.canCreate; have hct := PySem.F.typeCall_set_1 (.ref l)
  repeat any_goals (first | assumption | wp_step)
  refine codeAny_mono (tSetNew (.ref l) (E := E) (Q₁ := fun obj s₁ => obj = .ref s.heap.objs.size ∧ s₁ = { s with heap := s.heap.push (newSet (!w.params.followText "set-order")) }) ⟨rfl, rfl⟩) fun r s₁ hr => ?_
  cases r with
  | error e => exact hr
  | ok fl =>
    cases fl with
    | next => exact hr.elim
    | brk => exact hr.elim
    | cont => exact hr.elim
    | ret obj =>
      obtain ⟨rfl, rfl⟩ := hr
      generalize hled : (!w.params.followText "set-order") = led
      have hlo : w.params.followText "set-order" = true ∨ led = true := by
        rw [← hled]
        cases w.params.followText "set-order" <;> simp
      have hS : (s.heap.push (newSet led)).get? s.heap.objs.size = some (newSet led) := Heap.get?_push_size _ rfl
      have hT : Shared.TypeIs { s with heap := s.heap.push (newSet led) } (.ref s.heap.objs.size) "set" := ⟨_, hS, rfl⟩
      have hli := PySem.F.called_set.init.lookup; have hbi := PySem.F.called_set.init.bind (.ref s.heap.objs.size)
      repeat any_goals (first | assumption | wp_step)
      refine codeAny_mono (codeAny_call_builtin (R := wants (fun r s₂ => r = .none ∧ ∃ h' tk c, s₂ = { s with heap := h', toks := tk } ∧ SetR w h' s.heap.objs.size (fun j => decide (j ∈ xs)) c ∧ c ≤ xs.length ∧ (∀ b o, b < s.heap.objs.size → s.heap.get? b = some o → h'.get? b = some o)) E) PySem.F.called_set.init.plain PySem.F.entry_set_init (check_set_init_1 hT ?_)) fun r₂ s₂ hr₂ => ?_
      · obtain ⟨⟨ocls, odict, odata, oslots⟩, hol, hcl, nl, hdl⟩ := hl
        simp only at hcl hdl
        subst hcl; subst hdl
        have hol' : (s.heap.push (newSet led)).get? l = some { cls := .type "list", dict := odict, data := .seq items nl, slots := oslots } := Heap.get?_push_of_some _ hol
        have hsls := PySem.F.sub_list_set; have hslf := PySem.F.sub_list_frozenset
        have hne : (Value.type "list" == Value.type "dict") = false := by decide
        have hl1 : (s.heap.push (newSet led)).IsList l items := ⟨_, hol', rfl, nl, rfl⟩
        unfold Builtin.«set.__init__» noKeywords Builtin.Frozenset.updateFrom
        generalize hPI : pyIter = PI
        wp_walk
        subst hPI
        refine wpAny_pyIter_list hl1 (wpAny_bind (wpAny_runValue ?_))
        have hlS : l < s.heap.objs.size := Heap.lt_size hol
        have hh3 : A.in1.in1.in1.handled = none := by simp [hh]
        have hneI : l ≠ (s.heap.push (newSet led)).objs.size := by
          rw [Heap.size_push]
          exact Nat.ne_of_lt (Nat.lt_succ_of_lt hlS)
        have hSf : s.heap.objs.size ∉ [(s.heap.push (newSet led)).objs.size, l] := by
          rw [Heap.size_push]
          simp only [List.mem_cons, List.not_mem_nil, or_false, not_or]
          exact ⟨Nat.ne_of_lt (Nat.lt_succ_self _), Nat.ne_of_gt hlS⟩
        have hsz : items.size = xs.length := by rw [← IntsAre.length hi, Array.length_toList]
        have hval : ∀ (i : Nat) (v : Value), items[i]? = some v → ∃ k t, xs[i]? = some k ∧ v = .int k t := fun i v hv => by
          have hlt : i < xs.length := hsz ▸ (Array.getElem?_eq_some_iff.mp hv).1
          obtain ⟨t, e⟩ := IntsAre.int_at hi i v (by rw [Array.getElem?_toList]; exact hv)
          exact ⟨xs[i], t, List.getElem?_eq_getElem hlt, by rw [e, List.getD_eq_getElem?_getD, List.getElem?_eq_getElem hlt]; rfl⟩
        refine set_update_ints ((Walks.list hh3 _ l hneI items).toS) s.heap.objs.size hSf xs hsz (by unfold scanBound; omega) hval (items.size - 0) 0 _ (by omega) (Nat.zero_le _)
          ⟨⟨_, Heap.get?_push_size _ rfl, rfl, rfl⟩, (hl1.push _)⟩ ⟨0, Nat.le_refl 0, setR_new_at (by rw [hled]; exact Heap.get?_push_of_some _ hS)⟩ fun s' c' hm hc' hS' => ?_
        obtain ⟨h', g', d', tk', os'⟩ := s'
        obtain rfl : g' = s.gens := hm.gens
        obtain rfl : d' = s.drawn := hm.drawn
        obtain rfl : os' = s.os := hm.os
        show wpAny _ _ _ _ _ _
        refine wpAny_pure ?_
        show wpAny _ _ (ret Value.none) _ _ _
        refine wpAny_pure ⟨rfl, h', tk', c', rfl, hS', by rw [← hsz]; exact hc', fun b o hb e => hm.heap b o ?_ (Heap.get?_push_of_some _ (Heap.get?_push_of_some _ e))⟩
        simp only [List.mem_cons, List.not_mem_nil, or_false, not_or]
        refine ⟨Nat.ne_of_lt hb, ?_⟩
        rw [Heap.size_push]
        exact Nat.ne_of_lt (Nat.lt_succ_of_lt hb)
      · cases r₂ with
        | error e => exact hr₂
        | ok fl₂ =>
          cases fl₂ with
          | next => exact hr₂.elim
          | brk => exact hr₂.elim
          | cont => exact hr₂.elim
          | ret r =>
            obtain ⟨rfl, h', tk, c', rfl, hS', hc', hk'⟩ := hr₂
            repeat any_goals (first | assumption | wp_step)
            exact h _ _ _ hS' hc' hk'
end
/-- sorted(set(e)), e a list of whole numbers -/
def tSortSetI (K : PySem.W.Frag) (te : TE) : TE := fun σ H Q => te σ H fun v H1 => ∃ (a : Addr) (xs : List Int), v = .ref a ∧ SqL K H1 a (xs.map V.int) ∧ xs.length < 64 ∧ ∀ (ys : List Int) (p : Addr), ys.Pairwise (· < ·) → ys.length ≤ xs.length → (∀ x, x ∈ ys ↔ x ∈ xs) → H1 p = none → Q (.ref p) (upd H1 p (.lst (ys.map V.int)))
theorem pe_sortSetI {X : Cx} {e : Expr} {te : TE} {p p2 pos pos2 : Pos} (hc : X.calm = true) (hg : Gl X "sorted") (hm : X.mg "sorted" = none) (hg2 : Gl X "set") (hm2 : X.mg "set" = none) (he : PE X e te)
    (hs : starEach [e] X.env = (false, eval e X.env) :: starEach [] X.env := by rfl)
    (hs2 : starEach [.Call (.Name "set" p2) [e] [] pos2] X.env = (false, eval (.Call (.Name "set" p2) [e] [] pos2) X.env) :: starEach [] X.env := by rfl) :
    PE X (.Call (.Name "sorted" p) [.Call (.Name "set" p2) [e] [] pos2] [] pos) (tSortSetI X.K te) := by
  refine ⟨fun pins s σ H Q I h => ?_⟩
  refine wpAny_Call_Name_kw (ld_blt I hg hm (by decide +kernel : bootBuiltins "sorted" = some (.builtin "sorted")) ?_)
  refine callWith_builtin1 (args_cons (Call_ (ld_blt I hg2 hm2 (by decide +kernel : bootBuiltins "set" = some (.type "set")) (callWith_type1 (args_cons (thn (he.run pins s σ H _ I h) fun u s1 ⟨v, H1, I1, r1, q1⟩ => args_nil ?_) hs) hs rfl))) hs2) hs2 rfl
  obtain ⟨a, xs, ev, hq, hsm, q⟩ := q1
  subst ev
  obtain rfl : u = Value.ref a := r1
  obtain ⟨its, rv, p', hz⟩ := I1.list hq
  have hh := I1.ok.hd hc
  obtain ⟨o0, n0, e0, c0, _, d0⟩ := p'
  refine tSetOfI hh ⟨o0, e0, c0, n0, d0⟩ (by rw [List.toList_toArray]; exact rv.ints) (by omega) fun h' tk c hS hcl hk => args_nil ?_
  have I2 : Inv X pins σ H1 { s1 with heap := h', toks := tk } := I1.kept (t' := tk) fun b o e => hk b o (Heap.lt_size e) e
  refine sorted_set (s := { s1 with heap := h', toks := tk }) hS hh (by omega) fun s' p3 out c2 ys k g o hp hget hst hri hpm hyl => ?_
  have hn : H1 p3 = none := I2.hok.fresh hp
  have hys : ys.length ≤ sizeLine := by rw [hyl, sizeLine_eq]; omega
  have J : Inv X pins σ (upd H1 p3 (.lst (ys.map V.int))) { ({ s1 with heap := h', toks := tk } : Shared) with heap := s'.heap, gens := s'.gens, drawn := s'.drawn, toks := s'.toks } :=
    I2.call (ch := []) (Un.laid k hp hn) (I2.hok.laid k hp ⟨by rw [List.length_map]; exact hys, out.toList, c2, vals_of_ints hst, hget⟩) (by rw [g]; exact I2.bare) (fun _ z => nomatch z)
  have e : s' = { ({ s1 with heap := h', toks := tk } : Shared) with heap := s'.heap, gens := s'.gens, drawn := s'.drawn, toks := s'.toks } := by
    have o2 : s'.os = s1.os := o
    obtain ⟨x1, x2, x3, x4, x5⟩ := s'
    dsimp only at o2 ⊢
    rw [o2]
  rw [e]
  refine ⟨.ref p3, _, J, rfl, q ys p3 hri (by omega) (fun x => ?_) hn⟩
  rw [hpm]
  exact decide_eq_true_iff
end Hid

namespace Hid
open PySem PySem.Spec PyProof.Rows L2 Evl
/-! zip of two tuples, as a walk -/
theorem walk_zipT {K : PySem.W.Frag} {a b : Addr} {xs ys : List V} {n : Nat} (hn : n = min xs.length ys.length) : Walk (RZ.ItzT K a b) n (fun H => SqT K H a xs ∧ SqT K H b ys) (YPair (fun i => xs[i]?) (fun i => ys[i]?)) := by
  subst hn
  constructor
  · intro i H hi q
    have hx : i < xs.length := Nat.lt_of_lt_of_le hi (Nat.min_le_left _ _)
    have hy : i < ys.length := Nat.lt_of_lt_of_le hi (Nat.min_le_right _ _)
    exact ⟨xs, ys, xs[i], ys[i], q.1, q.2, List.getElem?_eq_getElem hx, List.getElem?_eq_getElem hy⟩
  · intro H q
    exact ⟨xs, ys, q.1, q.2, by omega⟩
  · rintro i H v H' _ q ⟨T, x, z, e, n, u, hx, hy⟩
    exact ⟨T, x, z, e, n, u, hx xs q.1, hy ys q.2⟩
/-! xs.remove(z), texts -/
def eqz (z : Str) (v : Value) : Bool := match v with
  | .str y _ => y.cps.toList == z.cps.toList
  | _ => false
theorem eqz_gives {z : Str} {t : Tok} : ∀ {us : List Value} {ys : List Str}, StrsAre us ys → ∀ v ∈ us, MeetsSeq.EqGives v (.str z t) (eqz z v)
  | _, _, .nil => fun _ h => nomatch h
  | _, _, .cons y t' r => fun v h => (List.mem_cons.mp h).elim (fun e => by rw [e]; exact SeqRoads2.EqGives.str y z t' t) (eqz_gives r v)
theorem strs_at' : ∀ {us : List Value} {ys : List Str}, StrsAre us ys → ∀ (j : Nat) (y : Str), ys[j]? = some y → ∃ t, us[j]? = some (.str y t)
  | _, _, .nil, j, y, h => by simp at h
  | _, _, .cons x t r, 0, y, h => by cases h; exact ⟨t, rfl⟩
  | _, _, .cons x t r, j + 1, y, h => strs_at' r j y h
theorem erase_at {z : Str} : ∀ {ys : List Str}, z ∈ ys → ∃ j, ys[j]? = some z ∧ (∀ (m : Nat) y, m < j → ys[m]? = some y → y ≠ z) ∧ ys.eraseIdx j = ys.erase z
  | [], h => nomatch h
  | y :: ys, h => by
    by_cases e : y = z
    · subst e
      exact ⟨0, rfl, fun m _ hm _ => absurd hm (Nat.not_lt_zero _), by simp⟩
    · have h' : z ∈ ys := (List.mem_cons.mp h).resolve_left fun q => e q.symm
      obtain ⟨j, a, b, c⟩ := erase_at h'
      refine ⟨j + 1, a, fun m x hm hx => ?_, ?_⟩
      · cases m with
        | zero => cases hx; exact e
        | succ m => exact b m x (Nat.lt_of_succ_lt_succ hm) hx
      · rw [List.erase_cons_tail (by simpa using e), ← c]
        rfl
section
variable {X : Cx}
def rRemS : V → List V → Hp → VK → Prop := fun x xs H Q => ∃ (l : Addr) (ys : List Str) (z : Str), x = .ref l ∧ xs = [.str z] ∧ H l = some (.lst (ys.map V.str)) ∧ z ∈ ys ∧ Q .non (upd H l (.lst ((ys.erase z).map V.str)))
theorem mt_removeS : MtM X "list.remove" rRemS := by
  rintro pins s σ H x xs v us Q I rx rxs ⟨l, ys, z, rfl, rfl, hH, hz, q⟩
  obtain ⟨j, hj, hno, he⟩ := erase_at hz
  obtain ⟨u, rfl, t, rfl⟩ := rxs.one
  cases rx
  obtain ⟨sz, its, n, r, hl, e⟩ := I.lstM hH
  have hi : StrsAre its ys := strs_of_vals r
  have hjy := (List.getElem?_eq_some_iff.mp hj).1
  rw [List.length_map] at hl sz
  have hjl : j < its.toArray.size := by rw [List.size_toArray, ← hl]; exact hjy
  refine call_meets PySem.F.slot_list_remove ⟨_, e, rfl⟩ PySem.F.entry_list_remove (PySem.F.args_list_remove_2 _ _) (MeetsSeq.list_remove l its.toArray n (.str z t) (eqz z) (fun y hy => eqz_gives hi y (by simpa using hy)) j hjl ?_ (fun m hm hmj => ?_) (by rw [List.size_toArray, ← hl]; exact sz)) ⟨e, ?_⟩
  · obtain ⟨tj, a⟩ := strs_at' hi j z hj
    have b : its.toArray[j] = .str z tj := by have := (List.getElem?_eq_some_iff.mp a).2; simpa using this
    rw [b]
    show (z.cps.toList == z.cps.toList) = true
    exact beq_self_eq_true _
  · have hmy : m < ys.length := by rw [List.size_toArray, ← hl] at hm; exact hm
    obtain ⟨tm, a⟩ := strs_at' hi m _ (List.getElem?_eq_getElem hmy)
    have b : its.toArray[m] = .str ys[m] tm := by have := (List.getElem?_eq_some_iff.mp a).2; simpa using this
    rw [b]
    show (ys[m].cps.toList == z.cps.toList) = false
    exact beq_eq_false_iff_ne.mpr fun c => hno m _ hmj (List.getElem?_eq_getElem hmy) (str_ext c)
  · have rr := r.eraseIdx j
    rw [← erase_map, he] at rr
    refine ⟨.non, _, I.lset (its' := its.eraseIdx j) (t' := s.toks) hH e ?_ rr ?_, rfl, q⟩
    · rw [List.eraseIdxIfInBounds_toArray]
    · rw [List.length_map]
      exact Nat.le_trans (List.length_erase_le) sz
/-! tuples whose object is known to be a plain one -/
def TD (o : Obj) : Prop := o.cls = .type "tuple" ∧ o.dict = none
def TupF (H : Hp) (a : Addr) (xs : List V) : Prop := ∃ o, TD o ∧ H a = some (.frz o (.tup xs))
theorem TupF.ex {H H' : Hp} {a : Addr} {xs : List V} (h : TupF H a xs) (e : Ex H H') : TupF H' a xs := let ⟨o, d, c⟩ := h; ⟨o, d, e _ _ c⟩
theorem TupF.sq {K : PySem.W.Frag} {H : Hp} {a : Addr} {xs : List V} (h : TupF H a xs) : SqT K H a xs := let ⟨o, _, c⟩ := h; .inl (.inr ⟨o, c⟩)
theorem TupF.ne {H : Hp} {a b : Addr} {xs ys : List V} (h : TupF H a xs) (hb : H b = some (.lst ys)) : a ≠ b := fun z => by
  obtain ⟨o, _, c⟩ := h
  rw [z, hb] at c
  cases c
theorem TupF.upd {H : Hp} {a b : Addr} {xs ys : List V} {u : HO} (h : TupF H a xs) (hb : H b = some (.lst ys)) : TupF (upd H b u) a xs := by
  have n := h.ne hb
  obtain ⟨o, d, c⟩ := h
  exact ⟨o, d, by rw [upd_ne n]; exact c⟩
def rTupF (K : PySem.W.Frag) : List V → Hp → VK → Prop := fun xs H Q => ∃ p ys, xs = [.ref p] ∧ SqL K H p ys ∧ ∀ l o, H l = none → TD o → Q (.ref l) (upd H l (.frz o (.tup ys)))
theorem cr_tupF : CallR X (.type "tuple") (rTupF X.K) := by
  rintro pins s σ H xs us Q I r ⟨p, ys, rfl, hq, q⟩
  obtain ⟨u, rfl, rx⟩ := vals1 r
  cases rx
  obtain ⟨its, r', pl, hz⟩ := I.list hq
  have hlen := r'.length
  refine call_tuple_list pl.isList (fun h' kp => ?_) (by rw [List.size_toArray, ← hlen]; exact hz)
  have I1 : Inv X pins σ H { s with heap := h' } := I.kept (t' := s.toks) kp
  have hn := I1.hok.fresh (a := h'.objs.size) (Nat.le_refl _)
  refine ⟨.ref h'.objs.size, _, I1.laid (t' := s.toks) (fun b o e => Heap.get?_push_of_some _ e) (Nat.le_refl _) ?_, rfl, q _ { cls := .type "tuple", data := .seq its.toArray } hn ⟨rfl, rfl⟩⟩
  exact ⟨Heap.get?_push_size _ rfl, hz, its, r', IsTup.new _ _⟩
def tTupF (t : TA) : TE := fun σ H Q => t σ H fun xs H1 => xs.length ≤ sizeLine ∧ ∀ p o, H1 p = none → TD o → Q (.ref p) (upd H1 p (.frz o (.tup xs)))
theorem pe_tupF {es : List Expr} {k : Nat} {pos : Pos} {t : TA} (h : PA X es t) : PE X (.Tuple es k pos) (tTupF t) := by
  refine ⟨fun pins s σ H Q I hq => ?_⟩
  refine wpAny_Tuple_spliced (thn (h.run pos pins s σ H _ I hq) fun us s1 ⟨xs, H1, I1, r, z, q⟩ => ⟨by rw [← r.length]; exact z, ?_⟩)
  have hf := I1.hok.fresh (a := s1.heap.objs.size) (Nat.le_refl _)
  refine ⟨.ref s1.heap.objs.size, _, I1.laid (t' := s1.toks) (fun b u e => Heap.get?_push_of_some _ e) (Nat.le_refl _) ?_, rfl, q _ { cls := .type "tuple", data := .seq us.toArray } hf ⟨rfl, rfl⟩⟩
  exact ⟨Heap.get?_push_size _ rfl, z, us, r, ⟨_, Heap.get?_push_size _ rfl, rfl, _, rfl⟩⟩
/-! dict(t), t a tuple of pairs of texts -/
def kS (p : List Nat × List Nat) : Key × V := (.inr (tx p.1), .str (tx p.2))
theorem prs_vals {pins : List (Addr × Obj)} {σ : L2.St} {H : Hp} {s : Shared} (I : Inv X pins σ H s) : ∀ {vs : List V} {its : List Value} {ps : List (List Nat × List Nat)}, Vals vs its → Prs X.K H vs ps →
    ∃ (Ts : Nat → Addr) (prs : List (Value × Value)) (kvs : List (Key × Value)), prs.length = its.length ∧ KV (ps.map kS) kvs ∧ (∀ (j : Nat) k v, prs[j]? = some (k, v) → its[j]? = some (.ref (Ts j)) ∧ IsTup s.heap (Ts j) #[k, v]) ∧ kvs.length = prs.length ∧ ∀ (i : Nat) key v, prs[i]? = some (key, v) → ∃ k, kvs[i]? = some (k, v) ∧ keyIs k key = true
  | _, _, _, .nil, .nil => ⟨fun _ => 0, [], [], rfl, .nil, fun j k v h => by simp at h, rfl, fun i k v h => by simp at h⟩
  | _, _, _, .cons rv rvs, .cons (b := p) ⟨t, ht, c⟩ ps => by
    subst ht
    cases rv
    obtain ⟨Ts, prs, kvs, h1, h2, h3, h4, h5⟩ := prs_vals I rvs ps
    obtain ⟨us, ru, pt, _⟩ := I.tuple (st_of c)
    obtain ⟨u, y, rfl, hu, hy⟩ := vals2 ru
    refine ⟨fun j => match j with | 0 => t | j + 1 => Ts j, (u, y) :: prs, (.inr (tx p.1), y) :: kvs, by rw [List.length_cons, List.length_cons, h1], .cons ⟨rfl, hy⟩ h2, fun j k v h => ?_, by rw [List.length_cons, List.length_cons, h4], fun i k v h => ?_⟩
    · cases j with
      | zero => cases h; exact ⟨rfl, pt⟩
      | succ j => exact h3 j k v h
    · cases i with
      | zero => cases h; exact ⟨_, rfl, kV_is (P := X.prog) (w := X.w) (k := .inr (tx p.1)) hu⟩
      | succ i => exact h5 i k v h
def rDictF (K : PySem.W.Frag) : List V → Hp → VK → Prop := fun xs H Q => ∃ (a : Addr) (vs : List V) (ps : List (List Nat × List Nat)), xs = [.ref a] ∧ TupF H a vs ∧ Prs K H vs ps ∧ ∀ p, H p = none → Q (.ref p) (upd H p (.dK (mergeK [] (ps.map kS))))
theorem cr_dictF (hc : X.calm = true) : CallR X (.type "dict") (rDictF X.K) := by
  rintro pins s σ H xs us Q I r ⟨a, vs, ps, rfl, ⟨o, ⟨hcl, hdi⟩, ha⟩, hp, q⟩
  obtain ⟨u, rfl, rx⟩ := vals1 r
  cases rx
  obtain ⟨hget, hz, its, rv, ob, hob, _, n, hdat⟩ := I.hok a _ ha
  rw [hget] at hob
  cases hob
  obtain ⟨Ts, prs, kvs, h1, h2, h3, h4, h5⟩ := prs_vals I rv hp
  have hl : its.length ≤ sizeLine := by rw [← rv.length]; exact hz
  refine PySem.call_dict_pairs (knd := mixKind X.prog X.w) (kvs := kvs) (PairArg.tuple a its.toArray Ts prs) (I.ok.hd hc) ⟨⟨o, n, hget, hcl, hdi, hdat⟩, by rw [List.size_toArray, h1], fun j k v h => ?_⟩ ⟨h4, fun i k v h => h5 i k v h⟩ (by rw [h1]; exact hl) fun h' tk hd' kp => ?_
  · obtain ⟨b, c⟩ := h3 j k v h
    exact ⟨by simpa using b, .inl c⟩
  · have hm : (s.heap.objs.size == sysModules) = false := beq_eq_false_iff_ne.mpr (Nat.ne_of_gt I.big)
    have hlen : (mergeK [] (ps.map kS)).length ≤ sizeLine := by
      have z := length_mergeK (ps.map kS) []
      rw [List.length_nil, Nat.zero_add, List.length_map, ← paired_len hp] at z
      exact Nat.le_trans z hz
    exact ⟨.ref s.heap.objs.size, _, I.laid (t' := tk) (fun b o e => kp b o (by simp) e) (Nat.le_refl _) (show ObjOk X.prog X.w _ _ _ (.dK (mergeK [] (ps.map kS))) from ⟨hlen, hm, merged [] kvs, KV.merge h2 .nil, hd'⟩), rfl, q _ (I.hok.fresh (Nat.le_refl _))⟩
end
/-! what the dict of a book tells of a name -/
theorem merge_out : ∀ (ps : List (List Nat × List Nat)) (acc : List (Key × V)) (z : Str), (∀ p ∈ ps, tx p.1 ≠ z) → valV (mergeK acc (ps.map kS)) (.inr z) = valV acc (.inr z)
  | [], _, _, _ => rfl
  | p :: ps, acc, z, h => by
    show valV (mergeK (putK acc (.inr (tx p.1)) (.str (tx p.2))) (ps.map kS)) (.inr z) = _
    rw [merge_out ps _ z fun q hq => h q (List.mem_cons_of_mem _ hq), valV_put, if_neg]
    intro e
    exact h p List.mem_cons_self (Sum.inr.inj e).symm
theorem merge_in : ∀ (ps : List (List Nat × List Nat)) (acc : List (Key × V)), (ps.map (·.1)).Nodup → ∀ p ∈ ps, valV (mergeK acc (ps.map kS)) (.inr (tx p.1)) = some (.str (tx p.2))
  | [], _, _, p, h => nomatch h
  | q :: ps, acc, nd, p, h => by
    show valV (mergeK (putK acc (.inr (tx q.1)) (.str (tx q.2))) (ps.map kS)) (.inr (tx p.1)) = _
    obtain ⟨n1, n2⟩ := List.nodup_cons.mp (show (q.1 :: ps.map (·.1)).Nodup from nd)
    rcases List.mem_cons.mp h with e | e
    · subst e
      rw [merge_out ps _ _ fun r hr z => n1 (List.mem_map.mpr ⟨r, hr, tx_inj z⟩), valV_put, if_pos rfl]
    · exact merge_in ps _ n2 p e
def rowOf (rs : List (List Nat × List Nat)) (x : Str) : List Nat := ((rs.find? fun p => decide (tx p.1 = x)).map (·.2)).getD []
theorem rowOf_in : ∀ {rs : List (List Nat × List Nat)}, (rs.map (·.1)).Nodup → ∀ p ∈ rs, rowOf rs (tx p.1) = p.2
  | [], _, p, h => nomatch h
  | q :: rs, nd, p, h => by
    obtain ⟨n1, n2⟩ := List.nodup_cons.mp (show (q.1 :: rs.map (·.1)).Nodup from nd)
    unfold rowOf
    rw [List.find?_cons]
    rcases List.mem_cons.mp h with e | e
    · subst e
      simp
    · have hne : ¬ tx q.1 = tx p.1 := fun z => n1 (List.mem_map.mpr ⟨p, e, (tx_inj z).symm⟩)
      rw [decide_eq_false hne]
      exact rowOf_in n2 p e
theorem book_get {rs : List (List Nat × List Nat)} {H : Hp} {d : Addr} (nd : (rs.map (·.1)).Nodup) (hd : H d = some (.dK (mergeK [] (rs.map kS)))) {p : List Nat × List Nat} (hp : p ∈ rs) : DGet H d (.str (tx p.1)) (some (.str (tx (rowOf rs (tx p.1))))) := by
  have := DGet.k (k := .inr (tx p.1)) hd
  rw [merge_in rs [] nd p hp] at this
  rw [rowOf_in nd p hp]
  exact this
/-! a book whose rows' tuple is a plain one -/
def BookF (K : PySem.W.Frag) (H : Hp) (v : V) (n : Nat) (rs : List (List Nat × List Nat)) : Prop := ∃ t b vs, v = .ref t ∧ H t = some (.tup [.int (n : Nat), .ref b]) ∧ TupF H b vs ∧ Prs K H vs rs
theorem BookF.ex {K : PySem.W.Frag} {H H' : Hp} {v : V} {n : Nat} {rs : List (List Nat × List Nat)} (h : BookF K H v n rs) (e : Ex H H') : BookF K H' v n rs := let ⟨t, b, vs, a, c, d, f⟩ := h; ⟨t, b, vs, a, e _ _ c, d.ex e, f.ex e⟩
end Hid

namespace Hid
open PySem PySem.Spec PyProof.Rows L2
/-! enumerate(x) of a text -/
def EsIt (x : Str) : It := ⟨fun i _ => i < x.cps.size, fun i G v G' => ∃ T c, v = .ref T ∧ G T = none ∧ G' = upd G T (.tup [.int (i : Nat), .str ⟨#[c]⟩]) ∧ x.cps[i]? = some c, fun i _ => x.cps.size ≤ i⟩
def EsAt (e it : Addr) (x : Str) (t : Tok) (i : Nat) (h : Heap) : Prop := i ≤ x.cps.size ∧ (∃ old, IsEnum h e it (0 + (i : Int)) old) ∧ h.IsStrIter it (strIterType x) x t i
theorem es_turn {P : Program} {w : World} {K : PySem.W.Frag} {es : List Expr} {kk : Nat} {tp : Pos} {e it : Addr} {x : Str} {t : Tok} (hei : e ≠ it) : Turn P w K (.Tuple es kk tp) (EsIt x) (e :: [it]) e (EsAt e it x t) where
  mem := List.mem_cons_self
  obj := fun i h st b hb => by
    obtain ⟨_, ⟨old, he⟩, ⟨o1, e1, _, d1⟩⟩ := st
    have e' : b = e ∨ b = it := by simpa using hb
    rcases e' with r | r <;> rw [r]
    · exact ⟨_, he, fun v n => nomatch n⟩
    · exact ⟨o1, e1, fun v n => by rw [d1] at n; cases n⟩
  keep := fun i h h' st k => let ⟨hi, ⟨old, he⟩, ⟨o1, e1, r1⟩⟩ := st; ⟨hi, ⟨old, k e (by simp) _ he⟩, ⟨o1, k it (by simp) _ e1, r1⟩⟩
  item := by
    intro X hP hw hK hc i pins s σ H E I hf st hg
    subst hP hw hK
    have G := GoesN.enumFrom (prog := X.prog) (w := X.w) (A := X.A) (elts := es) (x1 := kk) (pos := tp) 0 (Draws.text (A := X.A.in1) (I.ok.hd hc) it x t) e hei (by simpa using hei) (by simp)
    obtain ⟨hi, st⟩ := st
    refine wpAny_mono (G.goes i s (fun v s2 => ∃ xv H', Inv X pins σ H' s2 ∧ RelV xv v ∧ (EsIt x).yld i H xv H' ∧ EsAt e it x t (i + 1) s2.heap ∧ ∀ b ∈ e :: [it], H' b = none) E hg st fun v h' tk hY st' hk htk => ?_) (fun r s1 h1 => ?_) fun _ _ e => e
    · obtain ⟨T, tt, v2, rfl, hT, ⟨c, u1, hc1, rfl⟩, o, ho, ho1, n, ho2⟩ := hY
      have new : ObjOk X.prog X.w (upd H T (.tup [.int (i : Nat), .str ⟨#[c]⟩])) h' T (.tup [.int (i : Nat), .str ⟨#[c]⟩]) := ⟨by show 2 ≤ sizeLine; decide, [_, _], .cons ⟨tt, by rw [Int.zero_add]⟩ (.cons ⟨u1, rfl⟩ .nil), ⟨o, ho, ho1, n, ho2⟩⟩
      have J := I.turnedNew (t' := tk) (ch := [e, it]) hk (fun b hb => hf b hb) hT new
      refine ⟨.ref T, _, J, rfl, ⟨T, c, rfl, I.hok.fresh hT, rfl, hc1⟩, ⟨hg, by rw [Int.natCast_add] at *; exact st'⟩, fun b hb => ?_⟩
      have hb1 : b < s.heap.objs.size := by
        obtain ⟨⟨old, he⟩, ⟨o1, e1, r1⟩⟩ := st
        have e' : b = e ∨ b = it := by simpa using hb
        rcases e' with r | r <;> rw [r]
        · exact Heap.lt_size he
        · exact Heap.lt_size e1
      rw [upd_ne (Nat.ne_of_lt (Nat.lt_of_lt_of_le hb1 hT))]
      exact (hf b hb).1
    · exact h1
  done := by
    intro X hP hw hK hc i pins s σ H E I hf st hg
    subst hP hw hK
    have G := GoesN.enumFrom (prog := X.prog) (w := X.w) (A := X.A) (elts := es) (x1 := kk) (pos := tp) 0 (Draws.text (A := X.A.in1) (I.ok.hd hc) it x t) e hei (by simpa using hei) (by simp)
    obtain ⟨hi, st⟩ := st
    obtain rfl : i = x.cps.size := Nat.le_antisymm hi hg
    exact G.stops s (fun s1 => Inv X pins σ H s1) E st fun h' tk hk htk => I.turnedL (t' := tk) (ch := [e, it]) hk fun b hb => hf b hb
  self := fun A i s Q E st h => let ⟨_, ⟨_, he⟩, _⟩ := st; wpAny_pyIter_enum he h
def iEs (ta : TA) : TI := fun σ H R => ta σ H fun vs H1 => ∃ x, vs = [.str x] ∧ R (EsIt x) H1
theorem pi_es {X : Cx} {e : Expr} {ta : TA} {p pos tp : Pos} {es : List Expr} {kk : Nat} (hg : Gl X "enumerate") (hm : X.mg "enumerate" = none) (ha : PA X [e] ta) (hs : starEach [e] X.env = [(false, eval e X.env)] := by rfl) :
    PI X (.Tuple es kk tp) (.Call (.Name "enumerate" p) [e] [] pos) (iEs ta) := by
  refine ⟨fun pins s σ H R I h => ?_⟩
  refine Call_ (ld_blt I hg hm boot_enumerate (callWith_type1 (thn (ha.run pos pins s σ H _ I h) fun us s1 ⟨vs, H1, I1, r1, x, ex, q⟩ => ?_) hs rfl))
  subst ex
  cases r1 with
  | cons r rr =>
    cases rr
    obtain ⟨t, rfl⟩ := r
    refine call_enumerate_str fun h' he hit hsz hk => wpAny_pyIter_enum he ?_
    refine ⟨s1.heap.objs.size + 1, _, _, _, H1, rfl, I1.kept (t' := s1.toks) hk, es_turn (Nat.succ_ne_self _), ⟨Nat.zero_le _, ⟨.none, he⟩, hit⟩, fun b hb => ?_, q⟩
    have e' : b = s1.heap.objs.size + 1 ∨ b = s1.heap.objs.size := by simpa using hb
    have hle : s1.heap.objs.size ≤ b := by rcases e' with z | z <;> rw [z]; exact Nat.le_add_right _ _; exact Nat.le_refl _
    exact I1.fpOk hle (I1.hok.fresh hle)
end Hid

namespace Hid
open PySem PySem.Spec PyProof.Rows L2 Evl
/-! enumerate(l, start=k) of a list -/
def EkIt (a : Addr) (k : Int) : It := ⟨fun i G => ∃ xs x, G a = some (.lst xs) ∧ xs[i]? = some x, fun i G v G' => ∃ T x, v = .ref T ∧ G T = none ∧ G' = upd G T (.tup [.int (k + (i : Int)), x]) ∧ ∀ xs, G a = some (.lst xs) → xs[i]? = some x, fun i G => ∃ xs, G a = some (.lst xs) ∧ xs.length = i⟩
def EkAt (e it a : Addr) (k : Int) (i : Nat) (h : Heap) : Prop := (∃ old, IsEnum h e it (k + (i : Int)) old) ∧ h.IsListIter it a i
theorem ek_turn {P : Program} {w : World} {K : PySem.W.Frag} {es : List Expr} {kk : Nat} {tp : Pos} {e it a : Addr} {k : Int} (hei : e ≠ it) : Turn P w K (.Tuple es kk tp) (EkIt a k) (e :: [it]) e (EkAt e it a k) where
  mem := List.mem_cons_self
  obj := fun i h st b hb => by
    obtain ⟨⟨old, he⟩, ⟨o1, e1, _, d1⟩⟩ := st
    have e' : b = e ∨ b = it := by simpa using hb
    rcases e' with r | r <;> rw [r]
    · exact ⟨_, he, fun v n => nomatch n⟩
    · exact ⟨o1, e1, fun v n => by rw [d1] at n; cases n⟩
  keep := fun i h h' st k => let ⟨⟨old, he⟩, ⟨o1, e1, r1⟩⟩ := st; ⟨⟨old, k e (by simp) _ he⟩, ⟨o1, k it (by simp) _ e1, r1⟩⟩
  item := by
    intro X hP hw hK hc i pins s σ H E I hf st hg
    subst hP hw hK
    obtain ⟨xs, x, hq, hx⟩ := hg
    have nai : a ≠ it := ne_of_none hq (hf it (by simp)).1
    have nae : a ≠ e := ne_of_none hq (hf e (by simp)).1
    obtain ⟨its, rv, p, hz⟩ := I.list (SqL.of hq)
    obtain ⟨u, hu, ru⟩ := rv.get hx
    have G := GoesN.enumFrom (prog := X.prog) (w := X.w) (A := X.A) (elts := es) (x1 := kk) (pos := tp) k (Draws.list (A := X.A.in1) (I.ok.hd hc) it a nai its.toArray) e hei (by simp; exact ⟨hei, nae.symm⟩) (by simp)
    have hi : i < its.toArray.size := by rw [List.size_toArray]; exact (List.getElem?_eq_some_iff.mp hu).1
    refine wpAny_mono (G.goes i s (fun v s2 => ∃ xv H', Inv X pins σ H' s2 ∧ RelV xv v ∧ (EkIt a k).yld i H xv H' ∧ EkAt e it a k (i + 1) s2.heap ∧ ∀ b ∈ e :: [it], H' b = none) E hi ⟨st.1, st.2, p.isList⟩ fun v h' tk hY st' hk htk => ?_) (fun r s1 h1 => h1) fun _ _ e => e
    obtain ⟨T, tt, v2, rfl, hT, hv2, o, ho, ho1, n, ho2⟩ := hY
    obtain rfl : v2 = u := by
      have hv3 : its.toArray[i]? = some v2 := hv2
      rw [List.getElem?_toArray, hu] at hv3
      exact (Option.some.inj hv3).symm
    have new : ObjOk X.prog X.w (upd H T (.tup [.int (k + (i : Int)), x])) h' T (.tup [.int (k + (i : Int)), x]) := ⟨by show 2 ≤ sizeLine; decide, [_, _], .cons ⟨tt, rfl⟩ (.cons ru .nil), ⟨o, ho, ho1, n, ho2⟩⟩
    have J := I.turnedNew (t' := tk) (ch := [e, it]) hk (fun b hb => hf b hb) hT new
    refine ⟨.ref T, _, J, rfl, ⟨T, x, rfl, I.hok.fresh hT, rfl, fun ys hy => ?_⟩, ⟨by have := st'.1; rw [Int.natCast_add] at *; exact this, st'.2.1⟩, fun b hb => ?_⟩
    · rw [hq] at hy
      cases hy
      exact hx
    · have hb1 : b < s.heap.objs.size := by
        obtain ⟨⟨old, he⟩, ⟨o1, e1, r1⟩⟩ := st
        have e' : b = e ∨ b = it := by simpa using hb
        rcases e' with r | r <;> rw [r]
        · exact Heap.lt_size he
        · exact Heap.lt_size e1
      rw [upd_ne (Nat.ne_of_lt (Nat.lt_of_lt_of_le hb1 hT))]
      exact (hf b hb).1
  done := by
    intro X hP hw hK hc i pins s σ H E I hf st hg
    subst hP hw hK
    obtain ⟨xs, hq, hx⟩ := hg
    have nai : a ≠ it := ne_of_none hq (hf it (by simp)).1
    have nae : a ≠ e := ne_of_none hq (hf e (by simp)).1
    obtain ⟨its, rv, p, hz⟩ := I.list (SqL.of hq)
    have G := GoesN.enumFrom (prog := X.prog) (w := X.w) (A := X.A) (elts := es) (x1 := kk) (pos := tp) k (Draws.list (A := X.A.in1) (I.ok.hd hc) it a nai its.toArray) e hei (by simp; exact ⟨hei, nae.symm⟩) (by simp)
    obtain rfl : i = its.toArray.size := by rw [List.size_toArray, ← rv.length]; exact hx.symm
    exact G.stops s (fun s1 => Inv X pins σ H s1) E ⟨st.1, st.2, p.isList⟩ fun h' tk hk htk => I.turnedL (t' := tk) (ch := [e, it]) hk fun b hb => hf b hb
  self := fun A i s Q E st h => let ⟨⟨_, he⟩, _⟩ := st; wpAny_pyIter_enum he h
theorem walk_ek {a : Addr} {k : Int} {xs : List V} : Walk (EkIt a k) xs.length (fun H => H a = some (.lst xs)) (YPair (fun i => some (.int (k + (i : Int)))) (fun i => xs[i]?)) := by
  refine ⟨fun i G hi q => ⟨xs, xs[i], q, List.getElem?_eq_getElem hi⟩, fun G q => ⟨xs, q, rfl⟩, fun i G v G' hi q y => ?_⟩
  obtain ⟨T, x, h1, h2, h3, h4⟩ := y
  exact ⟨T, _, x, h1, h2, h3, rfl, h4 xs q⟩
theorem callWith_typeK {M : Model} {A : Around} {E : Value → Shared → Prop} {s : Shared} {pos : Pos} {T : String} {args : List (Bool × Sem Value)} {keywords : List (Option Str × Sem Value)} {Q : Value → Shared → Prop} (hp : args.any (·.1) = false) (hk : keywords.any (·.1.isNone) = false)
    (h : wpAny M A (evalArgs (.type T) true args keywords) (fun a s₁ => wpAny M A (call (.type T) a.pos a.kw) Q E s₁) E s) : wpAny M A (callWith pos (.type T) [] args keywords) Q E s := by
  unfold callWith; refine wpAny_bind (wpAny_holding (wpAny_mono h (fun a s₁ h₁ => wpAny_bind (wpAny_standAt ?_)) fun _ _ x => x)); simp only [hp, hk, Bool.or_false]
  refine wpAny_bind (wpAny_pure ?_); exact wpAny_bind (wpAny_mono h₁ (fun r s₂ hr => wpAny_bind (wpAny_holding (wpAny_point (wpAny_pure hr)))) fun _ _ x => x)
def iEk (ta tk : TA) : TI := fun σ H R => ta σ H fun vs H1 => tk σ H1 fun ws H2 => ∃ a xs k, vs = [.ref a] ∧ ws = [.int k] ∧ H2 a = some (.lst xs) ∧ (-1000 ≤ k ∧ k ≤ 1000) ∧ R (EkIt a k) H2
theorem pi_ek {X : Cx} {e c : Expr} {ta tk : TA} {p pos tp kp : Pos} {es : List Expr} {kk : Nat} (hg : Gl X "enumerate") (hm : X.mg "enumerate" = none) (ha : PA X [e] ta) (hk : PK X [⟨some "start", c, kp⟩] tk) (hs : starEach [e] X.env = [(false, eval e X.env)] := by rfl)
    (hks : (backToKw pos (keywordEach [⟨some "start", c, kp⟩] X.env)).filterMap (·.1) = [Str.ofString "start"] := by rfl) (hall : (backToKw pos (keywordEach [⟨some "start", c, kp⟩] X.env)).all (·.1.isSome) = true := by rfl) (hno : (backToKw pos (keywordEach [⟨some "start", c, kp⟩] X.env)).any (·.1.isNone) = false := by rfl) :
    PI X (.Tuple es kk tp) (.Call (.Name "enumerate" p) [e] [⟨some "start", c, kp⟩] pos) (iEk ta tk) := by
  refine ⟨fun pins s σ H R I h => ?_⟩
  have hA := ha.run pos pins s σ H _ I h
  rw [hs] at hA
  refine wpAny_Call_Name_kw (ld_blt I hg hm boot_enumerate ?_)
  rw [hs]
  refine callWith_typeK rfl hno (evalArgs_kwB hall (thn hA fun us s1 ⟨vs, H1, I1, r1, q1⟩ => thn (hk.run pos pins s1 σ H1 _ I1 q1) fun ws s2 ⟨zs, H2, I2, r2, q2⟩ => ?_))
  rw [hks]
  obtain ⟨a, xs, k, ex, ez, hq, ⟨k0, k1⟩, q⟩ := q2
  subst ex ez
  obtain ⟨u, rfl, ru⟩ := vals1 r1
  obtain ⟨v, rfl, t, rfl⟩ := vals1 r2
  cases ru
  obtain ⟨its, rv, p', hz⟩ := I2.list (SqL.of hq)
  refine enum_begins_start (begins_list a its.toArray) p'.isList (by omega) (by omega) fun h' he hit hsz hkp => wpAny_pyIter_enum he ?_
  refine ⟨s2.heap.objs.size + 1, _, _, _, H2, rfl, I2.kept (t' := s2.toks) hkp, ek_turn (Nat.succ_ne_self _), ⟨⟨.none, by rw [show k + ((0 : Nat) : Int) = k by omega]; exact he⟩, ⟨_, hit, rfl, rfl⟩⟩, fun b hb => ?_, q⟩
  have e' : b = s2.heap.objs.size + 1 ∨ b = s2.heap.objs.size := by simpa using hb
  have hle : s2.heap.objs.size ≤ b := by rcases e' with z | z <;> rw [z]; exact Nat.le_add_right _ _; exact Nat.le_refl _
  exact I2.fpOk hle (I2.hok.fresh hle)
/-! tuple(d.values()) -/
section
variable {prog : Program} {w : World} {A : Around} {E : Value → Shared → Prop} {s : Shared} {T : String} {r d : Addr} {n : Nat} {P : Nat → Value → Prop} {OK : Heap → Prop}
theorem collect_src {Q : List Value → Shared → Prop} (K : PySem.W.KdlSrc prog w T r d n P OK) (hh : A.handled = none) (hok : OK s.heap) (hn : n ≤ sizeLine)
    (hQ : ∀ h' tk acc, (∀ b o, s.heap.get? b = some o → h'.get? b = some o) → ItemsOf P acc n → Q acc.toList { s with heap := h', toks := tk }) : wpAny (model prog w) A (collect (.ref r)) Q E s := by
  have hlt := K.there _ hok
  unfold collect
  refine wpAny_bind (wpAny_runValue ((?_ : ∀ R : Result → Shared → Prop, (∀ h' tk acc' c', (∀ b o, s.heap.get? b = some o → h'.get? b = some o) → h'.get? s.heap.objs.size = some { cls := .type "list", dict := none, data := .seq acc' c', slots := #[] } → ItemsOf P acc' n → R (.ok (.ret (.ref s.heap.objs.size))) { s with heap := h', toks := tk }) → codeAny (model prog w) A _ R s) _ fun h' tk acc' c' hk hS' hacc => ?_))
  · intro R hR
    refine codeAny_builtin F.entry_proto_collect ?_
    rw [Around.under_plainId F.plain_proto_collect _]
    show wpAny _ A.in1 (newList [] >>= fun l => again (.builtin "list.__iadd__" ⟨[l, .ref r], []⟩)) _ _ s
    refine wpAny_bind (wpAny_newObj_type ?_); refine wpAny_pure ⟨plainId_quiet F.plain_list_iadd _, codeAny_builtin F.entry_list_iadd ?_⟩; rw [Around.under_plainId F.plain_list_iadd _]
    show wpAny _ A.in1 (Builtin.List.listExtendWith (.ref s.heap.objs.size) (.ref r) (.ref s.heap.objs.size)) _ _ _
    exact PySem.W.kdl_extend (R := R) (s := { s with heap := s.heap.push { cls := .type "list", data := .seq ([] : List Value).toArray } }) K hh (K.keep _ _ hok fun b _ o e => Heap.get?_push_of_some _ e) _ (Nat.ne_of_gt hlt.1) (Nat.ne_of_gt hlt.2) _ 0 (Heap.get?_push_size _ rfl) (fun h' tk acc' c' hk hS' hacc => hR h' tk acc' c' (fun b o e => hk b o (Nat.ne_of_lt (Heap.lt_size e)) (Heap.get?_push_of_some _ e)) hS' hacc) hn
  · show wpAny _ A (load s.heap.objs.size >>= _) _ _ _
    refine wpAny_bind (wpAny_load hS' ?_)
    exact wpAny_pure (hQ h' tk acc' hk hacc)
theorem tupSrc {Q : Value → Shared → Prop} (K : PySem.W.KdlSrc prog w T r d n P OK) (hh : A.handled = none) (hok : OK s.heap) (hn : n ≤ sizeLine)
    (hQ : ∀ (h' : Heap) (tk : Nat) (acc : Array Value), (∀ b o, s.heap.get? b = some o → h'.get? b = some o) → ItemsOf P acc n → Q (.ref h'.objs.size) { s with heap := h'.push { cls := .type "tuple", data := .seq acc }, toks := tk }) :
    wpAny (model prog w) A (call (.type "tuple") [.ref r]) Q E s := by
  have code : codeAny (model prog w) A.in1 (.call (.builtin "tuple.__new__") ⟨[.type "tuple", .ref r], []⟩) (wants (fun obj s₁ => s₁.TypeIs obj "tuple" ∧ Q obj s₁) E) s := by
    refine codeAny_of_tree ?_
    show wpAny _ A.in1.in1 (do checkBuiltinCall "tuple.__new__" ⟨[.type "tuple", .ref r], []⟩; again (.builtin "tuple.__new__" ⟨[.type "tuple", .ref r], []⟩)) _ _ s
    refine wpAny_bind (wpAny_of_eq (F.newCall_tuple_1 _) (wpAny_pure ⟨plainId_quiet F.plain_tuple_new _, codeAny_builtin F.entry_tuple_new ?_⟩)); rw [Around.under_plainId F.plain_tuple_new _]
    have hsub := sub_tuple_self; have hinit := init_tuple_lookup; have hmh := madeHere_tuple
    have hTI : s.TypeIs (.ref r) T := K.type s hok
    have hnt := K.notTuple
    wp_walk using wpAny_typeOf hTI, collect_src (A := A.in1.in1) K hh hok hn
    intro h' tk acc hk hacc
    show wpAny _ _ (Builtin.Tuple.tupleExact acc.toList.toArray >>= fun v => ret v) _ _ _
    unfold Builtin.Tuple.tupleExact; refine wpAny_bind (wpAny_newObj_type ?_ (by show acc.toList.toArray.size ≤ sizeLine; simp only [Array.toArray_toList]; rw [hacc.1]; exact hn)) <;> refine wpAny_pure ?_
    rw [show acc.toList.toArray = acc by simp]
    exact ⟨⟨_, Heap.get?_push_size _ rfl, rfl⟩, hQ h' tk acc hk hacc⟩
  refine callType_codes (Q₁ := fun obj s₁ => s₁.TypeIs obj "tuple" ∧ Q obj s₁) F.called_tuple (F.typeCall_tuple_1 _) F.entry_object_init code fun obj s₁ h₁ => ?_
  exact ⟨h₁.1, F.args_object_init_2 obj _, object_init_meets F.called_tuple.init.lookup F.called_tuple.made (by decide) prog w A.in1 _ s₁ ⟨h₁.1, rfl, h₁.2⟩⟩
end
def tTupVals (te : TE) : TE := fun σ H Q => te σ H fun x H1 => ∃ d kvs, x = .ref d ∧ H1 d = some (.dK kvs) ∧ ∀ p o, H1 p = none → TD o → Q (.ref p) (upd H1 p (.frz o (.tup (kvs.map (·.2)))))
theorem pe_tupVals {X : Cx} {e : Expr} {te : TE} {p pos apos cpos : Pos} (hc : X.calm = true) (hg : Gl X "tuple") (hm : X.mg "tuple" = none) (he : PE X e te) (hbase : attributeBase e "values" X.env (eval e X.env) = eval e X.env := by rfl) (hline : (apos.endLine == cpos.line) = true := by rfl)
    (hs : starEach [.Call (.Attribute e "values" apos) [] [] cpos] X.env = (false, eval (.Call (.Attribute e "values" apos) [] [] cpos) X.env) :: starEach [] X.env := by rfl) :
    PE X (.Call (.Name "tuple" p) [.Call (.Attribute e "values" apos) [] [] cpos] [] pos) (tTupVals te) := by
  refine ⟨fun pins s σ H Q I h => ?_⟩
  refine Call_ (ld_blt I hg hm (by decide +kernel : bootBuiltins "tuple" = some (.type "tuple")) (callWith_type1 (args_cons ?_ hs) hs rfl))
  refine wpAny_Call_method (T := "dict") (id := "dict.values") hbase rfl hline PySem.F.plainAttrs_dict PySem.F.slot_dict_values PySem.F.type_dict_values (thn (he.run pins s σ H _ I h) fun u s1 ⟨x, H1, I1, rx, d, kvs, ex, hd, q⟩ => ?_)
  subst ex
  obtain rfl : u = Value.ref d := rx
  obtain ⟨hz, hsy, vs, kv, hD⟩ := I1.hok d _ hd
  have hl : kvs.length = vs.length := Paired.length kv
  refine ⟨hD.typeIs, hD.mapOf.noDict, ?_⟩
  have I2 : Inv X pins σ H1 { s1 with heap := s1.heap.push { cls := .type "dict_values", data := .fields #[.ref d] } } := I1.kept (t' := s1.toks) fun b ob q => Heap.get?_push_of_some _ q
  have hh := I1.ok.hd hc
  have fin : wpAny (model X.prog X.w) X.A (call (.type "tuple") [.ref s1.heap.objs.size]) (EP X pins σ Q) X.xe { s1 with heap := s1.heap.push { cls := .type "dict_values", data := .fields #[.ref d] } } := by
    obtain ⟨o, es, ep, ho, hx⟩ := hD
    refine tupSrc (n := vs.length) (PySem.W.kdl_values (knd := mixKind X.prog X.w) (kvs := vs) (ep := ep) (d := d) (r := s1.heap.objs.size)) hh ⟨⟨_, Heap.get?_push_size _ rfl, rfl, rfl⟩, ?_⟩ (by rw [← hl]; exact hz) fun h' tk acc hk hacc => ?_
    · exact ⟨o, es, Heap.get?_push_of_some _ ho, hx⟩
    · have I3 : Inv X pins σ H1 { s1 with heap := h', toks := tk } := I1.kept (t' := tk) fun b ob e => hk b ob (Heap.get?_push_of_some _ e)
      have rv : Vals (kvs.map (·.2)) acc.toList := by
        have key : ∀ {kvs : List (Key × V)} {vs : List (Key × Value)}, KV kvs vs → ∀ us : List Value, us.length = vs.length → (∀ (j : Nat) v, us[j]? = some v → ∃ k, vs[j]? = some (k, v)) → Vals (kvs.map (·.2)) us := by
          intro kvs vs kv
          induction kv with
          | nil =>
            intro us hl _
            cases us with
            | nil => exact .nil
            | cons u us => cases hl
          | @cons a b l m r t ih =>
            intro us hl hu
            cases us with
            | nil => cases hl
            | cons u us =>
              obtain ⟨k, hk⟩ := hu 0 u rfl
              have hb : b = (k, u) := Option.some.inj hk
              subst hb
              exact .cons r.2 (ih us (by simpa using hl) fun j v hj => hu (j + 1) v hj)
        refine key kv acc.toList (by rw [Array.length_toList]; exact hacc.1) fun j v hj => hacc.2 j v (by rw [← Array.getElem?_toList]; exact hj)
      have hlen : (kvs.map (·.2)).length ≤ sizeLine := by rw [List.length_map]; exact hz
      refine ⟨.ref h'.objs.size, _, I3.laid (t' := tk) (fun c o e => Heap.get?_push_of_some _ e) (Nat.le_refl _) ?_, rfl, q _ { cls := .type "tuple", data := .seq acc } (I3.hok.fresh (Nat.le_refl _)) ⟨rfl, rfl⟩⟩
      refine ⟨Heap.get?_push_size _ rfl, hlen, acc.toList, rv, ?_⟩
      rw [Array.toArray_toList]; exact IsTup.new _ _
  show wpAny _ _ (callWith cpos (.builtin "dict.values") [.ref d] [] []) _ X.xe s1
  exact method_meetsIn PySem.F.slot_dict_values PySem.F.entry_dict_values rfl (PySem.evalArgs_none ⟨rfl, hD.typeIs, PySem.F.args_dict_values_1 _, _, meets_dict_values (mixKind X.prog X.w) d hsy, ⟨vs, hD⟩, args_nil fin⟩)
end Hid

namespace Hid
open PySem PySem.Spec PyProof.Rows L2
/-! texts laid together with one sign between, and parted again -/
def jn (c : Nat) : List (List Nat) → List Nat
  | [] => []
  | [l] => l
  | l :: m :: r => l ++ c :: jn c (m :: r)
theorem join_jn (c : Nat) : ∀ ls : List (List Nat), Txt.join (sg1 c) (ls.map tx) = tx (jn c ls) := by
  intro ls
  show Builtin.Str.glued _ _ = _
  rw [StrLaws.glued_eq_join]
  induction ls with
  | nil => rfl
  | cons l r ih =>
    cases r with
    | nil => rfl
    | cons m r =>
      have e : Str.join (sg1 c) ((l :: m :: r).map tx) = tx l ++ sg1 c ++ Str.join (sg1 c) ((m :: r).map tx) := rfl
      rw [e, ih]
      show (⟨(l.toArray ++ #[c]) ++ (jn c (m :: r)).toArray⟩ : Str) = ⟨(l ++ c :: jn c (m :: r)).toArray⟩
      simp
theorem cut_at {c : Nat} : ∀ {l m r s : List Nat}, c ∉ l → c ∉ m → l ++ c :: r = m ++ c :: s → l = m ∧ r = s
  | [], [], r, s, _, _, e => by simp at e; exact ⟨rfl, e⟩
  | [], y :: m, r, s, _, hm, e => by
    simp at e
    exact absurd (by rw [e.1]; exact List.mem_cons_self) hm
  | x :: l, [], r, s, hl, _, e => by
    simp at e
    exact absurd (by rw [e.1]; exact List.mem_cons_self) hl
  | x :: l, y :: m, r, s, hl, hm, e => by
    simp at e
    obtain ⟨a, b⟩ := cut_at (fun z => hl (List.mem_cons_of_mem _ z)) (fun z => hm (List.mem_cons_of_mem _ z)) e.2
    exact ⟨by rw [e.1, a], b⟩
theorem jn_inj {c : Nat} : ∀ {ls ms : List (List Nat)}, ls ≠ [] → ms ≠ [] → (∀ l ∈ ls, c ∉ l) → (∀ l ∈ ms, c ∉ l) → jn c ls = jn c ms → ls = ms
  | [], _, h, _, _, _, _ => absurd rfl h
  | _ :: _, [], _, h, _, _, _ => absurd rfl h
  | [l], [m], _, _, _, _, e => by
    have : l = m := e
    rw [this]
  | [l], m :: m' :: r, _, _, hl, _, e => by
    have e' : l = m ++ c :: jn c (m' :: r) := e
    exact absurd (by rw [e']; simp) (hl l List.mem_cons_self)
  | l :: l' :: r, [m], _, _, _, hm, e => by
    have e' : l ++ c :: jn c (l' :: r) = m := e
    exact absurd (by rw [← e']; simp) (hm m List.mem_cons_self)
  | l :: l' :: r, m :: m' :: s, _, _, hl, hm, e => by
    have e' : l ++ c :: jn c (l' :: r) = m ++ c :: jn c (m' :: s) := e
    obtain ⟨a, b⟩ := cut_at (hl l List.mem_cons_self) (hm m List.mem_cons_self) e'
    rw [a, jn_inj (by simp) (by simp) (fun x hx => hl x (List.mem_cons_of_mem _ hx)) (fun x hx => hm x (List.mem_cons_of_mem _ hx)) b]
theorem split_jn {c : Nat} {ls : List (List Nat)} (h0 : ls ≠ []) (hf : ∀ l ∈ ls, c ∉ l) : Txt.split (tx (jn c ls)) (sg1 c) = ls.map tx := by
  have h1 := StrLaws.join_split (tx (jn c ls)) (sg1 c)
  have h2 := StrLaws.split_free (tx (jn c ls)) c
  have h3 : 1 ≤ (Txt.split (tx (jn c ls)) (sg1 c)).length := PyProof.Rows.split_pos _ _
  generalize hP : Txt.split (tx (jn c ls)) (sg1 c) = parts at h1 h3
  rw [show (⟨#[c]⟩ : Str) = sg1 c from rfl, hP] at h2
  have hm : parts = (parts.map fun p => p.cps.toList).map tx := by
    rw [List.map_map, show (tx ∘ fun p : Str => p.cps.toList) = id from funext fun z => tx_cps z, List.map_id]
  have h4 : Txt.join (sg1 c) ((parts.map fun p => p.cps.toList).map tx) = tx (jn c ls) := by
    rw [← hm]
    show Builtin.Str.glued _ _ = _
    rw [StrLaws.glued_eq_join]
    exact h1
  rw [join_jn] at h4
  have h5 := jn_inj (c := c) (by intro z; rw [List.map_eq_nil_iff] at z; rw [z] at h3; exact absurd h3 (by decide)) h0 (fun l hl => by
    obtain ⟨p, hp, rfl⟩ := List.mem_map.mp hl
    exact h2 p hp) hf (tx_inj h4)
  rw [hm, h5]
/-! a book as a text -/
def lineP (n : Nat) : List Nat := [112, 108, 97, 99, 101, 115, 32, 48 + n]
def lineR (p : List Nat × List Nat) : List Nat := p.1 ++ 32 :: p.2
def bookT (n : Nat) (rs : List (List Nat × List Nat)) : List Nat := jn 10 (lineP n :: rs.map lineR)
theorem jn_snoc (c : Nat) : ∀ (l : List Nat) (r : List (List Nat)) (m : List Nat), jn c (l :: r ++ [m]) = jn c (l :: r) ++ c :: m
  | l, [], m => rfl
  | l, x :: r, m => by
    show l ++ c :: jn c (x :: r ++ [m]) = (l ++ c :: jn c (x :: r)) ++ c :: m
    rw [jn_snoc c x r m]
    simp
theorem bookT_snoc (n : Nat) (rs : List (List Nat × List Nat)) (p : List Nat × List Nat) : bookT n (rs ++ [p]) = bookT n rs ++ 10 :: lineR p := by
  unfold bookT
  rw [List.map_append]
  exact jn_snoc 10 _ _ _
theorem lineR_split {p : List Nat × List Nat} (h1 : 32 ∉ p.1) (h2 : 32 ∉ p.2) : Txt.split (tx (lineR p)) (sg1 32) = [tx p.1, tx p.2] := by
  have := split_jn (c := 32) (ls := [p.1, p.2]) (by simp) (by
    intro l hl
    rcases List.mem_cons.mp hl with e | e
    · rw [e]; exact h1
    · rw [List.mem_singleton.mp e]; exact h2)
  exact this
theorem name_free {z : List Nat} (h : NameL z) {c : Nat} (hc : c < 97) : c ∉ z := fun hm => by have := (h.2 c hm).1; omega
theorem row_free {z : List Nat} (h : RowL z) {c : Nat} (hc : c < 97) : c ∉ z := fun hm => by rcases h.2 c hm with e | e | e <;> omega
theorem bookT_split {n : Nat} {rs : List (List Nat × List Nat)} (h : BookOk n rs) : Txt.split (tx (bookT n rs)) (sg1 10) = (lineP n :: rs.map lineR).map tx := by
  refine split_jn (by simp) fun l hl => ?_
  rcases List.mem_cons.mp hl with e | e
  · rw [e]
    unfold lineP
    simp
    omega
  · obtain ⟨p, hp, rfl⟩ := List.mem_map.mp e
    unfold lineR
    intro hm
    rcases List.mem_append.mp hm with z | z
    · exact name_free (h.hm p hp) (by decide) z
    · rcases List.mem_cons.mp z with z | z
      · cases z
      · exact row_free (h.hr p hp).1 (by decide) z
theorem bookT_len {n : Nat} {rs : List (List Nat × List Nat)} (h : BookOk n rs) : (bookT n rs).length ≤ 8 + 18 * rs.length := by
  have key : ∀ (l : List Nat) (ls : List (List Nat)), (∀ x ∈ ls, x.length ≤ 17) → (jn 10 (l :: ls)).length ≤ l.length + 18 * ls.length := by
    intro l ls
    induction ls generalizing l with
    | nil => intro _; exact Nat.le_refl _
    | cons m r ih =>
      intro hh
      have := ih m fun x hx => hh x (List.mem_cons_of_mem _ hx)
      have h2 := hh m List.mem_cons_self
      show (l ++ 10 :: jn 10 (m :: r)).length ≤ _
      rw [List.length_append, List.length_cons, List.length_cons]
      omega
  have := key (lineP n) (rs.map lineR) fun x hx => by
    obtain ⟨p, hp, rfl⟩ := List.mem_map.mp hx
    have a := (h.hm p hp).1
    have b := (h.hr p hp).1.1
    unfold lineR
    rw [List.length_append, List.length_cons]
    omega
  rw [List.length_map] at this
  exact this
theorem digit_str {n : Nat} (h : 1 ≤ n ∧ n ≤ 8) : (Str.ofString (toString (n : Int))) = sg1 (48 + n) := by
  have : n = 1 ∨ n = 2 ∨ n = 3 ∨ n = 4 ∨ n = 5 ∨ n = 6 ∨ n = 7 ∨ n = 8 := by omega
  rcases this with e | e | e | e | e | e | e | e <;> subst e <;> decide +kernel
end Hid

namespace Hid
open PySem PySem.Spec PyProof.Rows L2 Evl
/-! values told by their data -/
section
variable {K : PySem.W.Frag} {σ : L2.St} {H H' : Hp} {ta tb te tl : TE}
def EvD (K : PySem.W.Frag) (te : TE) (σ : L2.St) (H : Hp) (d : PyData) : Prop := ∀ H1, Ex H H1 → ∀ Q : VK, (∀ v H2, Ex H1 H2 → (∀ H3, Ex H2 H3 → Dp K H3 v d) → Q v H2) → te σ H1 Q
theorem ed_ev {v : V} {d : PyData} (h : Ev te σ H v) (hd : ∀ H1, Ex H H1 → Dp K H1 v d) : EvD K te σ H d := fun H1 e Q q => h H1 e _ fun H2 e2 => q v H2 e2 fun H3 e3 => hd H3 (e.trans (e2.trans e3))
theorem ed_tup2 {x : V} {dx d : PyData} (ha : Ev ta σ H x) (hx : ∀ G, Dp K G x dx) (hb : EvD K tb σ H d) : EvD K (tTup (tCons ta (tCons tb tNil))) σ H (.tuple [dx, d]) := fun H1 e Q q =>
  ha H1 e _ fun H2 e2 => hb H2 (e.trans e2) _ fun v H3 e3 hv => ⟨by show 2 ≤ sizeLine; decide, fun p np => q _ _ (e2.trans (e3.trans (Ex.new np))) fun H4 e4 => .tup (st_of (e4 _ _ upd_same)) (.cons (hx _) (.cons (hv H4 ((Ex.new np).trans e4)) .nil))⟩
theorem ev_eqD {d : PyData} (ha : EvD K ta σ H d) (hb : EvD K tb σ H d) (hs : SeqAt.shaped d = true) : Ev (tOp (rEqD K) ta tb) σ H (.bl true) := fun H1 e Q q =>
  ha H1 e _ fun v H2 e2 hv => hb H2 (e.trans e2) _ fun u H3 e3 hu => ⟨d, d, hv H3 e3, hu H3 (Ex.refl _), hs, hs, by rw [SeqAt.eqv_refl _ (SeqAt.canLay_of_shaped hs)]; exact q H3 (e2.trans e3)⟩
theorem ev_neD {d : PyData} (ha : EvD K ta σ H d) (hb : EvD K tb σ H d) (hs : SeqAt.shaped d = true) : Ev (tOp (rNeD K) ta tb) σ H (.bl false) := fun H1 e Q q =>
  ha H1 e _ fun v H2 e2 hv => hb H2 (e.trans e2) _ fun u H3 e3 hu => ⟨d, d, hv H3 e3, hu H3 (Ex.refl _), hs, hs, by rw [SeqAt.eqv_refl _ (SeqAt.canLay_of_shaped hs)]; exact q H3 (e2.trans e3)⟩
end
/-! books as data -/
def dBook (n : Nat) (rs : List (List Nat × List Nat)) : PyData := .tuple [.int (n : Nat), .tuple (rs.map dSS)]
theorem BookF.dp {K : PySem.W.Frag} {H : Hp} {v : V} {n : Nat} {rs : List (List Nat × List Nat)} (h : BookF K H v n rs) : Dp K H v (dBook n rs) := by
  obtain ⟨t, b, vs, rfl, c, d, p⟩ := h
  exact .tup (st_of c) (.cons (.int _) (.cons (.tup d.sq (Prs.dp p)) .nil))
theorem shaped_book {n : Nat} {rs : List (List Nat × List Nat)} (h : ∀ p ∈ rs, (∀ c ∈ p.1, c < 200) ∧ ∀ c ∈ p.2, c < 200) : SeqAt.shaped (dBook n rs) = true := by
  have a := (shaped_prs rs h).2
  unfold SeqAt.shaped at a ⊢
  rw [Bool.and_eq_true] at a ⊢
  obtain ⟨a1, a2⟩ := a
  have a2' := of_decide_eq_true a2
  have b2 : ∀ ps : List (List Nat × List Nat), PyData.depthAll (ps.map dSS) ≤ 4 := by
    intro ps
    induction ps with
    | nil => exact Nat.zero_le _
    | cons p ps ih =>
      show max (PyData.depth (dSS p)) (PyData.depthAll (ps.map dSS)) ≤ 4
      have : PyData.depth (dSS p) ≤ 4 := by simp [dSS, PyData.depth, PyData.depthAll]
      omega
  have b3 := b2 rs
  refine ⟨?_, decide_eq_true ?_⟩
  · show (PyData.canLayAll0 [.int (n : Nat), .tuple (rs.map dSS)]) = true
    show (PyData.canLay0 (.int (n : Nat)) && (PyData.canLay0 (.tuple (rs.map dSS)) && true)) = true
    rw [a1]
    rfl
  · simp only [dBook, PyData.depth, PyData.depthAll]
    omega
theorem BookOk.sub {n : Nat} {rs qs : List (List Nat × List Nat)} (h : BookOk n rs) (hl : qs.length ≤ 10) (hm : ∀ p ∈ qs, p ∈ rs) (hd : (qs.map (·.1)).Nodup) : BookOk n qs := ⟨h.hn, hl, fun p hp => h.hr p (hm p hp), fun p hp => h.hm p (hm p hp), hd⟩
theorem BookOk.perm {n : Nat} {rs qs : List (List Nat × List Nat)} (h : BookOk n rs) (p : qs.Perm rs) : BookOk n qs := h.sub (by rw [p.length_eq]; exact h.hl) (fun x hx => p.mem_iff.mp hx) ((p.map (·.1)).nodup_iff.mpr h.hd)
theorem BookOk.subl {n : Nat} {rs qs : List (List Nat × List Nat)} (h : BookOk n rs) (s : qs.Sublist rs) : BookOk n qs := h.sub (Nat.le_trans s.length_le h.hl) (fun x hx => s.subset hx) (h.hd.sublist (s.map _))
def NoN (K : PySem.W.Frag) (H : Hp) (t : Addr) (xs : List V) : Prop := H t = some (.tup xs) ∨ TupF H t xs
theorem NoN.sq {K : PySem.W.Frag} {H : Hp} {t : Addr} {xs : List V} (h : NoN K H t xs) : SqT K H t xs := h.elim st_of TupF.sq
theorem NoN.ty {K : PySem.W.Frag} {H : Hp} {t : Addr} {xs : List V} (h : NoN K H t xs) : TyX K H (.ref t) (.type "tuple") := h.elim (fun e => .base (.tup e)) fun ⟨o, _, c⟩ => .fTuple c
theorem NoN.ex {K : PySem.W.Frag} {H H' : Hp} {t : Addr} {xs : List V} (h : NoN K H t xs) (e : Ex H H') : NoN K H' t xs := h.elim (fun c => .inl (e _ _ c)) fun c => .inr (c.ex e)
end Hid

namespace Hid
open PySem PySem.Spec PyProof.Rows L2 Evl
/-! no and yes exchanged -/
def exS (c : Nat) : Nat := if c = 110 then 121 else if c = 121 then 110 else c
def exL (l : List Nat) : List Nat := l.map exS
theorem exS_inj {a b : Nat} (h : exS a = exS b) : a = b := by
  unfold exS at h
  split at h <;> split at h <;> (try split at h) <;> (try split at h) <;> omega
theorem rb_ex (a b : Nat) : rb (exS a) (exS b) = exS (rb a b) := by
  unfold rb
  by_cases h : a = b
  · rw [if_pos h, if_pos (by rw [h])]
  · rw [if_neg h, if_neg fun z => h (exS_inj z)]
    rfl
theorem rowBy_ex (a b : List Nat) : rowBy (exL a) (exL b) = exL (rowBy a b) := by
  unfold rowBy exL
  rw [List.zipWith_map, List.map_zipWith]
  congr 1
  funext x y
  exact rb_ex x y
theorem ex_half {m : Nat} {a : List Nat} (h : HalfN m a) : HalfN m (exL a) := by
  refine ⟨by unfold exL; rw [List.length_map]; exact h.1, fun c hc => ?_⟩
  obtain ⟨d, hd, rfl⟩ := List.mem_map.mp hc
  rcases h.2 d hd with z | z <;> rw [z] <;> decide
theorem ex_row {r : List Nat} (h : RowL r) : RowL (exL r) := by
  refine ⟨by unfold exL; rw [List.length_map]; exact h.1, fun c hc => ?_⟩
  obtain ⟨d, hd, rfl⟩ := List.mem_map.mp hc
  rcases h.2 d hd with z | z | z <;> rw [z] <;> decide
theorem ybn_at : ∀ c, c = 110 ∨ c = 98 ∨ c = 121 → ∃ i : Nat, Builtin.Str.occurrences ("ybn" : Str) (sg1 c) 0 ("ybn" : Str).length 1 = [i] ∧ [V.str "n", V.str "b", V.str "y"][i]? = some (.str (sg1 (exS c))) := by
  rintro c (rfl | rfl | rfl)
  · exact ⟨2, by decide +kernel, rfl⟩
  · exact ⟨1, by decide +kernel, rfl⟩
  · exact ⟨0, by decide +kernel, rfl⟩
theorem srt_two (a b : List Nat) : srt [tx a, tx b] = [tx (mn a b), tx (mx a b)] := by
  have pw : ∀ x y : List Nat, x ≤ y → ([tx x, tx y] : List Str).Pairwise fun u v => u.cps.toList ≤ v.cps.toList := fun x y h => by
    refine List.pairwise_cons.mpr ⟨fun z hz => ?_, List.pairwise_singleton _ _⟩
    rw [List.mem_singleton.mp hz, tx_toList, tx_toList]
    exact h
  have key : ∀ (x y : List Nat), x ≤ y → ([tx x, tx y] : List Str).Perm [tx a, tx b] → srt [tx a, tx b] = [tx x, tx y] := fun x y h p =>
    ((List.mergeSort_perm _ strLe).trans p.symm).eq_of_pairwise (fun _ _ _ _ u v => str_ext (List.le_antisymm u v)) (srt_sorted _) (pw x y h)
  unfold mn mx
  by_cases h1 : b < a
  · rw [if_pos h1, if_neg fun z => List.lt_irrefl _ (List.lt_trans h1 z)]
    exact key b a (List.le_of_lt h1) (List.Perm.swap _ _ _)
  · rw [if_neg h1]
    have h2 : a ≤ b := List.not_lt.mp h1
    by_cases h3 : a < b
    · rw [if_pos h3]
      exact key a b h2 (List.Perm.refl _)
    · have : a = b := List.le_antisymm h2 (List.not_lt.mp h3)
      subst this
      rw [if_neg h3]
      exact key a a h2 (List.Perm.refl _)
theorem sc_uniq {as bs : List (List Sc)} (h1 : as.Pairwise fun x y => scLt x y = true) (h2 : bs.Pairwise fun x y => scLt x y = true) (h : ∀ d, d ∈ as ↔ d ∈ bs) : as = bs := by
  have nd : ∀ {l : List (List Sc)}, (l.Pairwise fun x y => scLt x y = true) → l.Nodup := fun h => h.imp fun {x y} q e => by
    rw [e] at q
    have z : scLt y y = false := lex_irrefl (O := itemOrd) y
    rw [z] at q
    cases q
  refine ((List.perm_ext_iff_of_nodup (nd h1) (nd h2)).mpr h).eq_of_pairwise (fun x y _ _ p q => ?_) h1 h2
  rw [scLt_asym p] at q
  cases q
def scP (p : List Nat × List Nat) : List Sc := [.inr p.1, .inr p.2]
theorem scP_lt {p q : List Nat × List Nat} (h : p.1 < q.1) : scLt (scP p) (scP q) = true := by
  have e : scLt (scP p) (scP q) = PyProof.Rows.strKind.blt p.1 q.1 := lex_diff (O := itemOrd) fun z => lt_ne h (Sum.inr.inj z)
  rw [e]
  exact decide_eq_true h
theorem prs_sc {K : PySem.W.Frag} {H : Hp} : ∀ {vs : List V} {ps : List (List Nat × List Nat)}, Prs K H vs ps → Paired (ScT K H) vs (ps.map scP)
  | _, _, .nil => .nil
  | _, _, .cons h t => .cons h (prs_sc t)
theorem sc_prs {K : PySem.W.Frag} {H : Hp} : ∀ {vs : List V} {ps : List (List Nat × List Nat)}, Paired (ScT K H) vs (ps.map scP) → Prs K H vs ps
  | _, [], .nil => .nil
  | _, _ :: _, .cons h t => .cons h (sc_prs t)
theorem many_ins (r q : List Nat) (c : Nat) : many (r ++ [c] ++ q) = if c = 98 ∧ (r ++ q).count 98 ≠ 0 then 2 * many (r ++ q) else many (r ++ q) := by
  have e : (r ++ [c] ++ q).Perm ((r ++ q) ++ [c]) := by
    rw [List.append_assoc, List.append_assoc]
    exact List.Perm.append_left r List.perm_append_comm
  have z : many (r ++ [c] ++ q) = many ((r ++ q) ++ [c]) := by
    unfold many
    rw [e.count_eq]
  rw [z, many_snoc]
section
variable {K : PySem.W.Frag} {σ : L2.St} {H H' : Hp} {ta tb tc te tl : TE} {t : TT}
theorem el_isL {xs ys : List V} (h : EvL te σ H xs) (e : xs = ys) : EvL te σ H ys := e ▸ h
theorem el_lcS {z : Str} {j : Nat} {vs : List Nat} (f : Nat → Bool) (v : Nat → V) (h : Ev tl σ H (.str z)) (hz : z.cps.size ≤ 40000) (hw : ∀ x, wipe ((wipe σ vs).set j (some x)) vs = wipe σ vs)
    (ht : ∀ (i c : Nat) H1, Ex H H1 → z.cps[i]? = some c → EvT t ((wipe σ vs).set j (some (.str ⟨#[c]⟩))) H1 (f i)) (he : ∀ (i c : Nat) H1, Ex H H1 → z.cps[i]? = some c → f i = true → Ev te ((wipe σ vs).set j (some (.str ⟨#[c]⟩))) H1 (v i)) :
    EvL (tLc (iStr tl) (gName j) t te vs) σ H (given z.cps.size f v) := fun H0 e Q q => h H0 e _ fun H1 e1 => ⟨z, rfl, fun Dl hD =>
  lc_it walk_str (Cw H1 f v Dl) ⟨hD, Ex.new hD, upd_same⟩ (fun _ _ _ _ => trivial) (fun i x H2 H2' hi p hY => by
      obtain ⟨rfl, c, hc, rfl⟩ := hY
      exact ⟨hw _, cw_turn p (by omega) (ht i c H1 (e.trans e1) hc) (fun hf => he i c H1 (e.trans e1) hc hf)⟩)
    (fun H' p => q Dl H' (fresh_back e1 p.1) (e1.trans p.2.1) p.2.2)⟩
theorem el_cat {xs ys : List V} (ha : EvL ta σ H xs) (hb : EvL tb σ H ys) (hl : xs.length + ys.length ≤ 100000) : EvL (tOp rCat ta tb) σ H (xs ++ ys) := fun H1 e Q q =>
  ha H1 e _ fun p H2 hp e2 h2 => hb H2 (e.trans e2) _ fun p' H3 hp' e3 h3 => ⟨p, p', xs, ys, rfl, rfl, e3 _ _ h2, h3, sz_of hl, fun r hr => q r _ (fresh_back (e2.trans e3) hr) ((e2.trans e3).trans (Ex.new hr)) upd_same⟩
theorem el_sortLS {xs : List Str} (h : EvL tl σ H (xs.map V.str)) : EvL (tCB (rSortLS K) (tCons tl tNil)) σ H ((srt xs).map V.str) := fun H1 e Q q =>
  h H1 e _ fun p H2 np e2 h2 => ⟨p, xs, rfl, sq_of h2, fun p2 np2 => q p2 _ (fresh_back e2 np2) (e2.trans (Ex.new np2)) upd_same⟩
end
theorem q_forKg {K : PySem.W.Frag} {tl : TE} {g : TG} {tu tz : L2.TS} {D : Ends} {σ : L2.St} {H : Hp} {S : Addr → List V → Hp → Prop} (h : ∀ Qk : VK, (∀ a xs H1, S a xs H1 → Qk (.ref a) H1) → tl σ H Qk) (hS : ∀ a xs H1, S a xs H1 → SqL K H1 a xs)
    (k : ∀ a xs H1, S a xs H1 → ∃ Pv : Nat → L2.St → Hp → Prop, Pv 0 σ H1 ∧ (∀ i σ' H', i ≤ xs.length → Pv i σ' H' → SqL K H' a xs) ∧ (∀ i x σ' H', xs[i]? = some x → Pv i σ' H' → g x σ' H' fun σ2 H2 => tu { D with nx := Pv (i + 1), ct := Pv (i + 1), bk := tz D } σ2 H2) ∧ (∀ σ' H', Pv xs.length σ' H' → tz D σ' H')) : tSeq (tFor (iList K tl) g tu) tz D σ H :=
  h _ fun a xs H1 s => let ⟨Pv, p0, p1, p2, p3⟩ := k a xs H1 s; ⟨a, rfl, ⟨xs, hS a xs H1 s⟩, for_list (D := { D with nx := tz D }) Pv p0 p1 p2 p3⟩
theorem q_asgK {te : TE} {i : Nat} {tz : L2.TS} {D : Ends} {σ : L2.St} {H : Hp} {S : Addr → Hp → Prop} (h : ∀ Qk : VK, (∀ pl H9, Ex H H9 → S pl H9 → Qk (.ref pl) H9) → te σ H Qk) (k : ∀ pl H9, Ex H H9 → S pl H9 → tz D (σ.set i (some (.ref pl))) H9) : tSeq (tAsg te (gName i)) tz D σ H := h _ k
theorem ev_allN {K : PySem.W.Frag} {te : TE} {σ : L2.St} {H : Hp} {bs : List Bool} (h : EvL te σ H (bs.map V.bl)) : Ev (tCB (rAll K) (tCons te tNil)) σ H (.bl (bs.all id)) := fun H1 e Q q => h H1 e _ fun p H2 _ e2 h2 => ⟨p, bs, rfl, sq_of h2, q H2 e2⟩
theorem range_rep (n : Nat) : (List.range n).map (fun _ => V.bl true) = (List.replicate n true).map V.bl := by
  rw [List.map_const', List.length_range, List.map_replicate]
theorem given_rep (n : Nat) : given n (fun _ => true) (fun _ => V.bl true) = (List.replicate n true).map V.bl := by
  rw [given_true]
  exact range_rep n
theorem rowBy_comm (a o : List Nat) : rowBy a o = rowBy o a := by
  unfold rowBy
  rw [List.zipWith_comm]
  congr 1
  funext s t
  unfold rb
  by_cases h : s = t
  · rw [if_pos h, if_pos h.symm, h]
  · rw [if_neg h, if_neg fun z => h z.symm]
theorem cut_take {xs : List V} (n : Nat) : cutV xs none (some (n : Int)) = xs.take n := by
  unfold cutV
  rw [HT.sIx_nat]
  show List.take (min n xs.length - 0) (List.drop 0 xs) = _
  rw [List.drop_zero, Nat.sub_zero]
  by_cases h : n ≤ xs.length
  · rw [Nat.min_eq_left h]
  · rw [Nat.min_eq_right (by omega), List.take_of_length_le (Nat.le_refl _), List.take_of_length_le (by omega)]
theorem paired_take {α γ : Type} {F : α → γ → Prop} : ∀ {l : List α} {m : List γ}, Paired F l m → ∀ i, Paired F (l.take i) (m.take i)
  | _, _, .nil, i => by rw [List.take_nil, List.take_nil]; exact .nil
  | _, _, .cons h t, 0 => by rw [List.take_zero, List.take_zero]; exact .nil
  | _, _, .cons h t, i + 1 => by rw [List.take_succ_cons, List.take_succ_cons]; exact .cons h (paired_take t i)
theorem paired_drop {α γ : Type} {F : α → γ → Prop} : ∀ {l : List α} {m : List γ}, Paired F l m → ∀ i, Paired F (l.drop i) (m.drop i)
  | _, _, .nil, i => by rw [List.drop_nil, List.drop_nil]; exact .nil
  | _, _, .cons h t, 0 => by rw [List.drop_zero, List.drop_zero]; exact .cons h t
  | _, _, .cons h t, i + 1 => by rw [List.drop_succ_cons, List.drop_succ_cons]; exact paired_drop t i
theorem paired_rev {α γ : Type} {F : α → γ → Prop} : ∀ {l : List α} {m : List γ}, Paired F l m → Paired F l.reverse m.reverse
  | _, _, .nil => .nil
  | _, _, .cons h t => by rw [List.reverse_cons, List.reverse_cons]; exact paired_app (paired_rev t) (.cons h .nil)
theorem paired_erase {α γ : Type} {F : α → γ → Prop} : ∀ {l : List α} {m : List γ}, Paired F l m → ∀ i, Paired F (l.eraseIdx i) (m.eraseIdx i)
  | _, _, .nil, i => by rw [List.eraseIdx_nil, List.eraseIdx_nil]; exact .nil
  | _, _, .cons h t, 0 => by rw [List.eraseIdx_zero, List.eraseIdx_zero]; exact t
  | _, _, .cons h t, i + 1 => by rw [List.eraseIdx_cons_succ, List.eraseIdx_cons_succ]; exact .cons h (paired_erase t i)
/-- without the row of this name: without the row at this place -/
theorem fil_erase : ∀ {rs : List (List Nat × List Nat)} (k : Nat) (p : List Nat × List Nat), (rs.map (·.1)).Nodup → rs[k]? = some p → (rs.filter fun q => !decide (q.1 = p.1)) = rs.eraseIdx k
  | [], k, p, _, h => by simp at h
  | q :: rs, 0, p, nd, h => by
    cases (Option.some.inj h)
    rw [List.map_cons, List.nodup_cons] at nd
    rw [List.eraseIdx_zero, List.filter_cons_of_neg (by simp)]
    refine List.filter_eq_self.mpr fun x hx => ?_
    have : ¬ x.1 = q.1 := fun z => nd.1 (List.mem_map.mpr ⟨x, hx, z⟩)
    rw [decide_eq_false this]
    rfl
  | q :: rs, k + 1, p, nd, h => by
    rw [List.map_cons, List.nodup_cons] at nd
    rw [List.getElem?_cons_succ] at h
    have : ¬ q.1 = p.1 := fun z => nd.1 (List.mem_map.mpr ⟨p, List.mem_of_getElem? h, z.symm⟩)
    rw [List.eraseIdx_cons_succ, List.filter_cons_of_pos (by simpa using this), fil_erase k p nd.2 h]
theorem erase_perm {α : Type} : ∀ {rs : List α} (k : Nat) (p : α), rs[k]? = some p → (rs.eraseIdx k ++ [p]).Perm rs
  | [], k, p, h => by simp at h
  | q :: rs, 0, p, h => by
    cases (Option.some.inj h)
    rw [List.eraseIdx_zero]
    exact (List.perm_append_comm (l₁ := rs) (l₂ := [q]))
  | q :: rs, k + 1, p, h => by
    rw [List.getElem?_cons_succ] at h
    rw [List.eraseIdx_cons_succ, List.cons_append]
    exact (erase_perm k p h).cons q
theorem eqv_ints (A B : List Int) : PyData.eqv (.list (A.map PyData.int)) (.list (B.map PyData.int)) = decide (A = B) := by
  show PyData.eqvAll (A.map PyData.int) (B.map PyData.int) = decide (A = B)
  induction A generalizing B with
  | nil => cases B <;> simp [PyData.eqvAll]
  | cons a A ih =>
    cases B with
    | nil => simp [PyData.eqvAll]
    | cons b B =>
      show (PyData.eqv (.int a) (.int b) && PyData.eqvAll (A.map PyData.int) (B.map PyData.int)) = _
      rw [ih]
      have : PyData.eqv (.int a) (.int b) = decide (a = b) := by
        rw [Bool.eq_iff_iff]; simp [PyData.eqv]
      rw [this, Bool.eq_iff_iff]
      simp
section
variable {P : Program} {w : World} {K : PySem.W.Frag} {mg : Str → Option Value} {base : Heap}
def sp__law_exchanged (K : PySem.W.Frag) (ts : List Addr) : Sp := fun vs H Q _ => ∃ r : List Nat, vs = [.str (tx r)] ∧ (r.length ≤ 8 ∧ ∀ c ∈ r, c = 110 ∨ c = 98 ∨ c = 121) ∧ RetV (.str (tx (exL r))) H Q
theorem ok__law_exchanged {ts : List Addr} (D : Df K mg "_law_exchanged" st__law_exchanged ["_law_text"]) : At P w K mg base "_law_exchanged" st__law_exchanged 1 ["_law_text"] (sp__law_exchanged K ts) := by
  obtain ⟨f, fd, F, b, g⟩ := D
  refine ⟨f, fd, F, b, g, F.ok sc__law_exchanged (fun vs H Q E h => ?_) (fun cdv A outer s H vs Q E hr h => ?_)⟩
  · obtain ⟨r, rfl, _⟩ := h
    rfl
  · obtain ⟨r, rfl, ⟨hl, hr⟩, q⟩ := h
    refine ⟨_, (pss_one (ps_ret (pe_join pe_str (pe_lc (own := [("_law_sign", 1)]) (g := gName 1) (by rfl) sc__law_exchanged.nd (pi_str (pv 0)) (blkOk_by (N := ["_law_text", "_law_sign"]) (sc := defScope st__law_exchanged) (by decide +kernel)) (fun _ _ _ _ _ => (pg_name (i := 1) sc__law_exchanged.nd rfl (.inl rfl))) (fun _ _ _ _ _ => pts_nil) (fun _ _ _ _ _ => (pe_ix (show IxR _ (rIxL K) from ix_list) (pe_lst (pa_cons pe_str (pa_cons pe_str (pa_cons pe_str pa_nil)))) (pe_m1 PySem.F.slot_str_index PySem.F.type_str_index mt_sindex pe_str (pv 1)) (fun _ _ => rfl))))))), ?_⟩
    refine s_ret (ev_join (l := exL r) (el_isL (el_lcS (z := tx r) (fun _ => true) (fun i => .str (sg1 (exS (r.getD i 0)))) (ev_var rfl) (by show (tx r).cps.size ≤ 40000; have := tx_len r; show (tx r).length ≤ 40000; omega) (fun _ => rfl) (fun i c G1 g1 hc => et_yes) (fun i c G1 g1 hc _ => ?_)) ?_) (by unfold exL; rw [List.length_map]; omega)) fun H1 e1 => q H1 e1
    · have hrc : r[i]? = some c := by rw [← tx_toList r, ← hc]; simp
      rw [List.getD_eq_getElem?_getD, hrc]
      obtain ⟨m, ho, hm⟩ := ybn_at c (hr c (List.mem_of_getElem? hrc))
      exact ev_opL1 (el_lst (ea_cons ev_c (ea_cons ev_c (ea_cons ev_c ea_nil))) (by show 3 ≤ 100000; decide)) (fun G g => fun G2 g2 Q9 q9 => ⟨⟨_, rfl⟩, _, rfl, _, _, m, [], rfl, rfl, ho, q9 G2 (Ex.refl _)⟩) (fun p G hp g => rv_ixL (sq_of hp) (atI_nat hm))
    · rw [given_true]
      unfold exL vs1
      rw [List.map_map]
      have hz : (tx r).cps.size = r.length := tx_len r
      refine List.ext_getElem (by rw [List.length_map, List.length_map, List.length_range, hz]) fun i h1 h2 => ?_
      rw [List.length_map] at h2
      rw [List.getElem_map, List.getElem_map, List.getElem_range, List.getD_eq_getElem?_getD, List.getElem?_eq_getElem h2]
      rfl
def sp__law_one_right (K : PySem.W.Frag) (ts : List Addr) : Sp := fun vs H Q _ => ∃ (r : List Nat) (k : Nat), vs = [.str (tx r), .int (k : Nat)] ∧ (RowL r ∧ k < many r) ∧ TB ts H ∧ RetV (.bl true) H Q
theorem ok__law_one_right {ts : List Addr} (D : Df K mg "_law_one_right" st__law_one_right ["_law_row", "_law_number"]) (m_tuple : mg "tuple" = none) (m_sorted : mg "sorted" = none) (A_parting_at : At P w K mg base "parting_at" st_parting_at 2 ["row", "number"] (sp_parting_at K ts)) (A_row_by : At P w K mg base "row_by" st_row_by 1 ["one", "other"] (sp_row_by K ts)) (A_other_half : At P w K mg base "other_half" st_other_half 6 ["row", "half"] (sp_other_half K ts)) (A_fits_row : At P w K mg base "fits_row" st_fits_row 5 ["row", "half"] (sp_fits_row K ts)) (A__law_exchanged : At P w K mg base "_law_exchanged" st__law_exchanged 1 ["_law_text"] (sp__law_exchanged K ts)) (A_number_of : At P w K mg base "number_of" st_number_of 4 ["row", "parting"] (sp_number_of K ts)) : At P w K mg base "_law_one_right" st__law_one_right 7 ["_law_row", "_law_number"] (sp__law_one_right K ts) := by
  obtain ⟨f, fd, F, b, g⟩ := D
  obtain ⟨f_parting_at, fd_parting_at, F_parting_at, b_parting_at, g_parting_at, G_parting_at⟩ := A_parting_at
  obtain ⟨f_row_by, fd_row_by, F_row_by, b_row_by, g_row_by, G_row_by⟩ := A_row_by
  obtain ⟨f_other_half, fd_other_half, F_other_half, b_other_half, g_other_half, G_other_half⟩ := A_other_half
  obtain ⟨f_fits_row, fd_fits_row, F_fits_row, b_fits_row, g_fits_row, G_fits_row⟩ := A_fits_row
  obtain ⟨f__law_exchanged, fd__law_exchanged, F__law_exchanged, b__law_exchanged, g__law_exchanged, G__law_exchanged⟩ := A__law_exchanged
  obtain ⟨f_number_of, fd_number_of, F_number_of, b_number_of, g_number_of, G_number_of⟩ := A_number_of
  refine ⟨f, fd, F, b, g, F.ok sc__law_one_right (fun vs H Q E h => ?_) (fun cdv A outer s H vs Q E hr h => ?_)⟩
  · obtain ⟨r, k, rfl, _⟩ := h
    rfl
  · obtain ⟨r, k, rfl, ⟨hR, hk⟩, hT, q⟩ := h
    refine ⟨_, (pss_cons (ps_asg (pe_call G_parting_at (hr.mono (by decide)) (by rfl) g_parting_at F_parting_at.kp b_parting_at .nil pass0 (pa_cons (pv 0) (pa_cons (pv 1) pa_nil))) (pg_tup (by rfl) (pgs_cons (pg_name (i := 2) sc__law_one_right.nd rfl (.inl rfl)) (pgs_cons (pg_name (i := 3) sc__law_one_right.nd rfl (.inl rfl)) pgs_nil))))
      (pss_cons (ps_for PassesOwn.never rfl (pi_list (pe_lst (pa_cons (pe_tup (pa_cons (pv 2) (pa_cons (pv 3) pa_nil))) (pa_cons (pe_tup (pa_cons (pv 3) (pa_cons (pv 2) pa_nil))) pa_nil)))) (pg_tup (by rfl) (pgs_cons (pg_name (i := 4) sc__law_one_right.nd rfl (.inl rfl)) (pgs_cons (pg_name (i := 5) sc__law_one_right.nd rfl (.inl rfl)) pgs_nil)))
      (pss_one (ps_if (PW.pt (pw_or (pt_not (pt_val (pe_call G_fits_row (hr.mono (by decide)) (by rfl) g_fits_row F_fits_row.kp b_fits_row .nil pass0 (pa_cons (pv 0) (pa_cons (pv 4) pa_nil))))) (pw_or (pt_cmpR op_ne (pe_call G_other_half (hr.mono (by decide)) (by rfl) g_other_half F_other_half.kp b_other_half .nil pass0 (pa_cons (pv 0) (pa_cons (pv 4) pa_nil))) (pv 5) (nomark _)) (pw_or1 (pt_cmpR op_ne (pe_call G_row_by (hr.mono (by decide)) (by rfl) g_row_by F_row_by.kp b_row_by .nil pass0 (pa_cons (pv 4) (pa_cons (pv 5) pa_nil))) (pv 0) (nomark _))))))
      (pss_one (ps_ret pe_bl))
      pss_nil)))
      (pss_cons (ps_set (i := 6) sc__law_one_right.nd rfl (.inl rfl) (pe_callTy call_tuple_of (by rfl) m_tuple (by decide +kernel) (pa_cons (pe_callB (Hid.cr_sortLS hr.units) (by rfl) m_sorted (by decide +kernel) (pa_cons (pe_lst (pa_cons (pe_call G__law_exchanged (hr.mono (by decide)) (by rfl) g__law_exchanged F__law_exchanged.kp b__law_exchanged .nil pass0 (pa_cons (pv 2) pa_nil)) (pa_cons (pe_call G__law_exchanged (hr.mono (by decide)) (by rfl) g__law_exchanged F__law_exchanged.kp b__law_exchanged .nil pass0 (pa_cons (pv 3) pa_nil)) pa_nil))) pa_nil)) pa_nil)))
      (pss_cons (ps_if (PW.pt (pw_or (pt_cmpR op_ne (pe_call G_number_of (hr.mono (by decide)) (by rfl) g_number_of F_number_of.kp b_number_of .nil pass0 (pa_cons (pv 0) (pa_cons (pe_tup (pa_cons (pv 2) (pa_cons (pv 3) pa_nil))) pa_nil))) (pv 1) (nomark _)) (pw_or1 (pt_cmpR op_ne (pe_call G_row_by (hr.mono (by decide)) (by rfl) g_row_by F_row_by.kp b_row_by .nil pass0 (pa_cons (pe_ix ix_tup (pv 6) pe_int (fun _ _ => rfl)) (pa_cons (pe_ix ix_tup (pv 6) pe_int (fun _ _ => rfl)) pa_nil))) (pe_call G__law_exchanged (hr.mono (by decide)) (by rfl) g__law_exchanged F__law_exchanged.kp b__law_exchanged .nil pass0 (pa_cons (pv 0) pa_nil)) (nomark _)))))
      (pss_one (ps_ret pe_bl))
      pss_nil)
      (pss_one (ps_ret (pe_cmpR (op_eqD hr.units) (pe_call G_parting_at (hr.mono (by decide)) (by rfl) g_parting_at F_parting_at.kp b_parting_at .nil pass0 (pa_cons (pe_call G__law_exchanged (hr.mono (by decide)) (by rfl) g__law_exchanged F__law_exchanged.kp b__law_exchanged .nil pass0 (pa_cons (pv 0) pa_nil)) (pa_cons (pe_call G_number_of (hr.mono (by decide)) (by rfl) g_number_of F_number_of.kp b_number_of .nil pass0 (pa_cons (pe_call G__law_exchanged (hr.mono (by decide)) (by rfl) g__law_exchanged F__law_exchanged.kp b__law_exchanged .nil pass0 (pa_cons (pv 0) pa_nil)) (pa_cons (pv 6) pa_nil))) pa_nil))) (pv 6) (nomark _)))))))), ?_⟩
    have hr8 := hR.1
    have hnb : NBY r := hR.2
    obtain ⟨l1, l2, hrb⟩ := (part_good r).1 k
    have f1 : fitsO r (some (part r k).1) = true := (fit_of hnb).mpr ⟨k, hk, .inl rfl⟩
    have f2 : fitsO r (some (part r k).2) = true := (fit_of hnb).mpr ⟨k, hk, .inr rfl⟩
    have t1 : turned r (part r k).1 = (part r k).2 := rfl
    have t2 : turned r (part r k).2 = (part r k).1 := part_back hnb hk
    have ha : HalfN r.length (part r k).1 := ⟨l1, (fit_len f1).2⟩
    have hb : HalfN r.length (part r k).2 := ⟨l2, (fit_len f2).2⟩
    refine c_call (ea_cons (ev_var rfl) (ea_cons (ev_var rfl) ea_nil)) fun G g => ⟨r, k, rfl, ⟨by omega, hk⟩, fun p H1 np g1 h1 => ?_⟩
    have e1 : Ex H H1 := g.trans g1
    refine ⟨p, [.str (tx (part r k).1), .str (tx (part r k).2)], rfl, st_of h1, rfl, _, [_], rfl, _, [], rfl, rfl, ?_⟩
    dsimp only
    have hpart : pT (part r k) = [.str (tx (part r k).1), .str (tx (part r k).2)] := rfl
    generalize (part r k).1 = a at *
    generalize (part r k).2 = o at *
    refine q_forKg (S := fun l xs H2 => ∃ u1 u2, xs = [.ref u1, .ref u2] ∧ Ex H1 H2 ∧ H2 l = some (.lst xs) ∧ H2 u1 = some (.tup [.str (tx a), .str (tx o)]) ∧ H2 u2 = some (.tup [.str (tx o), .str (tx a)])) (fun Qk kk => ⟨_, rfl, _, rfl, by show 2 ≤ sizeLine; decide, fun u1 n1 => ⟨_, rfl, _, rfl, by show 2 ≤ sizeLine; decide, fun u2 n2 => ⟨by show 2 ≤ sizeLine; decide, fun l nl => kk l _ _ ⟨u1, u2, rfl, (Ex.new n1).trans ((Ex.new n2).trans (Ex.new nl)), upd_same, (Ex.new nl) _ _ ((Ex.new n2) _ _ upd_same), (Ex.new nl) _ _ upd_same⟩⟩⟩⟩) (fun l xs H2 hS => ?_) fun l xs H2 hS => ?_
    · obtain ⟨_, _, _, _, h, _⟩ := hS
      exact sq_of h
    obtain ⟨u1, u2, rfl, e2, h2, hu1, hu2⟩ := hS
    refine ⟨fun i σ' H' => ∃ y4 y5 : Option V, σ' = [some (.str (tx r)), some (.int (k : Nat)), some (.str (tx a)), some (.str (tx o)), y4, y5, none] ∧ Ex H2 H', ⟨_, _, rfl, Ex.refl _⟩, fun i σ' H' _ hP => ?_, fun i x σ' H3 hx hP => ?_, fun σ' H3 hP => ?_⟩
    · obtain ⟨_, _, _, e3⟩ := hP
      exact sq_of (e3 _ _ h2)
    · obtain ⟨y4, y5, rfl, e3⟩ := hP
      have e03 := e1.trans (e2.trans e3)
      obtain ⟨u, h, e, rfl, hu, fh, th, hrow, lh, le⟩ : ∃ (u : Addr) (h e : List Nat), x = .ref u ∧ H3 u = some (.tup [.str (tx h), .str (tx e)]) ∧ fitsO r (some h) = true ∧ turned r h = e ∧ rowBy h e = r ∧ h.length = r.length ∧ e.length = r.length := by
        rcases i with _ | _ | i
        · cases hx
          exact ⟨u1, a, o, rfl, e3 _ _ hu1, f1, t1, hrb, ha.1, hb.1⟩
        · cases hx
          exact ⟨u2, o, a, rfl, e3 _ _ hu2, f2, t2, by rw [rowBy_comm]; exact hrb, hb.1, ha.1⟩
        · simp at hx
      refine ⟨u, [.str (tx h), .str (tx e)], rfl, st_of hu, rfl, _, [_], rfl, _, [], rfl, rfl, ?_⟩
      have ho : otherO r (some h) = .str (tx e) := by
        show (if fitsO r (some h) = true then V.str (tx (turned r h)) else .non) = _
        rw [if_pos fh, th]
      refine s_when (b := false) (et_is (et_or (a := false) (b := false) (et_is (et_not (et_B (ev_call (ea_cons (ev_var rfl) (ea_cons (ev_var rfl) ea_nil)) fun G g Q1 q1 E1 => ⟨r, _, some h, rfl, hR, th_str h (by omega), hT.ex (e03.trans g), q1⟩))) (by rw [fh]; rfl)) fun _ => et_is (et_or (a := false) (b := false) (et_test (ev_is (ev_op (ev_call (z := .str (tx e)) (ea_cons (ev_var rfl) (ea_cons (ev_var rfl) ea_nil)) fun G g Q1 q1 E1 => ⟨r, _, some h, rfl, hR, th_str h (by omega), hT.ex (e03.trans g), by rw [ho]; exact q1⟩) (ev_var rfl) (rv_ne rfl)) (by rw [decide_eq_true rfl]; rfl))) fun _ => et_test (ev_is (ev_op (ev_call (z := .str (tx (rowBy h e))) (ea_cons (ev_var rfl) (ea_cons (ev_var rfl) ea_nil)) fun G g Q1 q1 E1 => ⟨h, e, rfl, ⟨by omega, by omega⟩, q1⟩) (ev_var rfl) (rv_ne rfl)) (by rw [hrow, decide_eq_true rfl]; rfl))) rfl) rfl) (fun hb H4 e4 => absurd hb (by decide)) (fun _ H4 e4 => ⟨_, _, rfl, e3.trans e4⟩)
    · obtain ⟨y4, y5, rfl, e3⟩ := hP
      have e03 := e1.trans (e2.trans e3)
      have hea := ex_half ha
      have heo := ex_half hb
      have hx1 : ∀ c ∈ a, c = 110 ∨ c = 98 ∨ c = 121 := fun c hc => (ha.2 c hc).imp id .inr
      have hx2 : ∀ c ∈ o, c = 110 ∨ c = 98 ∨ c = 121 := fun c hc => (hb.2 c hc).imp id .inr
      have hla := ha.1
      have hlo := hb.1
      refine q_asgU (xs := [.str (tx (mn (exL a) (exL o))), .str (tx (mx (exL a) (exL o)))]) (eu_tupOf (el_isL (el_sortLS (K := K) (xs := [tx (exL a), tx (exL o)]) (el_lst (ea_cons (ev_call (ea_cons (ev_var rfl) ea_nil) fun G g Q1 q1 E1 => ⟨a, rfl, ⟨by omega, hx1⟩, q1⟩) (ea_cons (ev_call (ea_cons (ev_var rfl) ea_nil) fun G g Q1 q1 E1 => ⟨o, rfl, ⟨by omega, hx2⟩, q1⟩) ea_nil)) (by show 2 ≤ 100000; decide))) (by rw [srt_two]; rfl))) fun pt H4 npt e4 h4 => ?_
      obtain ⟨k2, hk2, hp2⟩ := two_part hea heo
      rw [rowBy_ex, hrb] at hk2 hp2
      have hRe := ex_row hR
      have hT4 := hT.ex (e03.trans e4)
      have hcm : rowBy (mn (exL a) (exL o)) (mx (exL a) (exL o)) = exL r := by
        have z := ((part_good (exL r)).1 k2).2.2
        rw [hp2] at z
        exact z
      have hlm : (mn (exL a) (exL o)).length = r.length ∧ (mx (exL a) (exL o)).length = r.length := by
        unfold mn mx
        refine ⟨?_, ?_⟩
        · split
          · exact heo.1
          · exact hea.1
        · split
          · exact heo.1
          · exact hea.1
      generalize mn (exL a) (exL o) = m1 at *
      generalize mx (exL a) (exL o) = m2 at *
      have hexr : ∀ {G : Hp} {σ : L2.St}, σ[0]? = some (some (.str (tx r))) → Ev (tCall (sp__law_exchanged K ts) [] E0 (tCons (tVar 0) tNil)) σ G (.str (tx (exL r))) := fun s0 => ev_call (ea_cons (ev_var s0) ea_nil) fun G g Q1 q1 E1 => ⟨r, rfl, ⟨by omega, hR.2⟩, q1⟩
      refine q_when (b := false) (et_is (et_or (a := false) (b := false) (et_test (ev_is (ev_op (x := .int (k : Nat)) (fun G g Q1 q1 => ⟨_, rfl, _, rfl, _, rfl, by show 2 ≤ sizeLine; decide, fun u nu => ⟨r, u, k, rfl, hR, hk, ?_, fun G2 g2 => q1 G2 ((Ex.new nu).trans g2)⟩⟩) (ev_var rfl) (rv_ne rfl)) (by rw [decide_eq_true rfl]; rfl))) fun _ => et_test (ev_is (ev_op (ev_call (z := .str (tx (rowBy m1 m2))) (ea_cons (ev_op (ev_var rfl) ev_c (rv_ixT (st_of h4) (atI_nat (j := 0) rfl))) (ea_cons (ev_op (ev_var rfl) ev_c (rv_ixT (st_of h4) (atI_nat (j := 1) rfl))) ea_nil)) fun G g Q1 q1 E1 => ⟨m1, m2, rfl, ⟨by omega, by omega⟩, q1⟩) (hexr rfl) (rv_ne rfl)) (by rw [hcm, decide_eq_true rfl]; rfl))) rfl) (fun hb H5 e5 => absurd hb (by decide)) (fun _ H5 e5 => ?_)
      · rw [upd_same, hpart]
      have hsh : SeqAt.shaped (dSS (m1, m2)) = true := by rw [← hp2]; exact shaped_1 (part_small hRe k2)
      refine s_ret (ev_eqD (d := dSS (m1, m2)) (fun G g Q1 q1 => ?_) (ed_ev (ev_var rfl) fun G g => PrT.dp (p := (m1, m2)) ⟨pt, rfl, (e5.trans g) _ _ h4⟩) hsh) fun H6 e6 => q H6 (e03.trans (e4.trans (e5.trans e6)))
      refine c_call (ea_cons (hexr rfl) (ea_cons (ev_call (z := .int (k2 : Nat)) (ea_cons (hexr rfl) (ea_cons (ev_var rfl) ea_nil)) fun G2 g2 Q2 q2 E2 => ⟨exL r, pt, k2, rfl, hRe, hk2, ?_, q2⟩) ea_nil)) fun G3 g3 => ⟨exL r, k2, rfl, ⟨by have := hRe.1; omega, hk2⟩, fun pp H6 npp g6 h6 => q1 _ H6 (g3.trans g6) fun H7 e7 => ?_⟩
      · rw [hp2]
        exact (e5.trans (g.trans g2)) _ _ h4
      · rw [hp2] at h6
        exact PrT.dp (p := (m1, m2)) ⟨pp, rfl, e7 _ _ h6⟩
end
end Hid

namespace Hid
open PySem PySem.Spec PyProof.Rows L2 Evl
theorem strOk_small {l : List Nat} (h : ∀ c ∈ l, c < 200) : PyData.strOk (tx l) = true := by
  unfold PyData.strOk
  rw [Array.all_eq_true]
  intro i hi
  have hi' : i < l.length := by simpa [tx] using hi
  have := h l[i] (List.getElem_mem hi')
  exact decide_eq_true (by
    show l[i] < 0x110000
    omega)
theorem shaped_ss (ps : List (List Nat × List Nat)) (hs : ∀ p ∈ ps, (∀ c ∈ p.1, c < 200) ∧ ∀ c ∈ p.2, c < 200) : SeqAt.shaped (.list (ps.map dSS)) = true := by
  have h1 : ∀ ps : List (List Nat × List Nat), (∀ p ∈ ps, (∀ c ∈ p.1, c < 200) ∧ ∀ c ∈ p.2, c < 200) → PyData.canLayAll0 (ps.map dSS) = true := by
    intro ps
    induction ps with
    | nil => intro _; rfl
    | cons p ps ih =>
      intro hs
      show (PyData.canLay0 (dSS p) && PyData.canLayAll0 (ps.map dSS)) = true
      rw [ih fun p hp => hs p (List.mem_cons_of_mem _ hp)]
      have hp := hs p List.mem_cons_self
      simp [dSS, PyData.canLay0, PyData.canLayAll0, strOk_small hp.1, strOk_small hp.2]
  have h2 : ∀ ps : List (List Nat × List Nat), PyData.depthAll (ps.map dSS) ≤ 2 := by
    intro ps
    induction ps with
    | nil => exact Nat.zero_le _
    | cons p ps ih =>
      show max (PyData.depth (dSS p)) (PyData.depthAll (ps.map dSS)) ≤ 2
      have : PyData.depth (dSS p) ≤ 2 := by simp [dSS, PyData.depth, PyData.depthAll]
      omega
  unfold SeqAt.shaped
  rw [Bool.and_eq_true]
  refine ⟨h1 ps hs, decide_eq_true ?_⟩
  have := h2 ps
  show PyData.depth (.list (ps.map dSS)) ≤ 64
  simp only [PyData.depth]
  omega
theorem rv_cat {H : Hp} {a o : List Nat} (ha : a.length ≤ 1000) (ho : o.length ≤ 1000) : RV (fun x y H Q => ∃ i j, x = .str i ∧ y = .str j ∧ i.length + j.length ≤ sizeLine ∧ Q (.str (i ++ j)) H) (.str (tx a)) (.str (tx o)) H (.str (tx (a ++ o))) := fun H1 e Q q => by
  refine ⟨tx a, tx o, rfl, rfl, ?_, ?_⟩
  · show a.toArray.size + o.toArray.size ≤ sizeLine
    rw [List.size_toArray, List.size_toArray]
    exact Nat.le_trans (Nat.add_le_add ha ho) (by decide)
  · have : tx a ++ tx o = tx (a ++ o) := by
      show (⟨a.toArray ++ o.toArray⟩ : Str) = ⟨(a ++ o).toArray⟩
      rw [List.append_toArray]
    rw [this]
    exact q H1 (Ex.refl _)
theorem ints_nat {m : Nat} : ∀ ys : List Int, (∀ y ∈ ys, ∃ k : Nat, y = (k : Nat) ∧ k < m) → ∃ ks : List Nat, ys = ks.map (fun k : Nat => (k : Int)) ∧ ∀ k ∈ ks, k < m
  | [], _ => ⟨[], rfl, fun _ h => nomatch h⟩
  | y :: ys, h => by
    obtain ⟨k, rfl, hk⟩ := h y List.mem_cons_self
    obtain ⟨ks, rfl, hks⟩ := ints_nat ys fun z hz => h z (List.mem_cons_of_mem _ hz)
    exact ⟨k :: ks, rfl, fun z hz => (List.mem_cons.mp hz).elim (fun e => e ▸ hk) (hks z)⟩
theorem many_drop {r : List Nat} {j : Nat} (hj : j ≤ r.length) : many (r.take j ++ r.drop (j + 1)) = many r ∨ many (r.take j ++ r.drop (j + 1)) = many r / 2 := by
  rcases Nat.lt_or_ge j r.length with h | h
  · have e : r = r.take j ++ [r[j]] ++ r.drop (j + 1) := by simp
    have z := many_ins (r.take j) (r.drop (j + 1)) r[j]
    rw [← e] at z
    split at z
    · exact .inr (by omega)
    · exact .inl z.symm
  · refine .inl ?_
    rw [List.take_of_length_le h, List.drop_eq_nil_of_le (by omega), List.append_nil]
section
variable {P : Program} {w : World} {K : PySem.W.Frag} {mg : Str → Option Value} {base : Heap}
def sp__law_right (K : PySem.W.Frag) (ts : List Addr) : Sp := fun vs H Q _ => ∃ (r : List Nat) (a : Addr) (xs : List Int), vs = [.str (tx r), .ref a] ∧ RowL r ∧ SqL K H a (xs.map V.int) ∧ 10 ≤ xs.length ∧ TB ts H ∧ RetV (.bl true) H Q
theorem ok__law_right {ts : List Addr} (D : Df K mg "_law_right" st__law_right ["_law_row", "_law_xs"]) (m_sorted : mg "sorted" = none) (m_set : mg "set" = none) (m_all : mg "all" = none) (m_len : mg "len" = none) (m_int : mg "int" = none) (A_many_partings : At P w K mg base "many_partings" st_many_partings 1 ["row"] (sp_many_partings K ts)) (A__law_one_right : At P w K mg base "_law_one_right" st__law_one_right 7 ["_law_row", "_law_number"] (sp__law_one_right K ts)) (A_parting_at : At P w K mg base "parting_at" st_parting_at 2 ["row", "number"] (sp_parting_at K ts)) : At P w K mg base "_law_right" st__law_right 8 ["_law_row", "_law_xs"] (sp__law_right K ts) := by
  obtain ⟨f, fd, F, b, g⟩ := D
  obtain ⟨f_many_partings, fd_many_partings, F_many_partings, b_many_partings, g_many_partings, G_many_partings⟩ := A_many_partings
  obtain ⟨f__law_one_right, fd__law_one_right, F__law_one_right, b__law_one_right, g__law_one_right, G__law_one_right⟩ := A__law_one_right
  obtain ⟨f_parting_at, fd_parting_at, F_parting_at, b_parting_at, g_parting_at, G_parting_at⟩ := A_parting_at
  refine ⟨f, fd, F, b, g, F.ok sc__law_right (fun vs H Q E h => ?_) (fun cdv A outer s H vs Q E hr h => ?_)⟩
  · obtain ⟨r, a, xs, rfl, _⟩ := h
    rfl
  · obtain ⟨r, a, xs, rfl, hR, hS, hxl, hT, q⟩ := h
    refine ⟨_, (pss_cons (ps_set (i := 2) sc__law_right.nd rfl (.inr rfl) (pe_call G_many_partings (hr.mono (by decide)) (by rfl) g_many_partings F_many_partings.kp b_many_partings .nil pass0 (pa_cons (pv 0) pa_nil)))
      (pss_cons (ps_set (i := 3) sc__law_right.nd rfl (.inl rfl) (Hid.pe_sortSetI rfl (by rfl) m_sorted (by rfl) m_set (pe_op op_cat (pe_lst (pa_cons pe_int (pa_cons (pe_op op_sub (pv 2) pe_int) pa_nil))) (pe_lc (own := [("_law_x", 10)]) (g := gName 10) (by rfl) sc__law_right.nd (pi_list (pe_slice sl_list (pv 1) po_none (po_some pe_int))) (blkOk_by (N := ["_law_row", "_law_xs", "_law_many", "_law_numbers_here", "_law_some", "_law_at", "_law_longer", "_law_number", "_law_sign", "_law_more", "_law_x"]) (sc := defScope st__law_right) (by decide +kernel)) (fun _ _ _ _ _ => (pg_name (i := 10) sc__law_right.nd rfl (.inl rfl))) (fun _ _ _ _ _ => pts_nil) (fun _ _ _ _ _ => (pe_op op_mod (pv 10) (pv 2)))))))
      (pss_cons (ps_if (pt_not (pt_val (pe_callB (cr_all rfl) (by rfl) m_all (by decide +kernel) (pa_cons (pe_lc (own := [("_law_number", 7)]) (g := gName 7) (by rfl) sc__law_right.nd (pi_list (pv 3)) (blkOk_by (N := ["_law_row", "_law_xs", "_law_many", "_law_numbers_here", "_law_some", "_law_at", "_law_longer", "_law_number", "_law_sign", "_law_more", "_law_x"]) (sc := defScope st__law_right) (by decide +kernel)) (fun _ _ _ _ _ => (pg_name (i := 7) sc__law_right.nd rfl (.inl rfl))) (fun _ _ _ _ _ => pts_nil) (fun _ _ _ _ _ => (pe_call G__law_one_right (hr.mono (by decide)) (by rfl) g__law_one_right F__law_one_right.kp b__law_one_right .nil pass0 (pa_cons (pv 0) (pa_cons (pv 7) pa_nil))))) pa_nil))))
      (pss_one (ps_ret pe_bl))
      pss_nil)
      (pss_cons (ps_setLc (i := 4) (own := [("_law_number", 7)]) (g := gName 7) rfl sc__law_right.nd rfl rfl (sw_true rfl rfl rfl (by decide +kernel)) (pi_list (pv 3)) (blkOk_by (N := ["_law_row", "_law_xs", "_law_many", "_law_numbers_here", "_law_some", "_law_at", "_law_longer", "_law_number", "_law_sign", "_law_more", "_law_x"]) (sc := defScope st__law_right) (by decide +kernel)) (fun _ _ _ _ _ => (pg_name (i := 7) sc__law_right.nd rfl (.inl rfl))) (fun _ _ _ _ _ => pts_nil) (fun _ _ _ _ _ => (pe_call G_parting_at (hr.mono (by decide)) (by rfl) g_parting_at F_parting_at.kp b_parting_at .nil pass0 (pa_cons (pv 0) (pa_cons (pv 7) pa_nil)))))
      (pss_cons (ps_if (pt_cmpR (op_neD hr.units) (pv 4) (Hid.pe_sortSetT rfl hr.units (by rfl) m_sorted (by rfl) m_set (pv 4)) (nomark _))
      (pss_one (ps_ret pe_bl))
      pss_nil)
      (pss_cons (ps_set (i := 5) sc__law_right.nd rfl (.inr rfl) (pe_op op_mod (pe_ix ix_list (pv 1) pe_int (fun _ _ => rfl)) (pe_op op_add (pe_callB call_len_str (by rfl) m_len (by decide +kernel) (pa_cons (pv 0) pa_nil)) pe_int)))
      (pss_cons (ps_if (pt_cmpR op_eq (pe_callB call_len_str (by rfl) m_len (by decide +kernel) (pa_cons (pv 0) pa_nil)) pe_int (nomark _))
      (pss_one (ps_ret (pe_cmpR op_in_seq (pe_call G_many_partings (hr.mono (by decide)) (by rfl) g_many_partings F_many_partings.kp b_many_partings .nil pass0 (pa_cons (pe_op op_add_str (pe_slice sl_str (pv 0) po_none (po_some (pv 5))) (pe_slice sl_str (pv 0) (po_some (pe_op op_add (pv 5) pe_int)) po_none)) pa_nil)) (pe_tup (pa_cons (pv 2) (pa_cons (pe_op op_fdiv (pv 2) pe_int) pa_nil))) rfl)))
      pss_nil)
      (pss_cons (ps_setLc (i := 6) (own := [("_law_sign", 8)]) (g := gName 8) rfl sc__law_right.nd rfl rfl (sw_true rfl rfl rfl (by decide +kernel)) (pi_str pe_str) (blkOk_by (N := ["_law_row", "_law_xs", "_law_many", "_law_numbers_here", "_law_some", "_law_at", "_law_longer", "_law_number", "_law_sign", "_law_more", "_law_x"]) (sc := defScope st__law_right) (by decide +kernel)) (fun _ _ _ _ _ => (pg_name (i := 8) sc__law_right.nd rfl (.inl rfl))) (fun _ _ _ _ _ => pts_nil) (fun _ _ _ _ _ => (pe_op op_add_str (pe_op op_add_str (pe_slice sl_str (pv 0) po_none (po_some (pv 5))) (pv 8)) (pe_slice sl_str (pv 0) (po_some (pv 5)) po_none))))
      (pss_one (ps_ret (pe_cmpR (op_eqD hr.units) (pe_lc (own := [("_law_more", 9)]) (g := gName 9) (by rfl) sc__law_right.nd (pi_list (pv 6)) (blkOk_by (N := ["_law_row", "_law_xs", "_law_many", "_law_numbers_here", "_law_some", "_law_at", "_law_longer", "_law_number", "_law_sign", "_law_more", "_law_x"]) (sc := defScope st__law_right) (by decide +kernel)) (fun _ _ _ _ _ => (pg_name (i := 9) sc__law_right.nd rfl (.inl rfl))) (fun _ _ _ _ _ => pts_nil) (fun _ _ _ _ _ => (pe_call G_many_partings (hr.mono (by decide)) (by rfl) g_many_partings F_many_partings.kp b_many_partings .nil pass0 (pa_cons (pv 9) pa_nil)))) (pe_lst (pa_cons (pv 2) (pa_cons (pv 2) (pa_cons (pe_op op_mul (pv 2) (pe_ix ix_list (pe_lst (pa_cons pe_int (pa_cons pe_int pa_nil))) (pe_callTy call_int1 (by rfl) m_int (by decide +kernel) (pa_cons (pe_cmpR op_in_sign pe_str (pv 0) rfl) pa_nil)) (fun _ _ => rfl))) pa_nil)))) (nomark _)))))))))))), ?_⟩
    have hr8 := hR.1
    have hm := many_small hR
    have hm1 : 1 ≤ many r := by unfold many; exact Nat.pos_of_ne_zero (by simp)
    have hsz : (tx r).length = r.length := tx_len r
    have md : ∀ (v : Int) (d : Nat), 0 < d → ∃ r : Nat, v % (d : Int) = (r : Nat) ∧ r < d := fun v d hd => ⟨(v % (d : Int)).toNat, by
      have := Int.emod_nonneg v (show (d : Int) ≠ 0 by omega)
      have := Int.emod_lt_of_pos v (show (0 : Int) < d by omega)
      omega⟩
    refine q_asg (v := .int (many r : Nat)) (ev_call (ea_cons (ev_var rfl) ea_nil) fun G g Q1 q1 E1 => ⟨r, rfl, by omega, q1⟩) fun H1 e1 => ?_
    have hsl : ((xs.map V.int).take 10).length = 10 := by rw [List.length_take, List.length_map]; omega
    have hlist : EvL (tOp rCat (tLst (tCons (tC (.int 0)) (tCons (tOp (rI0 fun i j => V.int (i - j)) (tVar 2) (tC (.int 1))) tNil))) (tLc (iList K (tSl (rSlL K) (tVar 1) tNoPart (tPart (tC (.int 10))))) (gName 10) tYes (tOp (rI (fun x j => 0 < j) fun i j => V.int (i % j)) (tVar 10) (tVar 2)) [10])) [some (.str (tx r)), some (.ref a), some (.int (many r : Nat)), none, none, none, none, none, none, none, none] H1 ((([0, ((many r : Nat) : Int) - 1] ++ (List.range 10).map fun i => xs.getD i 0 % ((many r : Nat) : Int)) : List Int).map V.int) := by
      refine el_isL (el_cat (el_lst (ea_cons ev_c (ea_cons (ev_op (ev_var rfl) ev_c rv_I0) ea_nil)) (by show 2 ≤ 100000; decide)) (el_isL (el_lcNL (xs := (xs.map V.int).take 10) (fun _ => true) (fun i => V.int (xs.getD i 0 % (many r : Nat))) (el_isL (el_sl (ev_var rfl) eo_none (eo_some ev_c) (ex_l e1 hS)) (cut_take 10)) (by omega) (fun _ => rfl) (fun i x G g hx => et_yes) (fun i x G g hx _ => ?_)) (by rw [hsl, given_true])) (by rw [List.length_map, List.length_range]; show 2 + 10 ≤ 100000; decide)) (by rw [List.map_append, List.map_map]; rfl)
      have hi : i < 10 := by have := (List.getElem?_eq_some_iff.mp hx).1; omega
      have hx2 : x = V.int (xs.getD i 0) := by
        rw [List.getElem?_take_of_lt hi, List.getElem?_map, List.getElem?_eq_getElem (by omega)] at hx
        rw [List.getD_eq_getElem?_getD, List.getElem?_eq_getElem (by omega)]
        exact (Option.some.inj hx).symm
      rw [hx2]
      exact ev_op (ev_var rfl) (ev_var rfl) (rv_I (by show (0 : Int) < _; omega))
    refine q_asgK (S := fun pl H9 => ∃ ys : List Int, H9 pl = some (.lst (ys.map V.int)) ∧ (∀ y ∈ ys, ∃ k : Nat, y = (k : Nat) ∧ k < many r) ∧ ys.Pairwise (· < ·) ∧ ys.length ≤ 12) (fun Qk kk => hlist H1 (Ex.refl _) _ fun p H2 np e2 h2 => ⟨p, _, rfl, sq_of h2, by rw [List.length_append, List.length_map, List.length_range]; show 2 + 10 < 64; decide, fun ys p3 hpw hyl hmem hn => kk p3 _ (e2.trans (Ex.new hn)) ⟨ys, upd_same, fun y hy => ?_, hpw, by rw [List.length_append, List.length_map, List.length_range] at hyl; exact hyl⟩⟩) fun pn H2 e2 hS2 => ?_
    · rcases List.mem_append.mp ((hmem y).mp hy) with w | w
      · rcases List.mem_cons.mp w with w | w
        · exact ⟨0, w, by omega⟩
        · exact ⟨many r - 1, by rw [List.mem_singleton.mp w]; omega, by omega⟩
      · obtain ⟨m, hm2, rfl⟩ := List.mem_map.mp w
        exact md (xs.getD m 0) (many r) (by omega)
    obtain ⟨ys, h2, hys, hpw, hyl⟩ := hS2
    obtain ⟨ks, rfl, hks⟩ := ints_nat ys hys
    rw [List.length_map] at hyl
    have hkp : ks.Pairwise (· < ·) := (List.pairwise_map.mp hpw).imp fun h => Int.ofNat_lt.mp h
    rw [List.map_map] at h2
    have hxk : ∀ {i : Nat} {x : V}, (ks.map (V.int ∘ fun k : Nat => (k : Int)))[i]? = some x → ∃ k : Nat, ks[i]? = some k ∧ x = .int (k : Nat) ∧ k < many r := fun {i x} hx => by
      rw [List.getElem?_map] at hx
      cases hk : ks[i]? with
      | none => rw [hk] at hx; cases hx
      | some k =>
        rw [hk] at hx
        exact ⟨k, rfl, (Option.some.inj hx).symm, hks k (List.mem_of_getElem? hk)⟩
    refine q_when (b := false) (et_is (et_not (et_B (ev_allN (bs := List.replicate (ks.map (V.int ∘ fun k : Nat => (k : Int))).length true) (el_isL (el_lcL (fun _ => true) (fun _ => V.bl true) (ev_var rfl) (sq_of h2) (by rw [List.length_map]; omega) (fun _ => rfl) (fun i x G g hx => et_yes) (fun i x G g hx _ => ?_)) (given_rep _))))) (by simp)) (fun hb H3 e3 => absurd hb (by decide)) (fun _ H3 e3 => ?_)
    · obtain ⟨k, _, rfl, hk⟩ := hxk hx
      exact ev_call (ea_cons (ev_var rfl) (ea_cons (ev_var rfl) ea_nil)) fun G2 g2 Q1 q1 E1 => ⟨r, k, rfl, ⟨hR, hk⟩, hT.ex (e1.trans (e2.trans (g.trans g2))), q1⟩
    have h3 := e3 _ _ h2
    refine q_asgK (S := fun pl H9 => ∃ vs2, H9 pl = some (.lst vs2) ∧ Prs K H9 vs2 (ks.map (part r))) (fun Qk kk => ⟨_, rfl, pn, rfl, ⟨_, sq_of h3⟩, fun D hD => lc_list (xs := ks.map (V.int ∘ fun k : Nat => (k : Int))) (fun i H' => Ex H3 H' ∧ ∃ vs2, H' D = some (.lst vs2) ∧ Prs K H' vs2 ((ks.take i).map (part r))) ⟨Ex.new hD, [], upd_same, by rw [List.take_zero]; exact .nil⟩ (fun i H' _ hP => sq_of (hP.1 _ _ h3)) (fun i x H' hx hP => ?_) (fun H' hP => ?_)⟩) fun ps H4 e4 hS4 => ?_
    · obtain ⟨e4, vs2, h4, hp4⟩ := hP
      obtain ⟨k, hki, rfl, hk⟩ := hxk hx
      have hlen := paired_len hp4
      rw [List.length_map, List.length_take] at hlen
      refine ⟨rfl, tyes ⟨_, rfl, _, rfl, r, k, rfl, ⟨by omega, hk⟩, fun p H5 hp e5 h5 => ⟨vs2, e5 _ _ h4, sz_lt (by omega), (e4.trans e5).mut hD, vs2 ++ [.ref p], upd_same, ?_⟩⟩⟩
      rw [List.take_add_one, hki, Option.toList_some, List.map_append]
      exact Prs.upd (e5 _ _ h4) (paired_app (hp4.ex e5) (.cons ⟨p, rfl, h5⟩ .nil))
    · obtain ⟨e4, vs2, h4, hp4⟩ := hP
      rw [List.length_map, List.take_of_length_le (Nat.le_refl _)] at hp4
      exact kk D H' e4 ⟨vs2, h4, hp4⟩
    obtain ⟨vs2, h4, hp4⟩ := hS4
    have hv2 : vs2.length = ks.length := by rw [paired_len hp4, List.length_map]
    have hsh : SeqAt.shaped (.list ((ks.map (part r)).map dSS)) = true := shaped_ss _ fun p hp => by
      obtain ⟨k, hk, rfl⟩ := List.mem_map.mp hp
      exact part_small hR k
    have hrise : ((ks.map (part r)).map scP).Pairwise fun x y => scLt x y = true := by
      rw [List.map_map]
      refine List.pairwise_map.mpr (List.Pairwise.imp_of_mem (fun {k l} hk hl h => ?_) hkp)
      exact scP_lt ((part_good r).2.2 k l h (hks l hl))
    refine q_when (b := false) (et_test (ev_neD (K := K) (d := .list ((ks.map (part r)).map dSS)) (ed_ev (ev_var rfl) fun G g => .lst (sq_of (g _ _ h4)) (Prs.dp (hp4.ex g))) (fun G g Q1 q1 => ⟨_, rfl, ps, vs2, (ks.map (part r)).map scP, rfl, sq_of (g _ _ h4), prs_sc (hp4.ex g), ?_, by omega, fun ws es p hpe hpw2 hmem hn => ?_⟩) hsh)) (fun hb H5 e5 => absurd hb (by decide)) (fun _ H5 e5 => ?_)
    · intro d hd
      obtain ⟨p, _, rfl⟩ := List.mem_map.mp hd
      exact ⟨p.1, [p.2], rfl⟩
    · have : es = (ks.map (part r)).map scP := sc_uniq hpw2 hrise hmem
      subst this
      exact q1 _ _ (Ex.new hn) fun H6 e6 => .lst (sq_of (e6 _ _ upd_same)) (Prs.dp ((sc_prs hpe).ex ((Ex.new hn).trans e6)))
    have e05 : Ex H H5 := e1.trans (e2.trans (e3.trans (e4.trans e5)))
    obtain ⟨j, hj, hjl⟩ := md (xs.getD 0 0) (r.length + 1) (by omega)
    refine q_asg (v := .int (j : Nat)) (ev_is (ev_op (ev_op (ev_var rfl) ev_c (rv_ixL (ex_l e05 hS) (atI_nat (j := 0) (by rw [List.getElem?_map, List.getElem?_eq_getElem (by omega)]; rfl)))) (ev_op (ev_lenS (ev_var rfl) (by omega)) ev_c rv_I0) (rv_I (by show (0 : Int) < _ + 1; omega))) ?_) fun H6 e6 => ?_
    · rw [hsz, ← hj, List.getD_eq_getElem?_getD, List.getElem?_eq_getElem (by omega)]
      rfl
    have e06 := e05.trans e6
    have hcut1 : ∀ {σ : L2.St} {G : Hp}, σ[0]? = some (some (.str (tx r))) → σ[5]? = some (some (.int (j : Nat))) → Ev (tSl rSlS (tVar 0) tNoPart (tPart (tVar 5))) σ G (.str (tx (r.take j))) := fun s0 s5 => ev_is (ev_slS (ev_var s0) eo_none (eo_some (ev_var s5)) (by omega)) (by rw [cutS_take _ _ (by omega)])
    have tl : (r.take j).length ≤ 8 := by rw [List.length_take]; omega
    have dl : ∀ n, (r.drop n).length ≤ 8 := fun n => by rw [List.length_drop]; omega
    refine q_when (b := decide (r.length = 8)) (et_is (et_test (ev_op (ev_lenS (ev_var rfl) (by omega)) ev_c (rv_eq rfl))) ?_) (fun hb H7 e7 => ?_) (fun hb H7 e7 => ?_)
    · rw [hsz]
      simp
      omega
    · have hr := of_decide_eq_true hb
      refine s_ret (ev_is (ev_opU (xs := [.int (many r : Nat), .int (((many r / 2 : Nat)) : Int)]) (ev_call (z := .int (many (r.take j ++ r.drop (j + 1)) : Nat)) (ea_cons (ev_op (hcut1 rfl rfl) (ev_is (ev_slS (ev_var rfl) (eo_some (ev_op (ev_var rfl) ev_c rv_I0)) eo_none (by omega)) (w := .str (tx (r.drop (j + 1)))) (congrArg V.str (cutS_drop r (j + 1)))) (rv_cat (by omega) (by have := dl (j + 1); omega))) ea_nil) fun G g Q1 q1 E1 => ⟨_, rfl, by rw [List.length_append]; have := dl (j + 1); omega, q1⟩) (eu_tup (ea_cons (ev_var rfl) (ea_cons (ev_is (ev_op (ev_var rfl) ev_c (rv_I (show CDiv _ 2 from ⟨by decide, by decide⟩))) (congrArg V.int (by omega))) ea_nil)) (by show 2 ≤ 100000; decide)) (fun p G hp g G2 g2 Q1 q1 => ⟨p, _, rfl, .inr (st_of (g2 _ _ hp)), rfl, rfl, q1 G2 (Ex.refl _)⟩)) ?_) fun H8 e8 => q H8 (e06.trans (e7.trans e8))
      rcases many_drop (r := r) (j := j) (by omega) with z | z <;> rw [z] <;> simp [inV, eqV]
    · have hr : r.length < 8 := by have := of_decide_eq_false hb; omega
      have hlo : EvL (tLc (iStr (tC (.str "nyb"))) (gName 8) tYes (tOp (fun x y H Q => ∃ i j, x = .str i ∧ y = .str j ∧ i.length + j.length ≤ sizeLine ∧ Q (.str (i ++ j)) H) (tOp (fun x y H Q => ∃ i j, x = .str i ∧ y = .str j ∧ i.length + j.length ≤ sizeLine ∧ Q (.str (i ++ j)) H) (tSl rSlS (tVar 0) tNoPart (tPart (tVar 5))) (tVar 8)) (tSl rSlS (tVar 0) (tPart (tVar 5)) tNoPart)) [8]) [some (.str (tx r)), some (.ref a), some (.int (many r : Nat)), some (.ref pn), some (.ref ps), some (.int (j : Nat)), none, none, none, none, none] H7 (([110, 121, 98] : List Nat).map fun c => V.str (tx (r.take j ++ [c] ++ r.drop j))) := by
        refine el_isL (el_lcS (z := "nyb") (fun _ => true) (fun i => .str (tx (r.take j ++ [([110, 121, 98] : List Nat).getD i 0] ++ r.drop j))) ev_c (by decide +kernel) (fun _ => rfl) (fun i c G1 g1 hc => et_yes) (fun i c G1 g1 hc _ => ?_)) (by rw [given_true]; rfl)
        have hcc : ([110, 121, 98] : List Nat).getD i 0 = c := by
          have : ([110, 121, 98] : List Nat)[i]? = some c := by
            have e9 : ("nyb" : Str).cps = #[110, 121, 98] := by decide +kernel
            rw [e9] at hc
            simpa using hc
          rw [List.getD_eq_getElem?_getD, this]
          rfl
        rw [hcc]
        exact ev_op (ev_op (hcut1 rfl rfl) (ev_is (ev_var rfl) (w := .str (tx [c])) rfl) (rv_cat (by omega) (by show 1 ≤ 1000; decide))) (ev_is (ev_slS (ev_var rfl) (eo_some (ev_var rfl)) eo_none (by omega)) (w := .str (tx (r.drop j))) (congrArg V.str (cutS_drop r j))) (rv_cat (by rw [List.length_append]; show _ + 1 ≤ 1000; omega) (by have := dl j; omega))
      refine q_asgL hlo fun pl H8 npl e8 h8 => ?_
      have hml : ∀ c, many (r.take j ++ [c] ++ r.drop j) = if c = 98 ∧ r.count 98 ≠ 0 then 2 * many r else many r := fun c => by
        rw [many_ins, List.take_append_drop]
      refine s_ret (ev_is (ev_opLL (xs := ([(many r : Nat), (many r : Nat), ((if 98 ∈ r then 2 * many r else many r : Nat) : Int)] : List Int).map V.int) (ys := ([(many r : Nat), (many r : Nat), ((if 98 ∈ r then 2 * many r else many r : Nat) : Int)] : List Int).map V.int) (el_isL (el_lcL (fun _ => true) (fun i => .int (many (r.take j ++ [([110, 121, 98] : List Nat).getD i 0] ++ r.drop j) : Nat)) (ev_var rfl) (sq_of h8) (by show 3 ≤ 40000; decide) (fun _ => rfl) (fun i x G g hx => et_yes) (fun i x G g hx _ => ?_)) ?_) (el_isL (el_lst (ea_cons (ev_var rfl) (ea_cons (ev_var rfl) (ea_cons (ev_op (ev_var rfl) (ev_opL1 (z := .int (if 98 ∈ r then 2 else 1)) (el_lst (ea_cons ev_c (ea_cons ev_c ea_nil)) (by show 2 ≤ 100000; decide)) (fun G g => ev_cb (ea_cons (ev_op ev_c (ev_var rfl) (fun G2 g2 Q1 q1 => ⟨98, tx r, rfl, rfl, q1 G2 (Ex.refl _)⟩)) ea_nil) fun G2 g2 Q1 q1 => .inr ⟨_, rfl, q1 G2 (Ex.refl _)⟩) (fun p G hp g => rv_ixL (sq_of hp) ?_)) (rv_I (show CMul _ _ from .inl ⟨by omega, by omega⟩))) ea_nil))) (by show 3 ≤ 100000; decide)) ?_) fun p p2 G hp hp2 g G1 g1 Q1 q1 => ⟨_, _, .lst (sq_of (g1 _ _ hp)) (ints_dp _), .lst (sq_of (g1 _ _ hp2)) (ints_dp _), shaped_ints _, shaped_ints _, q1 G1 (Ex.refl _)⟩) (by rw [eqv_ints, decide_eq_true rfl])) fun H9 e9 => q H9 (e06.trans (e7.trans (e8.trans e9)))
      · rw [List.getElem?_map] at hx
        cases hc : ([110, 121, 98] : List Nat)[i]? with
        | none => rw [hc] at hx; cases hx
        | some c =>
          rw [hc] at hx
          cases (Option.some.inj hx)
          rw [List.getD_eq_getElem?_getD, hc]
          exact ev_call (ea_cons (ev_var rfl) ea_nil) fun G2 g2 Q1 q1 E1 => ⟨_, rfl, by rw [List.length_append, List.length_append]; have := dl j; show _ + 1 + _ ≤ 1000; omega, q1⟩
      · rw [given_true]
        show [V.int (many (r.take j ++ [110] ++ r.drop j) : Nat), V.int (many (r.take j ++ [121] ++ r.drop j) : Nat), V.int (many (r.take j ++ [98] ++ r.drop j) : Nat)] = _
        rw [hml 110, hml 121, hml 98, if_neg (fun z => absurd z.1 (by decide)), if_neg (fun z => absurd z.1 (by decide))]
        by_cases hb : 98 ∈ r
        · rw [if_pos ⟨rfl, by have := List.count_pos_iff.mpr hb; omega⟩, if_pos hb]; rfl
        · rw [if_neg (by rw [List.count_eq_zero.mpr hb]; simp), if_neg hb]; rfl
      · by_cases hb : 98 ∈ r
        · rw [if_pos hb, tx_toList, decide_eq_true hb]; rfl
        · rw [if_neg hb, tx_toList, decide_eq_false hb]; rfl
      · by_cases hb : 98 ∈ r
        · rw [if_pos hb, if_pos hb]
          show [V.int (many r : Nat), V.int (many r : Nat), V.int ((many r : Nat) * 2)] = _
          rw [Nat.mul_comm 2]
          rfl
        · rw [if_neg hb, if_neg hb]
          show [V.int (many r : Nat), V.int (many r : Nat), V.int ((many r : Nat) * 1)] = _
          rw [Int.mul_one]
          rfl
def sp_law (K : PySem.W.Frag) (ts : List Addr) : Sp := fun vs H Q _ => ∃ (a : Addr) (ns : List Int), vs = [.ref a] ∧ SqL K H a (ns.map V.int) ∧ ns.length ≤ 63 ∧ TB ts H ∧ RetV (.bl true) H Q
theorem ok_law {ts : List Addr} (D : Df K mg "law" st_law ["_law_script"]) (m_max : mg "max" = none) (m_min : mg "min" = none) (m_len : mg "len" = none) (m_range : mg "range" = none) (A__law_drawn_rows : At P w K mg base "_law_drawn_rows" st__law_drawn_rows 2 ["_law_script", "_law_amount"] (sp__law_drawn_rows K ts)) (A__law_right : At P w K mg base "_law_right" st__law_right 8 ["_law_row", "_law_xs"] (sp__law_right K ts)) (A__law_numbers : At P w K mg base "_law_numbers" st__law_numbers 1 ["_law_cell_here", "_law_many"] (sp__law_numbers K ts)) (A__law_cell : At P w K mg base "_law_cell" st__law_cell 1 ["_law_script", "_law_k"] (sp__law_cell K ts)) : At P w K mg base "law" st_law 9 ["_law_script"] (sp_law K ts) := by
  obtain ⟨f, fd, F, b, g⟩ := D
  obtain ⟨f__law_drawn_rows, fd__law_drawn_rows, F__law_drawn_rows, b__law_drawn_rows, g__law_drawn_rows, G__law_drawn_rows⟩ := A__law_drawn_rows
  obtain ⟨f__law_right, fd__law_right, F__law_right, b__law_right, g__law_right, G__law_right⟩ := A__law_right
  obtain ⟨f__law_numbers, fd__law_numbers, F__law_numbers, b__law_numbers, g__law_numbers, G__law_numbers⟩ := A__law_numbers
  obtain ⟨f__law_cell, fd__law_cell, F__law_cell, b__law_cell, g__law_cell, G__law_cell⟩ := A__law_cell
  refine ⟨f, fd, F, b, g, F.ok sc_law (fun vs H Q E h => ?_) (fun cdv A outer s H vs Q E hr h => ?_)⟩
  · obtain ⟨a, ns, rfl, _⟩ := h
    rfl
  · obtain ⟨a, ns, rfl, hS, hl, hT, q⟩ := h
    refine ⟨_, (pss_cons (ps_set (i := 1) sc_law.nd rfl (.inl rfl) (pe_call G__law_drawn_rows (hr.mono (by decide)) (by rfl) g__law_drawn_rows F__law_drawn_rows.kp b__law_drawn_rows .nil pass0 (pa_cons (pv 0) (pa_cons (pe_callB (call_max2 rfl) (by rfl) m_max (by decide +kernel) (pa_cons pe_int (pa_cons (pe_callB (call_min2 rfl) (by rfl) m_min (by decide +kernel) (pa_cons (pe_callB call_len_seq (by rfl) m_len (by decide +kernel) (pa_cons (pv 0) pa_nil)) (pa_cons pe_int pa_nil))) pa_nil))) pa_nil))))
      (pss_cons (ps_for PassesOwn.never rfl (pi_range1 (by rfl) m_range (pa_cons (pe_callB call_len_seq (by rfl) m_len (by decide +kernel) (pa_cons (pv 1) pa_nil)) pa_nil)) (pg_name (i := 2) sc_law.nd rfl (.inl rfl))
      (pss_one (ps_if (pt_not (pt_val (pe_call G__law_right (hr.mono (by decide)) (by rfl) g__law_right F__law_right.kp b__law_right .nil pass0 (pa_cons (pe_ix ix_list (pv 1) (pv 2) (fun _ _ => rfl)) (pa_cons (pe_call G__law_numbers (hr.mono (by decide)) (by rfl) g__law_numbers F__law_numbers.kp b__law_numbers .nil pass0 (pa_cons (pe_call G__law_cell (hr.mono (by decide)) (by rfl) g__law_cell F__law_cell.kp b__law_cell .nil pass0 (pa_cons (pv 0) (pa_cons (pe_op op_add pe_int (pv 2)) pa_nil))) (pa_cons pe_int pa_nil))) pa_nil)))))
      (pss_one (ps_ret pe_bl))
      pss_nil)))
      (pss_one (ps_ret pe_bl)))), ?_⟩
    have hmn : Ev (tCB rMax2 (tCons (tC (.int 1)) (tCons (tCB (fun xs H Q => ∃ i j, xs = [V.int i, .int j] ∧ Q (.int (if j < i then j else i)) H) (tCons (tCB (rLenS K) (tCons (tVar 0) tNil)) (tCons (tC (.int 10)) tNil))) tNil))) [some (.ref a), none, none] H (.int (if (if (10 : Int) < ((ns.map V.int).length : Int) then 10 else ((ns.map V.int).length : Int)) > 1 then (if (10 : Int) < ((ns.map V.int).length : Int) then 10 else ((ns.map V.int).length : Int)) else 1)) := ev_max2 ev_c (ev_cb (ea_cons (ev_len (ev_var rfl) hS) (ea_cons ev_c ea_nil)) fun H1 e1 Q1 q1 => ⟨_, _, rfl, q1 H1 (Ex.refl _)⟩)
    refine c_call (ea_cons (ev_var rfl) (ea_cons hmn ea_nil)) fun G1 g1 => ⟨a, ns, _, rfl, ex_l g1 hS, ⟨by split <;> omega, by split <;> (try split) <;> omega⟩, fun rs hrl hrs p H1 np e1' h1 => ?_⟩
    have e1 : Ex H H1 := g1.trans e1'
    refine q_forR1 (n := (rs.length : Int)) (ea_cons (ev_is (ev_len (ev_var rfl) (sq_of h1)) (by rw [List.length_map])) ea_nil) ⟨by omega, by omega⟩ (fun i σ' H' => ∃ y2 : Option V, σ' = [some (.ref a), some (.ref p), y2] ∧ Ex H1 H') (fun H2 e2 => ⟨_, rfl, e2⟩) (fun i σ' H2 hi hP => ?_) (fun σ' H2 hP => ?_)
    · obtain ⟨y2, rfl, e2⟩ := hP
      have hir : i < rs.length := by omega
      have e02 := e1.trans e2
      refine s_when (b := false) (et_is (et_not (et_B (b := true) fun G g Q1 q1 => ?_)) rfl) (fun hb H3 e3 => absurd hb (by decide)) (fun hb H3 e3 => ⟨_, rfl, e2.trans e3⟩)
      refine (ev_op (ev_var rfl) (ev_var rfl) (rv_ixL (sq_of ((e2.trans g) _ _ h1)) (v := .str (tx rs[i])) (atI_nat (by rw [List.getElem?_map, List.getElem?_eq_getElem hir]; rfl)))) G (Ex.refl _) _ fun G2 g2 => ?_
      refine ⟨_, rfl, _, rfl, _, _, rfl, rfl, a, ns, 10 + (i : Int), rfl, ex_l (e02.trans (g.trans g2)) hS, by omega, fun c G4 g4 => ⟨c, 10, rfl, by decide, fun xs hxl hxp px G5 npx g5 h5 => ?_⟩⟩
      exact ⟨rs[i], px, xs, rfl, hrs _ (List.getElem_mem hir), sq_of h5, by omega, hT.ex (e02.trans (g.trans (g2.trans (g4.trans g5)))), fun G6 g6 => q1 G6 (g2.trans (g4.trans (g5.trans g6)))⟩
    · obtain ⟨y2, rfl, e2⟩ := hP
      exact s_ret ev_c fun H3 e3 => q H3 (e1.trans (e2.trans e3))
end
end Hid

namespace Hid
open PySem PySem.Spec PyProof.Rows L2 Evl
theorem df_mk {K : PySem.W.Frag} {h : Heap} {mg : Str → Option Value} (X : K.In h) (G : h.Ns mainGlobals mg) {x : Str} {st : Stmt} {ps : List Str} {f : Addr} {od an : Option Addr} {sl : Array (Option Value)} {oc kV dc pm cd ct : Value}
    (a : PySem.W.nsIn K mainGlobals x = some (some (.ref f))) (l : K.lookup f = some ⟨oc, od, .func (PySem.W.fnOf x x (defArgs st) (defBody st) (defScope st) .none kV dc pm an cd ct), sl⟩) (c : PySem.W.codeIn K cd x = true) (k : PySem.W.keepIn K (.ref f) = true)
    (hb : ∀ (kV doc pm : Value) (an : Option Addr) (cdv ct : Value) (us : List Value), us.length = ps.length → bindArgs (PySem.W.fnOf x x (defArgs st) (defBody st) (defScope st) .none kV doc pm an cdv ct) ⟨us, []⟩ = pure (ps.zip us)) : Df K mg x st ps :=
  ⟨f, _, fun_mk (st := st) l c k, (fun_mk (st := st) l c k).binds hb, PySem.W.mg_of X G a⟩
theorem dfc_mk {K : PySem.W.Frag} {h : Heap} {mg : Str → Option Value} (X : K.In h) (G : h.Ns mainGlobals mg) {x : Str} {st : Stmt} {ps : List Str} {f cc : Addr} {od an : Option Addr} {sl : Array (Option Value)} {oc kV dc pm ct : Value}
    (a : PySem.W.nsIn K mainGlobals x = some (some (.ref f))) (l : K.lookup f = some ⟨oc, od, .func (PySem.W.fnOf x x (defArgs st) (defBody st) (defScope st) .none kV dc pm an (.ref cc) ct), sl⟩) (c : PySem.W.codeIn K (.ref cc) x = true) (k : PySem.W.keepIn K (.ref f) = true)
    (hb : ∀ (kV doc pm : Value) (an : Option Addr) (cdv ct : Value) (us : List Value), us.length = ps.length → bindArgs (PySem.W.fnOf x x (defArgs st) (defBody st) (defScope st) .none kV doc pm an cdv ct) ⟨us, []⟩ = pure (ps.zip us)) : DfC K mg x st ps cc :=
  ⟨f, _, fun_mk (st := st) l c k, (fun_mk (st := st) l c k).binds hb, PySem.W.mg_of X G a, rfl⟩
/-- a def's promise at the very data that stands there -/
theorem at_fd {P : Program} {w : World} {K : PySem.W.Frag} {mg : Str → Option Value} {base : Heap} {CX : CXT} {n : Nat} {ps : List Str} {sp : Sp} {x : Str} {st : Stmt} {f : Addr} {fd fd2 : FuncData} (G : FnOk P w K mg base CX n f fd ps sp) (F : Fun K x x st f fd) (F2 : Fun K x x st f fd2) : FnOk P w K mg base CX n f fd2 ps sp := by
  obtain ⟨oc, od, kV, doc, pm, an, cdv, ct, osl, e1, lk, _⟩ := F.ex
  obtain ⟨oc2, od2, kV2, doc2, pm2, an2, cdv2, ct2, osl2, e2, lk2, _⟩ := F2.ex
  have e := lk.symm.trans lk2
  injection e with e
  injection e with _ _ e _
  injection e with e
  rw [← e]
  exact G
theorem all_mk {l : PySem.W.OpenLaw} {w : World} {K : PySem.W.Frag} {h : Heap} {mg : Str → Option Value} {fa : Addr} {Rc : Str → Prop} {f0 : Addr} {od0 an0 : Option Addr} {sl0 : Array (Option Value)} {oc0 kV0 dc0 pm0 ct0 : Value} {cd0 : Value} {f1 : Addr} {od1 an1 : Option Addr} {sl1 : Array (Option Value)} {oc1 kV1 dc1 pm1 ct1 : Value} {cd1 : Addr} {pp1 : Addr} {o11 : Value} {o21 : Option Addr} {s21 : Array (Option Value)} {vs1 : Array Value} {f2 : Addr} {od2 an2 : Option Addr} {sl2 : Array (Option Value)} {oc2 kV2 dc2 pm2 ct2 : Value} {cd2 : Value} {f3 : Addr} {od3 an3 : Option Addr} {sl3 : Array (Option Value)} {oc3 kV3 dc3 pm3 ct3 : Value} {cd3 : Value} {f4 : Addr} {od4 an4 : Option Addr} {sl4 : Array (Option Value)} {oc4 kV4 dc4 pm4 ct4 : Value} {cd4 : Value} {f5 : Addr} {od5 an5 : Option Addr} {sl5 : Array (Option Value)} {oc5 kV5 dc5 pm5 ct5 : Value} {cd5 : Value} {f6 : Addr} {od6 an6 : Option Addr} {sl6 : Array (Option Value)} {oc6 kV6 dc6 pm6 ct6 : Value} {cd6 : Value} {f7 : Addr} {od7 an7 : Option Addr} {sl7 : Array (Option Value)} {oc7 kV7 dc7 pm7 ct7 : Value} {cd7 : Value} {f8 : Addr} {od8 an8 : Option Addr} {sl8 : Array (Option Value)} {oc8 kV8 dc8 pm8 ct8 : Value} {cd8 : Value} {f9 : Addr} {od9 an9 : Option Addr} {sl9 : Array (Option Value)} {oc9 kV9 dc9 pm9 ct9 : Value} {cd9 : Value} {f10 : Addr} {od10 an10 : Option Addr} {sl10 : Array (Option Value)} {oc10 kV10 dc10 pm10 ct10 : Value} {cd10 : Value} {f11 : Addr} {od11 an11 : Option Addr} {sl11 : Array (Option Value)} {oc11 kV11 dc11 pm11 ct11 : Value} {cd11 : Value} {f12 : Addr} {od12 an12 : Option Addr} {sl12 : Array (Option Value)} {oc12 kV12 dc12 pm12 ct12 : Value} {cd12 : Value} {f13 : Addr} {od13 an13 : Option Addr} {sl13 : Array (Option Value)} {oc13 kV13 dc13 pm13 ct13 : Value} {cd13 : Value} {f14 : Addr} {od14 an14 : Option Addr} {sl14 : Array (Option Value)} {oc14 kV14 dc14 pm14 ct14 : Value} {cd14 : Addr} {pp14 : Addr} {o114 : Value} {o214 : Option Addr} {s214 : Array (Option Value)} {vs14 : Array Value} {f15 : Addr} {od15 an15 : Option Addr} {sl15 : Array (Option Value)} {oc15 kV15 dc15 pm15 ct15 : Value} {cd15 : Value} {f16 : Addr} {od16 an16 : Option Addr} {sl16 : Array (Option Value)} {oc16 kV16 dc16 pm16 ct16 : Value} {cd16 : Value} {f17 : Addr} {od17 an17 : Option Addr} {sl17 : Array (Option Value)} {oc17 kV17 dc17 pm17 ct17 : Value} {cd17 : Value} {f18 : Addr} {od18 an18 : Option Addr} {sl18 : Array (Option Value)} {oc18 kV18 dc18 pm18 ct18 : Value} {cd18 : Value} {f19 : Addr} {od19 an19 : Option Addr} {sl19 : Array (Option Value)} {oc19 kV19 dc19 pm19 ct19 : Value} {cd19 : Value} {f20 : Addr} {od20 an20 : Option Addr} {sl20 : Array (Option Value)} {oc20 kV20 dc20 pm20 ct20 : Value} {cd20 : Value} {f21 : Addr} {od21 an21 : Option Addr} {sl21 : Array (Option Value)} {oc21 kV21 dc21 pm21 ct21 : Value} {cd21 : Value} {f22 : Addr} {od22 an22 : Option Addr} {sl22 : Array (Option Value)} {oc22 kV22 dc22 pm22 ct22 : Value} {cd22 : Value} {f23 : Addr} {od23 an23 : Option Addr} {sl23 : Array (Option Value)} {oc23 kV23 dc23 pm23 ct23 : Value} {cd23 : Value} {tMS : Tok} {tHS : Tok} {tRS : Tok} (X : K.In h) (G : h.Ns mainGlobals mg) (hfa : mg "law" = some (.ref fa)) (hTab : ∀ (y : Str) (c P : Addr), Rc y → PySem.W.tabIn K y = some (c, P) → PySem.W.CodeHd h c P ∧ h.get? P = some (PySem.W.tabObj #[]))
    (a0 : PySem.W.nsIn K mainGlobals "is_whole" = some (some (.ref f0))) (l0 : K.lookup f0 = some ⟨oc0, od0, .func (PySem.W.fnOf "is_whole" "is_whole" (defArgs st_is_whole) (defBody st_is_whole) (defScope st_is_whole) .none kV0 dc0 pm0 an0 cd0 ct0), sl0⟩) (c0 : PySem.W.codeIn K cd0 "is_whole" = true) (k0 : PySem.W.keepIn K (.ref f0) = true)
    (a1 : PySem.W.nsIn K mainGlobals "is_written_in" = some (some (.ref f1))) (l1 : K.lookup f1 = some ⟨oc1, od1, .func (PySem.W.fnOf "is_written_in" "is_written_in" (defArgs st_is_written_in) (defBody st_is_written_in) (defScope st_is_written_in) .none kV1 dc1 pm1 an1 (.ref cd1) ct1), sl1⟩) (c1 : PySem.W.codeIn K (.ref cd1) "is_written_in" = true) (k1 : PySem.W.keepIn K (.ref f1) = true)
    (tE1 : K.lookup cd1 = some ⟨o11, o21, .fields vs1, s21⟩) (tG1 : vs1[11]? = some (.ref pp1)) (tN1 : K.lookup pp1 = none) (tR1 : Rc "is_written_in")
    (a2 : PySem.W.nsIn K mainGlobals "is_half" = some (some (.ref f2))) (l2 : K.lookup f2 = some ⟨oc2, od2, .func (PySem.W.fnOf "is_half" "is_half" (defArgs st_is_half) (defBody st_is_half) (defScope st_is_half) .none kV2 dc2 pm2 an2 cd2 ct2), sl2⟩) (c2 : PySem.W.codeIn K cd2 "is_half" = true) (k2 : PySem.W.keepIn K (.ref f2) = true)
    (a3 : PySem.W.nsIn K mainGlobals "is_row" = some (some (.ref f3))) (l3 : K.lookup f3 = some ⟨oc3, od3, .func (PySem.W.fnOf "is_row" "is_row" (defArgs st_is_row) (defBody st_is_row) (defScope st_is_row) .none kV3 dc3 pm3 an3 cd3 ct3), sl3⟩) (c3 : PySem.W.codeIn K cd3 "is_row" = true) (k3 : PySem.W.keepIn K (.ref f3) = true)
    (a4 : PySem.W.nsIn K mainGlobals "is_tuple_of" = some (some (.ref f4))) (l4 : K.lookup f4 = some ⟨oc4, od4, .func (PySem.W.fnOf "is_tuple_of" "is_tuple_of" (defArgs st_is_tuple_of) (defBody st_is_tuple_of) (defScope st_is_tuple_of) .none kV4 dc4 pm4 an4 cd4 ct4), sl4⟩) (c4 : PySem.W.codeIn K cd4 "is_tuple_of" = true) (k4 : PySem.W.keepIn K (.ref f4) = true)
    (a5 : PySem.W.nsIn K mainGlobals "are_two_texts" = some (some (.ref f5))) (l5 : K.lookup f5 = some ⟨oc5, od5, .func (PySem.W.fnOf "are_two_texts" "are_two_texts" (defArgs st_are_two_texts) (defBody st_are_two_texts) (defScope st_are_two_texts) .none kV5 dc5 pm5 an5 cd5 ct5), sl5⟩) (c5 : PySem.W.codeIn K cd5 "are_two_texts" = true) (k5 : PySem.W.keepIn K (.ref f5) = true)
    (a6 : PySem.W.nsIn K mainGlobals "turned_at_both" = some (some (.ref f6))) (l6 : K.lookup f6 = some ⟨oc6, od6, .func (PySem.W.fnOf "turned_at_both" "turned_at_both" (defArgs st_turned_at_both) (defBody st_turned_at_both) (defScope st_turned_at_both) .none kV6 dc6 pm6 an6 cd6 ct6), sl6⟩) (c6 : PySem.W.codeIn K cd6 "turned_at_both" = true) (k6 : PySem.W.keepIn K (.ref f6) = true)
    (a7 : PySem.W.nsIn K mainGlobals "many_partings" = some (some (.ref f7))) (l7 : K.lookup f7 = some ⟨oc7, od7, .func (PySem.W.fnOf "many_partings" "many_partings" (defArgs st_many_partings) (defBody st_many_partings) (defScope st_many_partings) .none kV7 dc7 pm7 an7 cd7 ct7), sl7⟩) (c7 : PySem.W.codeIn K cd7 "many_partings" = true) (k7 : PySem.W.keepIn K (.ref f7) = true)
    (a8 : PySem.W.nsIn K mainGlobals "lesser_half" = some (some (.ref f8))) (l8 : K.lookup f8 = some ⟨oc8, od8, .func (PySem.W.fnOf "lesser_half" "lesser_half" (defArgs st_lesser_half) (defBody st_lesser_half) (defScope st_lesser_half) .none kV8 dc8 pm8 an8 cd8 ct8), sl8⟩) (c8 : PySem.W.codeIn K cd8 "lesser_half" = true) (k8 : PySem.W.keepIn K (.ref f8) = true)
    (a9 : PySem.W.nsIn K mainGlobals "parting_at" = some (some (.ref f9))) (l9 : K.lookup f9 = some ⟨oc9, od9, .func (PySem.W.fnOf "parting_at" "parting_at" (defArgs st_parting_at) (defBody st_parting_at) (defScope st_parting_at) .none kV9 dc9 pm9 an9 cd9 ct9), sl9⟩) (c9 : PySem.W.codeIn K cd9 "parting_at" = true) (k9 : PySem.W.keepIn K (.ref f9) = true)
    (a10 : PySem.W.nsIn K mainGlobals "partings_of" = some (some (.ref f10))) (l10 : K.lookup f10 = some ⟨oc10, od10, .func (PySem.W.fnOf "partings_of" "partings_of" (defArgs st_partings_of) (defBody st_partings_of) (defScope st_partings_of) .none kV10 dc10 pm10 an10 cd10 ct10), sl10⟩) (c10 : PySem.W.codeIn K cd10 "partings_of" = true) (k10 : PySem.W.keepIn K (.ref f10) = true)
    (a11 : PySem.W.nsIn K mainGlobals "number_of" = some (some (.ref f11))) (l11 : K.lookup f11 = some ⟨oc11, od11, .func (PySem.W.fnOf "number_of" "number_of" (defArgs st_number_of) (defBody st_number_of) (defScope st_number_of) .none kV11 dc11 pm11 an11 cd11 ct11), sl11⟩) (c11 : PySem.W.codeIn K cd11 "number_of" = true) (k11 : PySem.W.keepIn K (.ref f11) = true)
    (a12 : PySem.W.nsIn K mainGlobals "row_by" = some (some (.ref f12))) (l12 : K.lookup f12 = some ⟨oc12, od12, .func (PySem.W.fnOf "row_by" "row_by" (defArgs st_row_by) (defBody st_row_by) (defScope st_row_by) .none kV12 dc12 pm12 an12 cd12 ct12), sl12⟩) (c12 : PySem.W.codeIn K cd12 "row_by" = true) (k12 : PySem.W.keepIn K (.ref f12) = true)
    (a13 : PySem.W.nsIn K mainGlobals "lets" = some (some (.ref f13))) (l13 : K.lookup f13 = some ⟨oc13, od13, .func (PySem.W.fnOf "lets" "lets" (defArgs st_lets) (defBody st_lets) (defScope st_lets) .none kV13 dc13 pm13 an13 cd13 ct13), sl13⟩) (c13 : PySem.W.codeIn K cd13 "lets" = true) (k13 : PySem.W.keepIn K (.ref f13) = true)
    (a14 : PySem.W.nsIn K mainGlobals "fits_row" = some (some (.ref f14))) (l14 : K.lookup f14 = some ⟨oc14, od14, .func (PySem.W.fnOf "fits_row" "fits_row" (defArgs st_fits_row) (defBody st_fits_row) (defScope st_fits_row) .none kV14 dc14 pm14 an14 (.ref cd14) ct14), sl14⟩) (c14 : PySem.W.codeIn K (.ref cd14) "fits_row" = true) (k14 : PySem.W.keepIn K (.ref f14) = true)
    (tE14 : K.lookup cd14 = some ⟨o114, o214, .fields vs14, s214⟩) (tG14 : vs14[11]? = some (.ref pp14)) (tN14 : K.lookup pp14 = none) (tR14 : Rc "fits_row")
    (a15 : PySem.W.nsIn K mainGlobals "other_half" = some (some (.ref f15))) (l15 : K.lookup f15 = some ⟨oc15, od15, .func (PySem.W.fnOf "other_half" "other_half" (defArgs st_other_half) (defBody st_other_half) (defScope st_other_half) .none kV15 dc15 pm15 an15 cd15 ct15), sl15⟩) (c15 : PySem.W.codeIn K cd15 "other_half" = true) (k15 : PySem.W.keepIn K (.ref f15) = true)
    (a16 : PySem.W.nsIn K mainGlobals "_law_cell" = some (some (.ref f16))) (l16 : K.lookup f16 = some ⟨oc16, od16, .func (PySem.W.fnOf "_law_cell" "_law_cell" (defArgs st__law_cell) (defBody st__law_cell) (defScope st__law_cell) .none kV16 dc16 pm16 an16 cd16 ct16), sl16⟩) (c16 : PySem.W.codeIn K cd16 "_law_cell" = true) (k16 : PySem.W.keepIn K (.ref f16) = true)
    (a17 : PySem.W.nsIn K mainGlobals "_law_numbers" = some (some (.ref f17))) (l17 : K.lookup f17 = some ⟨oc17, od17, .func (PySem.W.fnOf "_law_numbers" "_law_numbers" (defArgs st__law_numbers) (defBody st__law_numbers) (defScope st__law_numbers) .none kV17 dc17 pm17 an17 cd17 ct17), sl17⟩) (c17 : PySem.W.codeIn K cd17 "_law_numbers" = true) (k17 : PySem.W.keepIn K (.ref f17) = true)
    (a18 : PySem.W.nsIn K mainGlobals "_law_any_row" = some (some (.ref f18))) (l18 : K.lookup f18 = some ⟨oc18, od18, .func (PySem.W.fnOf "_law_any_row" "_law_any_row" (defArgs st__law_any_row) (defBody st__law_any_row) (defScope st__law_any_row) .none kV18 dc18 pm18 an18 cd18 ct18), sl18⟩) (c18 : PySem.W.codeIn K cd18 "_law_any_row" = true) (k18 : PySem.W.keepIn K (.ref f18) = true)
    (a19 : PySem.W.nsIn K mainGlobals "_law_drawn_rows" = some (some (.ref f19))) (l19 : K.lookup f19 = some ⟨oc19, od19, .func (PySem.W.fnOf "_law_drawn_rows" "_law_drawn_rows" (defArgs st__law_drawn_rows) (defBody st__law_drawn_rows) (defScope st__law_drawn_rows) .none kV19 dc19 pm19 an19 cd19 ct19), sl19⟩) (c19 : PySem.W.codeIn K cd19 "_law_drawn_rows" = true) (k19 : PySem.W.keepIn K (.ref f19) = true)
    (a20 : PySem.W.nsIn K mainGlobals "_law_exchanged" = some (some (.ref f20))) (l20 : K.lookup f20 = some ⟨oc20, od20, .func (PySem.W.fnOf "_law_exchanged" "_law_exchanged" (defArgs st__law_exchanged) (defBody st__law_exchanged) (defScope st__law_exchanged) .none kV20 dc20 pm20 an20 cd20 ct20), sl20⟩) (c20 : PySem.W.codeIn K cd20 "_law_exchanged" = true) (k20 : PySem.W.keepIn K (.ref f20) = true)
    (a21 : PySem.W.nsIn K mainGlobals "_law_one_right" = some (some (.ref f21))) (l21 : K.lookup f21 = some ⟨oc21, od21, .func (PySem.W.fnOf "_law_one_right" "_law_one_right" (defArgs st__law_one_right) (defBody st__law_one_right) (defScope st__law_one_right) .none kV21 dc21 pm21 an21 cd21 ct21), sl21⟩) (c21 : PySem.W.codeIn K cd21 "_law_one_right" = true) (k21 : PySem.W.keepIn K (.ref f21) = true)
    (a22 : PySem.W.nsIn K mainGlobals "_law_right" = some (some (.ref f22))) (l22 : K.lookup f22 = some ⟨oc22, od22, .func (PySem.W.fnOf "_law_right" "_law_right" (defArgs st__law_right) (defBody st__law_right) (defScope st__law_right) .none kV22 dc22 pm22 an22 cd22 ct22), sl22⟩) (c22 : PySem.W.codeIn K cd22 "_law_right" = true) (k22 : PySem.W.keepIn K (.ref f22) = true)
    (a23 : PySem.W.nsIn K mainGlobals "law" = some (some (.ref f23))) (l23 : K.lookup f23 = some ⟨oc23, od23, .func (PySem.W.fnOf "law" "law" (defArgs st_law) (defBody st_law) (defScope st_law) .none kV23 dc23 pm23 an23 cd23 ct23), sl23⟩) (c23 : PySem.W.codeIn K cd23 "law" = true) (k23 : PySem.W.keepIn K (.ref f23) = true)
    (z_isinstance : PySem.W.nsIn K mainGlobals "isinstance" = some none)
    (z_bool : PySem.W.nsIn K mainGlobals "bool" = some none)
    (z_int : PySem.W.nsIn K mainGlobals "int" = some none)
    (z_len : PySem.W.nsIn K mainGlobals "len" = some none)
    (z_str : PySem.W.nsIn K mainGlobals "str" = some none)
    (z_all : PySem.W.nsIn K mainGlobals "all" = some none)
    (z_tuple : PySem.W.nsIn K mainGlobals "tuple" = some none)
    (z_zip : PySem.W.nsIn K mainGlobals "zip" = some none)
    (z_max : PySem.W.nsIn K mainGlobals "max" = some none)
    (z_reversed : PySem.W.nsIn K mainGlobals "reversed" = some none)
    (z_range : PySem.W.nsIn K mainGlobals "range" = some none)
    (z_enumerate : PySem.W.nsIn K mainGlobals "enumerate" = some none)
    (z_abs : PySem.W.nsIn K mainGlobals "abs" = some none)
    (z_sorted : PySem.W.nsIn K mainGlobals "sorted" = some none)
    (z_set : PySem.W.nsIn K mainGlobals "set" = some none)
    (z_min : PySem.W.nsIn K mainGlobals "min" = some none)
    (y_MOST_SIGNS : PySem.W.nsIn K mainGlobals "MOST_SIGNS" = some (some (.int 8 tMS)))
    (y_HALF_SIGNS : PySem.W.nsIn K mainGlobals "HALF_SIGNS" = some (some (.str "ny" tHS)))
    (y_ROW_SIGNS : PySem.W.nsIn K mainGlobals "ROW_SIGNS" = some (some (.str "nby" tRS))) :
    LamX.LawAtS l w K CX0 9 63 "_law_script" mg fa h := by
  have m_isinstance := PySem.W.mg_none_of X G z_isinstance
  have m_bool := PySem.W.mg_none_of X G z_bool
  have m_int := PySem.W.mg_none_of X G z_int
  have m_len := PySem.W.mg_none_of X G z_len
  have m_str := PySem.W.mg_none_of X G z_str
  have m_all := PySem.W.mg_none_of X G z_all
  have m_tuple := PySem.W.mg_none_of X G z_tuple
  have m_zip := PySem.W.mg_none_of X G z_zip
  have m_max := PySem.W.mg_none_of X G z_max
  have m_reversed := PySem.W.mg_none_of X G z_reversed
  have m_range := PySem.W.mg_none_of X G z_range
  have m_enumerate := PySem.W.mg_none_of X G z_enumerate
  have m_abs := PySem.W.mg_none_of X G z_abs
  have m_sorted := PySem.W.mg_none_of X G z_sorted
  have m_set := PySem.W.mg_none_of X G z_set
  have m_min := PySem.W.mg_none_of X G z_min
  have c_MOST_SIGNS := PySem.W.mg_of X G y_MOST_SIGNS
  have c_HALF_SIGNS := PySem.W.mg_of X G y_HALF_SIGNS
  have c_ROW_SIGNS := PySem.W.mg_of X G y_ROW_SIGNS
  have D_is_whole : Df K mg "is_whole" st_is_whole ["thing"] := df_mk X G a0 l0 c0 k0 (fun _ _ _ _ _ _ us hl => match us, hl with | [_], _ => rfl)
  have D_is_written_in : DfC K mg "is_written_in" st_is_written_in ["thing", "signs"] cd1 := dfc_mk X G a1 l1 c1 k1 (fun _ _ _ _ _ _ us hl => match us, hl with | [_, _], _ => rfl)
  have T1 := hTab "is_written_in" cd1 pp1 tR1 (tabIn_mk a1 l1 rfl tE1 tG1)
  have D_is_half : Df K mg "is_half" st_is_half ["thing"] := df_mk X G a2 l2 c2 k2 (fun _ _ _ _ _ _ us hl => match us, hl with | [_], _ => rfl)
  have D_is_row : Df K mg "is_row" st_is_row ["thing"] := df_mk X G a3 l3 c3 k3 (fun _ _ _ _ _ _ us hl => match us, hl with | [_], _ => rfl)
  have D_is_tuple_of : Df K mg "is_tuple_of" st_is_tuple_of ["thing", "many"] := df_mk X G a4 l4 c4 k4 (fun _ _ _ _ _ _ us hl => match us, hl with | [_, _], _ => rfl)
  have D_are_two_texts : Df K mg "are_two_texts" st_are_two_texts ["thing"] := df_mk X G a5 l5 c5 k5 (fun _ _ _ _ _ _ us hl => match us, hl with | [_], _ => rfl)
  have D_turned_at_both : Df K mg "turned_at_both" st_turned_at_both ["row", "half"] := df_mk X G a6 l6 c6 k6 (fun _ _ _ _ _ _ us hl => match us, hl with | [_, _], _ => rfl)
  have D_many_partings : Df K mg "many_partings" st_many_partings ["row"] := df_mk X G a7 l7 c7 k7 (fun _ _ _ _ _ _ us hl => match us, hl with | [_], _ => rfl)
  have D_lesser_half : Df K mg "lesser_half" st_lesser_half ["row", "number"] := df_mk X G a8 l8 c8 k8 (fun _ _ _ _ _ _ us hl => match us, hl with | [_, _], _ => rfl)
  have D_parting_at : Df K mg "parting_at" st_parting_at ["row", "number"] := df_mk X G a9 l9 c9 k9 (fun _ _ _ _ _ _ us hl => match us, hl with | [_, _], _ => rfl)
  have D_partings_of : Df K mg "partings_of" st_partings_of ["row"] := df_mk X G a10 l10 c10 k10 (fun _ _ _ _ _ _ us hl => match us, hl with | [_], _ => rfl)
  have D_number_of : Df K mg "number_of" st_number_of ["row", "parting"] := df_mk X G a11 l11 c11 k11 (fun _ _ _ _ _ _ us hl => match us, hl with | [_, _], _ => rfl)
  have D_row_by : Df K mg "row_by" st_row_by ["one", "other"] := df_mk X G a12 l12 c12 k12 (fun _ _ _ _ _ _ us hl => match us, hl with | [_, _], _ => rfl)
  have D_lets : Df K mg "lets" st_lets ["mark", "sign"] := df_mk X G a13 l13 c13 k13 (fun _ _ _ _ _ _ us hl => match us, hl with | [_, _], _ => rfl)
  have D_fits_row : DfC K mg "fits_row" st_fits_row ["row", "half"] cd14 := dfc_mk X G a14 l14 c14 k14 (fun _ _ _ _ _ _ us hl => match us, hl with | [_, _], _ => rfl)
  have T14 := hTab "fits_row" cd14 pp14 tR14 (tabIn_mk a14 l14 rfl tE14 tG14)
  have D_other_half : Df K mg "other_half" st_other_half ["row", "half"] := df_mk X G a15 l15 c15 k15 (fun _ _ _ _ _ _ us hl => match us, hl with | [_, _], _ => rfl)
  have D__law_cell : Df K mg "_law_cell" st__law_cell ["_law_script", "_law_k"] := df_mk X G a16 l16 c16 k16 (fun _ _ _ _ _ _ us hl => match us, hl with | [_, _], _ => rfl)
  have D__law_numbers : Df K mg "_law_numbers" st__law_numbers ["_law_cell_here", "_law_many"] := df_mk X G a17 l17 c17 k17 (fun _ _ _ _ _ _ us hl => match us, hl with | [_, _], _ => rfl)
  have D__law_any_row : Df K mg "_law_any_row" st__law_any_row ["_law_xs", "_law_places"] := df_mk X G a18 l18 c18 k18 (fun _ _ _ _ _ _ us hl => match us, hl with | [_, _], _ => rfl)
  have D__law_drawn_rows : Df K mg "_law_drawn_rows" st__law_drawn_rows ["_law_script", "_law_amount"] := df_mk X G a19 l19 c19 k19 (fun _ _ _ _ _ _ us hl => match us, hl with | [_, _], _ => rfl)
  have D__law_exchanged : Df K mg "_law_exchanged" st__law_exchanged ["_law_text"] := df_mk X G a20 l20 c20 k20 (fun _ _ _ _ _ _ us hl => match us, hl with | [_], _ => rfl)
  have D__law_one_right : Df K mg "_law_one_right" st__law_one_right ["_law_row", "_law_number"] := df_mk X G a21 l21 c21 k21 (fun _ _ _ _ _ _ us hl => match us, hl with | [_, _], _ => rfl)
  have D__law_right : Df K mg "_law_right" st__law_right ["_law_row", "_law_xs"] := df_mk X G a22 l22 c22 k22 (fun _ _ _ _ _ _ us hl => match us, hl with | [_, _], _ => rfl)
  have D_law : Df K mg "law" st_law ["_law_script"] := df_mk X G a23 l23 c23 k23 (fun _ _ _ _ _ _ us hl => match us, hl with | [_], _ => rfl)
  have e := hfa.symm.trans (PySem.W.mg_of X G a23)
  cases e
  refine ⟨PySem.W.fnOf "law" "law" (defArgs st_law) (defBody st_law) (defScope st_law) .none kV23 dc23 pm23 an23 cd23 ct23, [(cd1, pp1), (cd14, pp14)], spT [pp1, pp14] (sp_law K [pp1, pp14]), ?_, ?_, ?_, fun s v => .of_eq rfl, fun H a ns hl _ hH hS => ?_, fun base _ _ hB => ?_⟩
  · intro p hp
    simp only [List.mem_cons, List.not_mem_nil, or_false] at hp
    rcases hp with rfl | rfl
    · exact T1.2
    · exact T14.2
  · intro p hp
    simp only [List.mem_cons, List.not_mem_nil, or_false] at hp
    rcases hp with rfl | rfl
    · exact tN1
    · exact tN14
  · intro p hp
    simp only [List.mem_cons, List.not_mem_nil, or_false] at hp
    rcases hp with rfl | rfl
    · exact T1.1
    · exact T14.1
  · have hT : ∀ b ∈ ([pp1, pp14] : List Addr), H b = some (.tbl #[]) := fun b hb => by
      obtain ⟨p, hp, e⟩ := List.mem_map.mp (show b ∈ ([(cd1, pp1), (cd14, pp14)] : List (Addr × Addr)).map (·.2) from hb)
      rw [← e]
      exact hH p hp
    exact ⟨hT, a, ns, rfl, xtab_sq hT hS, hl, fun P hP => xtab_in hP, fun H2 e2 => ⟨fun P hP => e2 _ _ (xtab_in hP), fun _ _ => rfl⟩⟩
  · refine tab_law ?_
    have B1 : GxR.TabB base mg cd1 pp1 := let z := hB (cd1, pp1) (by simp); ⟨z.code, z.bm, z.gP⟩
    have B14 : GxR.TabB base mg cd14 pp14 := let z := hB (cd14, pp14) (by simp); ⟨z.code, z.bm, z.gP⟩
    have A__law_numbers := ok__law_numbers (P := l.prog) (w := w) (base := base) (ts := [pp1, pp14]) D__law_numbers m_abs m_range m_int
    have A__law_cell := ok__law_cell (P := l.prog) (w := w) (base := base) (ts := [pp1, pp14]) D__law_cell m_len
    have A__law_any_row := ok__law_any_row (P := l.prog) (w := w) (base := base) (ts := [pp1, pp14]) D__law_any_row m_range
    have A__law_drawn_rows := ok__law_drawn_rows (P := l.prog) (w := w) (base := base) (ts := [pp1, pp14]) D__law_drawn_rows m_range A__law_numbers A__law_cell A__law_any_row
    have A_many_partings := ok_many_partings (P := l.prog) (w := w) (base := base) (ts := [pp1, pp14]) D_many_partings m_max
    have A_is_whole := ok_is_whole (P := l.prog) (w := w) (base := base) (ts := [pp1, pp14]) D_is_whole m_isinstance m_bool m_int
    have A_lesser_half := ok_lesser_half (P := l.prog) (w := w) (base := base) (ts := [pp1, pp14]) D_lesser_half m_reversed c_HALF_SIGNS
    have A_turned_at_both := ok_turned_at_both (P := l.prog) (w := w) (base := base) (ts := [pp1, pp14]) D_turned_at_both m_zip
    have A_parting_at := ok_parting_at (P := l.prog) (w := w) (base := base) (ts := [pp1, pp14]) D_parting_at A_many_partings A_is_whole A_lesser_half A_turned_at_both
    have A_row_by := ok_row_by (P := l.prog) (w := w) (base := base) (ts := [pp1, pp14]) D_row_by m_zip
    have A_is_written_in := ok_is_written_in (P := l.prog) (w := w) (base := base) (ts := [pp1, pp14]) D_is_written_in B1 (by simp) m_len m_isinstance m_str m_all c_MOST_SIGNS
    have A_is_half := ok_is_half (P := l.prog) (w := w) (base := base) (ts := [pp1, pp14]) D_is_half c_HALF_SIGNS A_is_written_in
    have A_is_row := ok_is_row (P := l.prog) (w := w) (base := base) (ts := [pp1, pp14]) D_is_row c_ROW_SIGNS A_is_written_in
    have A_lets := ok_lets (P := l.prog) (w := w) (base := base) (ts := [pp1, pp14]) D_lets
    have A_fits_row := ok_fits_row (P := l.prog) (w := w) (base := base) (ts := [pp1, pp14]) D_fits_row B14 (by simp) m_len m_zip m_all A_is_half A_is_row A_lets
    have A_other_half := ok_other_half (P := l.prog) (w := w) (base := base) (ts := [pp1, pp14]) D_other_half A_fits_row A_turned_at_both
    have A__law_exchanged := ok__law_exchanged (P := l.prog) (w := w) (base := base) (ts := [pp1, pp14]) D__law_exchanged
    have A_is_tuple_of := ok_is_tuple_of (P := l.prog) (w := w) (base := base) (ts := [pp1, pp14]) D_is_tuple_of m_len m_isinstance m_tuple
    have A_are_two_texts := ok_are_two_texts (P := l.prog) (w := w) (base := base) (ts := [pp1, pp14]) D_are_two_texts m_isinstance m_str A_is_tuple_of
    have A_partings_of := ok_partings_of (P := l.prog) (w := w) (base := base) (ts := [pp1, pp14]) D_partings_of m_range A_many_partings A_parting_at
    have A_number_of := ok_number_of (P := l.prog) (w := w) (base := base) (ts := [pp1, pp14]) D_number_of m_enumerate A_are_two_texts A_partings_of
    have A__law_one_right := ok__law_one_right (P := l.prog) (w := w) (base := base) (ts := [pp1, pp14]) D__law_one_right m_tuple m_sorted A_parting_at A_row_by A_other_half A_fits_row A__law_exchanged A_number_of
    have A__law_right := ok__law_right (P := l.prog) (w := w) (base := base) (ts := [pp1, pp14]) D__law_right m_sorted m_set m_all m_len m_int A_many_partings A__law_one_right A_parting_at
    have A_law := ok_law (P := l.prog) (w := w) (base := base) (ts := [pp1, pp14]) D_law m_max m_min m_len m_range A__law_drawn_rows A__law_right A__law_numbers A__law_cell
    obtain ⟨f9, fd9, F9, b9, g9, G9⟩ := A_law
    have e9 := g9.symm.trans hfa
    cases e9
    exact at_fd G9 F9 (fun_mk (st := st_law) l23 c23 k23)
end Hid
open PySem PySem.W PyProof.Rows
set_option maxHeartbeats 0 in
theorem PySem.Challenge.cw_hidhalves_k09_whole_partings_and_halves_holds : PySem.Challenge.rw_hidhalves_k09_whole_partings_and_halves.Holds := by
  w_on; o_law; k_head; (case hw => w_witness2)
  k_fill
  refine Hid.walk_ofG (l := PySem.Challenge.rw_hidhalves_k09_whole_partings_and_halves) (n := 63) (k := 9) (x := "_law_script") (CX := fun _ => L2.CX0) rfl (by decide) rfl ⟨rfl, by decide, by decide⟩ (fun w h Y => PySem.W.kIn_of Y) ?F (fun _ _ _ _ _ h => h)
  case F =>
    intro w mg fa h KX G hmg hTab
    refine' Hid.all_mk KX G hmg hTab ?a0 ?l0 ?c0 ?k0 ?a1 ?l1 ?c1 ?k1 ?tE1 ?tG1 ?tN1 ?tR1 ?a2 ?l2 ?c2 ?k2 ?a3 ?l3 ?c3 ?k3 ?a4 ?l4 ?c4 ?k4 ?a5 ?l5 ?c5 ?k5 ?a6 ?l6 ?c6 ?k6 ?a7 ?l7 ?c7 ?k7 ?a8 ?l8 ?c8 ?k8 ?a9 ?l9 ?c9 ?k9 ?a10 ?l10 ?c10 ?k10 ?a11 ?l11 ?c11 ?k11 ?a12 ?l12 ?c12 ?k12 ?a13 ?l13 ?c13 ?k13 ?a14 ?l14 ?c14 ?k14 ?tE14 ?tG14 ?tN14 ?tR14 ?a15 ?l15 ?c15 ?k15 ?a16 ?l16 ?c16 ?k16 ?a17 ?l17 ?c17 ?k17 ?a18 ?l18 ?c18 ?k18 ?a19 ?l19 ?c19 ?k19 ?a20 ?l20 ?c20 ?k20 ?a21 ?l21 ?c21 ?k21 ?a22 ?l22 ?c22 ?k22 ?a23 ?l23 ?c23 ?k23 ?z_isinstance ?z_bool ?z_int ?z_len ?z_str ?z_all ?z_tuple ?z_zip ?z_max ?z_reversed ?z_range ?z_enumerate ?z_abs ?z_sorted ?z_set ?z_min ?y_MOST_SIGNS ?y_HALF_SIGNS ?y_ROW_SIGNS
    (case a0 => k_is)
    (case l0 => k_is)
    (case c0 => k_is)
    (case k0 => k_is)
    (case a1 => k_is)
    (case l1 => k_is)
    (case c1 => k_is)
    (case k1 => k_is)
    (case tE1 => k_is)
    (case tG1 => rfl)
    (case tN1 => first | rfl | with_unfolding_all rfl)
    (case tR1 => first | rfl | decide +kernel)
    (case a2 => k_is)
    (case l2 => k_is)
    (case c2 => k_is)
    (case k2 => k_is)
    (case a3 => k_is)
    (case l3 => k_is)
    (case c3 => k_is)
    (case k3 => k_is)
    (case a4 => k_is)
    (case l4 => k_is)
    (case c4 => k_is)
    (case k4 => k_is)
    (case a5 => k_is)
    (case l5 => k_is)
    (case c5 => k_is)
    (case k5 => k_is)
    (case a6 => k_is)
    (case l6 => k_is)
    (case c6 => k_is)
    (case k6 => k_is)
    (case a7 => k_is)
    (case l7 => k_is)
    (case c7 => k_is)
    (case k7 => k_is)
    (case a8 => k_is)
    (case l8 => k_is)
    (case c8 => k_is)
    (case k8 => k_is)
    (case a9 => k_is)
    (case l9 => k_is)
    (case c9 => k_is)
    (case k9 => k_is)
    (case a10 => k_is)
    (case l10 => k_is)
    (case c10 => k_is)
    (case k10 => k_is)
    (case a11 => k_is)
    (case l11 => k_is)
    (case c11 => k_is)
    (case k11 => k_is)
    (case a12 => k_is)
    (case l12 => k_is)
    (case c12 => k_is)
    (case k12 => k_is)
    (case a13 => k_is)
    (case l13 => k_is)
    (case c13 => k_is)
    (case k13 => k_is)
    (case a14 => k_is)
    (case l14 => k_is)
    (case c14 => k_is)
    (case k14 => k_is)
    (case tE14 => k_is)
    (case tG14 => rfl)
    (case tN14 => first | rfl | with_unfolding_all rfl)
    (case tR14 => first | rfl | decide +kernel)
    (case a15 => k_is)
    (case l15 => k_is)
    (case c15 => k_is)
    (case k15 => k_is)
    (case a16 => k_is)
    (case l16 => k_is)
    (case c16 => k_is)
    (case k16 => k_is)
    (case a17 => k_is)
    (case l17 => k_is)
    (case c17 => k_is)
    (case k17 => k_is)
    (case a18 => k_is)
    (case l18 => k_is)
    (case c18 => k_is)
    (case k18 => k_is)
    (case a19 => k_is)
    (case l19 => k_is)
    (case c19 => k_is)
    (case k19 => k_is)
    (case a20 => k_is)
    (case l20 => k_is)
    (case c20 => k_is)
    (case k20 => k_is)
    (case a21 => k_is)
    (case l21 => k_is)
    (case c21 => k_is)
    (case k21 => k_is)
    (case a22 => k_is)
    (case l22 => k_is)
    (case c22 => k_is)
    (case k22 => k_is)
    (case a23 => k_is)
    (case l23 => k_is)
    (case c23 => k_is)
    (case k23 => k_is)
    (case z_isinstance => k_is)
    (case z_bool => k_is)
    (case z_int => k_is)
    (case z_len => k_is)
    (case z_str => k_is)
    (case z_all => k_is)
    (case z_tuple => k_is)
    (case z_zip => k_is)
    (case z_max => k_is)
    (case z_reversed => k_is)
    (case z_range => k_is)
    (case z_enumerate => k_is)
    (case z_abs => k_is)
    (case z_sorted => k_is)
    (case z_set => k_is)
    (case z_min => k_is)
    (case y_MOST_SIGNS => k_is)
    (case y_HALF_SIGNS => k_is)
    (case y_ROW_SIGNS => k_is)
