import PyProof.Rows.All
import Wide.All
import OpenK.AllK
import Wide.FinOn
import HandS.Base
import HandS.Call
import HandS.List
import HandS.Comp
import HandS.Ends
import HandS.Dict
import HandS.Iter
import HandS.Text
import HandS.Words
import KE.GoesNew
import HandS.Rev
import PyProof.JoinWalk
import KE.SortData
import HandS.Evl
import HandS.Walk
import HandS.IsInst
import HandS.ForMost
import PySem.Challenge.RW_hidhalves_k06_partings_told
set_option Elab.async false
set_option linter.all false
set_option maxRecDepth 100000
set_option maxHeartbeats 4000000
namespace Hid
open PySem PySem.Spec PyProof.Rows L2
/-- two texts side by side: the signs in new pairs -/
def ZsIt (x y : Str) : It :=
  ⟨fun i _ => i < min x.cps.size y.cps.size,
    fun i G v G' => ∃ T c d, v = .ref T ∧ G T = none ∧ G' = upd G T (.tup [.str ⟨#[c]⟩, .str ⟨#[d]⟩]) ∧ x.cps[i]? = some c ∧ y.cps[i]? = some d,
    fun i _ => min x.cps.size y.cps.size ≤ i⟩
/-- where the walk of two texts stands -/
def ZsAt (z TI TO i1 i2 : Addr) (x y : Str) (t u : Tok) (i : Nat) (h : Heap) : Prop :=
  i ≤ min x.cps.size y.cps.size ∧ IsZip h z TI TO .none ∧ IsTupOf2 h TI (.ref i1) (.ref i2) ∧ (∃ a1 a2, IsTupOf2 h TO a1 a2) ∧ h.IsStrIter i1 (strIterType x) x t i ∧ h.IsStrIter i2 (strIterType y) y u i
theorem zs_turn {P : Program} {w : World} {K : PySem.W.Frag} {es : List Expr} {kk : Nat} {tp : Pos} {z TI TO i1 i2 : Addr} {x y : Str} {t u : Tok} (S : ZipSep2 z TI TO i1 i2 [i1] [i2]) :
    Turn P w K (.Tuple es kk tp) (ZsIt x y) (z :: TI :: TO :: ([i1] ++ [i2])) z (ZsAt z TI TO i1 i2 x y t u) where
  mem := List.mem_cons_self
  obj := fun i h st b hb => by
    obtain ⟨_, hz, hTI, ⟨p, q, hTO⟩, ⟨o1, e1, _, d1⟩, ⟨o2, e2, _, d2⟩⟩ := st
    have e' : b = z ∨ b = TI ∨ b = TO ∨ b = i1 ∨ b = i2 := by simpa using hb
    rcases e' with r | r | r | r | r <;> rw [r]
    · exact ⟨_, hz, fun v n => nomatch n⟩
    · exact ⟨_, hTI, fun v n => nomatch n⟩
    · exact ⟨_, hTO, fun v n => nomatch n⟩
    · exact ⟨o1, e1, fun v n => by rw [d1] at n; cases n⟩
    · exact ⟨o2, e2, fun v n => by rw [d2] at n; cases n⟩
  keep := fun i h h' st k => by
    obtain ⟨hi, hz, hTI, ⟨p, q, hTO⟩, ⟨o1, e1, r1⟩, ⟨o2, e2, r2⟩⟩ := st
    exact ⟨hi, k z (by simp) _ hz, k TI (by simp) _ hTI, ⟨p, q, k TO (by simp) _ hTO⟩, ⟨o1, k i1 (by simp) _ e1, r1⟩, ⟨o2, k i2 (by simp) _ e2, r2⟩⟩
  item := by
    intro X hP hw hK hc i pins s σ H E I hf st hg
    subst hP hw hK
    have hh := I.ok.hd hc
    have G := GoesN.zip2 (prog := X.prog) (w := X.w) (A := X.A) (elts := es) (x1 := kk) (pos := tp) S (Draws.text (A := X.A.in1) hh i1 x t) (Draws.text (A := X.A.in1) hh i2 y u)
    obtain ⟨hi, st⟩ := st
    refine wpAny_mono (G.goes i s (fun v s2 => ∃ xv H', Inv X pins σ H' s2 ∧ RelV xv v ∧ (ZsIt x y).yld i H xv H' ∧ ZsAt z TI TO i1 i2 x y t u (i + 1) s2.heap ∧ ∀ b ∈ z :: TI :: TO :: ([i1] ++ [i2]), H' b = none) E hg st fun v h' tk hY st' hk htk => ?_) (fun r s1 h1 => ?_) fun _ _ e => e
    · obtain ⟨T, v1, v2, rfl, hT, ⟨c, u1, hc1, rfl⟩, ⟨d, u2, hd1, rfl⟩, o, ho, ho1, n, ho2⟩ := hY
      have new : ObjOk X.prog X.w (upd H T (.tup [.str ⟨#[c]⟩, .str ⟨#[d]⟩])) h' T (.tup [.str ⟨#[c]⟩, .str ⟨#[d]⟩]) :=
        ⟨by show 2 ≤ sizeLine; decide, [_, _], .cons ⟨u1, rfl⟩ (.cons ⟨u2, rfl⟩ .nil), ⟨o, ho, ho1, n, ho2⟩⟩
      have J : Inv X pins σ (upd H T (.tup [.str ⟨#[c]⟩, .str ⟨#[d]⟩])) { s with heap := h', toks := tk } :=
        I.turnedNew (t' := tk) (ch := [z, TO, i1, i2]) hk (fun b hb => hf b (by simp at hb ⊢; rcases hb with q | q | q | q <;> simp [q])) hT new
      refine ⟨.ref T, _, J, rfl, ⟨T, c, d, rfl, I.hok.fresh hT, rfl, hc1, hd1⟩, ⟨hg, st'⟩, fun b hb => ?_⟩
      have hb1 : b < s.heap.objs.size := by
        obtain ⟨hz, hTI, ⟨p, q, hTO⟩, ⟨o1, e1, r1⟩, ⟨o2, e2, r2⟩⟩ := st
        have e' : b = z ∨ b = TI ∨ b = TO ∨ b = i1 ∨ b = i2 := by simpa using hb
        rcases e' with r | r | r | r | r <;> rw [r]
        · exact Heap.lt_size hz
        · exact Heap.lt_size hTI
        · exact Heap.lt_size hTO
        · exact Heap.lt_size e1
        · exact Heap.lt_size e2
      rw [upd_ne (Nat.ne_of_lt (Nat.lt_of_lt_of_le hb1 hT))]
      exact (hf b hb).1
    · obtain ⟨v, rfl, q⟩ := h1
      exact ⟨v, rfl, q⟩
  done := by
    intro X hP hw hK hc i pins s σ H E I hf st hg
    subst hP hw hK
    have hh := I.ok.hd hc
    have G := GoesN.zip2 (prog := X.prog) (w := X.w) (A := X.A) (elts := es) (x1 := kk) (pos := tp) S (Draws.text (A := X.A.in1) hh i1 x t) (Draws.text (A := X.A.in1) hh i2 y u)
    obtain ⟨hi, st⟩ := st
    have ei : i = min x.cps.size y.cps.size := Nat.le_antisymm hi hg
    subst ei
    exact G.stops s (fun s1 => Inv X pins σ H s1) E st fun h' tk hk htk => I.turnedL (t' := tk) (ch := [z, TO, i1, i2]) hk (fun b hb => hf b (by simp at hb ⊢; rcases hb with q | q | q | q <;> simp [q]))
  self := fun A i s Q E st h => wpAny_pyIter_zip st.2.1 h
def iZs (ta : TA) : TI := fun σ H R => ta σ H fun vs H1 => ∃ x y, vs = [.str x, .str y] ∧ R (ZsIt x y) H1
/-- zip(x, y) of two texts -/
theorem pi_zs {X : Cx} {e e2 : Expr} {ta : TA} {p pos tp : Pos} {es : List Expr} {kk : Nat} (hg : Gl X "zip") (hm : X.mg "zip" = none) (ha : PA X [e, e2] ta)
    (hs : starEach [e, e2] X.env = (false, eval e X.env) :: starEach [e2] X.env := by rfl) (hpl : (backTo pos (starEach [e2] X.env)).any (·.1) = false := by rfl) :
    PI X (.Tuple es kk tp) (.Call (.Name "zip" p) [e, e2] [] pos) (iZs ta) := by
  refine ⟨fun pins s σ H R I h => ?_⟩
  refine Call_ (ld_blt I hg hm boot_zip (callWith_type1 (thn (ha.run pos pins s σ H _ I h) fun us s1 ⟨vs, H1, I1, r1, x, y, ex, q⟩ => ?_) hs hpl))
  subst ex
  cases r1 with
  | cons r rr =>
    cases rr with
    | cons r' rr =>
      cases rr
      obtain ⟨t, rfl⟩ := r
      obtain ⟨u, rfl⟩ := r'
      refine zip_begins2 (begins_text x t) (begins_text y u) trivial trivial fun h' hz hTI hTO g1 g2 hsz hk => wpAny_pyIter_zip hz ?_
      refine ⟨s1.heap.objs.size + 4, _, _, _, H1, rfl, I1.kept (t' := s1.toks) hk, zs_turn (zip_sep2 (fp1 := []) (fp2 := []) (fun b n => nomatch n) (fun b n => nomatch n)),
        ⟨Nat.zero_le _, hz, hTI, ⟨_, _, hTO⟩, ⟨_, g1, rfl, rfl⟩, ⟨_, g2, rfl, rfl⟩⟩, fun c hcm => ?_, q⟩
      have e' : c = s1.heap.objs.size + 4 ∨ c = s1.heap.objs.size + 2 ∨ c = s1.heap.objs.size + 3 ∨ c = s1.heap.objs.size ∨ c = s1.heap.objs.size + 1 := by simpa using hcm
      have hle : s1.heap.objs.size ≤ c := by
        rcases e' with r | r | r | r | r <;> rw [r] <;> first | exact Nat.le_refl _ | exact Nat.le_add_right _ _
      exact I1.fpOk hle (I1.hok.fresh hle)
/-- a loop over two texts side by side -/
theorem for_zs {x y : Str} {g : TG} {tb : TS} {D : Ends} {σ : L2.St} {H : Hp} {n : Nat} (hn : n = min x.cps.size y.cps.size) (Pv : Nat → L2.St → Hp → Prop) (h0 : Pv 0 σ H)
    (hs : ∀ (i c d : Nat) (T : Addr) (σ : L2.St) (H : Hp), i < n → x.cps[i]? = some c → y.cps[i]? = some d → H T = none → Pv i σ H →
      g (.ref T) σ (upd H T (.tup [.str ⟨#[c]⟩, .str ⟨#[d]⟩])) fun σ2 H2 => tb { D with nx := Pv (i + 1), ct := Pv (i + 1), bk := D.nx } σ2 H2) (hd : ∀ σ H, Pv n σ H → D.nx σ H) :
    ∃ W : Nat → Nat → L2.St → Hp → Prop, (∃ m, W 0 m σ H) ∧ ∀ i m σ H, W i m σ H →
      ((ZsIt x y).stop i H ∧ D.nx σ H) ∨ ((ZsIt x y).go i H ∧ ∃ N : L2.St → Hp → Prop, (∀ σ' H', N σ' H' → ∃ m', m' < m ∧ W (i + 1) m' σ' H') ∧ ∀ v H', (ZsIt x y).yld i H v H' → g v σ H' fun σ2 H2 => tb { D with nx := N, ct := N, bk := D.nx } σ2 H2) := by
  subst hn
  refine ⟨fun i m σ H => m = min x.cps.size y.cps.size - i ∧ i ≤ min x.cps.size y.cps.size ∧ Pv i σ H, ⟨_, rfl, Nat.zero_le _, h0⟩, ?_⟩
  rintro i m σ H ⟨rfl, hi, p⟩
  by_cases hlt : i < min x.cps.size y.cps.size
  · refine .inr ⟨hlt, Pv (i + 1), fun σ' H' p' => ⟨_, by omega, rfl, hlt, p'⟩, fun v H' r => ?_⟩
    obtain ⟨T, c, d, rfl, hT, rfl, hc, hd'⟩ := r
    exact hs i c d T σ H hlt hc hd' hT p
  · have e : i = min x.cps.size y.cps.size := by omega
    subst e
    exact .inl ⟨Nat.le_refl _, hd σ H p⟩
end Hid

namespace Hid
open PySem PySem.Spec PyProof.Rows L2
theorem str_norev : typeLookup (.type "str") "__reversed__" = pure none := by rw [typeLookup_type, builtinLookup_eq_fast]; kernel_rfl
theorem str_getit : typeLookup (.type "str") "__getitem__" = pure (some (.builtin "str.__getitem__")) := by rw [typeLookup_type, builtinLookup_eq_fast]; kernel_rfl
abbrev rsObj (x : Str) (t : Tok) (i : Int) : Obj := { cls := .type "reversed", data := .fields #[.str x t, rawInt i] }
/-- reversed(x) of a text, the next place i -/
def IsRs (h : Heap) (a : Addr) (x : Str) (t : Tok) (i : Int) : Prop := ∃ o, h.get? a = some o ∧ o.cls = .type "reversed" ∧ o.data = .fields #[.str x t, rawInt i]
section
variable {prog : Program} {w : World} {A : Around} {E : Value → Shared → Prop} {s : Shared}
theorem IsRs.kind {a : Addr} {x : Str} {t : Tok} {i : Int} (q : IsRs s.heap a x t i) : s.TypeIs (.ref a) "reversed" := let ⟨o, ho, hc, _⟩ := q; ⟨o, ho, hc⟩
theorem rs_code {x : Str} {t : Tok} {Q₁ : Value → Shared → Prop} (hx : x.length ≤ sizeLine)
    (h : Q₁ (.ref s.heap.objs.size) { s with heap := s.heap.push (rsObj x t ((x.length : Int) - 1)), toks := s.toks + 1 + 1 }) :
    codeAny (model prog w) A (.call (.builtin "reversed.__new__") ⟨[.type "reversed", .str x t], []⟩) (wants Q₁ E) s := by
  have kx := typeIs_str s x t
  refine codeAny_of_tree ?_
  show wpAny _ A.in1 (do checkBuiltinCall "reversed.__new__" ⟨[.type "reversed", .str x t], []⟩; again (.builtin "reversed.__new__" ⟨[.type "reversed", .str x t], []⟩)) _ _ s
  refine wpAny_bind (wpAny_of_eq (F.newCall_reversed_1 _) (wpAny_pure ⟨plainId_quiet F.plain_reversed_new _, codeAny_builtin F.entry_reversed_new ?_⟩))
  rw [Around.under_plainId F.plain_reversed_new _] <;> unfold Builtin.«reversed.__new__»
  refine wpAny_bind (wpAny_of_eq (newClass_reversed _) ?_) <;> try dsimp only
  refine wpAny_bind (wpAny_of_eq (a := ()) (by first | rfl | kernel_rfl) ?_) <;> try dsimp only
  refine wpAny_bind (wpAny_of_eq (a := ()) (by first | rfl | kernel_rfl) ?_) <;> try dsimp only
  refine wpAny_bind (wpAny_specialOf kx str_norev ?_) <;> try dsimp only
  refine wpAny_bind ?_ <;> wp_delta
  refine wpAny_bind (wpAny_isInstance (T := "str") (U := "dict") (b := false) kx PySem.F.sub_str_dict ?_)
  try dsimp only
  try rw [if_neg Bool.false_ne_true]
  try dsimp only
  refine wpAny_bind (wpAny_specialOf kx str_getit ?_)
  try dsimp only
  try rw [if_pos (by decide +kernel)]
  refine wpAny_pure ?_
  try dsimp only
  try rw [if_neg (by decide)]
  try dsimp only
  have hn := line63
  refine wpAny_bind (PySem.P.len_str (by omega) ?_)
  refine wpAny_bind (wpAny_of_eq (a := some ((x.length : Nat) : Int)) rfl ?_) <;> try dsimp only
  refine wpAny_bind ?_
  show wpAny _ _ (newObj (.type "reversed") (.fields #[.str x t, rawInt ((x.length : Int) - 1)])) _ _ _
  refine wpAny_newObj_type ?_
  exact wpAny_pure h
theorem rs_call {x : Str} {t : Tok} {Q : Value → Shared → Prop} (hx : x.length ≤ sizeLine)
    (h : Q (.ref s.heap.objs.size) { s with heap := s.heap.push (rsObj x t ((x.length : Int) - 1)), toks := s.toks + 1 + 1 }) : wpAny (model prog w) A (call (.type "reversed") [.str x t]) Q E s := by
  refine callType_codes (Q₁ := fun obj s₁ => s₁.TypeIs obj "reversed" ∧ Q obj s₁) RT.called_rt (F.typeCall_reversed_1 _) F.entry_object_init
    (rs_code (A := A.in1) hx ⟨⟨_, Heap.get?_push_size _ rfl, rfl⟩, h⟩) fun obj s₁ g => ?_
  exact ⟨g.1, F.args_object_init_2 obj _, object_init_meets RT.called_rt.init.lookup RT.called_rt.made (by decide) prog w A.in1 _ s₁ ⟨g.1, rfl, g.2⟩⟩
theorem rs_next {it : Addr} {i c : Nat} {x : Str} {t : Tok} {Q : Option Value → Shared → Prop} (hit : IsRs s.heap it x t (i : Int)) (hx : x.cps[i]? = some c) (hsz : x.length ≤ sizeLine)
    (hQ : ∀ h' u k, IsRs h' it x t ((i : Int) - 1) → Heap.SameBut it s.heap h' → Q (some (.str ⟨#[c]⟩ u)) { s with heap := h', toks := k }) : wpAny (model prog w) A (pyNext (.ref it)) Q E s := by
  obtain ⟨o, ho, hc, hd⟩ := id hit
  have hi : i < x.cps.size := (Array.getElem?_eq_some_iff.mp hx).1
  have kx := typeIs_str s x t
  have hn := line63
  have hl : x.length = x.cps.size := rfl
  unfold pyNext
  refine wpAny_bind (wpAny_attempt (wpAny_callSpecial?_slot (name := Str.ofString "__next__") hit.kind RT.slot_rt_next (wpAny_call_entry RT.slot_rt_next hit.kind RT.entry_rt_next ?_ (RT.args_rt_next _))))
  unfold Builtin.«reversed.__next__»
  refine wpAny_bind (wpAny_of_eq (a := (Value.ref it, [])) rfl ?_) <;> try dsimp only
  refine wpAny_bind (wpAny_field ho hd (x := .str x t) rfl ?_) <;> try dsimp only
  refine wpAny_bind (wpAny_field ho hd (x := rawInt (i : Int)) rfl ?_)
  show wpAny _ _ (if (i : Int) < 0 then _ else _) _ _ s
  rw [if_neg (by omega)] <;> try dsimp only
  refine wpAny_bind (wpAny_specialOf kx str_getit ?_)
  try dsimp only
  try rw [if_neg (by decide)]
  try dsimp only
  refine wpAny_bind (wpAny_mkInt ?_) <;> refine wpAny_bind (wpAny_attempt ?_)
  have fin : seqIndex? (i : Int) x.length = some i := seqIndex_of (by omega) (by omega)
  refine PySem.P.getItem_str (s := { s with toks := s.toks + 1 }) (c := c) (by
    have e1 : decide ((i : Int) < -(2 ^ 63 : Int)) = false := decide_eq_false (by omega)
    have e2 : decide ((i : Int) ≥ 2 ^ 63) = false := decide_eq_false (by omega)
    rw [e1, e2] <;> rfl) (by rw [fin]; exact hx) ?_
  try dsimp only
  refine wpAny_bind (wpAny_field (s := { s with toks := s.toks + 1 + 1 }) ho hd (x := rawInt (i : Int)) rfl ?_)
  try dsimp only
  refine wpAny_bind (wpAny_setField (s := { s with toks := s.toks + 1 + 1 }) ho hd (by simp) ?_)
  first
  | refine wpAny_pure ⟨_, rfl, wpAny_pure (hQ _ _ _ ?_ (Heap.SameBut.update ..))⟩
  | refine wpAny_bind (wpAny_pure (wpAny_pure ⟨_, rfl, wpAny_pure (hQ _ _ _ ?_ (Heap.SameBut.update ..))⟩))
  exact ⟨_, Heap.get?_update_self _ ho (Obj.isFreed_of_fields (Obj.data_mapFields hd _)), (Obj.cls_mapFields ..).trans hc, by rw [Obj.data_mapFields hd]; simp⟩
theorem rs_end {it : Addr} {x : Str} {t : Tok} {Q : Option Value → Shared → Prop} (hh : A.handled = none) (hit : IsRs s.heap it x t (-1))
    (hQ : ∀ h', Heap.ExtBut it s.heap h' → Q none { s with heap := h' }) : wpAny (model prog w) A (pyNext (.ref it)) Q E s := by
  obtain ⟨o, ho, hc, hd⟩ := id hit
  unfold pyNext
  refine wpAny_bind (wpAny_attempt (wpAny_callSpecial?_slot (name := Str.ofString "__next__") hit.kind RT.slot_rt_next (wpAny_call_entry RT.slot_rt_next hit.kind RT.entry_rt_next ?_ (RT.args_rt_next _))))
  unfold Builtin.«reversed.__next__»
  refine wpAny_bind (wpAny_of_eq (a := (Value.ref it, [])) rfl ?_) <;> try dsimp only
  refine wpAny_bind (wpAny_field ho hd (x := .str x t) rfl ?_) <;> try dsimp only
  refine wpAny_bind (wpAny_field ho hd (x := rawInt (-1)) rfl ?_)
  show wpAny _ _ (if (-1 : Int) < 0 then _ else _) _ _ s
  rw [if_pos (by decide)] <;> try dsimp only
  refine wpAny_bind (wpAny_rule ?_) <;> refine wpAny_bind ?_ <;> wp_delta
  refine wpAny_bind (wpAny_setField ho hd (by simp) ?_)
  have ho2 := Heap.get?_update_self (Obj.mapFields (·.setIfInBounds 1 (rawInt (-1)))) ho (Obj.isFreed_of_fields (Obj.data_mapFields hd _))
  refine wpAny_setField (s := { s with heap := s.heap.update it (Obj.mapFields (·.setIfInBounds 1 (rawInt (-1)))) }) ho2 (Obj.data_mapFields hd _) (by simp) ?_
  try dsimp only
  first
  | show wpAny _ _ (newExc (.type "StopIteration") [] >>= _) _ _ _
  | (refine wpAny_bind ?_; show wpAny _ _ (newExc (.type "StopIteration") [] >>= _) _ _ _)
  | (refine wpAny_bind ?_; wp_delta; show wpAny _ _ (newExc (.type "StopIteration") [] >>= _) _ _ _)
  refine wpAny_bind ?_
  simp only [newExc, newTuple]
  refine wpAny_bind (wpAny_newObj_type ?_ (by size_fits))
  refine wpAny_bind (m := firstArgMember _ _) (wpAny_of_eq (a := Value.none) (by first | rfl | (simp only [firstArgMember]; rfl)) ?_)
  refine wpAny_newObj_type ?_ (by size_fits)
  simp only [raiseNew]
  refine wpAny_bind (wpAny_handled ?_)
  first | rw [show A.in1.handled = none from hh] | rw [hh]
  refine wpAny_bind (wpAny_pure (wpAny_throw ?_))
  refine wpAny_bind (wpAny_isInstance (T := "StopIteration") (b := true) ⟨_, Heap.get?_push_size _ rfl, rfl⟩ isSubtype_stop ?_)
  refine wpAny_pure (hQ _ ?_)
  refine ((?_ : Heap.ExtBut it s.heap _).push _).push _
  exact fun b ob hb e => (Heap.get?_update_other _ _ (Ne.symm hb)).trans ((Heap.get?_update_other _ _ (Ne.symm hb)).trans e)
theorem rs_iter {it : Addr} {x : Str} {t : Tok} {i : Int} {Q : Value → Shared → Prop} (hit : IsRs s.heap it x t i) (h : Q (.ref it) s) : wpAny (model prog w) A (pyIter (.ref it)) Q E s := by
  refine wpAny_pyIter_slot hit.kind RT.slot_rt_iter (wpAny_call_entry RT.slot_rt_iter hit.kind RT.entry_rt_iter ?_ (RT.args_rt_iter _))
  show wpAny _ _ (ret (.ref it)) _ _ s
  exact wpAny_pure ⟨_, rfl, "reversed", _, hit.kind, RT.slot_rt_next.lookup, h⟩
end
/-- the signs of a text from the last -/
def RsIt (x : Str) : It := ⟨fun i _ => i < x.cps.size, fun i H v H' => H' = H ∧ ∃ c, x.cps[x.cps.size - 1 - i]? = some c ∧ v = .str ⟨#[c]⟩, fun i _ => x.cps.size ≤ i⟩
theorem rs_turn {P : Program} {w : World} {K : PySem.W.Frag} {tg : Expr} (it : Addr) (x : Str) (t : Tok) (hx : x.length ≤ sizeLine) :
    Turn P w K tg (RsIt x) [it] it (fun i h => i ≤ x.cps.size ∧ IsRs h it x t ((x.cps.size : Int) - 1 - (i : Nat))) where
  mem := by simp
  obj := fun i h st b hb => by
    obtain rfl : b = it := by simpa using hb
    obtain ⟨_, o, e, c, d⟩ := st
    exact ⟨o, e, fun v z => by rw [d] at z; cases z⟩
  keep := fun i h h' st k => by
    obtain ⟨hi, o, e, r⟩ := st
    exact ⟨hi, o, k it (by simp) o e, r⟩
  item := by
    intro X hP hw hK hc i pins s σ H E I hf st hg
    subst hP hw hK
    have hlt : i < x.cps.size := hg
    obtain ⟨f0, f1, f2, f3, f4, f5⟩ := hf it (by simp)
    obtain ⟨_, hit⟩ := st
    have e1 : (x.cps.size : Int) - 1 - ((i : Nat) : Int) = ((x.cps.size - 1 - i : Nat) : Int) := by omega
    rw [e1] at hit
    have hj : x.cps.size - 1 - i < x.cps.size := by omega
    have hcx : x.cps[x.cps.size - 1 - i]? = some x.cps[x.cps.size - 1 - i] := Array.getElem?_eq_getElem hj
    refine rs_next hit hcx hx fun h' u k st' sb => ?_
    have e2 : ((x.cps.size - 1 - i : Nat) : Int) - 1 = (x.cps.size : Int) - 1 - ((i + 1 : Nat) : Int) := by omega
    rw [e2] at st'
    have J : Inv X pins σ H { s with heap := h', toks := k } := I.turned (t' := k) (fun b o hb e => (sb.2 b hb).trans e) f0 f1 f3 f4 f5
    obtain ⟨o, e, c, d⟩ := id st'
    exact ⟨_, rfl, go_of (s := { s with heap := h', toks := k }) e c d (by decide) ⟨.str ⟨#[_]⟩, H, J, ⟨u, rfl⟩, ⟨rfl, _, hcx, rfl⟩, ⟨hlt, st'⟩, fun b hb => (hf b hb).1⟩⟩
  done := by
    intro X hP hw hK hc i pins s σ H E I hf st hg
    subst hP hw hK
    obtain ⟨f0, f1, f2, f3, f4, f5⟩ := hf it (by simp)
    obtain ⟨hin, hit⟩ := st
    have hge : x.cps.size ≤ i := hg
    have e1 : (x.cps.size : Int) - 1 - ((i : Nat) : Int) = -1 := by omega
    rw [e1] at hit
    exact rs_end (I.ok.hd hc) hit fun h' eb => ⟨rfl, I.turned (t' := s.toks) (fun b o hb e => eb b o hb e) f0 f1 f3 f4 f5⟩
  self := fun A i s Q E st h => rs_iter st.2 h
def iRs (te : TE) : TI := fun σ H R => te σ H fun v H1 => ∃ x, v = .str x ∧ x.length ≤ sizeLine ∧ R (RsIt x) H1
/-- for c in reversed(x) of a text -/
theorem pi_rs {X : Cx} {tg e : Expr} {te : TE} {p pos : Pos} (hg : Gl X "reversed") (hm : X.mg "reversed" = none) (he : PE X e te) (hs : starEach [e] X.env = (false, eval e X.env) :: starEach [] X.env := by rfl) : PI X tg (.Call (.Name "reversed" p) [e] [] pos) (iRs te) := by
  refine ⟨fun pins s σ H R I h => ?_⟩
  refine Call_ (ld_blt I hg hm boot_reversed (callWith_type1 (args_cons (thn (he.run pins s σ H _ I h) fun u s1 ⟨v, H1, I1, r1, x, ev, hx, q⟩ => args_nil ?_) hs) hs rfl))
  subst ev
  obtain ⟨t, rfl⟩ := r1
  refine rs_call hx (rs_iter (x := x) (t := t) (i := (x.length : Int) - 1) ⟨_, Heap.get?_push_size _ rfl, rfl, rfl⟩ ?_)
  refine pi_one (tk := s1.toks + 1 + 1) I1 _ (rs_turn _ x t hx) ⟨Nat.zero_le _, ?_⟩ q
  have e1 : (x.length : Int) - 1 = (x.cps.size : Int) - 1 - ((0 : Nat) : Int) := by show (x.cps.size : Int) - 1 = _; omega
  rw [← e1]
  exact ⟨_, Heap.get?_push_size _ rfl, rfl, rfl⟩
theorem for_rs {x : Str} {g : TG} {tb : TS} {D : Ends} {σ : L2.St} {H : Hp} (Pv : Nat → L2.St → Hp → Prop) (h0 : Pv 0 σ H)
    (hs : ∀ (i c : Nat) (σ : L2.St) (H : Hp), i < x.cps.size → x.cps[x.cps.size - 1 - i]? = some c → Pv i σ H → g (.str ⟨#[c]⟩) σ H fun σ2 H2 => tb { D with nx := Pv (i + 1), ct := Pv (i + 1), bk := D.nx } σ2 H2) (hd : ∀ σ H, Pv x.cps.size σ H → D.nx σ H) :
    ∃ W : Nat → Nat → L2.St → Hp → Prop, (∃ m, W 0 m σ H) ∧ ∀ i m σ H, W i m σ H →
      ((RsIt x).stop i H ∧ D.nx σ H) ∨ ((RsIt x).go i H ∧ ∃ N : L2.St → Hp → Prop, (∀ σ' H', N σ' H' → ∃ m', m' < m ∧ W (i + 1) m' σ' H') ∧ ∀ v H', (RsIt x).yld i H v H' → g v σ H' fun σ2 H2 => tb { D with nx := N, ct := N, bk := D.nx } σ2 H2) := by
  refine ⟨fun i m σ H => m = x.cps.size - i ∧ i ≤ x.cps.size ∧ Pv i σ H, ⟨_, rfl, Nat.zero_le _, h0⟩, ?_⟩
  rintro i m σ H ⟨rfl, hi, p⟩
  by_cases hlt : i < x.cps.size
  · refine .inr ⟨hlt, Pv (i + 1), fun σ' H' p' => ⟨_, by omega, rfl, hlt, p'⟩, fun v H' r => ?_⟩
    obtain ⟨rfl, c, hc, rfl⟩ := r
    exact hs i c σ _ hlt hc p
  · obtain rfl : i = x.cps.size := by omega
    exact .inl ⟨Nat.le_refl _, hd σ H p⟩
end Hid

namespace Hid
open PySem PySem.Spec PyProof.Rows L2
/-! sorted of data -/
section
variable {X : Cx} {β : Type}
def rSortD (K : PySem.W.Frag) (enc : β → PyData) : List V → Hp → VK → Prop := fun vs H Q => ∃ (a : Addr) (xs : List V) (bs : List β) (R : V → β → Prop), vs = [.ref a] ∧ SqL K H a xs ∧ Paired R xs bs ∧ (∀ v b, R v b → Dp K H v (enc b)) ∧
  PySem.W.AllAlike (bs.map enc) ∧ PySem.W.Sortable (bs.map enc) ∧ (∀ b ∈ bs, (enc b).depth ≤ 8) ∧ ∀ ys p, Paired R ys (bs.mergeSort (PySem.W.dataLe false enc)) → H p = none → Q (.ref p) (upd H p (.lst ys))
theorem each_of_paired {R : V → β → Prop} : ∀ {xs : List V} {its : List Value} {bs : List β}, Vals xs its → Paired R xs bs → PySem.W.EachIs (fun v b => ∃ x, RelV x v ∧ R x b) its bs
  | _, _, _, .nil, .nil => .nil
  | _, _, _, .cons r rs, .cons d ds => .cons ⟨_, r, d⟩ (each_of_paired rs ds)
theorem paired_of_each {R : V → β → Prop} : ∀ {out : List Value} {bs : List β}, PySem.W.EachIs (fun v b => ∃ x, RelV x v ∧ R x b) out bs → ∃ ys, Vals ys out ∧ Paired R ys bs
  | _, _, .nil => ⟨[], .nil, .nil⟩
  | _, _, .cons ⟨x, r, d⟩ t => let ⟨ys, h1, h2⟩ := paired_of_each t; ⟨x :: ys, .cons r h1, .cons d h2⟩
theorem paired_len {α γ : Type} {F : α → γ → Prop} : ∀ {l : List α} {m : List γ}, Paired F l m → l.length = m.length
  | _, _, .nil => rfl
  | _, _, .cons _ t => congrArg (· + 1) (paired_len t)
theorem each_mono {α γ : Type} {R R' : α → γ → Prop} (h : ∀ a b, R a b → R' a b) : ∀ {l : List α} {m : List γ}, PySem.W.EachIs R l m → PySem.W.EachIs R' l m
  | _, _, .nil => .nil
  | _, _, .cons a t => .cons (h _ _ a) (each_mono h t)
theorem cr_sortD {enc : β → PyData} (hu : X.A.units + 64 < cLine) : CallR X (.builtin "sorted") (rSortD X.K enc) := by
  intro pins s σ H vs us Q I r h
  obtain ⟨a, xs, bs, R, rfl, hs, hp, hR, hal, hk, hd, q⟩ := h
  obtain ⟨its, rv, hl, hz⟩ := I.list hs
  rw [Vals.ref1 r]
  have e := each_of_paired rv hp
  have hlen : bs.length = xs.length := (paired_len hp).symm
  refine PySem.W.sorted_data (vs := its) hl.isList e (each_mono (fun v b ⟨x, r, d⟩ => Dp.reads I _ _ _ (hR _ _ d) r) e) hal hk (by rw [hlen]; exact hz) (fun b hb => ?_) fun out ho eo => ?_
  · have := hd b hb
    omega
  · obtain ⟨ys, h1, h2⟩ := paired_of_each eo
    obtain ⟨c, hc⟩ := sortedAll_at s.heap its (List.toArray out)
    have hle : s.heap.objs.size ≤ s.heap.objs.size + 1 := Nat.le_succ _
    refine ⟨.ref (s.heap.objs.size + 1), upd H (s.heap.objs.size + 1) (.lst ys), I.laid (t' := s.toks) (fun _ _ => sortedAll_old) hle ⟨?_, out, c, h1, hc⟩, rfl, q ys _ h2 (I.hok.fresh hle)⟩
    rw [h1.length, ho, hlen]
    exact hz
end
/-- pairs of texts as data -/
def encSS (p : Str × Str) : PyData := .tuple [.str p.1, .str p.2]
theorem cr_sortSS {X : Cx} (hu : X.A.units + 64 < cLine) : CallR X (.builtin "sorted") (rSortD X.K encSS) := cr_sortD hu
theorem le_ss (p q : Str × Str) (h : p.1.cps.toList < q.1.cps.toList) : PySem.W.dataLe false encSS p q = true := by
  show (!PySem.W.dataLt (.tuple [.str q.1, .str q.2]) (.tuple [.str p.1, .str p.2])) = true
  have ne : PyData.eqv (.str q.1) (.str p.1) = false := by
    show (q.1 == p.1) = false
    rw [beq_eq_false_iff_ne]
    intro e
    rw [e] at h
    exact List.lt_irrefl _ h
  rw [PySem.W.dataLt_pair (by simp [PySem.W.alike]) (by simp [PySem.W.alike]), ne, if_neg Bool.false_ne_true, PySem.W.dataLt_str]
  have : ¬ q.1.cps.toList < p.1.cps.toList := fun z => List.lt_irrefl _ (List.lt_trans h z)
  simp [this]
/-! text * number, >>= -/
section
variable {X : Cx}
theorem op_mul_str : OpR X (binaryOp .Mult) (fun x y H Q => ∃ z i, x = .str z ∧ y = .int i ∧ 0 ≤ i ∧ i ≤ 1000 ∧ z.length ≤ 1000 ∧ Q (.str (Txt.mul z i)) H) := by
  intro pins s σ H x y v u Q I rx ry h
  obtain ⟨z, i, rfl, rfl, h0, h1, h2, q⟩ := h
  obtain ⟨t, rfl⟩ := rx
  obtain ⟨t', rfl⟩ := ry
  refine PySem.SB.mul ⟨?_, fun n1 _ => ?_, fun n1 _ => ?_⟩ fun t' k => ⟨.str _, H, I.tok k, ⟨t', rfl⟩, q⟩
  · have e1 : decide (i < -(2 ^ 63 : Int)) = false := decide_eq_false (by omega)
    have e2 : decide (i ≥ 2 ^ 63) = false := decide_eq_false (by omega)
    rw [e1, e2] <;> rfl
  · have : (1000 : Int) ≤ (2 ^ 63 - 1) / i := (Int.le_ediv_iff_mul_le (by omega)).mpr (by omega)
    omega
  · unfold Builtin.Str.tooLong
    have h3 : z.length * i.toNat ≤ 1000 * 1000 := Nat.mul_le_mul h2 (by omega)
    have h4 : (1000 * 1000 : Nat) ≤ sizeLine := by decide
    exact decide_eq_false (by omega)
theorem ip_shr : PIp X .RShift (rI (fun _ j => 0 ≤ j) fun i j => .int (i / 2 ^ j.toNat)) := iop_shr
end
/-! sep.join(reversed(list)) -/
theorem gives_join {x : Str} (lz : List (Str × Tok)) (g0 : Builtin.Str.tooLong ((lz.map (·.1)).toArray.foldl (· + ·.length + x.length) 0) = false) : Gives (PySem.joinTail x (strValues lz)) (joinMade x lz) := by
  have g1 := gives_joinTail x lz g0
  match lz, g0, g1 with
  | [], _, g1 => exact g1
  | [_], _, g1 => exact g1
  | _ :: _ :: _, _, g1 => exact g1
section
variable {prog : Program} {w : World} {A : Around} {E : Value → Shared → Prop} {s : Shared}
theorem join_rev {it l : Addr} {items : Array Value} {ys : List Str} {x : Str} {t : Tok} {Q : Value → Shared → Prop} (hh : A.handled = none) (hit : s.heap.IsRevIter it l ((items.size : Int) - 1)) (hl : s.heap.IsList l items) (hne : l ≠ it) (hn : items.size ≤ sizeLine)
    (hy : StrsAre items.toList ys) (hok : (ys.map (·.length)).sum + ys.length * x.length ≤ 16777216)
    (hq : ∀ (h' : Heap) t' k, (∀ b o, b ≠ it → s.heap.get? b = some o → h'.get? b = some o) → Q (.str (Txt.join x ys.reverse) t') { s with heap := h', toks := k }) :
    wpAny (model prog w) A (call (.builtin "str.join") [.str x t, .ref it]) Q E s := by
  refine wpAny_call (codeAny_call_builtin F.slot_str_join.plain F.entry_str_join (F.slot_str_join.check _ _ _ _ _ _ _ _ (typeIs_str _ _ _) (F.args_str_join_2 _ _) ?_))
  rw [PySem.join_tree_other]
  refine wpAny_bind (wpAny_typeOf hit.typeIs ?_)
  show wpAny _ A.in1 ((pyIter (.ref it)).tryCatch _ >>= fun i => collect i >>= fun items => PySem.joinTail x items) _ _ s
  refine wpAny_bind (wpAny_tryCatch (wpAny_pyIter_revIter hit ?_))
  refine wpAny_bind (RT.collect_rev (A := A.in1) hh hit hl hne hn fun h' tk acc hk hacc => ?_)
  have hr : acc.toList = items.toList.reverse := by
    apply List.ext_getElem?
    intro j
    by_cases hj : j < items.size
    · have h1 : j < acc.size := by rw [hacc.1]; exact hj
      have e1 : acc.toList[j]? = some acc[j] := by rw [Array.getElem?_toList, Array.getElem?_eq_getElem h1]
      have e2 := hacc.2 j acc[j] (Array.getElem?_eq_getElem h1)
      rw [e1, List.getElem?_reverse (by simpa using hj)] <;> simpa using e2.symm
    · rw [List.getElem?_eq_none (by rw [Array.length_toList, hacc.1]; omega), List.getElem?_eq_none (by rw [List.length_reverse, Array.length_toList]; omega)]
  obtain ⟨vals, hv, ht⟩ := strsAre_values hy
  have hl2 : acc.toList = strValues vals.reverse := by
    rw [hr, hv]
    show (List.map _ vals).reverse = List.map _ vals.reverse
    rw [List.map_reverse]
  rw [hl2]
  have hok2 : (((vals.reverse).map (·.1)).map (·.length)).sum + ((vals.reverse).map (·.1)).length * x.length ≤ 16777216 := by
    rw [List.map_reverse, ht, List.map_reverse, List.sum_reverse, List.length_reverse]
    exact hok
  have g0 := joinOk_of hok2
  unfold JoinOk at g0
  rw [Bool.not_eq_true'] at g0
  refine Hid.gives_join vals.reverse g0 prog w A (wants Q E) { s with heap := h', toks := tk } (post_join vals.reverse ⟨joinFit_length g0, fun t' k => ?_⟩)
  rw [List.map_reverse, ht]
  exact hq h' t' k hk
end
/-- x.join(reversed(xs)), xs a list of texts -/
def tJoinRev (K : PySem.W.Frag) (to te : TE) : TE := fun σ H Q => to σ H fun v H1 => ∃ x, v = .str x ∧ te σ H1 fun y H2 => ∃ (a : Addr) (ys : List Str), y = .ref a ∧ SqL K H2 a (ys.map V.str) ∧ (ys.map (·.length)).sum + ys.length * x.length ≤ 16777216 ∧ Q (.str (Txt.join x ys.reverse)) H2
theorem pe_joinRev {X : Cx} {o e : Expr} {to te : TE} {apos pos p2 pos2 : Pos} (hc : X.calm = true) (hg2 : Gl X "reversed") (hm2 : X.mg "reversed" = none) (ho : PE X o to) (he : PE X e te)
    (hs : starEach [e] X.env = (false, eval e X.env) :: starEach [] X.env := by rfl)
    (hs2 : starEach [.Call (.Name "reversed" p2) [e] [] pos2] X.env = [(false, eval (.Call (.Name "reversed" p2) [e] [] pos2) X.env)] := by rfl)
    (hbase : attributeBase o "join" X.env (eval o X.env) = eval o X.env := by rfl) (hline : (apos.endLine == pos.line) = true := by rfl) :
    PE X (.Call (.Attribute o "join" apos) [.Call (.Name "reversed" p2) [e] [] pos2] [] pos) (tJoinRev X.K to te) := by
  refine ⟨fun pins s σ H Q I h => ?_⟩
  refine PySem.Call_method1 hbase hs2 hline (thn (ho.run pins s σ H _ I h) fun v s1 ⟨x0, H1, I1, r1, x, q1, h1⟩ => ?_)
  subst q1
  obtain ⟨t, rfl⟩ := _root_.id r1
  refine ⟨"str", _, F.plainAttrs_str, F.slot_str_join, F.type_str_join, typeIs_str _ _ _, (fun _ e => nomatch e), Calls.callWith_builtin rfl (Calls.evalArgs_plain (Calls.spliced_cons ?_))⟩
  refine Call_ (ld_blt I1 hg2 hm2 boot_reversed (callWith_type1 (args_cons (thn (he.run pins s1 σ H1 _ I1 h1) fun u s2 ⟨y, H2, I2, r2, q2⟩ => args_nil ?_) hs) hs rfl))
  obtain ⟨a, ys, rfl, hq, hz, q⟩ := q2
  obtain rfl : u = Value.ref a := r2
  obtain ⟨its, rv, p', hn⟩ := I2.list hq
  refine call_reversed_list p'.isList (Calls.spliced_nil ?_)
  have k0 : ∀ b ob, s2.heap.get? b = some ob → (s2.heap.push (revObj a ((its.toArray.size : Int) - 1))).get? b = some ob := fun b ob e => Heap.get?_push_of_some _ e
  have I3 : Inv X pins σ H2 { s2 with heap := s2.heap.push (revObj a ((its.toArray.size : Int) - 1)) } := I2.kept (t' := s2.toks) k0
  obtain ⟨f0, f1, f2, f3, f4, f5⟩ := I2.fpOk (H' := H2) (b := s2.heap.objs.size) (Nat.le_refl _) (I2.hok.fresh (Nat.le_refl _))
  have hl := p'.isList
  obtain ⟨ol, hol, _⟩ := _root_.id hl
  have hne : a ≠ s2.heap.objs.size := Nat.ne_of_lt (Heap.lt_size hol)
  refine join_rev (s := { s2 with heap := s2.heap.push (revObj a ((its.toArray.size : Int) - 1)) }) (ys := ys) (I2.ok.hd hc) ⟨_, Heap.get?_push_size _ rfl, rfl, rfl⟩ (hl.push _) hne (by rw [List.size_toArray, ← rv.length]; exact hn) (by rw [List.toList_toArray]; exact strs_of_vals rv) hz fun h' t' k hk => ?_
  exact ⟨.str _, H2, I3.turned (t' := k) (fun b ob hb e => hk b ob hb e) f0 f1 f3 f4 f5, ⟨t', rfl⟩, q⟩
end Hid

namespace Hid
open PySem
/-! texts as lists of signs: n 110, b 98, y 121 -/
abbrev tx (l : List Nat) : Str := ⟨l.toArray⟩
theorem tx_cps (z : Str) : tx z.cps.toList = z := by cases z; simp [tx]
theorem tx_inj {a c : List Nat} (h : tx a = tx c) : a = c := by
  have := congrArg (fun z : Str => z.cps.toList) h
  simpa [tx] using this
def RowL (l : List Nat) : Prop := (1 ≤ l.length ∧ l.length ≤ 8) ∧ ∀ c ∈ l, c = 110 ∨ c = 98 ∨ c = 121
/-! the count of a sign -/
theorem occ_count (x : Str) (c : Nat) : ∀ (n a : Nat) (st : Array Nat × Nat), a + n = x.length + 1 → st.2 ≤ a → st.1.size ≤ a →
    (forIn (List.range' a n) st (StrLaws.occBody x ⟨#[c]⟩ x.length (x.length + 1))).run.fst.size = st.1.size + (x.cps.toList.drop a).count c := by
  intro n
  induction n with
  | zero =>
    intro a st h1 _ _
    have : x.cps.toList.drop a = [] := List.drop_eq_nil_of_le (by simp only [Array.length_toList]; show x.length ≤ a; omega)
    rw [this]
    rfl
  | succ n ih =>
    intro a st h1 h2 h3
    rw [List.range'_succ, List.forIn_cons]
    have hs := StrLaws.subAt_one x c a
    by_cases hc : x.cps.toList[a]? = some c
    · obtain ⟨q1, q2⟩ := hs.mpr hc
      have hlt : a < x.cps.toList.length := (List.getElem?_eq_some_iff.mp hc).1
      have e : x.cps.toList.drop a = c :: x.cps.toList.drop (a + 1) := by
        rw [List.drop_eq_getElem_cons hlt, (List.getElem?_eq_some_iff.mp hc).2]
      unfold StrLaws.occBody
      rw [if_pos ⟨⟨⟨by omega, h2⟩, q1⟩, q2⟩]
      have := ih (a + 1) (st.1.push a, a + (⟨#[c]⟩ : Str).length) (by omega) (Nat.le_refl _) (by rw [Array.size_push]; omega)
      refine Eq.trans this ?_
      rw [e, List.count_cons_self]
      show (st.1.push a).size + _ = _
      rw [Array.size_push]
      omega
    · have hn : ¬ (a + (⟨#[c]⟩ : Str).length ≤ x.length ∧ Builtin.Str.subAt x ⟨#[c]⟩ a = true) := fun h => hc (hs.mp h)
      unfold StrLaws.occBody
      rw [if_neg fun h => hn ⟨h.1.2, h.2⟩]
      have := ih (a + 1) (st.1, st.2) (by omega) (by show st.2 ≤ a + 1; omega) (by show st.1.size ≤ a + 1; omega)
      refine Eq.trans this ?_
      by_cases hlt : a < x.cps.toList.length
      · have e : x.cps.toList.drop a = x.cps.toList[a] :: x.cps.toList.drop (a + 1) := List.drop_eq_getElem_cons hlt
        rw [e, List.count_cons_of_ne]
        intro z
        exact hc (by rw [List.getElem?_eq_getElem hlt, z])
      · rw [List.drop_eq_nil_of_le (by omega), List.drop_eq_nil_of_le (by omega)]
theorem count_one (x : Str) (c : Nat) : Txt.count x ⟨#[c]⟩ = (x.cps.toList.count c : Int) := by
  unfold Txt.count
  rw [StrLaws.occ_eq, Array.length_toList, occ_count x c _ 0 (#[], 0) (by omega) (Nat.le_refl _) (Nat.zero_le _)]
  simp
/-! lists of signs joined -/
def sg1 (c : Nat) : Str := ⟨#[c]⟩
theorem join_one (l : List Nat) : Txt.join (tx []) (l.map sg1) = tx l := by
  show Builtin.Str.glued _ _ = _
  rw [StrLaws.glued_eq_join]
  induction l with
  | nil => rfl
  | cons c r ih =>
    cases r with
    | nil => rfl
    | cons d r =>
      show Str.join (tx []) (sg1 c :: sg1 d :: r.map sg1) = _
      have e : Str.join (tx []) (sg1 c :: sg1 d :: r.map sg1) = sg1 c ++ tx [] ++ Str.join (tx []) ((d :: r).map sg1) := rfl
      rw [e, ih]
      show (⟨(#[c] ++ #[]) ++ (d :: r).toArray⟩ : Str) = ⟨(c :: d :: r).toArray⟩
      simp
theorem sg1_len (l : List Nat) : ((l.map sg1).map (·.length)).sum = l.length := by
  induction l with
  | nil => rfl
  | cons c r ih =>
    show (sg1 c).length + ((r.map sg1).map (·.length)).sum = r.length + 1
    rw [ih]
    show 1 + r.length = _
    omega
/-! the mirror -/
def tw (m s : Nat) : Nat := if m = 98 then (if s = 110 then 121 else 110) else s
def turned (row half : List Nat) : List Nat := List.zipWith tw row half
def rb (s t : Nat) : Nat := if s = t then s else 98
def rowBy (a o : List Nat) : List Nat := List.zipWith rb a o
def sgn (k : Nat) : Nat := if k % 2 = 0 then 110 else 121
def lesR : List Nat → Nat → List Nat
  | [], _ => []
  | c :: r, k => if c = 98 then sgn k :: lesR r (k / 2) else c :: lesR r k
def lesser (row : List Nat) (k : Nat) : List Nat := (lesR row.reverse k).reverse
def many (row : List Nat) : Nat := 2 ^ (row.count 98 - 1)
def part (row : List Nat) (k : Nat) : List Nat × List Nat := (lesser row k, turned row (lesser row k))
def grow (c : Nat) (p : List Nat × List Nat) : List (List Nat × List Nat) :=
  if c ≠ 98 then [(p.1 ++ [c], p.2 ++ [c])] else (p.1 ++ [110], p.2 ++ [121]) :: (if p.1 ≠ p.2 then [(p.1 ++ [121], p.2 ++ [110])] else [])
def allP (row : List Nat) : List (List Nat × List Nat) := row.foldl (fun ps c => ps.flatMap (grow c)) [([], [])]
theorem allP_snoc (r : List Nat) (c : Nat) : allP (r ++ [c]) = (allP r).flatMap (grow c) := by
  unfold allP
  rw [List.foldl_append]
  rfl
theorem lesR_len : ∀ (r : List Nat) (k : Nat), (lesR r k).length = r.length
  | [], _ => rfl
  | c :: r, k => by
    unfold lesR
    split <;> simp [lesR_len]
theorem lesser_len (row : List Nat) (k : Nat) : (lesser row k).length = row.length := by
  unfold lesser
  rw [List.length_reverse, lesR_len, List.length_reverse]
theorem turned_len (row half : List Nat) (h : half.length = row.length) : (turned row half).length = row.length := by
  unfold turned
  rw [List.length_zipWith, h, Nat.min_self]
theorem lesser_b (r : List Nat) (k : Nat) : lesser (r ++ [98]) k = lesser r (k / 2) ++ [sgn k] := by
  unfold lesser
  rw [List.reverse_append]
  show (lesR (98 :: r.reverse) k).reverse = _
  rw [show lesR (98 :: r.reverse) k = sgn k :: lesR r.reverse (k / 2) by conv => lhs; unfold lesR; rw [if_pos rfl]]
  rw [List.reverse_cons]
theorem lesser_o (r : List Nat) (c k : Nat) (h : c ≠ 98) : lesser (r ++ [c]) k = lesser r k ++ [c] := by
  unfold lesser
  rw [List.reverse_append]
  show (lesR (c :: r.reverse) k).reverse = _
  rw [show lesR (c :: r.reverse) k = c :: lesR r.reverse k by conv => lhs; unfold lesR; rw [if_neg h]]
  rw [List.reverse_cons]
theorem turned_snoc (r h : List Nat) (c x : Nat) (e : h.length = r.length) : turned (r ++ [c]) (h ++ [x]) = turned r h ++ [tw c x] := by
  unfold turned
  rw [List.zipWith_append e.symm]
  rfl
theorem rowBy_snoc (a o : List Nat) (x y : Nat) (e : a.length = o.length) : rowBy (a ++ [x]) (o ++ [y]) = rowBy a o ++ [rb x y] := by
  unfold rowBy
  rw [List.zipWith_append e]
  rfl
theorem part_b (r : List Nat) (k : Nat) : part (r ++ [98]) k = ((part r (k / 2)).1 ++ [sgn k], (part r (k / 2)).2 ++ [tw 98 (sgn k)]) := by
  unfold part
  rw [lesser_b, turned_snoc _ _ _ _ (lesser_len _ _)]
theorem part_o (r : List Nat) (c k : Nat) (h : c ≠ 98) : part (r ++ [c]) k = ((part r k).1 ++ [c], (part r k).2 ++ [c]) := by
  unfold part
  rw [lesser_o _ _ _ h, turned_snoc _ _ _ _ (lesser_len _ _)]
  unfold tw
  rw [if_neg h]
/-- two b and more: turned is another -/
theorem turned_ne : ∀ (r h : List Nat), h.length = r.length → 98 ∈ r → h ≠ turned r h
  | [], _, _, m => nomatch m
  | c :: r, [], e, _ => nomatch e
  | c :: r, x :: h, e, m => by
    intro z
    have z' : x :: h = tw c x :: turned r h := z
    injection z' with z1 z2
    rcases List.mem_cons.mp m with q | q
    · subst q
      unfold tw at z1
      rw [if_pos rfl] at z1
      split at z1 <;> omega
    · exact turned_ne r h (by simpa using e) q z2
theorem part_no_b (r : List Nat) (k : Nat) (h : r.count 98 = 0) : part r k = (r, r) := by
  have hm : 98 ∉ r := List.count_eq_zero.mp h
  have e1 : ∀ (l : List Nat) (k : Nat), 98 ∉ l → lesR l k = l := by
    intro l
    induction l with
    | nil => intros; rfl
    | cons c l ih =>
      intro k m
      rw [List.mem_cons, not_or] at m
      unfold lesR
      rw [if_neg (fun z => m.1 z.symm), ih k m.2]
  have e2 : ∀ (l : List Nat), 98 ∉ l → turned l l = l := by
    intro l
    induction l with
    | nil => intros; rfl
    | cons c l ih =>
      intro m
      rw [List.mem_cons, not_or] at m
      show tw c c :: turned l l = _
      rw [ih m.2]
      unfold tw
      rw [if_neg (fun z => m.1 z.symm)]
  unfold part lesser
  rw [e1 _ _ (by simpa using hm), List.reverse_reverse, e2 _ hm]
theorem range_two (m : Nat) : List.range (2 * m) = (List.range m).flatMap fun k => [2 * k, 2 * k + 1] := by
  induction m with
  | zero => rfl
  | succ m ih =>
    rw [List.range_succ, List.flatMap_append, ← ih, show 2 * (m + 1) = 2 * m + 1 + 1 by omega, List.range_succ, List.range_succ]
    simp
theorem many_snoc (r : List Nat) (c : Nat) : many (r ++ [c]) = if c = 98 ∧ r.count 98 ≠ 0 then 2 * many r else many r := by
  unfold many
  rw [List.count_append]
  by_cases hc : c = 98
  · subst hc
    have : List.count 98 [98] = 1 := rfl
    rw [this]
    by_cases h0 : r.count 98 = 0
    · rw [if_neg (fun h => h.2 h0), h0]
    · rw [if_pos ⟨rfl, h0⟩, show r.count 98 + 1 - 1 = r.count 98 - 1 + 1 by omega, Nat.pow_succ]
      omega
  · have : List.count 98 [c] = 0 := List.count_eq_zero.mpr (by simpa using fun z => hc z.symm)
    rw [this, if_neg (fun h => hc h.1)]
    rfl
theorem sgn_two (k : Nat) : sgn (2 * k) = 110 ∧ sgn (2 * k + 1) = 121 := by
  unfold sgn
  constructor
  · rw [if_pos (by omega)]
  · rw [if_neg (by omega)]
theorem tw_b : tw 98 110 = 121 ∧ tw 98 121 = 110 := by decide
/-- the law's own list is the list by numbers -/
theorem allP_eq (row : List Nat) : allP row = (List.range (many row)).map (part row) := by
  induction h : row.length generalizing row with
  | zero =>
    have : row = [] := List.length_eq_zero_iff.mp h
    subst this
    rfl
  | succ n ih =>
    have hne : row ≠ [] := fun z => by rw [z] at h; cases h
    obtain ⟨r, c, rfl⟩ : ∃ r c, row = r ++ [c] := ⟨row.dropLast, row.getLast hne, (List.dropLast_concat_getLast hne).symm⟩
    have hr : r.length = n := by simpa using h
    rw [allP_snoc, ih r hr, many_snoc]
    by_cases hc : c = 98
    · subst hc
      by_cases h0 : r.count 98 = 0
      · rw [if_neg (fun h => h.2 h0)]
        have hm : many r = 1 := by unfold many; rw [h0]
        rw [hm]
        show grow 98 (part r 0) ++ [] = [part (r ++ [98]) 0]
        rw [part_b, part_no_b r 0 h0, List.append_nil]
        unfold grow
        rw [if_neg (by decide), if_neg (by simp)]
        rfl
      · rw [if_pos ⟨rfl, h0⟩, range_two, List.map_flatMap, List.flatMap_map]
        congr 1
        funext k
        show grow 98 (part r k) = [part (r ++ [98]) (2 * k), part (r ++ [98]) (2 * k + 1)]
        rw [part_b, part_b, show 2 * k / 2 = k by omega, show (2 * k + 1) / 2 = k by omega, (sgn_two k).1, (sgn_two k).2, tw_b.1, tw_b.2]
        have hd : (part r k).1 ≠ (part r k).2 := turned_ne r _ (lesser_len _ _) (List.count_pos_iff.mp (by omega))
        unfold grow
        rw [if_neg (by decide), if_pos hd]
    · rw [if_neg (fun h => hc h.1), List.flatMap_map, ← List.flatMap_singleton' ((List.range (many r)).map _), List.flatMap_map]
      congr 1
      funext k
      show grow c (part r k) = [part (r ++ [c]) k]
      rw [part_o _ _ _ hc]
      unfold grow
      rw [if_pos hc]
/-! order -/
theorem app_lt : ∀ (a o x y : List Nat), a.length = o.length → a < o → a ++ x < o ++ y
  | [], [], x, y, _, h => absurd h (List.lt_irrefl _)
  | [], _ :: _, _, _, e, _ => nomatch e
  | _ :: _, [], _, _, e, _ => nomatch e
  | p :: a, q :: o, x, y, e, h => by
    rcases List.cons_lt_cons_iff.mp h with h1 | ⟨h1, h2⟩
    · exact List.cons_lt_cons_iff.mpr (.inl h1)
    · exact List.cons_lt_cons_iff.mpr (.inr ⟨h1, app_lt a o x y (by simpa using e) h2⟩)
theorem app_same : ∀ (a : List Nat) (x y : Nat), x < y → a ++ [x] < a ++ [y]
  | [], x, y, h => List.cons_lt_cons_iff.mpr (.inl h)
  | p :: a, x, y, h => List.cons_lt_cons_iff.mpr (.inr ⟨rfl, app_same a x y h⟩)
/-- what the law asks of each -/
theorem part_good (row : List Nat) : (∀ k, (part row k).1.length = row.length ∧ (part row k).2.length = row.length ∧ rowBy (part row k).1 (part row k).2 = row) ∧
    (∀ k, k < many row → (part row k).1 = (part row k).2 ∨ (part row k).1 < (part row k).2) ∧ ∀ k l, k < l → l < many row → (part row k).1 < (part row l).1 := by
  induction h : row.length generalizing row with
  | zero =>
    have : row = [] := List.length_eq_zero_iff.mp h
    subst this
    refine ⟨fun k => ⟨rfl, rfl, rfl⟩, fun k _ => .inl rfl, fun k l h1 h2 => ?_⟩
    have : many [] = 1 := rfl
    omega
  | succ n ih =>
    have hne : row ≠ [] := fun z => by rw [z] at h; cases h
    obtain ⟨r, c, rfl⟩ : ∃ r c, row = r ++ [c] := ⟨row.dropLast, row.getLast hne, (List.dropLast_concat_getLast hne).symm⟩
    have hr : r.length = n := by simpa using h
    obtain ⟨g1, g2, g3⟩ := ih r hr
    rw [List.length_append] at h
    by_cases hc : c = 98
    · subst hc
      refine ⟨fun k => ?_, fun k hk => ?_, fun k l h1 h2 => ?_⟩
      · obtain ⟨q1, q2, q3⟩ := g1 (k / 2)
        rw [part_b, ← h]
        refine ⟨by simp [q1, hr], by simp [q2, hr], ?_⟩
        show rowBy (_ ++ [sgn k]) (_ ++ [tw 98 (sgn k)]) = _
        rw [rowBy_snoc _ _ _ _ (q1.trans q2.symm), q3]
        congr 2
        unfold sgn
        split <;> rfl
      · rw [part_b]
        obtain ⟨q1, q2, q3⟩ := g1 (k / 2)
        rw [many_snoc] at hk
        by_cases h0 : r.count 98 = 0
        · rw [if_neg (fun h => h.2 h0)] at hk
          have hm : many r = 1 := by unfold many; rw [h0]
          have k0 : k = 0 := by omega
          subst k0
          rw [part_no_b r _ h0]
          exact .inr (app_same r 110 121 (by decide))
        · rw [if_pos ⟨rfl, h0⟩] at hk
          rcases g2 (k / 2) (by omega) with q | q
          · exact absurd q (turned_ne r _ (lesser_len _ _) (List.count_pos_iff.mp (by omega)))
          · exact .inr (app_lt _ _ _ _ (q1.trans q2.symm) q)
      · rw [part_b, part_b]
        rw [many_snoc] at h2
        by_cases h0 : r.count 98 = 0
        · rw [if_neg (fun h => h.2 h0)] at h2
          have hm : many r = 1 := by unfold many; rw [h0]
          omega
        · rw [if_pos ⟨rfl, h0⟩] at h2
          by_cases hkl : k / 2 = l / 2
          · rw [hkl]
            have e1 : sgn k = 110 := by unfold sgn; rw [if_pos (by omega)]
            have e2 : sgn l = 121 := by unfold sgn; rw [if_neg (by omega)]
            rw [e1, e2]
            exact app_same _ _ _ (by decide)
          · exact app_lt _ _ _ _ ((g1 _).1.trans (g1 _).1.symm) (g3 _ _ (by omega) (by omega))
    · have hm : many (r ++ [c]) = many r := by rw [many_snoc, if_neg (fun h => hc h.1)]
      refine ⟨fun k => ?_, fun k hk => ?_, fun k l h1 h2 => ?_⟩
      · obtain ⟨q1, q2, q3⟩ := g1 k
        rw [part_o _ _ _ hc, ← h]
        refine ⟨by simp [q1, hr], by simp [q2, hr], ?_⟩
        show rowBy (_ ++ [c]) (_ ++ [c]) = _
        rw [rowBy_snoc _ _ _ _ (q1.trans q2.symm), q3]
        congr 2
        unfold rb
        rw [if_pos rfl]
      · rw [part_o _ _ _ hc]
        rcases g2 k (by omega) with q | q
        · left
          show _ ++ [c] = _ ++ [c]
          rw [q]
        · exact .inr (app_lt _ _ _ _ ((g1 k).1.trans (g1 k).2.1.symm) q)
      · rw [part_o _ _ _ hc, part_o _ _ _ hc]
        exact app_lt _ _ _ _ ((g1 _).1.trans (g1 _).1.symm) (g3 _ _ h1 (by omega))
end Hid

namespace Hid
open PySem PySem.Spec PyProof.Rows L2 Evl
/-- a def of the text: where it stands -/
def Df (K : PySem.W.Frag) (mg : Str → Option Value) (x : Str) (st : Stmt) (ps : List Str) : Prop := ∃ (f : Addr) (fd : FuncData), Fun K x x st f fd ∧ Binds K fd ps [] ∧ mg x = some (.ref f)
/-- .. and what it promises -/
def At (P : Program) (w : World) (K : PySem.W.Frag) (mg : Str → Option Value) (base : Heap) (x : Str) (st : Stmt) (n : Nat) (ps : List Str) (sp : Sp) : Prop :=
  ∃ (f : Addr) (fd : FuncData), Fun K x x st f fd ∧ Binds K fd ps [] ∧ mg x = some (.ref f) ∧ FnOk P w K mg base CX0 n f fd ps sp
section
variable {K : PySem.W.Frag} {σ : L2.St} {H H' : Hp} {ta tb tc te tl : TE}
theorem walk_zs {x y : Str} {n : Nat} (hn : n = min x.cps.size y.cps.size) : Walk (ZsIt x y) n (fun _ => True) (fun i G v G' => ∃ T c d, v = .ref T ∧ G T = none ∧ G' = upd G T (.tup [.str ⟨#[c]⟩, .str ⟨#[d]⟩]) ∧ x.cps[i]? = some c ∧ y.cps[i]? = some d) := by
  subst hn
  exact ⟨fun _ _ hi _ => hi, fun _ _ => Nat.le_refl _, fun _ _ _ _ _ _ q => q⟩
abbrev vs1 (l : List Nat) : List V := l.map fun c => V.str (sg1 c)
theorem vs1_str (l : List Nat) : vs1 l = (l.map sg1).map V.str := by rw [List.map_map]; rfl
/-- ''.join of a list of signs -/
theorem r_join {l : List Nat} {p : Addr} {Q : VK} (hp : SqL K H p (vs1 l)) (hl : l.length ≤ 1000000) (q : Q (.str (tx l)) H) :
    ∃ a p', ∃ ys : List Str, (V.str (tx []) : V) = .str a ∧ [V.ref p] = [V.ref p'] ∧ (SqL K H p' (ys.map V.str) ∨ SqT K H p' (ys.map V.str)) ∧ (ys.map (·.length)).sum + ys.length * a.length ≤ 16777216 ∧ Q (.str (Txt.join a ys)) H := by
  refine ⟨tx [], p, l.map sg1, rfl, rfl, .inl (by rw [← vs1_str]; exact hp), ?_, ?_⟩
  · rw [sg1_len]
    show l.length + _ * 0 ≤ 16777216
    omega
  · rw [join_one]
    exact q
theorem str1_dec (c d : Nat) : decide ((V.str (sg1 c) : V) = V.str (sg1 d)) = decide (c = d) := by
  by_cases h : c = d
  · rw [decide_eq_true h, decide_eq_true (by rw [h])]
  · rw [decide_eq_false h, decide_eq_false]
    intro z
    have z2 : sg1 c = sg1 d := V.str.inj z
    have := congrArg (fun s : Str => s.cps.toList) z2
    simp [sg1] at this
    exact h this
theorem strtx_dec (a o : List Nat) : decide ((V.str (tx a) : V) = V.str (tx o)) = decide (a = o) := by
  by_cases h : a = o
  · rw [decide_eq_true h, decide_eq_true (by rw [h])]
  · rw [decide_eq_false h, decide_eq_false]
    intro z
    exact h (tx_inj (V.str.inj z))
theorem ev_chain {r r' : R2} {x y z : V} {b b' : Bool} (ha : Ev ta σ H x) (hb : Ev tb σ H y) (hr : RV r x y H (.bl b)) (hc : b = true → Ev tc σ H z) (hr' : b = true → RV r' y z H (.bl b')) : Ev (tChain r r' ta tb tc) σ H (.bl (b && b')) := fun H1 e Q q =>
  ha H1 e _ fun H2 e2 => hb H2 (e.trans e2) _ fun H3 e3 => hr H3 ((e.trans e2).trans e3) _ fun H4 e4 => ⟨b, rfl, by
    cases b with
    | true => exact iteT (hc rfl H4 (((e.trans e2).trans e3).trans e4) _ fun H5 e5 => hr' rfl H5 ((((e.trans e2).trans e3).trans e4).trans e5) _ fun H6 e6 => q H6 ((((e2.trans e3).trans e4).trans e5).trans e6))
    | false => exact iteF (q H4 ((e2.trans e3).trans e4))⟩
theorem ev_isi {x : V} {t n : String} {b : Bool} (ha : Ev ta σ H x) (ht : ∀ H1, Ex H H1 → TyX K H1 x (.type t)) (hk : kitB t n = some b) : Ev (tCB (rIsi K) (tCons ta (tCons (tC (.ty n)) tNil))) σ H (.bl b) := fun H1 e Q q =>
  ha H1 e _ fun H2 e2 => ⟨x, .ty n, _, _, b, rfl, .ty n, ht H2 (e.trans e2), kit_ty hk, q H2 e2⟩
theorem ev_all {bs : List Bool} (h : EvL tl σ H (bs.map V.bl)) : Ev (tCB (rAll K) (tCons tl tNil)) σ H (.bl (bs.all id)) := fun H1 e Q q =>
  h H1 e _ fun p H2 hp e2 h2 => ⟨p, bs, rfl, sq_of h2, q H2 e2⟩
theorem given_true (n : Nat) (v : Nat → V) : given n (fun _ => true) v = (List.range n).map v := by
  unfold given
  rw [List.filter_eq_self.mpr fun _ _ => rfl]
theorem c_call {sp : Sp} {E : XK} {ta : TA} {vs : List V} {Q : VK} (h : EvA ta σ H vs) (k : ∀ H2, Ex H H2 → sp vs H2 Q E) : tCall sp [] E ta σ H Q := h H (Ex.refl _) _ fun H2 e2 => by
  show sp (vs ++ []) H2 Q E
  rw [List.append_nil]
  exact k H2 e2
theorem c_call1 {sp : Sp} {E : XK} {ta : TA} {vs : List V} {Q : List V → Hp → Prop} (h : EvA ta σ H vs) (k : ∀ H2, Ex H H2 → sp vs H2 (fun x H3 => Q [x] H3) E) : tCons (tCall sp [] E ta) tNil σ H Q := c_call h k
theorem tyes {T E : Hp → Prop} (h : T H) : tYes σ H (fun b H3 => if b = true then T H3 else E H3) := by
  show if true = true then T H else E H
  rw [if_pos rfl]
  exact h
theorem et_yes : EvT tYes σ H true := fun H1 _ _ q => q H1 (Ex.refl _)
/-- a comprehension over a list of pairs -/
theorem el_lcP {a : Addr} {xs : List V} {i j : Nat} {vs : List Nat} (v : Nat → V) (h : Ev tl σ H (.ref a)) (hx : SqL K H a xs) (hz : xs.length ≤ 40000)
    (hw : ∀ p q, wipe (((wipe σ vs).set i (some p)).set j (some q)) vs = wipe σ vs)
    (hp : ∀ n x, xs[n]? = some x → ∃ t p q, x = .ref t ∧ SqT K H t [p, q] ∧ Ev te (((wipe σ vs).set i (some p)).set j (some q)) H (v n)) :
    EvL (tLc (iList K tl) (gTup K 2 (gCons (gName i) (gCons (gName j) gNil))) tYes te vs) σ H ((List.range xs.length).map v) := fun H0 e Q q => h H0 e _ fun H1 e1 => ⟨a, rfl, ⟨xs, ex_l (e.trans e1) hx⟩, fun Dl hD =>
  lc_list (xs := xs) (Cw H1 (fun _ => true) v Dl) ⟨hD, Ex.new hD, upd_same⟩ (fun i H' _ p => ex_l ((e.trans e1).trans p.2.1) hx) (fun n x H' hn p => by
      obtain ⟨t, x1, x2, rfl, hT, hE⟩ := hp n x hn
      exact ⟨t, [x1, x2], rfl, ex_t ((e.trans e1).trans p.2.1) hT, rfl, x1, [x2], rfl, x2, [], rfl, rfl, hw x1 x2, cw_turn (f := fun _ => true) p (by have := (List.getElem?_eq_some_iff.mp hn).1; omega) et_yes fun _ => hE.mono (e.trans e1)⟩)
    (fun H' p => q Dl H' (fresh_back e1 p.1) (e1.trans p.2.1) (by rw [p.2.2, given_true]))⟩
/-! pairs of texts -/
def PrT (K : PySem.W.Frag) (H : Hp) (v : V) (p : List Nat × List Nat) : Prop := ∃ t, v = .ref t ∧ H t = some (.tup [.str (tx p.1), .str (tx p.2)])
abbrev Prs (K : PySem.W.Frag) (H : Hp) (vs : List V) (ps : List (List Nat × List Nat)) : Prop := Paired (PrT K H) vs ps
theorem PrT.ex {v : V} {p : List Nat × List Nat} (e : Ex H H') (h : PrT K H v p) : PrT K H' v p := let ⟨t, a, c⟩ := h; ⟨t, a, e _ _ c⟩
theorem paired_mono {α γ : Type} {F G : α → γ → Prop} (h : ∀ a b, F a b → G a b) : ∀ {l : List α} {m : List γ}, Paired F l m → Paired G l m
  | _, _, .nil => .nil
  | _, _, .cons a t => .cons (h _ _ a) (paired_mono h t)
theorem paired_app {α γ : Type} {F : α → γ → Prop} : ∀ {l l' : List α} {m m' : List γ}, Paired F l m → Paired F l' m' → Paired F (l ++ l') (m ++ m')
  | _, _, _, _, .nil, h => h
  | _, _, _, _, .cons a t, h => .cons a (paired_app t h)
theorem paired_get {α γ : Type} {F : α → γ → Prop} : ∀ {l : List α} {m : List γ}, Paired F l m → ∀ (i : Nat) (x : α), l[i]? = some x → ∃ y, m[i]? = some y ∧ F x y
  | _, _, .nil, i, x, h => by simp at h
  | _, _, .cons a t, 0, x, h => by
    cases h
    exact ⟨_, rfl, a⟩
  | _, _, .cons a t, i + 1, x, h => paired_get t i x h
theorem Prs.ex {vs : List V} {ps : List (List Nat × List Nat)} (e : Ex H H') (h : Prs K H vs ps) : Prs K H' vs ps := paired_mono (fun _ _ q => q.ex e) h
/-- a list changed: the pairs stand -/
theorem Prs.upd {vs : List V} {ps : List (List Nat × List Nat)} {D : Addr} {xs : List V} {o : HO} (hD : H D = some (.lst xs)) (h : Prs K H vs ps) : Prs K (upd H D o) vs ps := paired_mono (fun v p ⟨t, a, c⟩ => ⟨t, a, by
  rw [upd_ne]
  · exact c
  · intro z
    rw [z, hD] at c
    cases c⟩) h
def dSS (p : List Nat × List Nat) : PyData := .tuple [.str (tx p.1), .str (tx p.2)]
theorem PrT.dp {v : V} {p : List Nat × List Nat} (h : PrT K H v p) : Dp K H v (dSS p) := by
  obtain ⟨t, rfl, c⟩ := h
  exact .tup (st_of c) (.cons (.str _) (.cons (.str _) .nil))
theorem Prs.dp : ∀ {vs : List V} {ps : List (List Nat × List Nat)}, Prs K H vs ps → DpAll K H vs (ps.map dSS)
  | _, _, .nil => .nil
  | _, _, .cons a t => .cons a.dp (Prs.dp t)
end
end Hid

namespace Hid
open PySem PySem.Spec PyProof.Rows L2 Evl
def topS (i : Nat) : Stmt := PySem.Challenge.pw_hidhalves_k06_partings_told.main.body.getD i (.Pass ⟨0, 0, 0, 0⟩)
abbrev st_is_whole : Stmt := topS 5
theorem sc_is_whole : FnScope ["thing"] ["thing"] (defScope st_is_whole) := ⟨rfl, rfl, rfl, by decide +kernel, rfl, by decide +kernel, by decide +kernel⟩
abbrev st_turned_at_both : Stmt := topS 7
theorem sc_turned_at_both : FnScope ["row", "half", "signs", "mark", "sign"] ["row", "half"] (defScope st_turned_at_both) := ⟨rfl, rfl, rfl, by decide +kernel, rfl, by decide +kernel, by decide +kernel⟩
abbrev st_many_partings : Stmt := topS 8
theorem sc_many_partings : FnScope ["row"] ["row"] (defScope st_many_partings) := ⟨rfl, rfl, rfl, by decide +kernel, rfl, by decide +kernel, by decide +kernel⟩
abbrev st_lesser_half : Stmt := topS 9
theorem sc_lesser_half : FnScope ["row", "number", "signs", "left", "mark"] ["row", "number"] (defScope st_lesser_half) := ⟨rfl, rfl, rfl, by decide +kernel, rfl, by decide +kernel, by decide +kernel⟩
abbrev st_parting_at : Stmt := topS 10
theorem sc_parting_at : FnScope ["row", "number", "one"] ["row", "number"] (defScope st_parting_at) := ⟨rfl, rfl, rfl, by decide +kernel, rfl, by decide +kernel, by decide +kernel⟩
abbrev st_partings_of : Stmt := topS 11
theorem sc_partings_of : FnScope ["row", "number"] ["row"] (defScope st_partings_of) := ⟨rfl, rfl, rfl, by decide +kernel, rfl, by decide +kernel, by decide +kernel⟩
abbrev st_row_by : Stmt := topS 13
theorem sc_row_by : FnScope ["one", "other", "sign", "beside"] ["one", "other"] (defScope st_row_by) := ⟨rfl, rfl, rfl, by decide +kernel, rfl, by decide +kernel, by decide +kernel⟩
abbrev st__law_cell : Stmt := topS 15
theorem sc__law_cell : FnScope ["_law_script", "_law_k", "_law_state", "_law_cell_here"] ["_law_script", "_law_k"] (defScope st__law_cell) := ⟨rfl, rfl, rfl, by decide +kernel, rfl, by decide +kernel, by decide +kernel⟩
abbrev st__law_numbers : Stmt := topS 16
theorem sc__law_numbers : FnScope ["_law_cell_here", "_law_many", "_law_found", "_law_state", "_law_digits", "_law_k"] ["_law_cell_here", "_law_many"] (defScope st__law_numbers) := ⟨rfl, rfl, rfl, by decide +kernel, rfl, by decide +kernel, by decide +kernel⟩
abbrev st__law_any_row : Stmt := topS 17
theorem sc__law_any_row : FnScope ["_law_xs", "_law_places", "_law_k"] ["_law_xs", "_law_places"] (defScope st__law_any_row) := ⟨rfl, rfl, rfl, by decide +kernel, rfl, by decide +kernel, by decide +kernel⟩
abbrev st__law_partings : Stmt := topS 18
theorem sc__law_partings : FnScope ["_law_row", "_law_found", "_law_sign", "_law_longer", "_law_one", "_law_other"] ["_law_row"] (defScope st__law_partings) := ⟨rfl, rfl, rfl, by decide +kernel, rfl, by decide +kernel, by decide +kernel⟩
abbrev st__law_drawn_rows : Stmt := topS 19
theorem sc__law_drawn_rows : FnScope ["_law_script", "_law_amount", "_law_found", "_law_k", "_law_xs"] ["_law_script", "_law_amount"] (defScope st__law_drawn_rows) := ⟨rfl, rfl, rfl, by decide +kernel, rfl, by decide +kernel, by decide +kernel⟩
abbrev st__law_right : Stmt := topS 20
theorem sc__law_right : FnScope ["_law_row", "_law_due", "_law_many", "_law_turn", "_law_found", "_law_one", "_law_other"] ["_law_row"] (defScope st__law_right) := ⟨rfl, rfl, rfl, by decide +kernel, rfl, by decide +kernel, by decide +kernel⟩
abbrev st_law : Stmt := topS 21
theorem sc_law : FnScope ["_law_script", "_law_row"] ["_law_script"] (defScope st_law) := ⟨rfl, rfl, rfl, by decide +kernel, rfl, by decide +kernel, by decide +kernel⟩
section
variable {P : Program} {w : World} {K : PySem.W.Frag} {mg : Str → Option Value} {base : Heap}
def sp__law_cell (K : PySem.W.Frag) : Sp := fun vs H Q _ => ∃ (a : Addr) (ns : List Int) (k : Int), vs = [.ref a, .int k] ∧ SqL K H a (ns.map V.int) ∧ (0 ≤ k ∧ k ≤ 1000) ∧ ∀ (c : Int) H2, Ex H H2 → Q (.int c) H2
theorem ok__law_cell (D : Df K mg "_law_cell" st__law_cell ["_law_script", "_law_k"]) (m_len : mg "len" = none) : At P w K mg base "_law_cell" st__law_cell 1 ["_law_script", "_law_k"] (sp__law_cell K) := by
  obtain ⟨f, fd, F, b, g⟩ := D
  refine ⟨f, fd, F, b, g, F.ok sc__law_cell (fun vs H Q E h => ?_) (fun cdv A outer s H vs Q E hr h => ?_)⟩
  · obtain ⟨a, ns, k, rfl, _⟩ := h
    rfl
  · obtain ⟨a, ns, k, rfl, hS, hk, q⟩ := h
    refine ⟨_, (pss_cons (ps_if (pt_cmpR op_lt (pv 1) (pe_callB call_len_seq (by rfl) m_len (by decide +kernel) (pa_cons (pv 0) pa_nil)) (nomark _))
      (pss_one (ps_ret (pe_ix ix_list (pv 0) (pv 1) (fun _ _ => rfl))))
      pss_nil)
      (pss_cons (ps_set (i := 2) sc__law_cell.nd rfl (.inl rfl) (pe_op op_mod (pe_op op_mul pe_int (pe_op op_add (pe_op op_add (pe_op op_mul (pv 1) (pv 1)) (pe_op op_mul pe_int (pv 1))) pe_int)) pe_int))
      (pss_cons (ps_for PassesOwn.never rfl (pi_list (pe_slice sl_list (pv 0) po_none (po_some pe_int))) (pg_name (i := 3) sc__law_cell.nd rfl (.inl rfl))
      (pss_one (ps_set (i := 2) sc__law_cell.nd rfl (.inl rfl) (pe_op op_mod (pe_op op_add (pe_op op_mul (pv 2) pe_int) (pv 3)) pe_int))))
      (pss_one (ps_ret (pv 2)))))), ?_⟩
    refine q_when (et_test (ev_op (ev_var rfl) (ev_len (ev_var rfl) hS) rv_I0)) (fun hb H1 e1 => ?_) (fun hb H1 e1 => ?_)
    · have hb' : k < ((ns.map V.int).length : Int) := of_decide_eq_true hb
      have hj : k.toNat < ns.length := by rw [List.length_map] at hb'; omega
      have hat : atI (ns.map V.int) k = some (.int ns[k.toNat]) := by
        have := atI_nat (xs := ns.map V.int) (j := k.toNat) (v := .int ns[k.toNat]) (by rw [List.getElem?_map, List.getElem?_eq_getElem hj]; rfl)
        rwa [Int.toNat_of_nonneg hk.1] at this
      exact s_ret (ev_op (ev_var rfl) (ev_var rfl) (rv_ixL (ex_l e1 hS) hat)) fun H2 e2 => q _ _ (e1.trans e2)
    · refine q_asg (ev_op (ev_op ev_c (ev_op (ev_op (ev_op (ev_var rfl) (ev_var rfl) (rv_I (.inl ⟨by omega, by omega⟩))) (ev_op ev_c (ev_var rfl) (rv_I (.inl ⟨by omega, by omega⟩))) rv_I0) ev_c rv_I0) (rv_I (.inl ⟨by omega, by omega⟩))) ev_c (rv_I (by show (0 : Int) < 2147483647; decide))) fun H2 e2 => ?_
      refine q_forNLn (el_sl (ev_var rfl) eo_none (eo_some ev_c) (ex_l (e1.trans e2) hS)) (fun p i σ' H' => ∃ (c : Int) (y3 : Option V), σ' = [some (.ref a), some (.int k), some (.int c), y3] ∧ (0 ≤ c ∧ c < 2147483647) ∧ Ex H H' ∧ H' p = some (.lst (cutV (ns.map V.int) none (some 3)))) (fun p H3 hp e3 h3 => ⟨_, _, rfl, ⟨by omega, by omega⟩, (e1.trans e2).trans e3, h3⟩) (fun p i σ' H' _ hP => ?_) (fun p i x σ' H' hx hP => ?_) (fun p σ' H' hP => ?_)
      · obtain ⟨c, y3, _, _, _, h3⟩ := hP
        exact sq_of h3
      · obtain ⟨c, y3, rfl, hc, e3, h3⟩ := hP
        have hm : x ∈ ns.map V.int := List.mem_of_mem_drop (List.mem_of_mem_take (List.mem_of_getElem? hx))
        obtain ⟨z, _, rfl⟩ := List.mem_map.mp hm
        refine s_asg (ev_op (ev_op (ev_op (ev_var rfl) ev_c (rv_I (.inl ⟨by omega, by omega⟩))) (ev_var rfl) rv_I0) ev_c (rv_I (by show (0 : Int) < 2147483647; decide))) fun H4 e4 => ?_
        exact ⟨_, _, rfl, ⟨by omega, by omega⟩, e3.trans e4, e4 _ _ h3⟩
      · obtain ⟨c, y3, rfl, hc, e3, h3⟩ := hP
        exact s_ret (ev_var rfl) fun H4 e4 => q _ _ (e3.trans e4)
def sp__law_numbers (K : PySem.W.Frag) : Sp := fun vs H Q _ => ∃ (c n : Int), vs = [.int c, .int n] ∧ (0 ≤ n ∧ n ≤ 1000) ∧ ∀ xs : List Int, (xs.length : Int) = n → (∀ x ∈ xs, 0 ≤ x) → RetL (xs.map V.int) H Q
theorem ok__law_numbers (D : Df K mg "_law_numbers" st__law_numbers ["_law_cell_here", "_law_many"]) (m_abs : mg "abs" = none) (m_range : mg "range" = none) (m_int : mg "int" = none) : At P w K mg base "_law_numbers" st__law_numbers 1 ["_law_cell_here", "_law_many"] (sp__law_numbers K) := by
  obtain ⟨f, fd, F, b, g⟩ := D
  refine ⟨f, fd, F, b, g, F.ok sc__law_numbers (fun vs H Q E h => ?_) (fun cdv A outer s H vs Q E hr h => ?_)⟩
  · obtain ⟨c, n, rfl, _⟩ := h
    rfl
  · obtain ⟨c, n, rfl, hn, q⟩ := h
    refine ⟨_, (pss_cons (ps_set (i := 2) sc__law_numbers.nd rfl (.inl rfl) (pe_lst pa_nil))
      (pss_cons (ps_set (i := 3) sc__law_numbers.nd rfl (.inl rfl) (pe_op op_mod (pe_op op_mul (pe_op op_add (pe_op op_mod (pv 0) pe_int) pe_int) pe_int) pe_int))
      (pss_cons (ps_set (i := 4) sc__law_numbers.nd rfl (.inl rfl) pe_int)
      (pss_cut (ps_if (PW.pt (pw_or (pt_cmpR op_lt (pv 0) pe_int (nomark _)) (pw_or1 (pt_cmpR op_ge (pv 0) (pe_op op_pow pe_int pe_int) (nomark _)))))
      (pss_one (ps_set (i := 4) sc__law_numbers.nd rfl (.inl rfl) (pe_callB call_abs (by rfl) m_abs (by decide +kernel) (pa_cons (pv 0) pa_nil))))
      pss_nil)
      (pss_cons (ps_for PassesOwn.never rfl (pi_range1 (by rfl) m_range (pa_cons (pv 1) pa_nil)) (pg_name (i := 5) sc__law_numbers.nd rfl (.inl rfl))
      (pss_cons (ps_set (i := 3) sc__law_numbers.nd rfl (.inl rfl) (pe_op op_mod (pe_op op_add (pe_op op_add (pe_op op_mul (pv 3) (pe_op op_add (pe_op op_mod (pv 3) pe_int) pe_int)) (pe_op op_mul pe_int (pv 5))) pe_int) pe_int))
      (pss_cons (ps_expr (pe_bm PySem.F.plainAttrs_list PySem.F.slot_list_append PySem.F.type_list_append mt_append (pv 2) (pa_cons (pe_ix ix_list (pe_lst (pa_cons (pv 3) (pa_cons (pe_op op_mod (pv 4) pe_int) pa_nil))) (pe_callTy call_int1 (by rfl) m_int (by decide +kernel) (pa_cons (pe_cmpR op_gt (pv 4) pe_int (nomark _)) pa_nil)) (fun _ _ => rfl)) pa_nil)))
      (pss_one (ps_set (i := 4) sc__law_numbers.nd rfl (.inl rfl) (pe_op op_fdiv (pv 4) pe_int))))))
      (pss_one (ps_ret (pv 2)))))))), ?_⟩
    refine q_asgL (el_lst ea_nil (by decide)) fun l H1 hl e1 h1 => ?_
    refine q_asg (ev_op (ev_op (ev_op (ev_op (ev_var rfl) ev_c (rv_I (by show (0 : Int) < 1999999973; decide))) ev_c rv_I0) ev_c (rv_I (.inl ⟨by omega, by omega⟩))) ev_c (rv_I (by show (0 : Int) < 1999999973; decide))) fun H2 e2 => ?_
    refine q_asg ev_c fun H3 e3 => ?_
    have e13 : Ex H H3 := (e1.trans e2).trans e3
    have h3 : H3 l = some (.lst []) := e3 _ _ (e2 _ _ h1)
    generalize hst : ((c % 1999999973 + 31) * 765432101) % 1999999973 = st
    have hst1 : 0 ≤ st ∧ st < 1999999973 := by omega
    refine q_cut (M := fun σ' H' => ∃ d : Int, σ' = [some (.int c), some (.int n), some (.ref l), some (.int st), some (.int d), none] ∧ 0 ≤ d ∧ Ex H H' ∧ H' l = some (.lst [])) ?_ ?_
    · refine s_when (et_or (et_test (ev_op (ev_var rfl) ev_c rv_I0)) fun _ => et_test (ev_op (ev_var rfl) (ev_op ev_c ev_c (rv_I ⟨by decide, by decide, by decide⟩)) rv_I0)) (fun hb H4 e4 => ?_) (fun hb H4 e4 => ?_)
      · refine s_asg (ev_cb (ea_cons (ev_var rfl) ea_nil) (z := .int (if c < 0 then -c else c)) (fun Hx ex Qx qx => ⟨c, rfl, qx Hx (Ex.refl _)⟩)) fun H5 e5 => ?_
        exact ⟨_, rfl, by split <;> omega, (e13.trans e4).trans e5, e5 _ _ (e4 _ _ h3)⟩
      · exact ⟨0, rfl, Int.le_refl _, e13.trans e4, e4 _ _ h3⟩
    · rintro σ' H' ⟨d, rfl, hd, e4, h4⟩
      refine q_forR1 (ea_cons (ev_var rfl) ea_nil) ⟨hn.1, by omega⟩ (fun i σ' H' => ∃ (xs : List Int) (st d : Int) (y5 : Option V), σ' = [some (.int c), some (.int n), some (.ref l), some (.int st), some (.int d), y5] ∧ (0 ≤ st ∧ st < 1999999973) ∧ 0 ≤ d ∧ xs.length = i ∧ (∀ x ∈ xs, 0 ≤ x) ∧ Ex H H' ∧ H' l = some (.lst (xs.map V.int))) (fun H5 e5 => ⟨[], st, d, _, rfl, hst1, hd, rfl, (fun _ m => nomatch m), e4.trans e5, e5 _ _ h4⟩) (fun i σ' H' hi hP => ?_) (fun σ' H' hP => ?_)
      · obtain ⟨xs, st, d, y5, rfl, hs, hd, hx, hpos, e6, h6⟩ := hP
        refine q_asg (ev_op (ev_op (ev_op (ev_op (ev_var rfl) (ev_op (ev_op (ev_var rfl) ev_c (rv_I (by show (0 : Int) < 65521; decide))) ev_c rv_I0) (rv_I (.inl ⟨by omega, by omega⟩))) (ev_op ev_c (ev_var rfl) (rv_I (.inl ⟨by omega, by omega⟩))) rv_I0) ev_c rv_I0) ev_c (rv_I (by show (0 : Int) < 1999999973; decide))) fun H7 e7 => ?_
        generalize hst2 : (st * (st % 65521 + 40487) + 7 * (i : Int) + 5) % 1999999973 = st2
        have hb2 : 0 ≤ st2 ∧ st2 < 1999999973 := by rw [← hst2]; exact ⟨Int.emod_nonneg _ (by decide), Int.emod_lt_of_pos _ (by decide)⟩
        have h7 : H7 l = some (.lst (xs.map V.int)) := e7 _ _ h6
        refine q_app (v := .int (if d > 0 then d % 1000000 else st2)) h7 (ev_var rfl) ?_ (by rw [List.length_map]; omega) fun H8 e8 => ?_
        · refine ev_opL1 (el_lst (ea_cons (ev_var rfl) (ea_cons (ev_op (ev_var rfl) ev_c (rv_I (by show (0 : Int) < 1000000; decide))) ea_nil)) (by show 2 ≤ 100000; decide)) (y := .int (if decide (d > 0) = true then 1 else 0)) (fun Hx ex => ev_cb (ea_cons (ev_op (ev_var rfl) ev_c rv_I0) ea_nil) fun Hy ey Qy qy => .inr ⟨_, rfl, qy Hy (Ex.refl _)⟩) fun p Hx hp ex => rv_ixL (sq_of hp) ?_
          by_cases hd0 : d > 0
          · rw [decide_eq_true hd0, if_pos hd0] <;> rfl
          · rw [decide_eq_false hd0, if_neg hd0] <;> rfl
        · refine s_asg (ev_op (ev_var rfl) ev_c (rv_I ⟨by decide, by decide⟩)) fun H9 e9 => ?_
          have ne : H l = none := hl
          refine ⟨xs ++ [if d > 0 then d % 1000000 else st2], st2, d / 1000000, _, rfl, hb2, by omega, by rw [List.length_append, hx]; rfl, fun x hx2 => ?_, ?_, ?_⟩
          · rcases List.mem_append.mp hx2 with h | h
            · exact hpos x h
            · rw [List.mem_singleton.mp h]
              split <;> omega
          · exact ((e6.trans e7).trans e8 |>.mut ne).trans e9
          · refine e9 _ _ ?_
            rw [upd_same, List.map_append] <;> rfl
      · obtain ⟨xs, st, d, y5, rfl, hs, hd, hx, hpos, e6, h6⟩ := hP
        exact s_ret (ev_var rfl) fun H7 e7 => q xs (by omega) hpos l H7 hl (e6.trans e7) (e7 _ _ h6)
def sp_row_by (K : PySem.W.Frag) : Sp := fun vs H Q _ => ∃ a o : List Nat, vs = [.str (tx a), .str (tx o)] ∧ (a.length = o.length ∧ o.length ≤ 1000) ∧ RetV (.str (tx (rowBy a o))) H Q
theorem ok_row_by (D : Df K mg "row_by" st_row_by ["one", "other"]) (m_zip : mg "zip" = none) : At P w K mg base "row_by" st_row_by 1 ["one", "other"] (sp_row_by K) := by
  obtain ⟨f, fd, F, b, g⟩ := D
  refine ⟨f, fd, F, b, g, F.ok sc_row_by (fun vs H Q E h => ?_) (fun cdv A outer s H vs Q E hr h => ?_)⟩
  · obtain ⟨a, o, rfl, _⟩ := h
    rfl
  · obtain ⟨a, o, rfl, hl, q⟩ := h
    refine ⟨_, (pss_one (ps_ret (pe_join pe_str (pe_lc (own := [("sign", 2), ("beside", 3)]) (g := gTup K 2 (gCons (gName 2) (gCons (gName 3) gNil))) (by rfl) sc_row_by.nd (Hid.pi_zs (by rfl) m_zip (pa_cons (pv 0) (pa_cons (pv 1) pa_nil))) (blkOk_by (N := ["one", "other", "sign", "beside"]) (sc := defScope st_row_by) (by decide +kernel)) (fun _ _ _ _ _ => (pg_tup (by rfl) (pgs_cons (pg_name (i := 2) sc_row_by.nd rfl (.inl rfl)) (pgs_cons (pg_name (i := 3) sc_row_by.nd rfl (.inl rfl)) pgs_nil)))) (fun _ _ _ _ _ => pts_nil) (fun _ _ _ _ _ => (pe_ifExp (pt_cmpR op_eq (pv 2) (pv 3) (nomark _)) (pv 2) pe_str)))))), ?_⟩
    have hsz : (tx a).cps.size = a.length := by simp [tx]
    have hsz2 : (tx o).cps.size = o.length := by simp [tx]
    have hrl : (rowBy a o).length = a.length := by unfold rowBy; rw [List.length_zipWith]; omega
    refine ⟨⟨_, rfl⟩, _, rfl, _, rfl, tx a, tx o, rfl, fun D hD => ?_⟩
    refine lc_it (walk_zs (n := a.length) (by rw [hsz, hsz2]; omega)) (fun i H' => Ex H H' ∧ H' D = some (.lst (vs1 ((rowBy a o).take i)))) ⟨Ex.new hD, upd_same⟩ (fun _ _ _ _ => trivial) (fun i x H1 H2 hi hP hY => ?_) (fun H1 hP => ?_)
    · obtain ⟨e1, h1⟩ := hP
      obtain ⟨T, c, d, rfl, hT, rfl, hc, hd⟩ := hY
      have hc' : a[i]? = some c := by simpa [tx] using hc
      have hd' : o[i]? = some d := by simpa [tx] using hd
      refine ⟨T, [.str (sg1 c), .str (sg1 d)], rfl, st_of upd_same, rfl, _, _, rfl, _, _, rfl, rfl, rfl, tyes ?_⟩
      have hE : Ev (tIf (tTest (tOp rEq (tVar 2) (tVar 3))) (tVar 2) (tC (.str "b"))) [some (.str (tx a)), some (.str (tx o)), some (.str (sg1 c)), some (.str (sg1 d))] (upd H1 T (.tup [.str (sg1 c), .str (sg1 d)])) (.str (sg1 (rb c d))) := by
        refine ev_if (et_is (et_test (ev_op (ev_var rfl) (ev_var rfl) (rv_eq rfl))) (str1_dec c d)) (fun hb => ev_is (ev_var rfl) ?_) (fun hb => ev_is ev_c ?_)
        · unfold rb; rw [if_pos (of_decide_eq_true hb)]
        · unfold rb; rw [if_neg (of_decide_eq_false hb)]; rfl
      refine hE _ (Ex.refl _) _ fun H4 e4 => ⟨_, e4 _ _ (by rw [upd_ne (ne_of_none h1 hT)]; exact h1), ?_, ?_, ?_⟩
      · refine sz_lt ?_
        rw [List.length_map, List.length_take]
        omega
      · exact ((e1.trans (Ex.new hT)).trans e4).mut hD
      · rw [upd_same]
        have : (rowBy a o)[i]? = some (rb c d) := by unfold rowBy; rw [List.getElem?_zipWith, hc', hd']
        rw [List.take_add_one, this]
        show _ = some (HO.lst (List.map _ _))
        rw [List.map_append]
        rfl
    · obtain ⟨e1, h1⟩ := hP
      rw [List.take_of_length_le (by omega)] at h1
      exact r_join (sq_of h1) (by omega) (q H1 e1)
def sp_turned_at_both (K : PySem.W.Frag) : Sp := fun vs H Q _ => ∃ r h : List Nat, vs = [.str (tx r), .str (tx h)] ∧ (h.length = r.length ∧ r.length ≤ 1000) ∧ RetV (.str (tx (turned r h))) H Q
theorem ok_turned_at_both (D : Df K mg "turned_at_both" st_turned_at_both ["row", "half"]) (m_zip : mg "zip" = none) : At P w K mg base "turned_at_both" st_turned_at_both 1 ["row", "half"] (sp_turned_at_both K) := by
  obtain ⟨f, fd, F, b, g⟩ := D
  refine ⟨f, fd, F, b, g, F.ok sc_turned_at_both (fun vs H Q E h => ?_) (fun cdv A outer s H vs Q E hr h => ?_)⟩
  · obtain ⟨r, h, rfl, _⟩ := h
    rfl
  · obtain ⟨r, h, rfl, hl, q⟩ := h
    refine ⟨_, (pss_cons (ps_set (i := 2) sc_turned_at_both.nd rfl (.inl rfl) (pe_lst pa_nil))
      (pss_cons (ps_for PassesOwn.never rfl (Hid.pi_zs (by rfl) m_zip (pa_cons (pv 0) (pa_cons (pv 1) pa_nil))) (pg_tup (by rfl) (pgs_cons (pg_name (i := 3) sc_turned_at_both.nd rfl (.inl rfl)) (pgs_cons (pg_name (i := 4) sc_turned_at_both.nd rfl (.inl rfl)) pgs_nil)))
      (pss_one (ps_if (pt_cmpR op_eq (pv 3) pe_str (nomark _))
      (pss_one (ps_expr (pe_bm PySem.F.plainAttrs_list PySem.F.slot_list_append PySem.F.type_list_append mt_append (pv 2) (pa_cons (pe_ifExp (pt_cmpR op_eq (pv 4) pe_str (nomark _)) pe_str pe_str) pa_nil))))
      (pss_one (ps_expr (pe_bm PySem.F.plainAttrs_list PySem.F.slot_list_append PySem.F.type_list_append mt_append (pv 2) (pa_cons (pv 4) pa_nil)))))))
      (pss_one (ps_ret (pe_join pe_str (pv 2)))))), ?_⟩
    have hsz : (tx r).cps.size = r.length := by simp [tx]
    have hsz2 : (tx h).cps.size = h.length := by simp [tx]
    refine q_asgL (el_lst ea_nil (by decide)) fun l H1 hl0 e1 h1 => ?_
    refine ⟨_, rfl, _, rfl, tx r, tx h, rfl, for_zs (n := r.length) (by rw [hsz, hsz2]; omega) (fun i σ' H' => ∃ y3 y4, σ' = [some (.str (tx r)), some (.str (tx h)), some (.ref l), y3, y4] ∧ Ex H H' ∧ H' l = some (.lst (vs1 ((turned r h).take i)))) ⟨_, _, rfl, e1, h1⟩ (fun i c d T σ' H2 hi hc hd hT hP => ?_) (fun σ' H2 hP => ?_)⟩
    · obtain ⟨y3, y4, rfl, e2, h2⟩ := hP
      have hc' : r[i]? = some c := by simpa [tx] using hc
      have hd' : h[i]? = some d := by simpa [tx] using hd
      have hlt : l ≠ T := ne_of_none h2 hT
      have h3 : (upd H2 T (.tup [.str (sg1 c), .str (sg1 d)])) l = some (.lst (vs1 ((turned r h).take i))) := by rw [upd_ne hlt]; exact h2
      have hget : (turned r h)[i]? = some (tw c d) := by unfold turned; rw [List.getElem?_zipWith, hc', hd']
      have hlen : (vs1 ((turned r h).take i)).length < 100000 := by rw [List.length_map, List.length_take]; omega
      have hnext : ∀ H4, Ex (upd H2 T (.tup [.str (sg1 c), .str (sg1 d)])) H4 → ∃ y3 y4, [some (V.str (tx r)), some (.str (tx h)), some (.ref l), some (.str (sg1 c)), some (.str (sg1 d))] = [some (V.str (tx r)), some (.str (tx h)), some (.ref l), y3, y4] ∧ Ex H (upd H4 l (.lst (vs1 ((turned r h).take i) ++ [.str (sg1 (tw c d))]))) ∧ (upd H4 l (.lst (vs1 ((turned r h).take i) ++ [.str (sg1 (tw c d))]))) l = some (.lst (vs1 ((turned r h).take (i + 1)))) := by
        intro H4 e4
        refine ⟨_, _, rfl, ((e2.trans (Ex.new hT)).trans e4).mut hl0, ?_⟩
        rw [upd_same, List.take_add_one, hget]
        show _ = some (HO.lst (List.map _ _))
        rw [List.map_append]
        rfl
      refine ⟨T, [.str (sg1 c), .str (sg1 d)], rfl, st_of upd_same, rfl, _, _, rfl, _, _, rfl, rfl, ?_⟩
      refine s_if (et_is (et_test (ev_op (ev_var rfl) ev_c (rv_eq rfl))) (str1_dec c 98)) (fun hb H4 e4 => ?_) (fun hb H4 e4 => ?_)
      · have hb' : c = 98 := of_decide_eq_true hb
        refine s_app (v := .str (sg1 (tw c d))) (e4 _ _ h3) (ev_var rfl) (ev_if (et_is (et_test (ev_op (ev_var rfl) ev_c (rv_eq rfl))) (str1_dec d 110)) (fun hd2 => ev_is ev_c ?_) (fun hd2 => ev_is ev_c ?_)) hlen fun H5 e5 => hnext H5 (e4.trans e5)
        · unfold tw; rw [if_pos hb', if_pos (of_decide_eq_true hd2)]; rfl
        · unfold tw; rw [if_pos hb', if_neg (of_decide_eq_false hd2)]; rfl
      · have hb' : c ≠ 98 := of_decide_eq_false hb
        refine s_app (v := .str (sg1 (tw c d))) (e4 _ _ h3) (ev_var rfl) (ev_is (ev_var rfl) ?_) hlen fun H5 e5 => hnext H5 (e4.trans e5)
        unfold tw; rw [if_neg hb']
    · obtain ⟨y3, y4, rfl, e2, h2⟩ := hP
      have hrl := turned_len r h hl.1
      rw [List.take_of_length_le (by omega)] at h2
      exact ⟨⟨_, rfl⟩, _, rfl, r_join (sq_of h2) (by omega) (q H2 e2)⟩
def sp_many_partings (K : PySem.W.Frag) : Sp := fun vs H Q _ => ∃ r : List Nat, vs = [.str (tx r)] ∧ r.length ≤ 1000 ∧ RetV (.int (many r)) H Q
theorem ok_many_partings (D : Df K mg "many_partings" st_many_partings ["row"]) (m_max : mg "max" = none) : At P w K mg base "many_partings" st_many_partings 1 ["row"] (sp_many_partings K) := by
  obtain ⟨f, fd, F, b, g⟩ := D
  refine ⟨f, fd, F, b, g, F.ok sc_many_partings (fun vs H Q E h => ?_) (fun cdv A outer s H vs Q E hr h => ?_)⟩
  · obtain ⟨r, rfl, _⟩ := h
    rfl
  · obtain ⟨r, rfl, hl, q⟩ := h
    refine ⟨_, (pss_one (ps_ret (pe_op op_shl pe_int (pe_callB (call_max2 rfl) (by rfl) m_max (by decide +kernel) (pa_cons pe_int (pa_cons (pe_op op_sub (pe_m1 PySem.F.slot_str_count PySem.F.type_str_count mt_count (pv 0) pe_str) pe_int) pa_nil)))))), ?_⟩
    have hcnt : Ev (tM1 (fun x xs H Q => ∃ a b, x = .str a ∧ xs = [.str b] ∧ Q (.int (Txt.count a b)) H) (tVar 0) (tC (.str "b"))) [some (.str (tx r))] H (.int (r.count 98)) := fun H1 e1 Q1 q1 => ⟨_, rfl, ⟨_, rfl⟩, tx r, "b", rfl, rfl, by
      have := count_one (tx r) 98
      rw [show (tx r).cps.toList = r by simp [tx]] at this
      rw [show Txt.count (tx r) "b" = (r.count 98 : Int) from this]
      exact q1 H1 (Ex.refl _)⟩
    have hc : r.count 98 ≤ r.length := List.count_le_length
    refine s_ret (ev_is (ev_op ev_c (ev_max2 ev_c (ev_op hcnt ev_c rv_I0)) (rv_I ⟨?_, ?_, by decide⟩)) ?_) fun H1 e1 => q H1 e1
    · split <;> omega
    · split <;> omega
    · unfold many
      have e : (if (r.count 98 : Int) - 1 > 0 then (r.count 98 : Int) - 1 else 0).toNat = r.count 98 - 1 := by split <;> omega
      show V.int (1 * 2 ^ (if (r.count 98 : Int) - 1 > 0 then (r.count 98 : Int) - 1 else 0).toNat) = _
      rw [e, Int.one_mul, Int.natCast_pow]
      rfl
def sp_is_whole (K : PySem.W.Frag) : Sp := fun vs H Q _ => ∃ i : Int, vs = [.int i] ∧ RetV (.bl true) H Q
theorem ok_is_whole (D : Df K mg "is_whole" st_is_whole ["thing"]) (m_isinstance : mg "isinstance" = none) (m_bool : mg "bool" = none) (m_int : mg "int" = none) : At P w K mg base "is_whole" st_is_whole 1 ["thing"] (sp_is_whole K) := by
  obtain ⟨f, fd, F, b, g⟩ := D
  refine ⟨f, fd, F, b, g, F.ok sc_is_whole (fun vs H Q E h => ?_) (fun cdv A outer s H vs Q E hr h => ?_)⟩
  · obtain ⟨i, rfl, _⟩ := h
    rfl
  · obtain ⟨i, rfl, q⟩ := h
    refine ⟨_, (pss_one (ps_ret (pe_and (pe_callB call_isi (by rfl) m_isinstance (by decide +kernel) (pa_cons (pv 0) (pa_cons (pe_bltn (v := .ty "int") (by rfl) m_int (by decide +kernel) rfl) pa_nil))) (pe_one (pe_not (pe_callB call_isi (by rfl) m_isinstance (by decide +kernel) (pa_cons (pv 0) (pa_cons (pe_bltn (v := .ty "bool") (by rfl) m_bool (by decide +kernel) rfl) pa_nil)))))))), ?_⟩
    exact s_ret (ev_andV (ev_isi (ev_var rfl) (fun _ _ => .base (.int i)) (b := true) (by decide +kernel)) fun _ => ev_notV (ev_isi (ev_var rfl) (fun _ _ => .base (.int i)) (b := false) (by decide +kernel))) fun H1 e1 => q H1 e1
def sp_lesser_half (K : PySem.W.Frag) : Sp := fun vs H Q _ => ∃ (r : List Nat) (n : Nat), vs = [.str (tx r), .int (n : Nat)] ∧ r.length ≤ 1000 ∧ RetV (.str (tx (lesser r n))) H Q
theorem ok_lesser_half {tHS : Tok} (D : Df K mg "lesser_half" st_lesser_half ["row", "number"]) (m_reversed : mg "reversed" = none) (c_HALF_SIGNS : mg "HALF_SIGNS" = some (.str "ny" tHS)) : At P w K mg base "lesser_half" st_lesser_half 1 ["row", "number"] (sp_lesser_half K) := by
  obtain ⟨f, fd, F, b, g⟩ := D
  refine ⟨f, fd, F, b, g, F.ok sc_lesser_half (fun vs H Q E h => ?_) (fun cdv A outer s H vs Q E hr h => ?_)⟩
  · obtain ⟨r, n, rfl, _⟩ := h
    rfl
  · obtain ⟨r, n, rfl, hl, q⟩ := h
    refine ⟨_, (pss_cons (ps_set (i := 2) sc_lesser_half.nd rfl (.inl rfl) (pe_lst pa_nil))
      (pss_cons (ps_set (i := 3) sc_lesser_half.nd rfl (.inl rfl) (pv 1))
      (pss_cons (ps_for PassesOwn.never rfl (Hid.pi_rs (by rfl) m_reversed (pv 0)) (pg_name (i := 4) sc_lesser_half.nd rfl (.inl rfl))
      (pss_one (ps_if (pt_cmpR op_eq (pv 4) pe_str (nomark _))
      (pss_cons (ps_expr (pe_bm PySem.F.plainAttrs_list PySem.F.slot_list_append PySem.F.type_list_append mt_append (pv 2) (pa_cons (pe_ix ix_str (pe_glob (v := .str "ny") (by rfl) c_HALF_SIGNS ⟨_, rfl⟩) (pe_op op_and (pv 3) pe_int) (fun _ _ => rfl)) pa_nil)))
      (pss_one (ps_aug (i := 3) sc_lesser_half.nd rfl (.inl rfl) pe_int Hid.ip_shr)))
      (pss_one (ps_expr (pe_bm PySem.F.plainAttrs_list PySem.F.slot_list_append PySem.F.type_list_append mt_append (pv 2) (pa_cons (pv 4) pa_nil)))))))
      (pss_one (ps_ret (Hid.pe_joinRev rfl (by rfl) m_reversed pe_str (pv 2))))))), ?_⟩
    have hsz : (tx r).cps.size = r.length := by simp [tx]
    refine q_asgL (el_lst ea_nil (by decide)) fun l H1 hl0 e1 h1 => ?_
    refine q_asg (ev_var rfl) fun H2 e2 => ?_
    refine ⟨_, rfl, tx r, rfl, Nat.le_trans (show (tx r).length ≤ 1000 by show (tx r).cps.size ≤ 1000; omega) (by decide), for_rs (fun i σ' H' => ∃ (k : Nat) (y4 : Option V) (ss : List Nat), σ' = [some (.str (tx r)), some (.int (n : Nat)), some (.ref l), some (.int (k : Nat)), y4] ∧ Ex H H' ∧ H' l = some (.lst (vs1 ss)) ∧ ss ++ lesR (r.reverse.drop i) k = lesR r.reverse n ∧ ss.length = i)
      ⟨n, none, [], rfl, e1.trans e2, e2 _ _ h1, rfl, rfl⟩ (fun i c σ' H3 hi hc hP => ?_) (fun σ' H3 hP => ?_)⟩
    · obtain ⟨k, y4, ss, rfl, e3, h3, hss, hsl⟩ := hP
      rw [hsz] at hi hc
      have hc' : r.reverse[i]? = some c := by
        rw [List.getElem?_reverse hi]
        simpa [tx] using hc
      have hdrop : r.reverse.drop i = c :: r.reverse.drop (i + 1) := by
        obtain ⟨hlt, he⟩ := List.getElem?_eq_some_iff.mp hc'
        rw [List.drop_eq_getElem_cons hlt, he]
      rw [hdrop] at hss
      have hlen : (vs1 ss).length < 100000 := by rw [List.length_map]; omega
      have happ : ∀ d : Nat, vs1 ss ++ [V.str (sg1 d)] = vs1 (ss ++ [d]) := fun d => by
        show _ = List.map _ _
        rw [List.map_append]
        rfl
      refine s_if (et_is (et_test (ev_op (ev_var rfl) ev_c (rv_eq rfl))) (str1_dec c 98)) (fun hb H4 e4 => ?_) (fun hb H4 e4 => ?_)
      · have hb' : c = 98 := of_decide_eq_true hb
        rw [show lesR (c :: r.reverse.drop (i + 1)) k = sgn k :: lesR (r.reverse.drop (i + 1)) (k / 2) by conv => lhs; unfold lesR; rw [if_pos hb']] at hss
        refine q_app (v := .str (sg1 (sgn k))) (e4 _ _ h3) (ev_var rfl) (ev_op ev_c (ev_op (ev_var rfl) ev_c rv_I0) (rv_ixS (by decide) ?_)) hlen fun H5 e5 => ?_
        · rw [bitAnd_pp (Int.natCast_nonneg k) (by decide)]
          have : ((k : Int).toNat &&& (1 : Int).toNat : Nat) = k % 2 := by
            rw [Int.toNat_natCast]
            exact Nat.and_one_is_mod k
          rw [this]
          unfold sgn
          rcases Nat.mod_two_eq_zero_or_one k with h | h <;> rw [h] <;> rfl
        · refine ⟨_, rfl, k, 1, rfl, rfl, (by show (0 : Int) ≤ 1; decide), k / 2, some (.str (sg1 c)), ss ++ [sgn k], ?_, (e3.trans e4 |>.trans e5).mut hl0, ?_, ?_, ?_⟩
          · show [_, _, _, some (V.int ((k : Int) / 2 ^ (1 : Int).toNat)), _] = _
            have : ((k : Int) / 2 ^ (1 : Int).toNat) = ((k / 2 : Nat) : Int) := by
              show (k : Int) / 2 = _
              omega
            rw [this] <;> rfl
          · rw [upd_same, happ]
          · rw [List.append_assoc]
            exact hss
          · rw [List.length_append, hsl]
            rfl
      · have hb' : c ≠ 98 := of_decide_eq_false hb
        rw [show lesR (c :: r.reverse.drop (i + 1)) k = c :: lesR (r.reverse.drop (i + 1)) k by conv => lhs; unfold lesR; rw [if_neg hb']] at hss
        refine s_app (v := .str (sg1 c)) (e4 _ _ h3) (ev_var rfl) (ev_var rfl) hlen fun H5 e5 => ?_
        refine ⟨k, _, ss ++ [c], rfl, (e3.trans e4 |>.trans e5).mut hl0, ?_, ?_, ?_⟩
        · rw [upd_same, happ]
        · rw [List.append_assoc]
          exact hss
        · rw [List.length_append, hsl]
          rfl
    · obtain ⟨k, y4, ss, rfl, e3, h3, hss, hsl⟩ := hP
      rw [hsz] at hss hsl
      rw [List.drop_eq_nil_of_le (by rw [List.length_reverse]; exact Nat.le_refl _)] at hss
      have hss2 : ss = lesR r.reverse n := by
        rw [← hss]
        show ss = ss ++ []
        rw [List.append_nil]
      refine ⟨tx [], rfl, _, rfl, l, ss.map sg1, rfl, by rw [← vs1_str]; exact sq_of h3, ?_, ?_⟩
      · rw [sg1_len]
        show ss.length + _ * 0 ≤ 16777216
        omega
      · rw [← List.map_reverse, join_one, hss2]
        exact q H3 e3
def sp_parting_at (K : PySem.W.Frag) : Sp := fun vs H Q _ => ∃ (r : List Nat) (n : Nat), vs = [.str (tx r), .int (n : Nat)] ∧ (r.length ≤ 1000 ∧ n < many r) ∧ ∀ p H2, H p = none → Ex H H2 → H2 p = some (.tup [.str (tx (part r n).1), .str (tx (part r n).2)]) → Q (.ref p) H2
theorem ok_parting_at (D : Df K mg "parting_at" st_parting_at ["row", "number"]) (A_many_partings : At P w K mg base "many_partings" st_many_partings 1 ["row"] (sp_many_partings K)) (A_is_whole : At P w K mg base "is_whole" st_is_whole 1 ["thing"] (sp_is_whole K)) (A_lesser_half : At P w K mg base "lesser_half" st_lesser_half 1 ["row", "number"] (sp_lesser_half K)) (A_turned_at_both : At P w K mg base "turned_at_both" st_turned_at_both 1 ["row", "half"] (sp_turned_at_both K)) : At P w K mg base "parting_at" st_parting_at 2 ["row", "number"] (sp_parting_at K) := by
  obtain ⟨f, fd, F, b, g⟩ := D
  obtain ⟨f_many_partings, fd_many_partings, F_many_partings, b_many_partings, g_many_partings, G_many_partings⟩ := A_many_partings
  obtain ⟨f_is_whole, fd_is_whole, F_is_whole, b_is_whole, g_is_whole, G_is_whole⟩ := A_is_whole
  obtain ⟨f_lesser_half, fd_lesser_half, F_lesser_half, b_lesser_half, g_lesser_half, G_lesser_half⟩ := A_lesser_half
  obtain ⟨f_turned_at_both, fd_turned_at_both, F_turned_at_both, b_turned_at_both, g_turned_at_both, G_turned_at_both⟩ := A_turned_at_both
  refine ⟨f, fd, F, b, g, F.ok sc_parting_at (fun vs H Q E h => ?_) (fun cdv A outer s H vs Q E hr h => ?_)⟩
  · obtain ⟨r, n, rfl, _⟩ := h
    rfl
  · obtain ⟨r, n, rfl, hl, q⟩ := h
    refine ⟨_, (pss_cons (ps_if (PW.pt (pw_or (pt_not (pt_val (pe_call G_is_whole (hr.mono (by decide)) (by rfl) g_is_whole F_is_whole.kp b_is_whole .nil pass0 (pa_cons (pv 1) pa_nil)))) (pw_or1 (pt_not (pt_chain op_le op_lt pe_int (pv 1) (pe_call G_many_partings (hr.mono (by decide)) (by rfl) g_many_partings F_many_partings.kp b_many_partings .nil pass0 (pa_cons (pv 0) pa_nil)))))))
      (pss_one ps_never)
      pss_nil)
      (pss_cons (ps_set (i := 2) sc_parting_at.nd rfl (.inl rfl) (pe_call G_lesser_half (hr.mono (by decide)) (by rfl) g_lesser_half F_lesser_half.kp b_lesser_half .nil pass0 (pa_cons (pv 0) (pa_cons (pv 1) pa_nil))))
      (pss_one (ps_ret (pe_tup (pa_cons (pv 2) (pa_cons (pe_call G_turned_at_both (hr.mono (by decide)) (by rfl) g_turned_at_both F_turned_at_both.kp b_turned_at_both .nil pass0 (pa_cons (pv 0) (pa_cons (pv 2) pa_nil))) pa_nil))))))), ?_⟩
    refine q_when (et_or (et_not (et_B (ev_call (ea_cons (ev_var rfl) ea_nil) (z := .bl true) fun Hx ex Qx qx Ee => ⟨_, rfl, qx⟩))) fun _ => et_not (et_test (ev_chain ev_c (ev_var rfl) rv_I0 (fun _ => ev_call (ea_cons (ev_var rfl) ea_nil) (z := .int (many r)) fun Hx ex Qx qx Ee => ⟨r, rfl, hl.1, qx⟩) fun _ => rv_I0))) (fun hb H1 e1 => ?_) (fun hb H1 e1 => ?_)
    · exfalso
      have c1 : decide ((0 : Int) ≤ (n : Int)) = true := decide_eq_true (Int.natCast_nonneg n)
      have c2 : decide ((n : Int) < (many r : Int)) = true := decide_eq_true (Int.ofNat_lt.mpr hl.2)
      rw [c1, c2] at hb
      cases hb
    · refine q_asg (ev_call (ea_cons (ev_var rfl) (ea_cons (ev_var rfl) ea_nil)) (z := .str (tx (lesser r n))) fun Hx ex Qx qx Ee => ⟨r, n, rfl, hl.1, qx⟩) fun H2 e2 => ?_
      exact s_retU (eu_tup (ea_cons (ev_var rfl) (ea_cons (ev_call (ea_cons (ev_var rfl) (ea_cons (ev_var rfl) ea_nil)) (z := .str (tx (turned r (lesser r n)))) fun Hx ex Qx qx Ee => ⟨r, lesser r n, rfl, ⟨lesser_len r n, hl.1⟩, qx⟩) ea_nil)) (by show 2 ≤ 100000; decide)) fun p H3 hp e3 h3 => q p H3 (fresh_back (e1.trans e2) hp) ((e1.trans e2).trans e3) h3
def sp_partings_of (K : PySem.W.Frag) : Sp := fun vs H Q _ => ∃ r : List Nat, vs = [.str (tx r)] ∧ (r.length ≤ 1000 ∧ many r ≤ 1000) ∧ ∀ p H2 vs2, H p = none → Ex H H2 → H2 p = some (.lst vs2) → Prs K H2 vs2 ((List.range (many r)).map (part r)) → Q (.ref p) H2
theorem ok_partings_of (D : Df K mg "partings_of" st_partings_of ["row"]) (m_range : mg "range" = none) (A_many_partings : At P w K mg base "many_partings" st_many_partings 1 ["row"] (sp_many_partings K)) (A_parting_at : At P w K mg base "parting_at" st_parting_at 2 ["row", "number"] (sp_parting_at K)) : At P w K mg base "partings_of" st_partings_of 3 ["row"] (sp_partings_of K) := by
  obtain ⟨f, fd, F, b, g⟩ := D
  obtain ⟨f_many_partings, fd_many_partings, F_many_partings, b_many_partings, g_many_partings, G_many_partings⟩ := A_many_partings
  obtain ⟨f_parting_at, fd_parting_at, F_parting_at, b_parting_at, g_parting_at, G_parting_at⟩ := A_parting_at
  refine ⟨f, fd, F, b, g, F.ok sc_partings_of (fun vs H Q E h => ?_) (fun cdv A outer s H vs Q E hr h => ?_)⟩
  · obtain ⟨r, rfl, _⟩ := h
    rfl
  · obtain ⟨r, rfl, hl, q⟩ := h
    refine ⟨_, (pss_one (ps_ret (pe_lc (own := [("number", 1)]) (g := gName 1) (by rfl) sc_partings_of.nd (pi_range1 (by rfl) m_range (pa_cons (pe_call G_many_partings (hr.mono (by decide)) (by rfl) g_many_partings F_many_partings.kp b_many_partings .nil pass0 (pa_cons (pv 0) pa_nil)) pa_nil)) (blkOk_by (N := ["row", "number"]) (sc := defScope st_partings_of) (by decide +kernel)) (fun _ _ _ _ _ => (pg_name (i := 1) sc_partings_of.nd rfl (.inl rfl))) (fun _ _ _ _ _ => pts_nil) (fun _ _ _ _ _ => (pe_call G_parting_at (hr.mono (by decide)) (by rfl) g_parting_at F_parting_at.kp b_parting_at .nil pass0 (pa_cons (pv 0) (pa_cons (pv 1) pa_nil))))))), ?_⟩
    refine ⟨_, rfl, ⟨r, rfl, hl.1, fun H1 e1 => ⟨_, rfl, by omega, by omega, fun D hD => ?_⟩⟩⟩
    rw [Int.toNat_natCast]
    refine lc_range (lo := 0) (n := many r) (fun i H' => Ex H H' ∧ ∃ vs2, H' D = some (.lst vs2) ∧ Prs K H' vs2 ((List.range i).map (part r))) ⟨e1.trans (Ex.new hD), [], upd_same, .nil⟩ (fun i H2 hi hP => ?_) (fun H2 hP => ?_)
    · obtain ⟨e2, vs2, h2, hp2⟩ := hP
      have hlen := paired_len hp2
      rw [List.length_map, List.length_range] at hlen
      have e0 : (0 : Int) + (i : Int) = (i : Int) := Int.zero_add _
      refine ⟨rfl, tyes ⟨_, rfl, _, rfl, r, i, by rw [e0]; rfl, ⟨hl.1, hi⟩, fun p H3 hp e3 h3 => ⟨vs2, e3 _ _ h2, sz_lt (by omega), (e2.trans e3).mut (fresh_back e1 hD), vs2 ++ [.ref p], upd_same, ?_⟩⟩⟩
      rw [List.range_succ, List.map_append]
      exact Prs.upd (e3 _ _ h2) (paired_app (hp2.ex e3) (.cons ⟨p, rfl, h3⟩ .nil))
    · obtain ⟨e2, vs2, h2, hp2⟩ := hP
      exact q D H2 vs2 (fresh_back e1 hD) e2 h2 hp2
end
end Hid

namespace Hid
open PySem PySem.Spec PyProof.Rows L2 Evl
theorem mul_b (n : Int) (h : 1 ≤ n) : Txt.mul "b" n = tx (List.replicate n.toNat 98) := by
  unfold Txt.mul
  rw [if_neg (by omega)]
  by_cases h1 : n = 1
  · subst h1
    rfl
  · have hc : (n == 1 || ("b" : Str).length == 0) = false := by
      have : (n == 1) = false := by simpa using h1
      rw [this]
      rfl
    rw [hc, if_neg Bool.false_ne_true]
    have : ∀ (k : Nat) (acc : Array Nat), (List.replicate k ("b" : Str).cps).foldl (· ++ ·) acc = acc ++ (List.replicate k 98).toArray := by
      intro k
      induction k with
      | zero => intro acc; simp
      | succ k ih =>
        intro acc
        rw [List.replicate_succ, List.foldl_cons, ih, List.replicate_succ]
        have : ("b" : Str).cps = #[98] := rfl
        rw [this]
        exact Array.toList_inj.mp (by simp)
    rw [this]
    simp [tx]
section
variable {P : Program} {w : World} {K : PySem.W.Frag} {mg : Str → Option Value} {base : Heap}
def sp__law_any_row (K : PySem.W.Frag) : Sp := fun vs H Q _ => ∃ (a : Addr) (xs : List Int) (n : Nat), vs = [.ref a, .int (n : Nat)] ∧ SqL K H a (xs.map V.int) ∧ (n ≤ xs.length ∧ n ≤ 1000) ∧ ∀ l : List Nat, l.length = n → (∀ c ∈ l, c = 110 ∨ c = 98 ∨ c = 121) → RetV (.str (tx l)) H Q
theorem ok__law_any_row (D : Df K mg "_law_any_row" st__law_any_row ["_law_xs", "_law_places"]) (m_range : mg "range" = none) : At P w K mg base "_law_any_row" st__law_any_row 1 ["_law_xs", "_law_places"] (sp__law_any_row K) := by
  obtain ⟨f, fd, F, b, g⟩ := D
  refine ⟨f, fd, F, b, g, F.ok sc__law_any_row (fun vs H Q E h => ?_) (fun cdv A outer s H vs Q E hr h => ?_)⟩
  · obtain ⟨a, xs, n, rfl, _⟩ := h
    rfl
  · obtain ⟨a, xs, n, rfl, hS, hn, q⟩ := h
    refine ⟨_, (pss_one (ps_ret (pe_join pe_str (pe_lc (own := [("_law_k", 2)]) (g := gName 2) (by rfl) sc__law_any_row.nd (pi_range1 (by rfl) m_range (pa_cons (pv 1) pa_nil)) (blkOk_by (N := ["_law_xs", "_law_places", "_law_k"]) (sc := defScope st__law_any_row) (by decide +kernel)) (fun _ _ _ _ _ => (pg_name (i := 2) sc__law_any_row.nd rfl (.inl rfl))) (fun _ _ _ _ _ => pts_nil) (fun _ _ _ _ _ => (pe_ix ix_str pe_str (pe_op op_mod (pe_ix (show IxR _ (rIxL K) from ix_list) (pv 0) (pv 2) (fun _ _ => rfl)) pe_int) (fun _ _ => rfl))))))), ?_⟩
    refine ⟨⟨_, rfl⟩, ?_⟩
    have hcd : ∀ x : Int, atI ("nbybn" : Str).cps.toList (x % 5) = some ([110, 98, 121, 98, 110].getD (x % 5).toNat 110) := fun x => by
      have h0 := Int.emod_nonneg x (show (5 : Int) ≠ 0 by decide)
      have h1 := Int.emod_lt_of_pos x (show (0 : Int) < 5 by decide)
      generalize x % 5 = y at h0 h1
      have : y = 0 ∨ y = 1 ∨ y = 2 ∨ y = 3 ∨ y = 4 := by omega
      rcases this with h | h | h | h | h <;> subst h <;> rfl
    have hcm : ∀ x : Int, ([110, 98, 121, 98, 110].getD (x % 5).toNat 110 = 110 ∨ [110, 98, 121, 98, 110].getD (x % 5).toNat 110 = 98 ∨ [110, 98, 121, 98, 110].getD (x % 5).toNat 110 = 121) := fun x => by
      have h0 := Int.emod_nonneg x (show (5 : Int) ≠ 0 by decide)
      have h1 := Int.emod_lt_of_pos x (show (0 : Int) < 5 by decide)
      generalize x % 5 = y at h0 h1
      have : y = 0 ∨ y = 1 ∨ y = 2 ∨ y = 3 ∨ y = 4 := by omega
      rcases this with h | h | h | h | h <;> subst h <;> decide
    refine (el_lcR1 (fun _ => true) (fun i => V.str (sg1 ([110, 98, 121, 98, 110].getD (xs.getD i 0 % 5).toNat 110))) (ea_cons (ev_var rfl) ea_nil) ⟨by omega, by omega⟩ (fun _ => rfl) (fun i H1 e1 hi => et_yes) (fun i H1 e1 hi _ => ?_)) H (Ex.refl _) _ fun p H2 hp e2 h2 => ?_
    · have hi' : i < xs.length := by omega
      refine ev_op ev_c (ev_op (ev_op (ev_var rfl) (ev_var rfl) (rv_ixL (ex_l e1 hS) (v := .int (xs.getD i 0)) ?_)) ev_c (rv_I (by show (0 : Int) < 5; decide))) (rv_ixS (by decide) (hcd _))
      refine atI_nat ?_
      rw [List.getElem?_map, List.getD_eq_getElem?_getD, List.getElem?_eq_getElem hi']
      rfl
    · rw [Int.toNat_natCast, given_true] at h2
      have e : (List.range n).map (fun i => V.str (sg1 ([110, 98, 121, 98, 110].getD (xs.getD i 0 % 5).toNat 110))) = vs1 ((List.range n).map fun i => [110, 98, 121, 98, 110].getD (xs.getD i 0 % 5).toNat 110) := by
        show _ = List.map _ _
        rw [List.map_map]
        rfl
      rw [e] at h2
      refine r_join (sq_of h2) (by rw [List.length_map, List.length_range]; omega) (q _ (by rw [List.length_map, List.length_range]) (fun c hc => ?_) H2 e2)
      obtain ⟨i, _, rfl⟩ := List.mem_map.mp hc
      exact hcm _
def sp__law_drawn_rows (K : PySem.W.Frag) : Sp := fun vs H Q _ => ∃ (a : Addr) (ns : List Int) (n : Int), vs = [.ref a, .int n] ∧ SqL K H a (ns.map V.int) ∧ (0 ≤ n ∧ n ≤ 100) ∧ ∀ rs : List (List Nat), rs.length ≤ 1000 → (∀ r ∈ rs, RowL r) → RetL (rs.map fun r => .str (tx r)) H Q
theorem ok__law_drawn_rows (D : Df K mg "_law_drawn_rows" st__law_drawn_rows ["_law_script", "_law_amount"]) (m_range : mg "range" = none) (A__law_numbers : At P w K mg base "_law_numbers" st__law_numbers 1 ["_law_cell_here", "_law_many"] (sp__law_numbers K)) (A__law_cell : At P w K mg base "_law_cell" st__law_cell 1 ["_law_script", "_law_k"] (sp__law_cell K)) (A__law_any_row : At P w K mg base "_law_any_row" st__law_any_row 1 ["_law_xs", "_law_places"] (sp__law_any_row K)) : At P w K mg base "_law_drawn_rows" st__law_drawn_rows 2 ["_law_script", "_law_amount"] (sp__law_drawn_rows K) := by
  obtain ⟨f, fd, F, b, g⟩ := D
  obtain ⟨f__law_numbers, fd__law_numbers, F__law_numbers, b__law_numbers, g__law_numbers, G__law_numbers⟩ := A__law_numbers
  obtain ⟨f__law_cell, fd__law_cell, F__law_cell, b__law_cell, g__law_cell, G__law_cell⟩ := A__law_cell
  obtain ⟨f__law_any_row, fd__law_any_row, F__law_any_row, b__law_any_row, g__law_any_row, G__law_any_row⟩ := A__law_any_row
  refine ⟨f, fd, F, b, g, F.ok sc__law_drawn_rows (fun vs H Q E h => ?_) (fun cdv A outer s H vs Q E hr h => ?_)⟩
  · obtain ⟨a, ns, n, rfl, _⟩ := h
    rfl
  · obtain ⟨a, ns, n, rfl, hS, hn, q⟩ := h
    refine ⟨_, (pss_cons (ps_set (i := 2) sc__law_drawn_rows.nd rfl (.inl rfl) (pe_lst (pa_cons pe_str (pa_cons pe_str (pa_cons pe_str (pa_cons pe_str pa_nil))))))
      (pss_cons (ps_for PassesOwn.never rfl (pi_range1 (by rfl) m_range (pa_cons (pv 1) pa_nil)) (pg_name (i := 3) sc__law_drawn_rows.nd rfl (.inl rfl))
      (pss_cons (ps_set (i := 4) sc__law_drawn_rows.nd rfl (.inl rfl) (pe_call G__law_numbers (hr.mono (by decide)) (by rfl) g__law_numbers F__law_numbers.kp b__law_numbers .nil pass0 (pa_cons (pe_call G__law_cell (hr.mono (by decide)) (by rfl) g__law_cell F__law_cell.kp b__law_cell .nil pass0 (pa_cons (pv 0) (pa_cons (pv 3) pa_nil))) (pa_cons pe_int pa_nil))))
      (pss_cons (ps_expr (pe_bm PySem.F.plainAttrs_list PySem.F.slot_list_append PySem.F.type_list_append mt_append (pv 2) (pa_cons (pe_call G__law_any_row (hr.mono (by decide)) (by rfl) g__law_any_row F__law_any_row.kp b__law_any_row .nil pass0 (pa_cons (pv 4) (pa_cons (pe_op op_add pe_int (pe_op op_mod (pe_ix ix_list (pv 4) pe_int (fun _ _ => rfl)) pe_int)) pa_nil))) pa_nil)))
      (pss_one (ps_if (pt_cmpR op_eq (pe_op op_mod (pe_ix ix_list (pv 4) pe_int (fun _ _ => rfl)) pe_int) pe_int (nomark _))
      (pss_one (ps_expr (pe_bm PySem.F.plainAttrs_list PySem.F.slot_list_append PySem.F.type_list_append mt_append (pv 2) (pa_cons (pe_op Hid.op_mul_str pe_str (pe_op op_add pe_int (pe_op op_mod (pe_ix ix_list (pv 4) pe_int (fun _ _ => rfl)) pe_int))) pa_nil))))
      pss_nil)))))
      (pss_one (ps_ret (pv 2))))), ?_⟩
    refine q_asgL (el_lst (ea_cons ev_c (ea_cons ev_c (ea_cons ev_c (ea_cons ev_c ea_nil)))) (by decide)) fun l H1 hl0 e1 h1 => ?_
    refine q_forR1 (ea_cons (ev_var rfl) ea_nil) ⟨hn.1, by omega⟩ (fun i σ' H' => ∃ (rs : List (List Nat)) (y3 y4 : Option V), σ' = [some (.ref a), some (.int n), some (.ref l), y3, y4] ∧ Ex H H' ∧ (∀ r ∈ rs, RowL r) ∧ rs.length ≤ 4 + 2 * i ∧ H' l = some (.lst (rs.map fun r => .str (tx r)))) (fun H2 e2 => ⟨[[98], [110], [98, 98, 98, 98, 98, 98, 98, 98], [110, 121, 110, 121, 110, 121, 110, 121]], _, _, rfl, e1.trans e2, ?_, by decide, e2 _ _ h1⟩) (fun i σ' H2 hi hP => ?_) (fun σ' H2 hP => ?_)
    · intro r hr
      have : r = [98] ∨ r = [110] ∨ r = [98, 98, 98, 98, 98, 98, 98, 98] ∨ r = [110, 121, 110, 121, 110, 121, 110, 121] := by simpa using hr
      rcases this with h | h | h | h <;> subst h <;> exact ⟨by decide, by decide⟩
    · obtain ⟨rs, y3, y4, rfl, e2, hr2, hlen, h2⟩ := hP
      refine ⟨_, rfl, _, rfl, a, ns, i, rfl, ex_l e2 hS, by omega, fun c H3 e3 => ?_⟩
      refine ⟨c, 11, rfl, by decide, fun xs hxl hxp p H4 hp e4 h4 => ?_⟩
      have hx : xs.length = 11 := by omega
      have hix : ∀ (j : Nat), j < 11 → ∀ G, Ex H4 G → ∃ v : Int, 0 ≤ v ∧ atI (xs.map V.int) (j : Int) = some (.int v) := fun j hj G _ => ⟨xs[j], hxp _ (List.getElem_mem _), atI_nat (by rw [List.getElem?_map, List.getElem?_eq_getElem (by omega)]; rfl)⟩
      obtain ⟨v8, p8, a8⟩ := hix 8 (by decide) H4 (Ex.refl _)
      obtain ⟨v9, p9, a9⟩ := hix 9 (by decide) H4 (Ex.refl _)
      obtain ⟨v10, p10, a10⟩ := hix 10 (by decide) H4 (Ex.refl _)
      replace a8 : atI (xs.map V.int) 8 = some (.int v8) := a8
      replace a9 : atI (xs.map V.int) 9 = some (.int v9) := a9
      replace a10 : atI (xs.map V.int) 10 = some (.int v10) := a10
      have e24 : Ex H H4 := (e2.trans e3).trans e4
      have h4l : H4 l = some (.lst (rs.map fun r => .str (tx r))) := e4 _ _ (e3 _ _ h2)
      have hnat : (1 : Int) + v8 % 8 = ((1 + v8 % 8).toNat : Nat) := by
        have := Int.emod_nonneg v8 (show (8 : Int) ≠ 0 by decide)
        omega
      have hb8 : (1 + v8 % 8).toNat ≤ 8 ∧ 1 ≤ (1 + v8 % 8).toNat := by
        have := Int.emod_nonneg v8 (show (8 : Int) ≠ 0 by decide)
        have := Int.emod_lt_of_pos v8 (show (0 : Int) < 8 by decide)
        omega
      -- found.append(any_row(..))
      refine ⟨_, rfl, .inl ⟨rfl, _, sq_of h4l⟩, c_call1 (ea_cons (ev_var rfl) (ea_cons (ev_op ev_c (ev_op (ev_op (ev_var rfl) ev_c (rv_ixL (sq_of h4) a8)) ev_c (rv_I (by show (0 : Int) < 8; decide))) rv_I0) ea_nil)) fun G4 f4 => ⟨p, xs, (1 + v8 % 8).toNat, ?_, ex_l f4 (sq_of h4), ⟨by omega, by omega⟩, fun w hw hwc H5 e5' => ?_⟩⟩
      · show [V.ref p, V.int (1 + v8 % 8)] = _
        rw [hnat] <;> rfl
      · have e5 : Ex H4 H5 := f4.trans e5'
        have hrow : RowL w := ⟨by omega, hwc⟩
        refine ⟨l, _, _, rfl, rfl, e5 _ _ h4l, sz_lt (by rw [List.length_map]; omega), ?_⟩
        have h6 : ∀ r ∈ rs ++ [w], RowL r := fun r hr => by
          rcases List.mem_append.mp hr with h | h
          · exact hr2 r h
          · rw [List.mem_singleton.mp h]
            exact hrow
        have e6 : Ex H (upd H5 l (.lst (rs.map (fun r => V.str (tx r)) ++ [.str (tx w)]))) := (e24.trans e5).mut hl0
        have h6p : (upd H5 l (.lst (rs.map (fun r => V.str (tx r)) ++ [.str (tx w)]))) p = some (.lst (xs.map V.int)) := by
          rw [upd_ne]
          · exact e5 _ _ h4
          · intro z
            rw [z] at hp
            rw [e3 _ _ h2] at hp
            cases hp
        have h6l : (upd H5 l (.lst (rs.map (fun r => V.str (tx r)) ++ [.str (tx w)]))) l = some (.lst ((rs ++ [w]).map fun r => .str (tx r))) := by
          rw [upd_same, List.map_append] <;> rfl
        refine s_when (et_test (ev_op (ev_op (ev_op (ev_var rfl) ev_c (rv_ixL (sq_of h6p) a9)) ev_c (rv_I (by show (0 : Int) < 4; decide))) ev_c (rv_eq rfl))) (fun hb H7 e7 => ?_) (fun hb H7 e7 => ?_)
        · have hb10 : 0 ≤ 1 + v10 % 8 ∧ 1 + v10 % 8 ≤ 8 ∧ 1 ≤ 1 + v10 % 8 := by
            have := Int.emod_nonneg v10 (show (8 : Int) ≠ 0 by decide)
            have := Int.emod_lt_of_pos v10 (show (0 : Int) < 8 by decide)
            omega
          refine s_app (v := .str (tx (List.replicate (1 + v10 % 8).toNat 98))) (e7 _ _ h6l) (ev_var rfl) (ev_op ev_c (ev_op ev_c (ev_op (ev_op (ev_var rfl) ev_c (rv_ixL (ex_l e7 (sq_of h6p)) a10)) ev_c (rv_I (by show (0 : Int) < 8; decide))) rv_I0) (rv_val fun Hx ex Qx qx => ⟨_, _, rfl, rfl, hb10.1, by omega, by decide, ?_⟩)) (by rw [List.length_map]; simp; omega) fun H8 e8 => ?_
          · rw [mul_b _ hb10.2.2]
            exact qx
          · refine ⟨(rs ++ [w]) ++ [List.replicate (1 + v10 % 8).toNat 98], _, _, rfl, ((e6.trans e7).trans e8).mut hl0, fun r hr => ?_, by simp; omega, ?_⟩
            · rcases List.mem_append.mp hr with h | h
              · exact h6 r h
              · rw [List.mem_singleton.mp h]
                refine ⟨by rw [List.length_replicate]; omega, fun c hc => .inr (.inl (List.eq_of_mem_replicate hc))⟩
            · rw [upd_same, List.map_append (l₁ := rs ++ [w])] <;> rfl
        · exact ⟨rs ++ [w], _, _, rfl, e6.trans e7, h6, by simp; omega, e7 _ _ h6l⟩
    · obtain ⟨rs, y3, y4, rfl, e2, hr2, hlen, h2⟩ := hP
      exact s_ret (ev_var rfl) fun H3 e3 => q rs (by omega) hr2 l H3 hl0 (e2.trans e3) (e3 _ _ h2)
end
end Hid

namespace Hid
open PySem PySem.Spec PyProof.Rows L2 Evl
theorem evL_is {te : TE} {σ : L2.St} {H : Hp} {xs ys : List V} (h : EvL te σ H xs) (e : xs = ys) : EvL te σ H ys := by
  rw [← e]
  exact h
theorem range_rep (n : Nat) : (List.range n).map (fun _ => V.bl true) = (List.replicate n true).map V.bl := by
  rw [List.map_const', List.length_range, List.map_replicate]
theorem given_rep (n : Nat) : given n (fun _ => true) (fun _ => V.bl true) = (List.replicate n true).map V.bl := by
  rw [given_true]
  exact range_rep n
theorem rv_cat {H : Hp} {a o : List Nat} (ha : a.length ≤ 1000) (ho : o.length ≤ 1000) : RV (fun x y H Q => ∃ i j, x = .str i ∧ y = .str j ∧ i.length + j.length ≤ sizeLine ∧ Q (.str (i ++ j)) H) (.str (tx a)) (.str (tx o)) H (.str (tx (a ++ o))) := fun H1 e Q q => by
  refine ⟨tx a, tx o, rfl, rfl, ?_, ?_⟩
  · show a.toArray.size + o.toArray.size ≤ sizeLine
    rw [List.size_toArray, List.size_toArray]
    exact Nat.le_trans (Nat.add_le_add ha ho) (by decide)
  · have : tx a ++ tx o = tx (a ++ o) := by
      show (⟨a.toArray ++ o.toArray⟩ : Str) = ⟨(a ++ o).toArray⟩
      rw [List.append_toArray]
    rw [this]
    exact q H1 (Ex.refl _)
theorem paired_to {H : Hp} {vs : List V} (ps : List (List Nat × List Nat)) {K : PySem.W.Frag} (h : Prs K H vs ps) : Paired (fun (v : V) (b : Str × Str) => ∃ t, v = .ref t ∧ H t = some (.tup [.str b.1, .str b.2])) vs (ps.map fun p => (tx p.1, tx p.2)) := by
  induction h with
  | nil => exact .nil
  | cons a t ih => exact .cons a ih
theorem paired_fro {H : Hp} {K : PySem.W.Frag} : ∀ {vs : List V} (ps : List (List Nat × List Nat)), Paired (fun (v : V) (b : Str × Str) => ∃ t, v = .ref t ∧ H t = some (.tup [.str b.1, .str b.2])) vs (ps.map fun p => (tx p.1, tx p.2)) → Prs K H vs ps
  | _, [], h => by cases h; exact .nil
  | _, p :: ps, h => by
    cases h with
    | cons a t => exact .cons a (paired_fro ps t)
theorem sorted_ss (r : List Nat) : ((allP r).map fun p => (tx p.1, tx p.2)).Pairwise (fun p q => PySem.W.dataLe false encSS p q = true) := by
  rw [allP_eq, List.map_map, List.pairwise_map]
  refine List.Pairwise.imp_of_mem ?_ (List.pairwise_lt_range (n := many r))
  intro k l hk hl hkl
  refine le_ss _ _ ?_
  show (part r k).1.toArray.toList < (part r l).1.toArray.toList
  rw [List.toList_toArray, List.toList_toArray]
  exact (part_good r).2.2 k l hkl (List.mem_range.mp hl)
theorem les_small : ∀ (l : List Nat) (k : Nat), (∀ c ∈ l, c < 200) → ∀ c ∈ lesR l k, c < 200
  | [], _, _ => fun _ m => nomatch m
  | d :: l, k, h => fun c m => by
    unfold lesR at m
    split at m
    · rcases List.mem_cons.mp m with z | z
      · rw [z]
        unfold sgn
        split <;> decide
      · exact les_small l _ (fun x hx => h x (List.mem_cons_of_mem _ hx)) c z
    · rcases List.mem_cons.mp m with z | z
      · rw [z]
        exact h d List.mem_cons_self
      · exact les_small l _ (fun x hx => h x (List.mem_cons_of_mem _ hx)) c z
theorem turned_small : ∀ (r l : List Nat), (∀ c ∈ l, c < 200) → ∀ c ∈ turned r l, c < 200
  | [], _, _ => fun _ m => nomatch m
  | _ :: _, [], _ => fun _ m => nomatch m
  | d :: r, x :: l, h => fun c m => by
    have m' : c ∈ tw d x :: turned r l := m
    rcases List.mem_cons.mp m' with z | z
    · rw [z]
      unfold tw
      have := h x List.mem_cons_self
      repeat' split
      all_goals omega
    · exact turned_small r l (fun y hy => h y (List.mem_cons_of_mem _ hy)) c z
theorem part_small {r : List Nat} (h : RowL r) (k : Nat) : (∀ c ∈ (part r k).1, c < 200) ∧ ∀ c ∈ (part r k).2, c < 200 := by
  have h1 : ∀ c ∈ lesser r k, c < 200 := fun c hc => by
    unfold lesser at hc
    rw [List.mem_reverse] at hc
    refine les_small _ k (fun d hd => ?_) c hc
    rcases h.2 d (List.mem_reverse.mp hd) with z | z | z <;> rw [z] <;> decide
  exact ⟨h1, turned_small r _ h1⟩
theorem strOk_small {l : List Nat} (h : ∀ c ∈ l, c < 200) : PyData.strOk (tx l) = true := by
  unfold PyData.strOk
  rw [Array.all_eq_true]
  intro i hi
  have hi' : i < l.length := by simpa [tx] using hi
  have := h l[i] (List.getElem_mem hi')
  exact decide_eq_true (by
    show l[i] < 0x110000
    omega)
theorem shaped_ss (ps : List (List Nat × List Nat)) (hs : ∀ p ∈ ps, (∀ c ∈ p.1, c < 200) ∧ ∀ c ∈ p.2, c < 200) : SeqAt.shaped (.list (ps.map dSS)) = true := by
  have h1 : ∀ ps : List (List Nat × List Nat), (∀ p ∈ ps, (∀ c ∈ p.1, c < 200) ∧ ∀ c ∈ p.2, c < 200) → PyData.canLayAll0 (ps.map dSS) = true := by
    intro ps
    induction ps with
    | nil => intro _; rfl
    | cons p ps ih =>
      intro hs
      show (PyData.canLay0 (dSS p) && PyData.canLayAll0 (ps.map dSS)) = true
      rw [ih fun p hp => hs p (List.mem_cons_of_mem _ hp)]
      have hp := hs p List.mem_cons_self
      simp [dSS, PyData.canLay0, PyData.canLayAll0, strOk_small hp.1, strOk_small hp.2]
  have h2 : ∀ ps : List (List Nat × List Nat), PyData.depthAll (ps.map dSS) ≤ 2 := by
    intro ps
    induction ps with
    | nil => exact Nat.zero_le _
    | cons p ps ih =>
      show max (PyData.depth (dSS p)) (PyData.depthAll (ps.map dSS)) ≤ 2
      have : PyData.depth (dSS p) ≤ 2 := by simp [dSS, PyData.depth, PyData.depthAll]
      omega
  unfold SeqAt.shaped
  rw [Bool.and_eq_true]
  refine ⟨h1 ps hs, decide_eq_true ?_⟩
  have := h2 ps
  show PyData.depth (.list (ps.map dSS)) ≤ 64
  simp only [PyData.depth]
  omega
section
variable {P : Program} {w : World} {K : PySem.W.Frag} {mg : Str → Option Value} {base : Heap}
def sp__law_partings (K : PySem.W.Frag) : Sp := fun vs H Q _ => ∃ r : List Nat, vs = [.str (tx r)] ∧ r.length ≤ 8 ∧ ∀ p H2 vs2, H p = none → Ex H H2 → H2 p = some (.lst vs2) → Prs K H2 vs2 (allP r) → Q (.ref p) H2
theorem ok__law_partings (D : Df K mg "_law_partings" st__law_partings ["_law_row"]) (m_sorted : mg "sorted" = none) : At P w K mg base "_law_partings" st__law_partings 1 ["_law_row"] (sp__law_partings K) := by
  obtain ⟨f, fd, F, b, g⟩ := D
  refine ⟨f, fd, F, b, g, F.ok sc__law_partings (fun vs H Q E h => ?_) (fun cdv A outer s H vs Q E hr h => ?_)⟩
  · obtain ⟨r, rfl, _⟩ := h
    rfl
  · obtain ⟨r, rfl, hl, q⟩ := h
    refine ⟨_, (pss_cons (ps_set (i := 1) sc__law_partings.nd rfl (.inl rfl) (pe_lst (pa_cons (pe_tup (pa_cons pe_str (pa_cons pe_str pa_nil))) pa_nil)))
      (pss_cons (ps_for PassesOwn.never rfl (pi_str (pv 0)) (pg_name (i := 2) sc__law_partings.nd rfl (.inl rfl))
      (pss_cons (ps_set (i := 3) sc__law_partings.nd rfl (.inl rfl) (pe_lst pa_nil))
      (pss_cons (ps_for PassesOwn.never rfl (pi_list (pv 1)) (pg_tup (by rfl) (pgs_cons (pg_name (i := 4) sc__law_partings.nd rfl (.inl rfl)) (pgs_cons (pg_name (i := 5) sc__law_partings.nd rfl (.inl rfl)) pgs_nil)))
      (pss_one (ps_if (pt_cmpR op_ne (pv 2) pe_str (nomark _))
      (pss_one (ps_expr (pe_bm PySem.F.plainAttrs_list PySem.F.slot_list_append PySem.F.type_list_append mt_append (pv 3) (pa_cons (pe_tup (pa_cons (pe_op op_add_str (pv 4) (pv 2)) (pa_cons (pe_op op_add_str (pv 5) (pv 2)) pa_nil))) pa_nil))))
      (pss_cons (ps_expr (pe_bm PySem.F.plainAttrs_list PySem.F.slot_list_append PySem.F.type_list_append mt_append (pv 3) (pa_cons (pe_tup (pa_cons (pe_op op_add_str (pv 4) pe_str) (pa_cons (pe_op op_add_str (pv 5) pe_str) pa_nil))) pa_nil)))
      (pss_one (ps_if (pt_cmpR op_ne (pv 4) (pv 5) (nomark _))
      (pss_one (ps_expr (pe_bm PySem.F.plainAttrs_list PySem.F.slot_list_append PySem.F.type_list_append mt_append (pv 3) (pa_cons (pe_tup (pa_cons (pe_op op_add_str (pv 4) pe_str) (pa_cons (pe_op op_add_str (pv 5) pe_str) pa_nil))) pa_nil))))
      pss_nil))))))
      (pss_one (ps_set (i := 1) sc__law_partings.nd rfl (.inl rfl) (pv 3))))))
      (pss_one (ps_ret (pe_callB (Hid.cr_sortSS hr.units) (by rfl) m_sorted (by decide +kernel) (pa_cons (pv 1) pa_nil)))))), ?_⟩
    have hsz : (tx r).cps.size = r.length := by simp [tx]
    refine ⟨by show 2 ≤ sizeLine; decide, fun t0 ht0 => ⟨by show 1 ≤ sizeLine; decide, fun f0 hf0 => ?_⟩⟩
    have e00 : Ex H (upd (upd H t0 (.tup [.str "", .str ""])) f0 (.lst [.ref t0])) := (Ex.new ht0).trans (Ex.new hf0)
    have hf00 : H f0 = none := fresh_back (Ex.new ht0) hf0
    refine ⟨_, rfl, tx r, rfl, for_it walk_str (fun i σ' H' => ∃ (fa : Addr) (vs2 : List V) (y2 y3 y4 y5 : Option V), σ' = [some (.str (tx r)), some (.ref fa), y2, y3, y4, y5] ∧ Ex H H' ∧ H fa = none ∧ H' fa = some (.lst vs2) ∧ Prs K H' vs2 (allP (r.take i)))
      ⟨f0, [.ref t0], none, none, none, none, rfl, e00, hf00, upd_same, .cons ⟨t0, rfl, (Ex.new hf0) _ _ upd_same⟩ .nil⟩ (fun _ _ _ _ _ => trivial) (fun i x σ' H1 H1' hi hP hY => ?_) (fun σ' H1 hP => ?_)⟩
    · obtain ⟨fa, vs2, y2, y3, y4, y5, rfl, e1, hfa, h1, hp1⟩ := hP
      obtain ⟨rfl, c, hc, rfl⟩ := hY
      rw [hsz] at hi
      have hc' : r[i]? = some c := by simpa [tx] using hc
      have hsn : allP (r.take (i + 1)) = (allP (r.take i)).flatMap (grow c) := by
        rw [List.take_add_one, hc']
        exact allP_snoc _ _
      have hplen : ∀ p ∈ allP (r.take i), p.1.length ≤ 8 ∧ p.2.length ≤ 8 := fun p hp => by
        rw [allP_eq] at hp
        obtain ⟨k, _, rfl⟩ := List.mem_map.mp hp
        obtain ⟨g1, g2, _⟩ := (part_good (r.take i)).1 k
        rw [g1, g2, List.length_take]
        omega
      refine q_asgL (el_lst ea_nil (by decide)) fun l H2 hl2 e2 h2 => ?_
      refine q_forL (ev_var rfl) (ex_l e2 (sq_of h1)) (fun j σ' H' => ∃ (ws : List V) (y4 y5 : Option V), σ' = [some (.str (tx r)), some (.ref fa), some (.str (sg1 c)), some (.ref l), y4, y5] ∧ Ex H1' H' ∧ H' l = some (.lst ws) ∧ ws.length ≤ 2 * j ∧ Prs K H' ws (((allP (r.take i)).take j).flatMap (grow c)))
        (fun H3 e3 => ⟨[], _, _, rfl, e2.trans e3, e3 _ _ h2, Nat.zero_le _, .nil⟩) (fun j σ' H' _ hP => ex_l hP.choose_spec.choose_spec.choose_spec.2.1 (sq_of h1)) (fun j x σ' H3 hx hP => ?_) (fun σ' H3 hP => ?_)
      · obtain ⟨ws, y4, y5, rfl, e3, h3, hwl, hp3⟩ := hP
        obtain ⟨p, hpj, t, rfl, ht⟩ := paired_get hp1 j x hx
        have hpm := hplen p (List.mem_of_getElem? hpj)
        have ht3 := e3 _ _ ht
        have hj : j < vs2.length := (List.getElem?_eq_some_iff.mp hx).1
        have hvl : vs2.length ≤ 1000 := by
          rw [paired_len hp1, allP_eq, List.length_map, List.length_range]
          unfold many
          have h8 : (r.take i).count 98 - 1 ≤ 8 := by
            have := List.count_le_length (a := 98) (l := r.take i)
            rw [List.length_take] at this
            omega
          exact Nat.le_trans (Nat.pow_le_pow_right (by decide) h8) (by decide)
        have hfl : ((allP (r.take i)).take (j + 1)).flatMap (grow c) = ((allP (r.take i)).take j).flatMap (grow c) ++ grow c p := by
          rw [List.take_add_one, hpj, List.flatMap_append]
          simp
        refine ⟨t, [.str (tx p.1), .str (tx p.2)], rfl, st_of ht3, rfl, _, _, rfl, _, _, rfl, rfl, ?_⟩
        refine s_if (et_is (et_test (ev_op (ev_var rfl) ev_c (rv_ne rfl))) (congrArg (!·) (str1_dec c 98))) (fun hb H4 e4 => ?_) (fun hb H4 e4 => ?_)
        · have hb' : c ≠ 98 := by simpa using hb
          refine s_appU (ys := [.str (tx (p.1 ++ [c])), .str (tx (p.2 ++ [c]))]) (e4 _ _ h3) (ev_var rfl) (eu_tup (ea_cons (ev_op (ev_var rfl) (ev_var rfl) (rv_cat (a := p.1) (o := [c]) (by omega) (by show 1 ≤ 1000; decide))) (ea_cons (ev_op (ev_var rfl) (ev_var rfl) (rv_cat (a := p.2) (o := [c]) (by omega) (by show 1 ≤ 1000; decide))) ea_nil)) (by show 2 ≤ 100000; decide)) (by omega) fun p5 H5 hp5 e5 h5 => ?_
          refine ⟨ws ++ [.ref p5], _, _, rfl, ((e3.trans e4).trans e5).mut hl2, upd_same, by simp; omega, ?_⟩
          rw [hfl]
          refine Prs.upd (e5 _ _ (e4 _ _ h3)) (paired_app (hp3.ex (e4.trans e5)) ?_)
          unfold grow
          rw [if_pos hb']
          exact .cons ⟨p5, rfl, h5⟩ .nil
        · have hb' : c = 98 := by simpa using hb
          refine q_appU (ys := [.str (tx (p.1 ++ [110])), .str (tx (p.2 ++ [121]))]) (e4 _ _ h3) (ev_var rfl) (eu_tup (ea_cons (ev_op (ev_var rfl) ev_c (rv_cat (a := p.1) (o := [110]) (by omega) (by decide))) (ea_cons (ev_op (ev_var rfl) ev_c (rv_cat (a := p.2) (o := [121]) (by omega) (by decide))) ea_nil)) (by show 2 ≤ 100000; decide)) (by omega) fun p5 H5 hp5 e5 h5 => ?_
          have e6 : Ex H1' (upd H5 l (.lst (ws ++ [.ref p5]))) := ((e3.trans e4).trans e5).mut hl2
          have hp6 : Prs K (upd H5 l (.lst (ws ++ [.ref p5]))) (ws ++ [.ref p5]) (((allP (r.take i)).take j).flatMap (grow c) ++ [(p.1 ++ [110], p.2 ++ [121])]) :=
            Prs.upd (e5 _ _ (e4 _ _ h3)) (paired_app (hp3.ex (e4.trans e5)) (.cons ⟨p5, rfl, h5⟩ .nil))
          refine s_when (et_is (et_test (ev_op (ev_var rfl) (ev_var rfl) (rv_ne rfl))) (congrArg (!·) (strtx_dec p.1 p.2))) (fun hb2 H7 e7 => ?_) (fun hb2 H7 e7 => ?_)
          · have hb3 : p.1 ≠ p.2 := by simpa using hb2
            refine s_appU (ys := [.str (tx (p.1 ++ [121])), .str (tx (p.2 ++ [110]))]) (e7 _ _ upd_same) (ev_var rfl) (eu_tup (ea_cons (ev_op (ev_var rfl) ev_c (rv_cat (a := p.1) (o := [121]) (by omega) (by decide))) (ea_cons (ev_op (ev_var rfl) ev_c (rv_cat (a := p.2) (o := [110]) (by omega) (by decide))) ea_nil)) (by show 2 ≤ 100000; decide)) (by simp; omega) fun p8 H8 hp8 e8 h8 => ?_
            refine ⟨(ws ++ [.ref p5]) ++ [.ref p8], _, _, rfl, ((e6.trans e7).trans e8).mut hl2, upd_same, by simp; omega, ?_⟩
            rw [hfl]
            have hg : grow c p = [(p.1 ++ [110], p.2 ++ [121])] ++ [(p.1 ++ [121], p.2 ++ [110])] := by
              unfold grow
              rw [if_neg (by simpa using hb'), if_pos hb3]
              rfl
            rw [hg, ← List.append_assoc]
            exact Prs.upd (e8 _ _ (e7 _ _ upd_same)) (paired_app (hp6.ex (e7.trans e8)) (.cons ⟨p8, rfl, h8⟩ .nil))
          · have hb3 : p.1 = p.2 := by simpa using hb2
            refine ⟨ws ++ [.ref p5], _, _, rfl, e6.trans e7, e7 _ _ upd_same, by simp; omega, ?_⟩
            rw [hfl]
            have hg : grow c p = [(p.1 ++ [110], p.2 ++ [121])] := by
              unfold grow
              rw [if_neg (by simpa using hb'), if_neg (by simpa using hb3)]
            rw [hg]
            exact hp6.ex e7
      · obtain ⟨ws, y4, y5, rfl, e3, h3, hwl, hp3⟩ := hP
        rw [List.take_of_length_le (by rw [paired_len hp1]; exact Nat.le_refl _)] at hp3
        refine s_asg (ev_var rfl) fun H4 e4 => ⟨l, ws, _, _, _, _, rfl, (e1.trans e3).trans e4, fresh_back e1 hl2, e4 _ _ h3, ?_⟩
        rw [hsn]
        exact hp3.ex e4
    · obtain ⟨fa, vs2, y2, y3, y4, y5, rfl, e1, hfa, h1, hp1⟩ := hP
      rw [hsz, List.take_length] at hp1
      refine ⟨_, rfl, fa, vs2, (allP r).map (fun p => (tx p.1, tx p.2)), fun v b => ∃ t, v = .ref t ∧ H1 t = some (.tup [.str b.1, .str b.2]), rfl, sq_of h1, paired_to _ hp1, ?_, PySem.W.AllAlike.of fun _ _ => by simp [PySem.W.alike, PySem.W.alikeAll, encSS], PySem.W.Sortable.tuples fun _ => ⟨_, _, rfl⟩, ?_, fun ys p hp hn => ?_⟩
      · rintro v b ⟨t, rfl, ht⟩
        exact .tup (st_of ht) (.cons (.str _) (.cons (.str _) .nil))
      · intro b _
        simp [encSS, PyData.depth, PyData.depthAll]
      · rw [List.mergeSort_of_pairwise (sorted_ss r)] at hp
        exact q p _ ys (fresh_back e1 hn) (e1.trans (Ex.new hn)) upd_same ((paired_fro _ hp).ex (Ex.new hn))
def sp__law_right (K : PySem.W.Frag) : Sp := fun vs H Q _ => ∃ r : List Nat, vs = [.str (tx r)] ∧ RowL r ∧ RetV (.bl true) H Q
theorem ok__law_right (D : Df K mg "_law_right" st__law_right ["_law_row"]) (m_len : mg "len" = none) (m_isinstance : mg "isinstance" = none) (m_bool : mg "bool" = none) (m_int : mg "int" = none) (m_range : mg "range" = none) (m_all : mg "all" = none) (m_tuple : mg "tuple" = none) (m_list : mg "list" = none) (A__law_partings : At P w K mg base "_law_partings" st__law_partings 1 ["_law_row"] (sp__law_partings K)) (A_many_partings : At P w K mg base "many_partings" st_many_partings 1 ["row"] (sp_many_partings K)) (A_partings_of : At P w K mg base "partings_of" st_partings_of 3 ["row"] (sp_partings_of K)) (A_row_by : At P w K mg base "row_by" st_row_by 1 ["one", "other"] (sp_row_by K)) : At P w K mg base "_law_right" st__law_right 4 ["_law_row"] (sp__law_right K) := by
  obtain ⟨f, fd, F, b, g⟩ := D
  obtain ⟨f__law_partings, fd__law_partings, F__law_partings, b__law_partings, g__law_partings, G__law_partings⟩ := A__law_partings
  obtain ⟨f_many_partings, fd_many_partings, F_many_partings, b_many_partings, g_many_partings, G_many_partings⟩ := A_many_partings
  obtain ⟨f_partings_of, fd_partings_of, F_partings_of, b_partings_of, g_partings_of, G_partings_of⟩ := A_partings_of
  obtain ⟨f_row_by, fd_row_by, F_row_by, b_row_by, g_row_by, G_row_by⟩ := A_row_by
  refine ⟨f, fd, F, b, g, F.ok sc__law_right (fun vs H Q E h => ?_) (fun cdv A outer s H vs Q E hr h => ?_)⟩
  · obtain ⟨r, rfl, _⟩ := h
    rfl
  · obtain ⟨r, rfl, hr0, q⟩ := h
    refine ⟨_, (pss_cons (ps_set (i := 1) sc__law_right.nd rfl (.inl rfl) (pe_call G__law_partings (hr.mono (by decide)) (by rfl) g__law_partings F__law_partings.kp b__law_partings .nil pass0 (pa_cons (pv 0) pa_nil)))
      (pss_cons (ps_set (i := 2) sc__law_right.nd rfl (.inl rfl) (pe_call G_many_partings (hr.mono (by decide)) (by rfl) g_many_partings F_many_partings.kp b_many_partings .nil pass0 (pa_cons (pv 0) pa_nil)))
      (pss_cons (ps_if (PW.pt (pw_or (pt_not (pt_val (pe_callB call_isi (by rfl) m_isinstance (by decide +kernel) (pa_cons (pv 2) (pa_cons (pe_bltn (v := .ty "int") (by rfl) m_int (by decide +kernel) rfl) pa_nil))))) (pw_or (pt_val (pe_callB call_isi (by rfl) m_isinstance (by decide +kernel) (pa_cons (pv 2) (pa_cons (pe_bltn (v := .ty "bool") (by rfl) m_bool (by decide +kernel) rfl) pa_nil)))) (pw_or1 (pt_cmpR op_ne (pv 2) (pe_callB call_len_seq (by rfl) m_len (by decide +kernel) (pa_cons (pv 1) pa_nil)) (nomark _))))))
      (pss_one (ps_ret pe_bl))
      pss_nil)
      (pss_cons (ps_for PassesOwn.never rfl (pi_range1 (by rfl) m_range (pa_cons pe_int pa_nil)) (pg_name (i := 3) sc__law_right.nd rfl (.inl rfl))
      (pss_cons (ps_set (i := 4) sc__law_right.nd rfl (.inl rfl) (pe_call G_partings_of (hr.mono (by decide)) (by rfl) g_partings_of F_partings_of.kp b_partings_of .nil pass0 (pa_cons (pv 0) pa_nil)))
      (pss_cons (ps_if (PW.pt (pw_or (pt_not (pt_val (pe_callB call_isi (by rfl) m_isinstance (by decide +kernel) (pa_cons (pv 4) (pa_cons (pe_bltn (v := .ty "list") (by rfl) m_list (by decide +kernel) rfl) pa_nil))))) (pw_or (pt_cmpR (op_neD hr.units) (pv 4) (pv 1) (nomark _)) (pw_or1 (pt_not (pt_val (pe_callB (cr_all rfl) (by rfl) m_all (by decide +kernel) (pa_cons (pe_lc (own := [("_law_one", 5)]) (g := gName 5) (by rfl) sc__law_right.nd (pi_list (pv 4)) (blkOk_by (N := ["_law_row", "_law_due", "_law_many", "_law_turn", "_law_found", "_law_one", "_law_other"]) (sc := defScope st__law_right) (by decide +kernel)) (fun _ _ _ _ _ => (pg_name (i := 5) sc__law_right.nd rfl (.inl rfl))) (fun _ _ _ _ _ => pts_nil) (fun _ _ _ _ _ => (pe_callB (show CallR _ (.builtin "isinstance") (rIsi K) from call_isi) (by rfl) m_isinstance (by decide +kernel) (pa_cons (pv 5) (pa_cons (pe_bltn (v := .ty "tuple") (by rfl) m_tuple (by decide +kernel) rfl) pa_nil))))) pa_nil))))))))
      (pss_one (ps_ret pe_bl))
      pss_nil)
      (pss_cons (ps_if (pt_not (pt_val (pe_callB (cr_all rfl) (by rfl) m_all (by decide +kernel) (pa_cons (pe_lc (own := [("_law_one", 5), ("_law_other", 6)]) (g := gTup K 2 (gCons (gName 5) (gCons (gName 6) gNil))) (by rfl) sc__law_right.nd (pi_list (pv 4)) (blkOk_by (N := ["_law_row", "_law_due", "_law_many", "_law_turn", "_law_found", "_law_one", "_law_other"]) (sc := defScope st__law_right) (by decide +kernel)) (fun _ _ _ _ _ => (pg_tup (by rfl) (pgs_cons (pg_name (i := 5) sc__law_right.nd rfl (.inl rfl)) (pgs_cons (pg_name (i := 6) sc__law_right.nd rfl (.inl rfl)) pgs_nil)))) (fun _ _ _ _ _ => pts_nil) (fun _ _ _ _ _ => (pe_and (pe_cmpR op_le_str (pv 5) (pv 6) (nomark _)) (pe_one (pe_cmpR op_eq (pe_call G_row_by (hr.mono (by decide)) (by rfl) g_row_by F_row_by.kp b_row_by .nil pass0 (pa_cons (pv 5) (pa_cons (pv 6) pa_nil))) (pv 0) (nomark _)))))) pa_nil))))
      (pss_one (ps_ret pe_bl))
      pss_nil)
      (pss_cons (ps_expr (pe_bm PySem.F.plainAttrs_list PySem.F.slot_list_append PySem.F.type_list_append mt_append (pv 4) (pa_cons (pe_tup (pa_cons pe_str (pa_cons pe_str pa_nil))) pa_nil)))
      (pss_one (ps_expr (pe_bm0 PySem.F.plainAttrs_list PySem.F.slot_list_reverse PySem.F.type_list_reverse mt_reverse (pv 4)))))))))
      (pss_one (ps_ret pe_bl)))))), ?_⟩
    have hl : r.length ≤ 8 := hr0.1.2
    have hm : many r ≤ 1000 := by
      unfold many
      have h8 : r.count 98 - 1 ≤ 8 := by
        have := List.count_le_length (a := 98) (l := r)
        omega
      exact Nat.le_trans (Nat.pow_le_pow_right (by decide) h8) (by decide)
    have hsh : SeqAt.shaped (.list (((List.range (many r)).map (part r)).map dSS)) = true := shaped_ss _ fun p hp => by
      obtain ⟨k, _, rfl⟩ := List.mem_map.mp hp
      exact part_small hr0 k
    refine c_call (ea_cons (ev_var rfl) ea_nil) fun H0 e0 => ⟨r, rfl, hl, fun p1 H1 vs1' hp1 e1 h1 hq1 => ?_⟩
    have e01 : Ex H H1 := e0.trans e1
    rw [allP_eq] at hq1
    have hlen1 : vs1'.length = many r := by rw [paired_len hq1, List.length_map, List.length_range]
    refine q_asg (ev_call (ea_cons (ev_var rfl) ea_nil) (z := .int (many r)) fun Hx ex Qx qx Ee => ⟨r, rfl, by omega, qx⟩) fun H2 e2 => ?_
    refine q_when (et_or (et_not (et_B (ev_isi (ev_var rfl) (fun _ _ => .base (.int _)) (b := true) (by decide +kernel)))) fun _ => et_or (et_B (ev_isi (ev_var rfl) (fun _ _ => .base (.int _)) (b := false) (by decide +kernel))) fun _ => et_test (ev_op (ev_var rfl) (ev_len (ev_var rfl) (sq_of (e2 _ _ h1))) (rv_ne rfl))) (fun hb H3 e3 => ?_) (fun hb H3 e3 => ?_)
    · exfalso
      rw [hlen1] at hb
      simp at hb
    · have e13 : Ex H1 H3 := e2.trans e3
      refine q_forR1 (ea_cons ev_c ea_nil) (by decide) (fun i σ' H' => ∃ (y3 y4 : Option V), σ' = [some (.str (tx r)), some (.ref p1), some (.int (many r)), y3, y4, none, none] ∧ Ex H3 H') (fun H4 e4 => ⟨_, _, rfl, e4⟩) (fun i σ' H4 hi hP => ?_) (fun σ' H4 hP => ?_)
      · obtain ⟨y3, y4, rfl, e4⟩ := hP
        refine c_call (ea_cons (ev_var rfl) ea_nil) fun H5 e5 => ⟨r, rfl, ⟨by omega, hm⟩, fun p2 H6 vs6 hp6 e6 h6 hq6 => ?_⟩
        have e36 : Ex H3 H6 := (e4.trans e5).trans e6
        have hlen6 : vs6.length = many r := by rw [paired_len hq6, List.length_map, List.length_range]
        have hn2 : H3 p2 = none := fresh_back (e4.trans e5) hp6
        have hty : ∀ n x, vs6[n]? = some x → ∃ (t : Addr) (p : Nat), x = V.ref t ∧ H6 t = some (.tup [.str (tx (part r p).1), .str (tx (part r p).2)]) ∧ p < many r := fun n x hx => by
          obtain ⟨y, hy, t, rfl, ht⟩ := paired_get hq6 n x hx
          obtain ⟨k, hk, rfl⟩ := List.mem_map.mp (List.mem_of_getElem? hy)
          exact ⟨t, k, rfl, ht, List.mem_range.mp hk⟩
        refine q_when (et_or (et_not (et_B (ev_isi (ev_var rfl) (fun G eG => .base (.lst (eG _ _ h6))) (b := true) (by decide +kernel)))) fun _ => et_or (et_test (ev_op (ev_var rfl) (ev_var rfl) (rv_val fun G eG Qx qx => ⟨.list (((List.range (many r)).map (part r)).map dSS), .list (((List.range (many r)).map (part r)).map dSS), .lst (sq_of (eG _ _ h6)) (Prs.dp (hq6.ex eG)), .lst (sq_of (eG _ _ (e36 _ _ (e13 _ _ h1)))) (Prs.dp (hq1.ex ((e13.trans e36).trans eG))), hsh, hsh, qx⟩)))
          fun _ => et_not (et_B (ev_all (bs := List.replicate vs6.length true) (evL_is (el_lcL (fun _ => true) (fun _ => V.bl true) (ev_var rfl) (sq_of h6) (by omega) (fun _ => rfl) (fun _ _ _ _ _ => et_yes) (fun n x G eG hx _ => ?_)) (given_rep _))))) (fun hb2 H7 e7 => ?_) (fun hb2 H7 e7 => ?_)
        · obtain ⟨t, p, rfl, ht, _⟩ := hty n x hx
          exact ev_isi (ev_var rfl) (fun G2 eG2 => .base (.tup (eG2 _ _ (eG _ _ ht)))) (b := true) (by decide +kernel)
        · exfalso
          rw [SeqAt.eqv_refl _ (SeqAt.canLay_of_shaped hsh)] at hb2
          simp at hb2
        · refine q_when (et_not (et_B (ev_all (bs := List.replicate vs6.length true) (evL_is (el_lcP (fun _ => V.bl true) (ev_var rfl) (sq_of (e7 _ _ h6)) (by omega) (fun _ _ => rfl) (fun n x hx => ?_)) (range_rep _))))) (fun hb3 H8 e8 => ?_) (fun hb3 H8 e8 => ?_)
          · obtain ⟨t, k, rfl, ht, hk⟩ := hty n x hx
            obtain ⟨g1, g2, g3⟩ := (part_good r).1 k
            refine ⟨t, _, _, rfl, st_of (e7 _ _ ht), ev_is (ev_andV (ev_op (ev_var rfl) (ev_var rfl) (rv_val fun G eG Qx qx => ⟨_, _, rfl, rfl, qx⟩)) fun _ => ev_op (ev_call (ea_cons (ev_var rfl) (ea_cons (ev_var rfl) ea_nil)) (z := .str (tx (rowBy (part r k).1 (part r k).2))) fun Hx ex Qx qx Ee => ⟨_, _, rfl, ⟨g1.trans g2.symm, by omega⟩, qx⟩) (ev_var rfl) (rv_eq rfl)) ?_⟩
            rw [g3, strtx_dec, decide_eq_true rfl, Bool.and_true]
            have : ¬ (tx (part r k).2).cps.toList < (tx (part r k).1).cps.toList := by
              show ¬ (part r k).2.toArray.toList < (part r k).1.toArray.toList
              rw [List.toList_toArray, List.toList_toArray]
              rcases (part_good r).2.1 k hk with h | h
              · rw [h]
                exact List.lt_irrefl _
              · exact fun z => List.lt_irrefl _ (List.lt_trans h z)
            rw [decide_eq_false this]
            rfl
          · exfalso
            simp at hb3
          · refine q_appU (ys := [.str "n", .str "n"]) (e8 _ _ (e7 _ _ h6)) (ev_var rfl) (eu_tup (ea_cons ev_c (ea_cons ev_c ea_nil)) (by show 2 ≤ 100000; decide)) (by omega) fun p9 H9 hp9 e9 h9 => ?_
            refine ⟨_, rfl, .inl ⟨rfl, _, sq_of upd_same⟩, p2, _, rfl, rfl, upd_same, _, _, rfl, ?_⟩
            exact ((((e36.trans e7).trans e8).trans e9).mut hn2).mut hn2
      · obtain ⟨y3, y4, rfl, e4⟩ := hP
        exact s_ret ev_c fun H5 e5 => q H5 ((((e01.trans e2).trans e3).trans e4).trans e5)
def sp_law (K : PySem.W.Frag) : Sp := fun vs H Q _ => ∃ (a : Addr) (ns : List Int), vs = [.ref a] ∧ SqL K H a (ns.map V.int) ∧ ns.length ≤ 63 ∧ ∀ H2, Q (.bl true) H2
theorem ok_law (D : Df K mg "law" st_law ["_law_script"]) (m_all : mg "all" = none) (m_max : mg "max" = none) (m_min : mg "min" = none) (m_len : mg "len" = none) (A__law_drawn_rows : At P w K mg base "_law_drawn_rows" st__law_drawn_rows 2 ["_law_script", "_law_amount"] (sp__law_drawn_rows K)) (A__law_right : At P w K mg base "_law_right" st__law_right 4 ["_law_row"] (sp__law_right K)) : At P w K mg base "law" st_law 5 ["_law_script"] (sp_law K) := by
  obtain ⟨f, fd, F, b, g⟩ := D
  obtain ⟨f__law_drawn_rows, fd__law_drawn_rows, F__law_drawn_rows, b__law_drawn_rows, g__law_drawn_rows, G__law_drawn_rows⟩ := A__law_drawn_rows
  obtain ⟨f__law_right, fd__law_right, F__law_right, b__law_right, g__law_right, G__law_right⟩ := A__law_right
  refine ⟨f, fd, F, b, g, F.ok sc_law (fun vs H Q E h => ?_) (fun cdv A outer s H vs Q E hr h => ?_)⟩
  · obtain ⟨a, ns, rfl, _⟩ := h
    rfl
  · obtain ⟨a, ns, rfl, hS, hn, q⟩ := h
    refine ⟨_, (pss_one (ps_ret (pe_callB (cr_all rfl) (by rfl) m_all (by decide +kernel) (pa_cons (pe_lc (own := [("_law_row", 1)]) (g := gName 1) (by rfl) sc_law.nd (pi_list (pe_call G__law_drawn_rows (hr.mono (by decide)) (by rfl) g__law_drawn_rows F__law_drawn_rows.kp b__law_drawn_rows .nil pass0 (pa_cons (pv 0) (pa_cons (pe_callB (call_max2 rfl) (by rfl) m_max (by decide +kernel) (pa_cons pe_int (pa_cons (pe_callB (call_min2 rfl) (by rfl) m_min (by decide +kernel) (pa_cons (pe_callB call_len_seq (by rfl) m_len (by decide +kernel) (pa_cons (pv 0) pa_nil)) (pa_cons pe_int pa_nil))) pa_nil))) pa_nil)))) (blkOk_by (N := ["_law_script", "_law_row"]) (sc := defScope st_law) (by decide +kernel)) (fun _ _ _ _ _ => (pg_name (i := 1) sc_law.nd rfl (.inl rfl))) (fun _ _ _ _ _ => pts_nil) (fun _ _ _ _ _ => (pe_call G__law_right (hr.mono (by decide)) (by rfl) g__law_right F__law_right.kp b__law_right .nil pass0 (pa_cons (pv 1) pa_nil)))) pa_nil)))), ?_⟩
    refine c_call (ea_cons (ev_var rfl) (ea_cons (ev_max2 ev_c (ev_cb (ea_cons (ev_len (ev_var rfl) hS) (ea_cons ev_c ea_nil)) (fun Hx ex Qx qx => ⟨_, _, rfl, qx Hx (Ex.refl _)⟩))) ea_nil)) fun H1 e1 => ⟨a, ns, _, rfl, ex_l e1 hS, ?_, fun rs hrl hrs p H2 hp e2 h2 => ⟨p, rfl, ⟨_, sq_of h2⟩, fun D hD => ?_⟩⟩
    · constructor <;> (repeat' split) <;> omega
    · refine lc_list (xs := rs.map fun r => V.str (tx r)) (fun i H' => Ex H2 H' ∧ H' D = some (.lst (List.replicate i (.bl true)))) ⟨Ex.new hD, upd_same⟩ (fun i H' _ hP => sq_of (hP.1 _ _ h2)) (fun i x H3 hx hP => ?_) (fun H3 hP => ?_)
      · obtain ⟨e3, h3⟩ := hP
        have hi : i < rs.length := by
          have := (List.getElem?_eq_some_iff.mp hx).1
          rwa [List.length_map] at this
        rw [List.getElem?_map, List.getElem?_eq_getElem hi] at hx
        cases hx
        refine ⟨rfl, tyes (c_call (ea_cons (ev_var rfl) ea_nil) fun H4 e4 => ⟨rs[i], rfl, hrs _ (List.getElem_mem hi), fun H5 e5 => ⟨_, e5 _ _ (e4 _ _ h3), sz_lt (by rw [List.length_replicate]; omega), ((e3.trans e4).trans e5).mut hD, ?_⟩⟩)⟩
        rw [upd_same, List.replicate_succ']
      · obtain ⟨e3, h3⟩ := hP
        refine ⟨D, List.replicate rs.length true, rfl, sq_of (by rw [h3, List.length_map, List.map_replicate]), ?_⟩
        have : (List.replicate rs.length true).all id = true := by simp
        rw [this]
        exact q H3
end
end Hid

namespace Hid
open PySem PySem.Spec PyProof.Rows L2 Evl
theorem df_mk {K : PySem.W.Frag} {h : Heap} {mg : Str → Option Value} (X : K.In h) (G : h.Ns mainGlobals mg) {x : Str} {st : Stmt} {ps : List Str} {f : Addr} {od an : Option Addr} {sl : Array (Option Value)} {oc kV dc pm cd ct : Value}
    (a : PySem.W.nsIn K mainGlobals x = some (some (.ref f))) (l : K.lookup f = some ⟨oc, od, .func (PySem.W.fnOf x x (defArgs st) (defBody st) (defScope st) .none kV dc pm an cd ct), sl⟩) (c : PySem.W.codeIn K cd x = true) (k : PySem.W.keepIn K (.ref f) = true)
    (hb : ∀ (kV doc pm : Value) (an : Option Addr) (cdv ct : Value) (us : List Value), us.length = ps.length → bindArgs (PySem.W.fnOf x x (defArgs st) (defBody st) (defScope st) .none kV doc pm an cdv ct) ⟨us, []⟩ = pure (ps.zip us)) : Df K mg x st ps :=
  ⟨f, _, fun_mk (st := st) l c k, (fun_mk (st := st) l c k).binds hb, PySem.W.mg_of X G a⟩
/-- a def's promise at the very data that stands there -/
theorem at_fd {P : Program} {w : World} {K : PySem.W.Frag} {mg : Str → Option Value} {base : Heap} {CX : CXT} {n : Nat} {ps : List Str} {sp : Sp} {x : Str} {st : Stmt} {f : Addr} {fd fd2 : FuncData} (G : FnOk P w K mg base CX n f fd ps sp) (F : Fun K x x st f fd) (F2 : Fun K x x st f fd2) : FnOk P w K mg base CX n f fd2 ps sp := by
  obtain ⟨oc, od, kV, doc, pm, an, cdv, ct, osl, e1, lk, _⟩ := F.ex
  obtain ⟨oc2, od2, kV2, doc2, pm2, an2, cdv2, ct2, osl2, e2, lk2, _⟩ := F2.ex
  have e := lk.symm.trans lk2
  injection e with e
  injection e with _ _ e _
  injection e with e
  rw [← e]
  exact G
theorem all_mk {l : PySem.W.OpenLaw} {w : World} {K : PySem.W.Frag} {h : Heap} {mg : Str → Option Value} {fa : Addr} {f0 : Addr} {od0 an0 : Option Addr} {sl0 : Array (Option Value)} {oc0 kV0 dc0 pm0 cd0 ct0 : Value} {f1 : Addr} {od1 an1 : Option Addr} {sl1 : Array (Option Value)} {oc1 kV1 dc1 pm1 cd1 ct1 : Value} {f2 : Addr} {od2 an2 : Option Addr} {sl2 : Array (Option Value)} {oc2 kV2 dc2 pm2 cd2 ct2 : Value} {f3 : Addr} {od3 an3 : Option Addr} {sl3 : Array (Option Value)} {oc3 kV3 dc3 pm3 cd3 ct3 : Value} {f4 : Addr} {od4 an4 : Option Addr} {sl4 : Array (Option Value)} {oc4 kV4 dc4 pm4 cd4 ct4 : Value} {f5 : Addr} {od5 an5 : Option Addr} {sl5 : Array (Option Value)} {oc5 kV5 dc5 pm5 cd5 ct5 : Value} {f6 : Addr} {od6 an6 : Option Addr} {sl6 : Array (Option Value)} {oc6 kV6 dc6 pm6 cd6 ct6 : Value} {f7 : Addr} {od7 an7 : Option Addr} {sl7 : Array (Option Value)} {oc7 kV7 dc7 pm7 cd7 ct7 : Value} {f8 : Addr} {od8 an8 : Option Addr} {sl8 : Array (Option Value)} {oc8 kV8 dc8 pm8 cd8 ct8 : Value} {f9 : Addr} {od9 an9 : Option Addr} {sl9 : Array (Option Value)} {oc9 kV9 dc9 pm9 cd9 ct9 : Value} {f10 : Addr} {od10 an10 : Option Addr} {sl10 : Array (Option Value)} {oc10 kV10 dc10 pm10 cd10 ct10 : Value} {f11 : Addr} {od11 an11 : Option Addr} {sl11 : Array (Option Value)} {oc11 kV11 dc11 pm11 cd11 ct11 : Value} {f12 : Addr} {od12 an12 : Option Addr} {sl12 : Array (Option Value)} {oc12 kV12 dc12 pm12 cd12 ct12 : Value} {f13 : Addr} {od13 an13 : Option Addr} {sl13 : Array (Option Value)} {oc13 kV13 dc13 pm13 cd13 ct13 : Value} {tHS : Tok} (X : K.In h) (G : h.Ns mainGlobals mg) (hfa : mg "law" = some (.ref fa))
    (a0 : PySem.W.nsIn K mainGlobals "is_whole" = some (some (.ref f0))) (l0 : K.lookup f0 = some ⟨oc0, od0, .func (PySem.W.fnOf "is_whole" "is_whole" (defArgs st_is_whole) (defBody st_is_whole) (defScope st_is_whole) .none kV0 dc0 pm0 an0 cd0 ct0), sl0⟩) (c0 : PySem.W.codeIn K cd0 "is_whole" = true) (k0 : PySem.W.keepIn K (.ref f0) = true)
    (a1 : PySem.W.nsIn K mainGlobals "turned_at_both" = some (some (.ref f1))) (l1 : K.lookup f1 = some ⟨oc1, od1, .func (PySem.W.fnOf "turned_at_both" "turned_at_both" (defArgs st_turned_at_both) (defBody st_turned_at_both) (defScope st_turned_at_both) .none kV1 dc1 pm1 an1 cd1 ct1), sl1⟩) (c1 : PySem.W.codeIn K cd1 "turned_at_both" = true) (k1 : PySem.W.keepIn K (.ref f1) = true)
    (a2 : PySem.W.nsIn K mainGlobals "many_partings" = some (some (.ref f2))) (l2 : K.lookup f2 = some ⟨oc2, od2, .func (PySem.W.fnOf "many_partings" "many_partings" (defArgs st_many_partings) (defBody st_many_partings) (defScope st_many_partings) .none kV2 dc2 pm2 an2 cd2 ct2), sl2⟩) (c2 : PySem.W.codeIn K cd2 "many_partings" = true) (k2 : PySem.W.keepIn K (.ref f2) = true)
    (a3 : PySem.W.nsIn K mainGlobals "lesser_half" = some (some (.ref f3))) (l3 : K.lookup f3 = some ⟨oc3, od3, .func (PySem.W.fnOf "lesser_half" "lesser_half" (defArgs st_lesser_half) (defBody st_lesser_half) (defScope st_lesser_half) .none kV3 dc3 pm3 an3 cd3 ct3), sl3⟩) (c3 : PySem.W.codeIn K cd3 "lesser_half" = true) (k3 : PySem.W.keepIn K (.ref f3) = true)
    (a4 : PySem.W.nsIn K mainGlobals "parting_at" = some (some (.ref f4))) (l4 : K.lookup f4 = some ⟨oc4, od4, .func (PySem.W.fnOf "parting_at" "parting_at" (defArgs st_parting_at) (defBody st_parting_at) (defScope st_parting_at) .none kV4 dc4 pm4 an4 cd4 ct4), sl4⟩) (c4 : PySem.W.codeIn K cd4 "parting_at" = true) (k4 : PySem.W.keepIn K (.ref f4) = true)
    (a5 : PySem.W.nsIn K mainGlobals "partings_of" = some (some (.ref f5))) (l5 : K.lookup f5 = some ⟨oc5, od5, .func (PySem.W.fnOf "partings_of" "partings_of" (defArgs st_partings_of) (defBody st_partings_of) (defScope st_partings_of) .none kV5 dc5 pm5 an5 cd5 ct5), sl5⟩) (c5 : PySem.W.codeIn K cd5 "partings_of" = true) (k5 : PySem.W.keepIn K (.ref f5) = true)
    (a6 : PySem.W.nsIn K mainGlobals "row_by" = some (some (.ref f6))) (l6 : K.lookup f6 = some ⟨oc6, od6, .func (PySem.W.fnOf "row_by" "row_by" (defArgs st_row_by) (defBody st_row_by) (defScope st_row_by) .none kV6 dc6 pm6 an6 cd6 ct6), sl6⟩) (c6 : PySem.W.codeIn K cd6 "row_by" = true) (k6 : PySem.W.keepIn K (.ref f6) = true)
    (a7 : PySem.W.nsIn K mainGlobals "_law_cell" = some (some (.ref f7))) (l7 : K.lookup f7 = some ⟨oc7, od7, .func (PySem.W.fnOf "_law_cell" "_law_cell" (defArgs st__law_cell) (defBody st__law_cell) (defScope st__law_cell) .none kV7 dc7 pm7 an7 cd7 ct7), sl7⟩) (c7 : PySem.W.codeIn K cd7 "_law_cell" = true) (k7 : PySem.W.keepIn K (.ref f7) = true)
    (a8 : PySem.W.nsIn K mainGlobals "_law_numbers" = some (some (.ref f8))) (l8 : K.lookup f8 = some ⟨oc8, od8, .func (PySem.W.fnOf "_law_numbers" "_law_numbers" (defArgs st__law_numbers) (defBody st__law_numbers) (defScope st__law_numbers) .none kV8 dc8 pm8 an8 cd8 ct8), sl8⟩) (c8 : PySem.W.codeIn K cd8 "_law_numbers" = true) (k8 : PySem.W.keepIn K (.ref f8) = true)
    (a9 : PySem.W.nsIn K mainGlobals "_law_any_row" = some (some (.ref f9))) (l9 : K.lookup f9 = some ⟨oc9, od9, .func (PySem.W.fnOf "_law_any_row" "_law_any_row" (defArgs st__law_any_row) (defBody st__law_any_row) (defScope st__law_any_row) .none kV9 dc9 pm9 an9 cd9 ct9), sl9⟩) (c9 : PySem.W.codeIn K cd9 "_law_any_row" = true) (k9 : PySem.W.keepIn K (.ref f9) = true)
    (a10 : PySem.W.nsIn K mainGlobals "_law_partings" = some (some (.ref f10))) (l10 : K.lookup f10 = some ⟨oc10, od10, .func (PySem.W.fnOf "_law_partings" "_law_partings" (defArgs st__law_partings) (defBody st__law_partings) (defScope st__law_partings) .none kV10 dc10 pm10 an10 cd10 ct10), sl10⟩) (c10 : PySem.W.codeIn K cd10 "_law_partings" = true) (k10 : PySem.W.keepIn K (.ref f10) = true)
    (a11 : PySem.W.nsIn K mainGlobals "_law_drawn_rows" = some (some (.ref f11))) (l11 : K.lookup f11 = some ⟨oc11, od11, .func (PySem.W.fnOf "_law_drawn_rows" "_law_drawn_rows" (defArgs st__law_drawn_rows) (defBody st__law_drawn_rows) (defScope st__law_drawn_rows) .none kV11 dc11 pm11 an11 cd11 ct11), sl11⟩) (c11 : PySem.W.codeIn K cd11 "_law_drawn_rows" = true) (k11 : PySem.W.keepIn K (.ref f11) = true)
    (a12 : PySem.W.nsIn K mainGlobals "_law_right" = some (some (.ref f12))) (l12 : K.lookup f12 = some ⟨oc12, od12, .func (PySem.W.fnOf "_law_right" "_law_right" (defArgs st__law_right) (defBody st__law_right) (defScope st__law_right) .none kV12 dc12 pm12 an12 cd12 ct12), sl12⟩) (c12 : PySem.W.codeIn K cd12 "_law_right" = true) (k12 : PySem.W.keepIn K (.ref f12) = true)
    (a13 : PySem.W.nsIn K mainGlobals "law" = some (some (.ref f13))) (l13 : K.lookup f13 = some ⟨oc13, od13, .func (PySem.W.fnOf "law" "law" (defArgs st_law) (defBody st_law) (defScope st_law) .none kV13 dc13 pm13 an13 cd13 ct13), sl13⟩) (c13 : PySem.W.codeIn K cd13 "law" = true) (k13 : PySem.W.keepIn K (.ref f13) = true)
    (z_isinstance : PySem.W.nsIn K mainGlobals "isinstance" = some none)
    (z_bool : PySem.W.nsIn K mainGlobals "bool" = some none)
    (z_int : PySem.W.nsIn K mainGlobals "int" = some none)
    (z_zip : PySem.W.nsIn K mainGlobals "zip" = some none)
    (z_max : PySem.W.nsIn K mainGlobals "max" = some none)
    (z_reversed : PySem.W.nsIn K mainGlobals "reversed" = some none)
    (z_range : PySem.W.nsIn K mainGlobals "range" = some none)
    (z_len : PySem.W.nsIn K mainGlobals "len" = some none)
    (z_abs : PySem.W.nsIn K mainGlobals "abs" = some none)
    (z_sorted : PySem.W.nsIn K mainGlobals "sorted" = some none)
    (z_all : PySem.W.nsIn K mainGlobals "all" = some none)
    (z_tuple : PySem.W.nsIn K mainGlobals "tuple" = some none)
    (z_list : PySem.W.nsIn K mainGlobals "list" = some none)
    (z_min : PySem.W.nsIn K mainGlobals "min" = some none)
    (y_HALF_SIGNS : PySem.W.nsIn K mainGlobals "HALF_SIGNS" = some (some (.str "ny" tHS))) :
    ∃ fd : FuncData, (∀ (s : Shared) (v : Value), BindsTo s fd ⟨[v], []⟩ [("_law_script", v)]) ∧ ∀ base : Heap, K.In base → base.Ns mainGlobals mg → FnOk l.prog w K mg base CX0 5 fa fd ["_law_script"] (sp_law K) := by
  have m_isinstance := PySem.W.mg_none_of X G z_isinstance
  have m_bool := PySem.W.mg_none_of X G z_bool
  have m_int := PySem.W.mg_none_of X G z_int
  have m_zip := PySem.W.mg_none_of X G z_zip
  have m_max := PySem.W.mg_none_of X G z_max
  have m_reversed := PySem.W.mg_none_of X G z_reversed
  have m_range := PySem.W.mg_none_of X G z_range
  have m_len := PySem.W.mg_none_of X G z_len
  have m_abs := PySem.W.mg_none_of X G z_abs
  have m_sorted := PySem.W.mg_none_of X G z_sorted
  have m_all := PySem.W.mg_none_of X G z_all
  have m_tuple := PySem.W.mg_none_of X G z_tuple
  have m_list := PySem.W.mg_none_of X G z_list
  have m_min := PySem.W.mg_none_of X G z_min
  have c_HALF_SIGNS := PySem.W.mg_of X G y_HALF_SIGNS
  have D_is_whole : Df K mg "is_whole" st_is_whole ["thing"] := df_mk X G a0 l0 c0 k0 (fun _ _ _ _ _ _ us hl => match us, hl with | [_], _ => rfl)
  have D_turned_at_both : Df K mg "turned_at_both" st_turned_at_both ["row", "half"] := df_mk X G a1 l1 c1 k1 (fun _ _ _ _ _ _ us hl => match us, hl with | [_, _], _ => rfl)
  have D_many_partings : Df K mg "many_partings" st_many_partings ["row"] := df_mk X G a2 l2 c2 k2 (fun _ _ _ _ _ _ us hl => match us, hl with | [_], _ => rfl)
  have D_lesser_half : Df K mg "lesser_half" st_lesser_half ["row", "number"] := df_mk X G a3 l3 c3 k3 (fun _ _ _ _ _ _ us hl => match us, hl with | [_, _], _ => rfl)
  have D_parting_at : Df K mg "parting_at" st_parting_at ["row", "number"] := df_mk X G a4 l4 c4 k4 (fun _ _ _ _ _ _ us hl => match us, hl with | [_, _], _ => rfl)
  have D_partings_of : Df K mg "partings_of" st_partings_of ["row"] := df_mk X G a5 l5 c5 k5 (fun _ _ _ _ _ _ us hl => match us, hl with | [_], _ => rfl)
  have D_row_by : Df K mg "row_by" st_row_by ["one", "other"] := df_mk X G a6 l6 c6 k6 (fun _ _ _ _ _ _ us hl => match us, hl with | [_, _], _ => rfl)
  have D__law_cell : Df K mg "_law_cell" st__law_cell ["_law_script", "_law_k"] := df_mk X G a7 l7 c7 k7 (fun _ _ _ _ _ _ us hl => match us, hl with | [_, _], _ => rfl)
  have D__law_numbers : Df K mg "_law_numbers" st__law_numbers ["_law_cell_here", "_law_many"] := df_mk X G a8 l8 c8 k8 (fun _ _ _ _ _ _ us hl => match us, hl with | [_, _], _ => rfl)
  have D__law_any_row : Df K mg "_law_any_row" st__law_any_row ["_law_xs", "_law_places"] := df_mk X G a9 l9 c9 k9 (fun _ _ _ _ _ _ us hl => match us, hl with | [_, _], _ => rfl)
  have D__law_partings : Df K mg "_law_partings" st__law_partings ["_law_row"] := df_mk X G a10 l10 c10 k10 (fun _ _ _ _ _ _ us hl => match us, hl with | [_], _ => rfl)
  have D__law_drawn_rows : Df K mg "_law_drawn_rows" st__law_drawn_rows ["_law_script", "_law_amount"] := df_mk X G a11 l11 c11 k11 (fun _ _ _ _ _ _ us hl => match us, hl with | [_, _], _ => rfl)
  have D__law_right : Df K mg "_law_right" st__law_right ["_law_row"] := df_mk X G a12 l12 c12 k12 (fun _ _ _ _ _ _ us hl => match us, hl with | [_], _ => rfl)
  have D_law : Df K mg "law" st_law ["_law_script"] := df_mk X G a13 l13 c13 k13 (fun _ _ _ _ _ _ us hl => match us, hl with | [_], _ => rfl)
  have e := hfa.symm.trans (PySem.W.mg_of X G a13)
  cases e
  refine ⟨PySem.W.fnOf "law" "law" (defArgs st_law) (defBody st_law) (defScope st_law) .none kV13 dc13 pm13 an13 cd13 ct13, fun s v => .of_eq rfl, fun base _ _ => ?_⟩
  have A__law_numbers := ok__law_numbers (P := l.prog) (w := w) (base := base) D__law_numbers m_abs m_range m_int
  have A__law_cell := ok__law_cell (P := l.prog) (w := w) (base := base) D__law_cell m_len
  have A__law_any_row := ok__law_any_row (P := l.prog) (w := w) (base := base) D__law_any_row m_range
  have A__law_drawn_rows := ok__law_drawn_rows (P := l.prog) (w := w) (base := base) D__law_drawn_rows m_range A__law_numbers A__law_cell A__law_any_row
  have A__law_partings := ok__law_partings (P := l.prog) (w := w) (base := base) D__law_partings m_sorted
  have A_many_partings := ok_many_partings (P := l.prog) (w := w) (base := base) D_many_partings m_max
  have A_is_whole := ok_is_whole (P := l.prog) (w := w) (base := base) D_is_whole m_isinstance m_bool m_int
  have A_lesser_half := ok_lesser_half (P := l.prog) (w := w) (base := base) D_lesser_half m_reversed c_HALF_SIGNS
  have A_turned_at_both := ok_turned_at_both (P := l.prog) (w := w) (base := base) D_turned_at_both m_zip
  have A_parting_at := ok_parting_at (P := l.prog) (w := w) (base := base) D_parting_at A_many_partings A_is_whole A_lesser_half A_turned_at_both
  have A_partings_of := ok_partings_of (P := l.prog) (w := w) (base := base) D_partings_of m_range A_many_partings A_parting_at
  have A_row_by := ok_row_by (P := l.prog) (w := w) (base := base) D_row_by m_zip
  have A__law_right := ok__law_right (P := l.prog) (w := w) (base := base) D__law_right m_len m_isinstance m_bool m_int m_range m_all m_tuple m_list A__law_partings A_many_partings A_partings_of A_row_by
  have A_law := ok_law (P := l.prog) (w := w) (base := base) D_law m_all m_max m_min m_len A__law_drawn_rows A__law_right
  obtain ⟨f9, fd9, F9, b9, g9, G9⟩ := A_law
  have e9 := g9.symm.trans hfa
  cases e9
  exact at_fd G9 F9 (fun_mk (st := st_law) l13 c13 k13)
end Hid
open PySem PySem.W PyProof.Rows
set_option maxHeartbeats 0 in
theorem PySem.Challenge.cw_hidhalves_k06_partings_told_holds : PySem.Challenge.rw_hidhalves_k06_partings_told.Holds := by
  w_on; o_law; k_head; (case hw => w_witness2)
  k_fill
  refine L2.walk_of (l := PySem.Challenge.rw_hidhalves_k06_partings_told) (n := 63) (k := 5) (x := "_law_script") (CX := fun _ => L2.CX0) (sp := fun w => Hid.sp_law _) rfl (by decide) rfl ⟨rfl, by decide, by decide⟩ (fun w h Y => PySem.W.kIn_of Y) ?F (fun _ _ a ns hl _ hS => ⟨a, ns, rfl, hS, hl, fun _ => rfl⟩) (fun _ _ _ _ _ h => h)
  case F =>
    intro w mg fa h KX G hmg
    refine' Hid.all_mk KX G hmg ?a0 ?l0 ?c0 ?k0 ?a1 ?l1 ?c1 ?k1 ?a2 ?l2 ?c2 ?k2 ?a3 ?l3 ?c3 ?k3 ?a4 ?l4 ?c4 ?k4 ?a5 ?l5 ?c5 ?k5 ?a6 ?l6 ?c6 ?k6 ?a7 ?l7 ?c7 ?k7 ?a8 ?l8 ?c8 ?k8 ?a9 ?l9 ?c9 ?k9 ?a10 ?l10 ?c10 ?k10 ?a11 ?l11 ?c11 ?k11 ?a12 ?l12 ?c12 ?k12 ?a13 ?l13 ?c13 ?k13 ?z_isinstance ?z_bool ?z_int ?z_zip ?z_max ?z_reversed ?z_range ?z_len ?z_abs ?z_sorted ?z_all ?z_tuple ?z_list ?z_min ?y_HALF_SIGNS
    (case a0 => k_is)
    (case l0 => k_is)
    (case c0 => k_is)
    (case k0 => k_is)
    (case a1 => k_is)
    (case l1 => k_is)
    (case c1 => k_is)
    (case k1 => k_is)
    (case a2 => k_is)
    (case l2 => k_is)
    (case c2 => k_is)
    (case k2 => k_is)
    (case a3 => k_is)
    (case l3 => k_is)
    (case c3 => k_is)
    (case k3 => k_is)
    (case a4 => k_is)
    (case l4 => k_is)
    (case c4 => k_is)
    (case k4 => k_is)
    (case a5 => k_is)
    (case l5 => k_is)
    (case c5 => k_is)
    (case k5 => k_is)
    (case a6 => k_is)
    (case l6 => k_is)
    (case c6 => k_is)
    (case k6 => k_is)
    (case a7 => k_is)
    (case l7 => k_is)
    (case c7 => k_is)
    (case k7 => k_is)
    (case a8 => k_is)
    (case l8 => k_is)
    (case c8 => k_is)
    (case k8 => k_is)
    (case a9 => k_is)
    (case l9 => k_is)
    (case c9 => k_is)
    (case k9 => k_is)
    (case a10 => k_is)
    (case l10 => k_is)
    (case c10 => k_is)
    (case k10 => k_is)
    (case a11 => k_is)
    (case l11 => k_is)
    (case c11 => k_is)
    (case k11 => k_is)
    (case a12 => k_is)
    (case l12 => k_is)
    (case c12 => k_is)
    (case k12 => k_is)
    (case a13 => k_is)
    (case l13 => k_is)
    (case c13 => k_is)
    (case k13 => k_is)
    (case z_isinstance => k_is)
    (case z_bool => k_is)
    (case z_int => k_is)
    (case z_zip => k_is)
    (case z_max => k_is)
    (case z_reversed => k_is)
    (case z_range => k_is)
    (case z_len => k_is)
    (case z_abs => k_is)
    (case z_sorted => k_is)
    (case z_all => k_is)
    (case z_tuple => k_is)
    (case z_list => k_is)
    (case z_min => k_is)
    (case y_HALF_SIGNS => k_is)
