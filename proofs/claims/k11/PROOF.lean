import PyProof.Rows.All
import Wide.All
import OpenK.AllK
import Wide.FinOn
import HandS.Base
import HandS.Call
import HandS.List
import HandS.Comp
import HandS.Ends
import HandS.Dict
import HandS.Iter
import HandS.Text
import HandS.Words
import KE.GoesNew
import HandS.Rev
import PyProof.JoinWalk
import KE.SortData
import HandS.Evl
import HandS.Walk
import HandS.IsInst
import HandS.ForMost
import HandS.Set
import HandS.Strs
import HandS.TupAny
import HandS.TupMul
import HandS.Style
import HandS.SetKeys
import HandS.WordsDict
import HandS.WideBits
import PySem.Challenge.RW_hidhalves_k11_crossings_told
set_option Elab.async false
set_option linter.all false
set_option maxRecDepth 100000
set_option maxHeartbeats 4000000
namespace Hid
open PySem PySem.Spec PyProof.Rows L2
/-- two texts side by side: the signs in new pairs -/
def ZsIt (x y : Str) : It :=
  ⟨fun i _ => i < min x.cps.size y.cps.size,
    fun i G v G' => ∃ T c d, v = .ref T ∧ G T = none ∧ G' = upd G T (.tup [.str ⟨#[c]⟩, .str ⟨#[d]⟩]) ∧ x.cps[i]? = some c ∧ y.cps[i]? = some d,
    fun i _ => min x.cps.size y.cps.size ≤ i⟩
/-- where the walk of two texts stands -/
def ZsAt (z TI TO i1 i2 : Addr) (x y : Str) (t u : Tok) (i : Nat) (h : Heap) : Prop :=
  i ≤ min x.cps.size y.cps.size ∧ IsZip h z TI TO .none ∧ IsTupOf2 h TI (.ref i1) (.ref i2) ∧ (∃ a1 a2, IsTupOf2 h TO a1 a2) ∧ h.IsStrIter i1 (strIterType x) x t i ∧ h.IsStrIter i2 (strIterType y) y u i
theorem zs_turn {P : Program} {w : World} {K : PySem.W.Frag} {es : List Expr} {kk : Nat} {tp : Pos} {z TI TO i1 i2 : Addr} {x y : Str} {t u : Tok} (S : ZipSep2 z TI TO i1 i2 [i1] [i2]) :
    Turn P w K (.Tuple es kk tp) (ZsIt x y) (z :: TI :: TO :: ([i1] ++ [i2])) z (ZsAt z TI TO i1 i2 x y t u) where
  mem := List.mem_cons_self
  obj := fun i h st b hb => by
    obtain ⟨_, hz, hTI, ⟨p, q, hTO⟩, ⟨o1, e1, _, d1⟩, ⟨o2, e2, _, d2⟩⟩ := st
    have e' : b = z ∨ b = TI ∨ b = TO ∨ b = i1 ∨ b = i2 := by simpa using hb
    rcases e' with r | r | r | r | r <;> rw [r]
    · exact ⟨_, hz, fun v n => nomatch n⟩
    · exact ⟨_, hTI, fun v n => nomatch n⟩
    · exact ⟨_, hTO, fun v n => nomatch n⟩
    · exact ⟨o1, e1, fun v n => by rw [d1] at n; cases n⟩
    · exact ⟨o2, e2, fun v n => by rw [d2] at n; cases n⟩
  keep := fun i h h' st k => by
    obtain ⟨hi, hz, hTI, ⟨p, q, hTO⟩, ⟨o1, e1, r1⟩, ⟨o2, e2, r2⟩⟩ := st
    exact ⟨hi, k z (by simp) _ hz, k TI (by simp) _ hTI, ⟨p, q, k TO (by simp) _ hTO⟩, ⟨o1, k i1 (by simp) _ e1, r1⟩, ⟨o2, k i2 (by simp) _ e2, r2⟩⟩
  item := by
    intro X hP hw hK hc i pins s σ H E I hf st hg
    subst hP hw hK
    have hh := I.ok.hd hc
    have G := GoesN.zip2 (prog := X.prog) (w := X.w) (A := X.A) (elts := es) (x1 := kk) (pos := tp) S (Draws.text (A := X.A.in1) hh i1 x t) (Draws.text (A := X.A.in1) hh i2 y u)
    obtain ⟨hi, st⟩ := st
    refine wpAny_mono (G.goes i s (fun v s2 => ∃ xv H', Inv X pins σ H' s2 ∧ RelV xv v ∧ (ZsIt x y).yld i H xv H' ∧ ZsAt z TI TO i1 i2 x y t u (i + 1) s2.heap ∧ ∀ b ∈ z :: TI :: TO :: ([i1] ++ [i2]), H' b = none) E hg st fun v h' tk hY st' hk htk => ?_) (fun r s1 h1 => ?_) fun _ _ e => e
    · obtain ⟨T, v1, v2, rfl, hT, ⟨c, u1, hc1, rfl⟩, ⟨d, u2, hd1, rfl⟩, o, ho, ho1, n, ho2⟩ := hY
      have new : ObjOk X.prog X.w (upd H T (.tup [.str ⟨#[c]⟩, .str ⟨#[d]⟩])) h' T (.tup [.str ⟨#[c]⟩, .str ⟨#[d]⟩]) :=
        ⟨by show 2 ≤ sizeLine; decide, [_, _], .cons ⟨u1, rfl⟩ (.cons ⟨u2, rfl⟩ .nil), ⟨o, ho, ho1, n, ho2⟩⟩
      have J : Inv X pins σ (upd H T (.tup [.str ⟨#[c]⟩, .str ⟨#[d]⟩])) { s with heap := h', toks := tk } :=
        I.turnedNew (t' := tk) (ch := [z, TO, i1, i2]) hk (fun b hb => hf b (by simp at hb ⊢; rcases hb with q | q | q | q <;> simp [q])) hT new
      refine ⟨.ref T, _, J, rfl, ⟨T, c, d, rfl, I.hok.fresh hT, rfl, hc1, hd1⟩, ⟨hg, st'⟩, fun b hb => ?_⟩
      have hb1 : b < s.heap.objs.size := by
        obtain ⟨hz, hTI, ⟨p, q, hTO⟩, ⟨o1, e1, r1⟩, ⟨o2, e2, r2⟩⟩ := st
        have e' : b = z ∨ b = TI ∨ b = TO ∨ b = i1 ∨ b = i2 := by simpa using hb
        rcases e' with r | r | r | r | r <;> rw [r]
        · exact Heap.lt_size hz
        · exact Heap.lt_size hTI
        · exact Heap.lt_size hTO
        · exact Heap.lt_size e1
        · exact Heap.lt_size e2
      rw [upd_ne (Nat.ne_of_lt (Nat.lt_of_lt_of_le hb1 hT))]
      exact (hf b hb).1
    · obtain ⟨v, rfl, q⟩ := h1
      exact ⟨v, rfl, q⟩
  done := by
    intro X hP hw hK hc i pins s σ H E I hf st hg
    subst hP hw hK
    have hh := I.ok.hd hc
    have G := GoesN.zip2 (prog := X.prog) (w := X.w) (A := X.A) (elts := es) (x1 := kk) (pos := tp) S (Draws.text (A := X.A.in1) hh i1 x t) (Draws.text (A := X.A.in1) hh i2 y u)
    obtain ⟨hi, st⟩ := st
    have ei : i = min x.cps.size y.cps.size := Nat.le_antisymm hi hg
    subst ei
    exact G.stops s (fun s1 => Inv X pins σ H s1) E st fun h' tk hk htk => I.turnedL (t' := tk) (ch := [z, TO, i1, i2]) hk (fun b hb => hf b (by simp at hb ⊢; rcases hb with q | q | q | q <;> simp [q]))
  self := fun A i s Q E st h => wpAny_pyIter_zip st.2.1 h
def iZs (ta : TA) : TI := fun σ H R => ta σ H fun vs H1 => ∃ x y, vs = [.str x, .str y] ∧ R (ZsIt x y) H1
/-- zip(x, y) of two texts -/
theorem pi_zs {X : Cx} {e e2 : Expr} {ta : TA} {p pos tp : Pos} {es : List Expr} {kk : Nat} (hg : Gl X "zip") (hm : X.mg "zip" = none) (ha : PA X [e, e2] ta)
    (hs : starEach [e, e2] X.env = (false, eval e X.env) :: starEach [e2] X.env := by rfl) (hpl : (backTo pos (starEach [e2] X.env)).any (·.1) = false := by rfl) :
    PI X (.Tuple es kk tp) (.Call (.Name "zip" p) [e, e2] [] pos) (iZs ta) := by
  refine ⟨fun pins s σ H R I h => ?_⟩
  refine Call_ (ld_blt I hg hm boot_zip (callWith_type1 (thn (ha.run pos pins s σ H _ I h) fun us s1 ⟨vs, H1, I1, r1, x, y, ex, q⟩ => ?_) hs hpl))
  subst ex
  cases r1 with
  | cons r rr =>
    cases rr with
    | cons r' rr =>
      cases rr
      obtain ⟨t, rfl⟩ := r
      obtain ⟨u, rfl⟩ := r'
      refine zip_begins2 (begins_text x t) (begins_text y u) trivial trivial fun h' hz hTI hTO g1 g2 hsz hk => wpAny_pyIter_zip hz ?_
      refine ⟨s1.heap.objs.size + 4, _, _, _, H1, rfl, I1.kept (t' := s1.toks) hk, zs_turn (zip_sep2 (fp1 := []) (fp2 := []) (fun b n => nomatch n) (fun b n => nomatch n)),
        ⟨Nat.zero_le _, hz, hTI, ⟨_, _, hTO⟩, ⟨_, g1, rfl, rfl⟩, ⟨_, g2, rfl, rfl⟩⟩, fun c hcm => ?_, q⟩
      have e' : c = s1.heap.objs.size + 4 ∨ c = s1.heap.objs.size + 2 ∨ c = s1.heap.objs.size + 3 ∨ c = s1.heap.objs.size ∨ c = s1.heap.objs.size + 1 := by simpa using hcm
      have hle : s1.heap.objs.size ≤ c := by
        rcases e' with r | r | r | r | r <;> rw [r] <;> first | exact Nat.le_refl _ | exact Nat.le_add_right _ _
      exact I1.fpOk hle (I1.hok.fresh hle)
/-- a loop over two texts side by side -/
theorem for_zs {x y : Str} {g : TG} {tb : TS} {D : Ends} {σ : L2.St} {H : Hp} {n : Nat} (hn : n = min x.cps.size y.cps.size) (Pv : Nat → L2.St → Hp → Prop) (h0 : Pv 0 σ H)
    (hs : ∀ (i c d : Nat) (T : Addr) (σ : L2.St) (H : Hp), i < n → x.cps[i]? = some c → y.cps[i]? = some d → H T = none → Pv i σ H →
      g (.ref T) σ (upd H T (.tup [.str ⟨#[c]⟩, .str ⟨#[d]⟩])) fun σ2 H2 => tb { D with nx := Pv (i + 1), ct := Pv (i + 1), bk := D.nx } σ2 H2) (hd : ∀ σ H, Pv n σ H → D.nx σ H) :
    ∃ W : Nat → Nat → L2.St → Hp → Prop, (∃ m, W 0 m σ H) ∧ ∀ i m σ H, W i m σ H →
      ((ZsIt x y).stop i H ∧ D.nx σ H) ∨ ((ZsIt x y).go i H ∧ ∃ N : L2.St → Hp → Prop, (∀ σ' H', N σ' H' → ∃ m', m' < m ∧ W (i + 1) m' σ' H') ∧ ∀ v H', (ZsIt x y).yld i H v H' → g v σ H' fun σ2 H2 => tb { D with nx := N, ct := N, bk := D.nx } σ2 H2) := by
  subst hn
  refine ⟨fun i m σ H => m = min x.cps.size y.cps.size - i ∧ i ≤ min x.cps.size y.cps.size ∧ Pv i σ H, ⟨_, rfl, Nat.zero_le _, h0⟩, ?_⟩
  rintro i m σ H ⟨rfl, hi, p⟩
  by_cases hlt : i < min x.cps.size y.cps.size
  · refine .inr ⟨hlt, Pv (i + 1), fun σ' H' p' => ⟨_, by omega, rfl, hlt, p'⟩, fun v H' r => ?_⟩
    obtain ⟨T, c, d, rfl, hT, rfl, hc, hd'⟩ := r
    exact hs i c d T σ H hlt hc hd' hT p
  · have e : i = min x.cps.size y.cps.size := by omega
    subst e
    exact .inl ⟨Nat.le_refl _, hd σ H p⟩
end Hid

namespace Hid
open PySem PySem.Spec PyProof.Rows L2
theorem str_norev : typeLookup (.type "str") "__reversed__" = pure none := by rw [typeLookup_type, builtinLookup_eq_fast]; kernel_rfl
theorem str_getit : typeLookup (.type "str") "__getitem__" = pure (some (.builtin "str.__getitem__")) := by rw [typeLookup_type, builtinLookup_eq_fast]; kernel_rfl
abbrev rsObj (x : Str) (t : Tok) (i : Int) : Obj := { cls := .type "reversed", data := .fields #[.str x t, rawInt i] }
/-- reversed(x) of a text, the next place i -/
def IsRs (h : Heap) (a : Addr) (x : Str) (t : Tok) (i : Int) : Prop := ∃ o, h.get? a = some o ∧ o.cls = .type "reversed" ∧ o.data = .fields #[.str x t, rawInt i]
section
variable {prog : Program} {w : World} {A : Around} {E : Value → Shared → Prop} {s : Shared}
theorem IsRs.kind {a : Addr} {x : Str} {t : Tok} {i : Int} (q : IsRs s.heap a x t i) : s.TypeIs (.ref a) "reversed" := let ⟨o, ho, hc, _⟩ := q; ⟨o, ho, hc⟩
theorem rs_code {x : Str} {t : Tok} {Q₁ : Value → Shared → Prop} (hx : x.length ≤ sizeLine)
    (h : Q₁ (.ref s.heap.objs.size) { s with heap := s.heap.push (rsObj x t ((x.length : Int) - 1)), toks := s.toks + 1 + 1 }) :
    codeAny (model prog w) A (.call (.builtin "reversed.__new__") ⟨[.type "reversed", .str x t], []⟩) (wants Q₁ E) s := by
  have kx := typeIs_str s x t
  refine codeAny_of_tree ?_
  show wpAny _ A.in1 (do checkBuiltinCall "reversed.__new__" ⟨[.type "reversed", .str x t], []⟩; again (.builtin "reversed.__new__" ⟨[.type "reversed", .str x t], []⟩)) _ _ s
  refine wpAny_bind (wpAny_of_eq (F.newCall_reversed_1 _) (wpAny_pure ⟨plainId_quiet F.plain_reversed_new _, codeAny_builtin F.entry_reversed_new ?_⟩))
  rw [Around.under_plainId F.plain_reversed_new _] <;> unfold Builtin.«reversed.__new__»
  refine wpAny_bind (wpAny_of_eq (newClass_reversed _) ?_) <;> try dsimp only
  refine wpAny_bind (wpAny_of_eq (a := ()) (by first | rfl | kernel_rfl) ?_) <;> try dsimp only
  refine wpAny_bind (wpAny_of_eq (a := ()) (by first | rfl | kernel_rfl) ?_) <;> try dsimp only
  refine wpAny_bind (wpAny_specialOf kx str_norev ?_) <;> try dsimp only
  refine wpAny_bind ?_ <;> wp_delta
  refine wpAny_bind (wpAny_isInstance (T := "str") (U := "dict") (b := false) kx PySem.F.sub_str_dict ?_)
  try dsimp only
  try rw [if_neg Bool.false_ne_true]
  try dsimp only
  refine wpAny_bind (wpAny_specialOf kx str_getit ?_)
  try dsimp only
  try rw [if_pos (by decide +kernel)]
  refine wpAny_pure ?_
  try dsimp only
  try rw [if_neg (by decide)]
  try dsimp only
  have hn := line63
  refine wpAny_bind (PySem.P.len_str (by omega) ?_)
  refine wpAny_bind (wpAny_of_eq (a := some ((x.length : Nat) : Int)) rfl ?_) <;> try dsimp only
  refine wpAny_bind ?_
  show wpAny _ _ (newObj (.type "reversed") (.fields #[.str x t, rawInt ((x.length : Int) - 1)])) _ _ _
  refine wpAny_newObj_type ?_
  exact wpAny_pure h
theorem rs_call {x : Str} {t : Tok} {Q : Value → Shared → Prop} (hx : x.length ≤ sizeLine)
    (h : Q (.ref s.heap.objs.size) { s with heap := s.heap.push (rsObj x t ((x.length : Int) - 1)), toks := s.toks + 1 + 1 }) : wpAny (model prog w) A (call (.type "reversed") [.str x t]) Q E s := by
  refine callType_codes (Q₁ := fun obj s₁ => s₁.TypeIs obj "reversed" ∧ Q obj s₁) RT.called_rt (F.typeCall_reversed_1 _) F.entry_object_init
    (rs_code (A := A.in1) hx ⟨⟨_, Heap.get?_push_size _ rfl, rfl⟩, h⟩) fun obj s₁ g => ?_
  exact ⟨g.1, F.args_object_init_2 obj _, object_init_meets RT.called_rt.init.lookup RT.called_rt.made (by decide) prog w A.in1 _ s₁ ⟨g.1, rfl, g.2⟩⟩
theorem rs_next {it : Addr} {i c : Nat} {x : Str} {t : Tok} {Q : Option Value → Shared → Prop} (hit : IsRs s.heap it x t (i : Int)) (hx : x.cps[i]? = some c) (hsz : x.length ≤ sizeLine)
    (hQ : ∀ h' u k, IsRs h' it x t ((i : Int) - 1) → Heap.SameBut it s.heap h' → Q (some (.str ⟨#[c]⟩ u)) { s with heap := h', toks := k }) : wpAny (model prog w) A (pyNext (.ref it)) Q E s := by
  obtain ⟨o, ho, hc, hd⟩ := id hit
  have hi : i < x.cps.size := (Array.getElem?_eq_some_iff.mp hx).1
  have kx := typeIs_str s x t
  have hn := line63
  have hl : x.length = x.cps.size := rfl
  unfold pyNext
  refine wpAny_bind (wpAny_attempt (wpAny_callSpecial?_slot (name := Str.ofString "__next__") hit.kind RT.slot_rt_next (wpAny_call_entry RT.slot_rt_next hit.kind RT.entry_rt_next ?_ (RT.args_rt_next _))))
  unfold Builtin.«reversed.__next__»
  refine wpAny_bind (wpAny_of_eq (a := (Value.ref it, [])) rfl ?_) <;> try dsimp only
  refine wpAny_bind (wpAny_field ho hd (x := .str x t) rfl ?_) <;> try dsimp only
  refine wpAny_bind (wpAny_field ho hd (x := rawInt (i : Int)) rfl ?_)
  show wpAny _ _ (if (i : Int) < 0 then _ else _) _ _ s
  rw [if_neg (by omega)] <;> try dsimp only
  refine wpAny_bind (wpAny_specialOf kx str_getit ?_)
  try dsimp only
  try rw [if_neg (by decide)]
  try dsimp only
  refine wpAny_bind (wpAny_mkInt ?_) <;> refine wpAny_bind (wpAny_attempt ?_)
  have fin : seqIndex? (i : Int) x.length = some i := seqIndex_of (by omega) (by omega)
  refine PySem.P.getItem_str (s := { s with toks := s.toks + 1 }) (c := c) (by
    have e1 : decide ((i : Int) < -(2 ^ 63 : Int)) = false := decide_eq_false (by omega)
    have e2 : decide ((i : Int) ≥ 2 ^ 63) = false := decide_eq_false (by omega)
    rw [e1, e2] <;> rfl) (by rw [fin]; exact hx) ?_
  try dsimp only
  refine wpAny_bind (wpAny_field (s := { s with toks := s.toks + 1 + 1 }) ho hd (x := rawInt (i : Int)) rfl ?_)
  try dsimp only
  refine wpAny_bind (wpAny_setField (s := { s with toks := s.toks + 1 + 1 }) ho hd (by simp) ?_)
  first
  | refine wpAny_pure ⟨_, rfl, wpAny_pure (hQ _ _ _ ?_ (Heap.SameBut.update ..))⟩
  | refine wpAny_bind (wpAny_pure (wpAny_pure ⟨_, rfl, wpAny_pure (hQ _ _ _ ?_ (Heap.SameBut.update ..))⟩))
  exact ⟨_, Heap.get?_update_self _ ho (Obj.isFreed_of_fields (Obj.data_mapFields hd _)), (Obj.cls_mapFields ..).trans hc, by rw [Obj.data_mapFields hd]; simp⟩
theorem rs_end {it : Addr} {x : Str} {t : Tok} {Q : Option Value → Shared → Prop} (hh : A.handled = none) (hit : IsRs s.heap it x t (-1))
    (hQ : ∀ h', Heap.ExtBut it s.heap h' → Q none { s with heap := h' }) : wpAny (model prog w) A (pyNext (.ref it)) Q E s := by
  obtain ⟨o, ho, hc, hd⟩ := id hit
  unfold pyNext
  refine wpAny_bind (wpAny_attempt (wpAny_callSpecial?_slot (name := Str.ofString "__next__") hit.kind RT.slot_rt_next (wpAny_call_entry RT.slot_rt_next hit.kind RT.entry_rt_next ?_ (RT.args_rt_next _))))
  unfold Builtin.«reversed.__next__»
  refine wpAny_bind (wpAny_of_eq (a := (Value.ref it, [])) rfl ?_) <;> try dsimp only
  refine wpAny_bind (wpAny_field ho hd (x := .str x t) rfl ?_) <;> try dsimp only
  refine wpAny_bind (wpAny_field ho hd (x := rawInt (-1)) rfl ?_)
  show wpAny _ _ (if (-1 : Int) < 0 then _ else _) _ _ s
  rw [if_pos (by decide)] <;> try dsimp only
  refine wpAny_bind (wpAny_rule ?_) <;> refine wpAny_bind ?_ <;> wp_delta
  refine wpAny_bind (wpAny_setField ho hd (by simp) ?_)
  have ho2 := Heap.get?_update_self (Obj.mapFields (·.setIfInBounds 1 (rawInt (-1)))) ho (Obj.isFreed_of_fields (Obj.data_mapFields hd _))
  refine wpAny_setField (s := { s with heap := s.heap.update it (Obj.mapFields (·.setIfInBounds 1 (rawInt (-1)))) }) ho2 (Obj.data_mapFields hd _) (by simp) ?_
  try dsimp only
  first
  | show wpAny _ _ (newExc (.type "StopIteration") [] >>= _) _ _ _
  | (refine wpAny_bind ?_; show wpAny _ _ (newExc (.type "StopIteration") [] >>= _) _ _ _)
  | (refine wpAny_bind ?_; wp_delta; show wpAny _ _ (newExc (.type "StopIteration") [] >>= _) _ _ _)
  refine wpAny_bind ?_
  simp only [newExc, newTuple]
  refine wpAny_bind (wpAny_newObj_type ?_ (by size_fits))
  refine wpAny_bind (m := firstArgMember _ _) (wpAny_of_eq (a := Value.none) (by first | rfl | (simp only [firstArgMember]; rfl)) ?_)
  refine wpAny_newObj_type ?_ (by size_fits)
  simp only [raiseNew]
  refine wpAny_bind (wpAny_handled ?_)
  first | rw [show A.in1.handled = none from hh] | rw [hh]
  refine wpAny_bind (wpAny_pure (wpAny_throw ?_))
  refine wpAny_bind (wpAny_isInstance (T := "StopIteration") (b := true) ⟨_, Heap.get?_push_size _ rfl, rfl⟩ isSubtype_stop ?_)
  refine wpAny_pure (hQ _ ?_)
  refine ((?_ : Heap.ExtBut it s.heap _).push _).push _
  exact fun b ob hb e => (Heap.get?_update_other _ _ (Ne.symm hb)).trans ((Heap.get?_update_other _ _ (Ne.symm hb)).trans e)
theorem rs_iter {it : Addr} {x : Str} {t : Tok} {i : Int} {Q : Value → Shared → Prop} (hit : IsRs s.heap it x t i) (h : Q (.ref it) s) : wpAny (model prog w) A (pyIter (.ref it)) Q E s := by
  refine wpAny_pyIter_slot hit.kind RT.slot_rt_iter (wpAny_call_entry RT.slot_rt_iter hit.kind RT.entry_rt_iter ?_ (RT.args_rt_iter _))
  show wpAny _ _ (ret (.ref it)) _ _ s
  exact wpAny_pure ⟨_, rfl, "reversed", _, hit.kind, RT.slot_rt_next.lookup, h⟩
end
/-- the signs of a text from the last -/
def RsIt (x : Str) : It := ⟨fun i _ => i < x.cps.size, fun i H v H' => H' = H ∧ ∃ c, x.cps[x.cps.size - 1 - i]? = some c ∧ v = .str ⟨#[c]⟩, fun i _ => x.cps.size ≤ i⟩
theorem rs_turn {P : Program} {w : World} {K : PySem.W.Frag} {tg : Expr} (it : Addr) (x : Str) (t : Tok) (hx : x.length ≤ sizeLine) :
    Turn P w K tg (RsIt x) [it] it (fun i h => i ≤ x.cps.size ∧ IsRs h it x t ((x.cps.size : Int) - 1 - (i : Nat))) where
  mem := by simp
  obj := fun i h st b hb => by
    obtain rfl : b = it := by simpa using hb
    obtain ⟨_, o, e, c, d⟩ := st
    exact ⟨o, e, fun v z => by rw [d] at z; cases z⟩
  keep := fun i h h' st k => by
    obtain ⟨hi, o, e, r⟩ := st
    exact ⟨hi, o, k it (by simp) o e, r⟩
  item := by
    intro X hP hw hK hc i pins s σ H E I hf st hg
    subst hP hw hK
    have hlt : i < x.cps.size := hg
    obtain ⟨f0, f1, f2, f3, f4, f5⟩ := hf it (by simp)
    obtain ⟨_, hit⟩ := st
    have e1 : (x.cps.size : Int) - 1 - ((i : Nat) : Int) = ((x.cps.size - 1 - i : Nat) : Int) := by omega
    rw [e1] at hit
    have hj : x.cps.size - 1 - i < x.cps.size := by omega
    have hcx : x.cps[x.cps.size - 1 - i]? = some x.cps[x.cps.size - 1 - i] := Array.getElem?_eq_getElem hj
    refine rs_next hit hcx hx fun h' u k st' sb => ?_
    have e2 : ((x.cps.size - 1 - i : Nat) : Int) - 1 = (x.cps.size : Int) - 1 - ((i + 1 : Nat) : Int) := by omega
    rw [e2] at st'
    have J : Inv X pins σ H { s with heap := h', toks := k } := I.turned (t' := k) (fun b o hb e => (sb.2 b hb).trans e) f0 f1 f3 f4 f5
    obtain ⟨o, e, c, d⟩ := id st'
    exact ⟨_, rfl, go_of (s := { s with heap := h', toks := k }) e c d (by decide) ⟨.str ⟨#[_]⟩, H, J, ⟨u, rfl⟩, ⟨rfl, _, hcx, rfl⟩, ⟨hlt, st'⟩, fun b hb => (hf b hb).1⟩⟩
  done := by
    intro X hP hw hK hc i pins s σ H E I hf st hg
    subst hP hw hK
    obtain ⟨f0, f1, f2, f3, f4, f5⟩ := hf it (by simp)
    obtain ⟨hin, hit⟩ := st
    have hge : x.cps.size ≤ i := hg
    have e1 : (x.cps.size : Int) - 1 - ((i : Nat) : Int) = -1 := by omega
    rw [e1] at hit
    exact rs_end (I.ok.hd hc) hit fun h' eb => ⟨rfl, I.turned (t' := s.toks) (fun b o hb e => eb b o hb e) f0 f1 f3 f4 f5⟩
  self := fun A i s Q E st h => rs_iter st.2 h
def iRs (te : TE) : TI := fun σ H R => te σ H fun v H1 => ∃ x, v = .str x ∧ x.length ≤ sizeLine ∧ R (RsIt x) H1
/-- for c in reversed(x) of a text -/
theorem pi_rs {X : Cx} {tg e : Expr} {te : TE} {p pos : Pos} (hg : Gl X "reversed") (hm : X.mg "reversed" = none) (he : PE X e te) (hs : starEach [e] X.env = (false, eval e X.env) :: starEach [] X.env := by rfl) : PI X tg (.Call (.Name "reversed" p) [e] [] pos) (iRs te) := by
  refine ⟨fun pins s σ H R I h => ?_⟩
  refine Call_ (ld_blt I hg hm boot_reversed (callWith_type1 (args_cons (thn (he.run pins s σ H _ I h) fun u s1 ⟨v, H1, I1, r1, x, ev, hx, q⟩ => args_nil ?_) hs) hs rfl))
  subst ev
  obtain ⟨t, rfl⟩ := r1
  refine rs_call hx (rs_iter (x := x) (t := t) (i := (x.length : Int) - 1) ⟨_, Heap.get?_push_size _ rfl, rfl, rfl⟩ ?_)
  refine pi_one (tk := s1.toks + 1 + 1) I1 _ (rs_turn _ x t hx) ⟨Nat.zero_le _, ?_⟩ q
  have e1 : (x.length : Int) - 1 = (x.cps.size : Int) - 1 - ((0 : Nat) : Int) := by show (x.cps.size : Int) - 1 = _; omega
  rw [← e1]
  exact ⟨_, Heap.get?_push_size _ rfl, rfl, rfl⟩
theorem for_rs {x : Str} {g : TG} {tb : TS} {D : Ends} {σ : L2.St} {H : Hp} (Pv : Nat → L2.St → Hp → Prop) (h0 : Pv 0 σ H)
    (hs : ∀ (i c : Nat) (σ : L2.St) (H : Hp), i < x.cps.size → x.cps[x.cps.size - 1 - i]? = some c → Pv i σ H → g (.str ⟨#[c]⟩) σ H fun σ2 H2 => tb { D with nx := Pv (i + 1), ct := Pv (i + 1), bk := D.nx } σ2 H2) (hd : ∀ σ H, Pv x.cps.size σ H → D.nx σ H) :
    ∃ W : Nat → Nat → L2.St → Hp → Prop, (∃ m, W 0 m σ H) ∧ ∀ i m σ H, W i m σ H →
      ((RsIt x).stop i H ∧ D.nx σ H) ∨ ((RsIt x).go i H ∧ ∃ N : L2.St → Hp → Prop, (∀ σ' H', N σ' H' → ∃ m', m' < m ∧ W (i + 1) m' σ' H') ∧ ∀ v H', (RsIt x).yld i H v H' → g v σ H' fun σ2 H2 => tb { D with nx := N, ct := N, bk := D.nx } σ2 H2) := by
  refine ⟨fun i m σ H => m = x.cps.size - i ∧ i ≤ x.cps.size ∧ Pv i σ H, ⟨_, rfl, Nat.zero_le _, h0⟩, ?_⟩
  rintro i m σ H ⟨rfl, hi, p⟩
  by_cases hlt : i < x.cps.size
  · refine .inr ⟨hlt, Pv (i + 1), fun σ' H' p' => ⟨_, by omega, rfl, hlt, p'⟩, fun v H' r => ?_⟩
    obtain ⟨rfl, c, hc, rfl⟩ := r
    exact hs i c σ _ hlt hc p
  · obtain rfl : i = x.cps.size := by omega
    exact .inl ⟨Nat.le_refl _, hd σ H p⟩
end Hid

namespace Hid
open PySem PySem.Spec PyProof.Rows L2
/-! sorted of data -/
section
variable {X : Cx} {β : Type}
def rSortD (K : PySem.W.Frag) (enc : β → PyData) : List V → Hp → VK → Prop := fun vs H Q => ∃ (a : Addr) (xs : List V) (bs : List β) (R : V → β → Prop), vs = [.ref a] ∧ SqL K H a xs ∧ Paired R xs bs ∧ (∀ v b, R v b → Dp K H v (enc b)) ∧
  PySem.W.AllAlike (bs.map enc) ∧ PySem.W.Sortable (bs.map enc) ∧ (∀ b ∈ bs, (enc b).depth ≤ 8) ∧ ∀ ys p, Paired R ys (bs.mergeSort (PySem.W.dataLe false enc)) → H p = none → Q (.ref p) (upd H p (.lst ys))
theorem each_of_paired {R : V → β → Prop} : ∀ {xs : List V} {its : List Value} {bs : List β}, Vals xs its → Paired R xs bs → PySem.W.EachIs (fun v b => ∃ x, RelV x v ∧ R x b) its bs
  | _, _, _, .nil, .nil => .nil
  | _, _, _, .cons r rs, .cons d ds => .cons ⟨_, r, d⟩ (each_of_paired rs ds)
theorem paired_of_each {R : V → β → Prop} : ∀ {out : List Value} {bs : List β}, PySem.W.EachIs (fun v b => ∃ x, RelV x v ∧ R x b) out bs → ∃ ys, Vals ys out ∧ Paired R ys bs
  | _, _, .nil => ⟨[], .nil, .nil⟩
  | _, _, .cons ⟨x, r, d⟩ t => let ⟨ys, h1, h2⟩ := paired_of_each t; ⟨x :: ys, .cons r h1, .cons d h2⟩
theorem paired_len {α γ : Type} {F : α → γ → Prop} : ∀ {l : List α} {m : List γ}, Paired F l m → l.length = m.length
  | _, _, .nil => rfl
  | _, _, .cons _ t => congrArg (· + 1) (paired_len t)
theorem each_mono {α γ : Type} {R R' : α → γ → Prop} (h : ∀ a b, R a b → R' a b) : ∀ {l : List α} {m : List γ}, PySem.W.EachIs R l m → PySem.W.EachIs R' l m
  | _, _, .nil => .nil
  | _, _, .cons a t => .cons (h _ _ a) (each_mono h t)
theorem cr_sortD {enc : β → PyData} (hu : X.A.units + 64 < cLine) : CallR X (.builtin "sorted") (rSortD X.K enc) := by
  intro pins s σ H vs us Q I r h
  obtain ⟨a, xs, bs, R, rfl, hs, hp, hR, hal, hk, hd, q⟩ := h
  obtain ⟨its, rv, hl, hz⟩ := I.list hs
  rw [Vals.ref1 r]
  have e := each_of_paired rv hp
  have hlen : bs.length = xs.length := (paired_len hp).symm
  refine PySem.W.sorted_data (vs := its) hl.isList e (each_mono (fun v b ⟨x, r, d⟩ => Dp.reads I _ _ _ (hR _ _ d) r) e) hal hk (by rw [hlen]; exact hz) (fun b hb => ?_) fun out ho eo => ?_
  · have := hd b hb
    omega
  · obtain ⟨ys, h1, h2⟩ := paired_of_each eo
    obtain ⟨c, hc⟩ := sortedAll_at s.heap its (List.toArray out)
    have hle : s.heap.objs.size ≤ s.heap.objs.size + 1 := Nat.le_succ _
    refine ⟨.ref (s.heap.objs.size + 1), upd H (s.heap.objs.size + 1) (.lst ys), I.laid (t' := s.toks) (fun _ _ => sortedAll_old) hle ⟨?_, out, c, h1, hc⟩, rfl, q ys _ h2 (I.hok.fresh hle)⟩
    rw [h1.length, ho, hlen]
    exact hz
end
/-- pairs of texts as data -/
def encSS (p : Str × Str) : PyData := .tuple [.str p.1, .str p.2]
theorem cr_sortSS {X : Cx} (hu : X.A.units + 64 < cLine) : CallR X (.builtin "sorted") (rSortD X.K encSS) := cr_sortD hu
theorem le_ss (p q : Str × Str) (h : p.1.cps.toList < q.1.cps.toList) : PySem.W.dataLe false encSS p q = true := by
  show (!PySem.W.dataLt (.tuple [.str q.1, .str q.2]) (.tuple [.str p.1, .str p.2])) = true
  have ne : PyData.eqv (.str q.1) (.str p.1) = false := by
    show (q.1 == p.1) = false
    rw [beq_eq_false_iff_ne]
    intro e
    rw [e] at h
    exact List.lt_irrefl _ h
  rw [PySem.W.dataLt_pair (by simp [PySem.W.alike]) (by simp [PySem.W.alike]), ne, if_neg Bool.false_ne_true, PySem.W.dataLt_str]
  have : ¬ q.1.cps.toList < p.1.cps.toList := fun z => List.lt_irrefl _ (List.lt_trans h z)
  simp [this]
/-! text * number, >>= -/
section
variable {X : Cx}
theorem op_mul_str : OpR X (binaryOp .Mult) (fun x y H Q => ∃ z i, x = .str z ∧ y = .int i ∧ 0 ≤ i ∧ i ≤ 1000 ∧ z.length ≤ 1000 ∧ Q (.str (Txt.mul z i)) H) := by
  intro pins s σ H x y v u Q I rx ry h
  obtain ⟨z, i, rfl, rfl, h0, h1, h2, q⟩ := h
  obtain ⟨t, rfl⟩ := rx
  obtain ⟨t', rfl⟩ := ry
  refine PySem.SB.mul ⟨?_, fun n1 _ => ?_, fun n1 _ => ?_⟩ fun t' k => ⟨.str _, H, I.tok k, ⟨t', rfl⟩, q⟩
  · have e1 : decide (i < -(2 ^ 63 : Int)) = false := decide_eq_false (by omega)
    have e2 : decide (i ≥ 2 ^ 63) = false := decide_eq_false (by omega)
    rw [e1, e2] <;> rfl
  · have : (1000 : Int) ≤ (2 ^ 63 - 1) / i := (Int.le_ediv_iff_mul_le (by omega)).mpr (by omega)
    omega
  · unfold Builtin.Str.tooLong
    have h3 : z.length * i.toNat ≤ 1000 * 1000 := Nat.mul_le_mul h2 (by omega)
    have h4 : (1000 * 1000 : Nat) ≤ sizeLine := by decide
    exact decide_eq_false (by omega)
theorem ip_shr : PIp X .RShift (rI (fun _ j => 0 ≤ j) fun i j => .int (i / 2 ^ j.toNat)) := iop_shr
end
/-! sep.join(reversed(list)) -/
theorem gives_join {x : Str} (lz : List (Str × Tok)) (g0 : Builtin.Str.tooLong ((lz.map (·.1)).toArray.foldl (· + ·.length + x.length) 0) = false) : Gives (PySem.joinTail x (strValues lz)) (joinMade x lz) := by
  have g1 := gives_joinTail x lz g0
  match lz, g0, g1 with
  | [], _, g1 => exact g1
  | [_], _, g1 => exact g1
  | _ :: _ :: _, _, g1 => exact g1
section
variable {prog : Program} {w : World} {A : Around} {E : Value → Shared → Prop} {s : Shared}
theorem join_rev {it l : Addr} {items : Array Value} {ys : List Str} {x : Str} {t : Tok} {Q : Value → Shared → Prop} (hh : A.handled = none) (hit : s.heap.IsRevIter it l ((items.size : Int) - 1)) (hl : s.heap.IsList l items) (hne : l ≠ it) (hn : items.size ≤ sizeLine)
    (hy : StrsAre items.toList ys) (hok : (ys.map (·.length)).sum + ys.length * x.length ≤ 16777216)
    (hq : ∀ (h' : Heap) t' k, (∀ b o, b ≠ it → s.heap.get? b = some o → h'.get? b = some o) → Q (.str (Txt.join x ys.reverse) t') { s with heap := h', toks := k }) :
    wpAny (model prog w) A (call (.builtin "str.join") [.str x t, .ref it]) Q E s := by
  refine wpAny_call (codeAny_call_builtin F.slot_str_join.plain F.entry_str_join (F.slot_str_join.check _ _ _ _ _ _ _ _ (typeIs_str _ _ _) (F.args_str_join_2 _ _) ?_))
  rw [PySem.join_tree_other]
  refine wpAny_bind (wpAny_typeOf hit.typeIs ?_)
  show wpAny _ A.in1 ((pyIter (.ref it)).tryCatch _ >>= fun i => collect i >>= fun items => PySem.joinTail x items) _ _ s
  refine wpAny_bind (wpAny_tryCatch (wpAny_pyIter_revIter hit ?_))
  refine wpAny_bind (RT.collect_rev (A := A.in1) hh hit hl hne hn fun h' tk acc hk hacc => ?_)
  have hr : acc.toList = items.toList.reverse := by
    apply List.ext_getElem?
    intro j
    by_cases hj : j < items.size
    · have h1 : j < acc.size := by rw [hacc.1]; exact hj
      have e1 : acc.toList[j]? = some acc[j] := by rw [Array.getElem?_toList, Array.getElem?_eq_getElem h1]
      have e2 := hacc.2 j acc[j] (Array.getElem?_eq_getElem h1)
      rw [e1, List.getElem?_reverse (by simpa using hj)] <;> simpa using e2.symm
    · rw [List.getElem?_eq_none (by rw [Array.length_toList, hacc.1]; omega), List.getElem?_eq_none (by rw [List.length_reverse, Array.length_toList]; omega)]
  obtain ⟨vals, hv, ht⟩ := strsAre_values hy
  have hl2 : acc.toList = strValues vals.reverse := by
    rw [hr, hv]
    show (List.map _ vals).reverse = List.map _ vals.reverse
    rw [List.map_reverse]
  rw [hl2]
  have hok2 : (((vals.reverse).map (·.1)).map (·.length)).sum + ((vals.reverse).map (·.1)).length * x.length ≤ 16777216 := by
    rw [List.map_reverse, ht, List.map_reverse, List.sum_reverse, List.length_reverse]
    exact hok
  have g0 := joinOk_of hok2
  unfold JoinOk at g0
  rw [Bool.not_eq_true'] at g0
  refine Hid.gives_join vals.reverse g0 prog w A (wants Q E) { s with heap := h', toks := tk } (post_join vals.reverse ⟨joinFit_length g0, fun t' k => ?_⟩)
  rw [List.map_reverse, ht]
  exact hq h' t' k hk
end
/-- x.join(reversed(xs)), xs a list of texts -/
def tJoinRev (K : PySem.W.Frag) (to te : TE) : TE := fun σ H Q => to σ H fun v H1 => ∃ x, v = .str x ∧ te σ H1 fun y H2 => ∃ (a : Addr) (ys : List Str), y = .ref a ∧ SqL K H2 a (ys.map V.str) ∧ (ys.map (·.length)).sum + ys.length * x.length ≤ 16777216 ∧ Q (.str (Txt.join x ys.reverse)) H2
theorem pe_joinRev {X : Cx} {o e : Expr} {to te : TE} {apos pos p2 pos2 : Pos} (hc : X.calm = true) (hg2 : Gl X "reversed") (hm2 : X.mg "reversed" = none) (ho : PE X o to) (he : PE X e te)
    (hs : starEach [e] X.env = (false, eval e X.env) :: starEach [] X.env := by rfl)
    (hs2 : starEach [.Call (.Name "reversed" p2) [e] [] pos2] X.env = [(false, eval (.Call (.Name "reversed" p2) [e] [] pos2) X.env)] := by rfl)
    (hbase : attributeBase o "join" X.env (eval o X.env) = eval o X.env := by rfl) (hline : (apos.endLine == pos.line) = true := by rfl) :
    PE X (.Call (.Attribute o "join" apos) [.Call (.Name "reversed" p2) [e] [] pos2] [] pos) (tJoinRev X.K to te) := by
  refine ⟨fun pins s σ H Q I h => ?_⟩
  refine PySem.Call_method1 hbase hs2 hline (thn (ho.run pins s σ H _ I h) fun v s1 ⟨x0, H1, I1, r1, x, q1, h1⟩ => ?_)
  subst q1
  obtain ⟨t, rfl⟩ := _root_.id r1
  refine ⟨"str", _, F.plainAttrs_str, F.slot_str_join, F.type_str_join, typeIs_str _ _ _, (fun _ e => nomatch e), Calls.callWith_builtin rfl (Calls.evalArgs_plain (Calls.spliced_cons ?_))⟩
  refine Call_ (ld_blt I1 hg2 hm2 boot_reversed (callWith_type1 (args_cons (thn (he.run pins s1 σ H1 _ I1 h1) fun u s2 ⟨y, H2, I2, r2, q2⟩ => args_nil ?_) hs) hs rfl))
  obtain ⟨a, ys, rfl, hq, hz, q⟩ := q2
  obtain rfl : u = Value.ref a := r2
  obtain ⟨its, rv, p', hn⟩ := I2.list hq
  refine call_reversed_list p'.isList (Calls.spliced_nil ?_)
  have k0 : ∀ b ob, s2.heap.get? b = some ob → (s2.heap.push (revObj a ((its.toArray.size : Int) - 1))).get? b = some ob := fun b ob e => Heap.get?_push_of_some _ e
  have I3 : Inv X pins σ H2 { s2 with heap := s2.heap.push (revObj a ((its.toArray.size : Int) - 1)) } := I2.kept (t' := s2.toks) k0
  obtain ⟨f0, f1, f2, f3, f4, f5⟩ := I2.fpOk (H' := H2) (b := s2.heap.objs.size) (Nat.le_refl _) (I2.hok.fresh (Nat.le_refl _))
  have hl := p'.isList
  obtain ⟨ol, hol, _⟩ := _root_.id hl
  have hne : a ≠ s2.heap.objs.size := Nat.ne_of_lt (Heap.lt_size hol)
  refine join_rev (s := { s2 with heap := s2.heap.push (revObj a ((its.toArray.size : Int) - 1)) }) (ys := ys) (I2.ok.hd hc) ⟨_, Heap.get?_push_size _ rfl, rfl, rfl⟩ (hl.push _) hne (by rw [List.size_toArray, ← rv.length]; exact hn) (by rw [List.toList_toArray]; exact strs_of_vals rv) hz fun h' t' k hk => ?_
  exact ⟨.str _, H2, I3.turned (t' := k) (fun b ob hb e => hk b ob hb e) f0 f1 f3 f4 f5, ⟨t', rfl⟩, q⟩
end Hid

namespace Hid
open PySem
/-! texts as lists of signs: n 110, b 98, y 121 -/
abbrev tx (l : List Nat) : Str := ⟨l.toArray⟩
theorem tx_cps (z : Str) : tx z.cps.toList = z := by cases z; simp [tx]
theorem tx_inj {a c : List Nat} (h : tx a = tx c) : a = c := by
  have := congrArg (fun z : Str => z.cps.toList) h
  simpa [tx] using this
def RowL (l : List Nat) : Prop := (1 ≤ l.length ∧ l.length ≤ 8) ∧ ∀ c ∈ l, c = 110 ∨ c = 98 ∨ c = 121
/-! the count of a sign -/
theorem occ_count (x : Str) (c : Nat) : ∀ (n a : Nat) (st : Array Nat × Nat), a + n = x.length + 1 → st.2 ≤ a → st.1.size ≤ a →
    (forIn (List.range' a n) st (StrLaws.occBody x ⟨#[c]⟩ x.length (x.length + 1))).run.fst.size = st.1.size + (x.cps.toList.drop a).count c := by
  intro n
  induction n with
  | zero =>
    intro a st h1 _ _
    have : x.cps.toList.drop a = [] := List.drop_eq_nil_of_le (by simp only [Array.length_toList]; show x.length ≤ a; omega)
    rw [this]
    rfl
  | succ n ih =>
    intro a st h1 h2 h3
    rw [List.range'_succ, List.forIn_cons]
    have hs := StrLaws.subAt_one x c a
    by_cases hc : x.cps.toList[a]? = some c
    · obtain ⟨q1, q2⟩ := hs.mpr hc
      have hlt : a < x.cps.toList.length := (List.getElem?_eq_some_iff.mp hc).1
      have e : x.cps.toList.drop a = c :: x.cps.toList.drop (a + 1) := by
        rw [List.drop_eq_getElem_cons hlt, (List.getElem?_eq_some_iff.mp hc).2]
      unfold StrLaws.occBody
      rw [if_pos ⟨⟨⟨by omega, h2⟩, q1⟩, q2⟩]
      have := ih (a + 1) (st.1.push a, a + (⟨#[c]⟩ : Str).length) (by omega) (Nat.le_refl _) (by rw [Array.size_push]; omega)
      refine Eq.trans this ?_
      rw [e, List.count_cons_self]
      show (st.1.push a).size + _ = _
      rw [Array.size_push]
      omega
    · have hn : ¬ (a + (⟨#[c]⟩ : Str).length ≤ x.length ∧ Builtin.Str.subAt x ⟨#[c]⟩ a = true) := fun h => hc (hs.mp h)
      unfold StrLaws.occBody
      rw [if_neg fun h => hn ⟨h.1.2, h.2⟩]
      have := ih (a + 1) (st.1, st.2) (by omega) (by show st.2 ≤ a + 1; omega) (by show st.1.size ≤ a + 1; omega)
      refine Eq.trans this ?_
      by_cases hlt : a < x.cps.toList.length
      · have e : x.cps.toList.drop a = x.cps.toList[a] :: x.cps.toList.drop (a + 1) := List.drop_eq_getElem_cons hlt
        rw [e, List.count_cons_of_ne]
        intro z
        exact hc (by rw [List.getElem?_eq_getElem hlt, z])
      · rw [List.drop_eq_nil_of_le (by omega), List.drop_eq_nil_of_le (by omega)]
theorem count_one (x : Str) (c : Nat) : Txt.count x ⟨#[c]⟩ = (x.cps.toList.count c : Int) := by
  unfold Txt.count
  rw [StrLaws.occ_eq, Array.length_toList, occ_count x c _ 0 (#[], 0) (by omega) (Nat.le_refl _) (Nat.zero_le _)]
  simp
/-! lists of signs joined -/
def sg1 (c : Nat) : Str := ⟨#[c]⟩
theorem join_one (l : List Nat) : Txt.join (tx []) (l.map sg1) = tx l := by
  show Builtin.Str.glued _ _ = _
  rw [StrLaws.glued_eq_join]
  induction l with
  | nil => rfl
  | cons c r ih =>
    cases r with
    | nil => rfl
    | cons d r =>
      show Str.join (tx []) (sg1 c :: sg1 d :: r.map sg1) = _
      have e : Str.join (tx []) (sg1 c :: sg1 d :: r.map sg1) = sg1 c ++ tx [] ++ Str.join (tx []) ((d :: r).map sg1) := rfl
      rw [e, ih]
      show (⟨(#[c] ++ #[]) ++ (d :: r).toArray⟩ : Str) = ⟨(c :: d :: r).toArray⟩
      simp
theorem sg1_len (l : List Nat) : ((l.map sg1).map (·.length)).sum = l.length := by
  induction l with
  | nil => rfl
  | cons c r ih =>
    show (sg1 c).length + ((r.map sg1).map (·.length)).sum = r.length + 1
    rw [ih]
    show 1 + r.length = _
    omega
/-! the mirror -/
def tw (m s : Nat) : Nat := if m = 98 then (if s = 110 then 121 else 110) else s
def turned (row half : List Nat) : List Nat := List.zipWith tw row half
def rb (s t : Nat) : Nat := if s = t then s else 98
def rowBy (a o : List Nat) : List Nat := List.zipWith rb a o
def sgn (k : Nat) : Nat := if k % 2 = 0 then 110 else 121
def lesR : List Nat → Nat → List Nat
  | [], _ => []
  | c :: r, k => if c = 98 then sgn k :: lesR r (k / 2) else c :: lesR r k
def lesser (row : List Nat) (k : Nat) : List Nat := (lesR row.reverse k).reverse
def many (row : List Nat) : Nat := 2 ^ (row.count 98 - 1)
def part (row : List Nat) (k : Nat) : List Nat × List Nat := (lesser row k, turned row (lesser row k))
def grow (c : Nat) (p : List Nat × List Nat) : List (List Nat × List Nat) :=
  if c ≠ 98 then [(p.1 ++ [c], p.2 ++ [c])] else (p.1 ++ [110], p.2 ++ [121]) :: (if p.1 ≠ p.2 then [(p.1 ++ [121], p.2 ++ [110])] else [])
def allP (row : List Nat) : List (List Nat × List Nat) := row.foldl (fun ps c => ps.flatMap (grow c)) [([], [])]
theorem allP_snoc (r : List Nat) (c : Nat) : allP (r ++ [c]) = (allP r).flatMap (grow c) := by
  unfold allP
  rw [List.foldl_append]
  rfl
theorem lesR_len : ∀ (r : List Nat) (k : Nat), (lesR r k).length = r.length
  | [], _ => rfl
  | c :: r, k => by
    unfold lesR
    split <;> simp [lesR_len]
theorem lesser_len (row : List Nat) (k : Nat) : (lesser row k).length = row.length := by
  unfold lesser
  rw [List.length_reverse, lesR_len, List.length_reverse]
theorem turned_len (row half : List Nat) (h : half.length = row.length) : (turned row half).length = row.length := by
  unfold turned
  rw [List.length_zipWith, h, Nat.min_self]
theorem lesser_b (r : List Nat) (k : Nat) : lesser (r ++ [98]) k = lesser r (k / 2) ++ [sgn k] := by
  unfold lesser
  rw [List.reverse_append]
  show (lesR (98 :: r.reverse) k).reverse = _
  rw [show lesR (98 :: r.reverse) k = sgn k :: lesR r.reverse (k / 2) by conv => lhs; unfold lesR; rw [if_pos rfl]]
  rw [List.reverse_cons]
theorem lesser_o (r : List Nat) (c k : Nat) (h : c ≠ 98) : lesser (r ++ [c]) k = lesser r k ++ [c] := by
  unfold lesser
  rw [List.reverse_append]
  show (lesR (c :: r.reverse) k).reverse = _
  rw [show lesR (c :: r.reverse) k = c :: lesR r.reverse k by conv => lhs; unfold lesR; rw [if_neg h]]
  rw [List.reverse_cons]
theorem turned_snoc (r h : List Nat) (c x : Nat) (e : h.length = r.length) : turned (r ++ [c]) (h ++ [x]) = turned r h ++ [tw c x] := by
  unfold turned
  rw [List.zipWith_append e.symm]
  rfl
theorem rowBy_snoc (a o : List Nat) (x y : Nat) (e : a.length = o.length) : rowBy (a ++ [x]) (o ++ [y]) = rowBy a o ++ [rb x y] := by
  unfold rowBy
  rw [List.zipWith_append e]
  rfl
theorem part_b (r : List Nat) (k : Nat) : part (r ++ [98]) k = ((part r (k / 2)).1 ++ [sgn k], (part r (k / 2)).2 ++ [tw 98 (sgn k)]) := by
  unfold part
  rw [lesser_b, turned_snoc _ _ _ _ (lesser_len _ _)]
theorem part_o (r : List Nat) (c k : Nat) (h : c ≠ 98) : part (r ++ [c]) k = ((part r k).1 ++ [c], (part r k).2 ++ [c]) := by
  unfold part
  rw [lesser_o _ _ _ h, turned_snoc _ _ _ _ (lesser_len _ _)]
  unfold tw
  rw [if_neg h]
/-- two b and more: turned is another -/
theorem turned_ne : ∀ (r h : List Nat), h.length = r.length → 98 ∈ r → h ≠ turned r h
  | [], _, _, m => nomatch m
  | c :: r, [], e, _ => nomatch e
  | c :: r, x :: h, e, m => by
    intro z
    have z' : x :: h = tw c x :: turned r h := z
    injection z' with z1 z2
    rcases List.mem_cons.mp m with q | q
    · subst q
      unfold tw at z1
      rw [if_pos rfl] at z1
      split at z1 <;> omega
    · exact turned_ne r h (by simpa using e) q z2
theorem part_no_b (r : List Nat) (k : Nat) (h : r.count 98 = 0) : part r k = (r, r) := by
  have hm : 98 ∉ r := List.count_eq_zero.mp h
  have e1 : ∀ (l : List Nat) (k : Nat), 98 ∉ l → lesR l k = l := by
    intro l
    induction l with
    | nil => intros; rfl
    | cons c l ih =>
      intro k m
      rw [List.mem_cons, not_or] at m
      unfold lesR
      rw [if_neg (fun z => m.1 z.symm), ih k m.2]
  have e2 : ∀ (l : List Nat), 98 ∉ l → turned l l = l := by
    intro l
    induction l with
    | nil => intros; rfl
    | cons c l ih =>
      intro m
      rw [List.mem_cons, not_or] at m
      show tw c c :: turned l l = _
      rw [ih m.2]
      unfold tw
      rw [if_neg (fun z => m.1 z.symm)]
  unfold part lesser
  rw [e1 _ _ (by simpa using hm), List.reverse_reverse, e2 _ hm]
theorem range_two (m : Nat) : List.range (2 * m) = (List.range m).flatMap fun k => [2 * k, 2 * k + 1] := by
  induction m with
  | zero => rfl
  | succ m ih =>
    rw [List.range_succ, List.flatMap_append, ← ih, show 2 * (m + 1) = 2 * m + 1 + 1 by omega, List.range_succ, List.range_succ]
    simp
theorem many_snoc (r : List Nat) (c : Nat) : many (r ++ [c]) = if c = 98 ∧ r.count 98 ≠ 0 then 2 * many r else many r := by
  unfold many
  rw [List.count_append]
  by_cases hc : c = 98
  · subst hc
    have : List.count 98 [98] = 1 := rfl
    rw [this]
    by_cases h0 : r.count 98 = 0
    · rw [if_neg (fun h => h.2 h0), h0]
    · rw [if_pos ⟨rfl, h0⟩, show r.count 98 + 1 - 1 = r.count 98 - 1 + 1 by omega, Nat.pow_succ]
      omega
  · have : List.count 98 [c] = 0 := List.count_eq_zero.mpr (by simpa using fun z => hc z.symm)
    rw [this, if_neg (fun h => hc h.1)]
    rfl
theorem sgn_two (k : Nat) : sgn (2 * k) = 110 ∧ sgn (2 * k + 1) = 121 := by
  unfold sgn
  constructor
  · rw [if_pos (by omega)]
  · rw [if_neg (by omega)]
theorem tw_b : tw 98 110 = 121 ∧ tw 98 121 = 110 := by decide
/-- the law's own list is the list by numbers -/
theorem allP_eq (row : List Nat) : allP row = (List.range (many row)).map (part row) := by
  induction h : row.length generalizing row with
  | zero =>
    have : row = [] := List.length_eq_zero_iff.mp h
    subst this
    rfl
  | succ n ih =>
    have hne : row ≠ [] := fun z => by rw [z] at h; cases h
    obtain ⟨r, c, rfl⟩ : ∃ r c, row = r ++ [c] := ⟨row.dropLast, row.getLast hne, (List.dropLast_concat_getLast hne).symm⟩
    have hr : r.length = n := by simpa using h
    rw [allP_snoc, ih r hr, many_snoc]
    by_cases hc : c = 98
    · subst hc
      by_cases h0 : r.count 98 = 0
      · rw [if_neg (fun h => h.2 h0)]
        have hm : many r = 1 := by unfold many; rw [h0]
        rw [hm]
        show grow 98 (part r 0) ++ [] = [part (r ++ [98]) 0]
        rw [part_b, part_no_b r 0 h0, List.append_nil]
        unfold grow
        rw [if_neg (by decide), if_neg (by simp)]
        rfl
      · rw [if_pos ⟨rfl, h0⟩, range_two, List.map_flatMap, List.flatMap_map]
        congr 1
        funext k
        show grow 98 (part r k) = [part (r ++ [98]) (2 * k), part (r ++ [98]) (2 * k + 1)]
        rw [part_b, part_b, show 2 * k / 2 = k by omega, show (2 * k + 1) / 2 = k by omega, (sgn_two k).1, (sgn_two k).2, tw_b.1, tw_b.2]
        have hd : (part r k).1 ≠ (part r k).2 := turned_ne r _ (lesser_len _ _) (List.count_pos_iff.mp (by omega))
        unfold grow
        rw [if_neg (by decide), if_pos hd]
    · rw [if_neg (fun h => hc h.1), List.flatMap_map, ← List.flatMap_singleton' ((List.range (many r)).map _), List.flatMap_map]
      congr 1
      funext k
      show grow c (part r k) = [part (r ++ [c]) k]
      rw [part_o _ _ _ hc]
      unfold grow
      rw [if_pos hc]
/-! order -/
theorem app_lt : ∀ (a o x y : List Nat), a.length = o.length → a < o → a ++ x < o ++ y
  | [], [], x, y, _, h => absurd h (List.lt_irrefl _)
  | [], _ :: _, _, _, e, _ => nomatch e
  | _ :: _, [], _, _, e, _ => nomatch e
  | p :: a, q :: o, x, y, e, h => by
    rcases List.cons_lt_cons_iff.mp h with h1 | ⟨h1, h2⟩
    · exact List.cons_lt_cons_iff.mpr (.inl h1)
    · exact List.cons_lt_cons_iff.mpr (.inr ⟨h1, app_lt a o x y (by simpa using e) h2⟩)
theorem app_same : ∀ (a : List Nat) (x y : Nat), x < y → a ++ [x] < a ++ [y]
  | [], x, y, h => List.cons_lt_cons_iff.mpr (.inl h)
  | p :: a, x, y, h => List.cons_lt_cons_iff.mpr (.inr ⟨rfl, app_same a x y h⟩)
/-- what the law asks of each -/
theorem part_good (row : List Nat) : (∀ k, (part row k).1.length = row.length ∧ (part row k).2.length = row.length ∧ rowBy (part row k).1 (part row k).2 = row) ∧
    (∀ k, k < many row → (part row k).1 = (part row k).2 ∨ (part row k).1 < (part row k).2) ∧ ∀ k l, k < l → l < many row → (part row k).1 < (part row l).1 := by
  induction h : row.length generalizing row with
  | zero =>
    have : row = [] := List.length_eq_zero_iff.mp h
    subst this
    refine ⟨fun k => ⟨rfl, rfl, rfl⟩, fun k _ => .inl rfl, fun k l h1 h2 => ?_⟩
    have : many [] = 1 := rfl
    omega
  | succ n ih =>
    have hne : row ≠ [] := fun z => by rw [z] at h; cases h
    obtain ⟨r, c, rfl⟩ : ∃ r c, row = r ++ [c] := ⟨row.dropLast, row.getLast hne, (List.dropLast_concat_getLast hne).symm⟩
    have hr : r.length = n := by simpa using h
    obtain ⟨g1, g2, g3⟩ := ih r hr
    rw [List.length_append] at h
    by_cases hc : c = 98
    · subst hc
      refine ⟨fun k => ?_, fun k hk => ?_, fun k l h1 h2 => ?_⟩
      · obtain ⟨q1, q2, q3⟩ := g1 (k / 2)
        rw [part_b, ← h]
        refine ⟨by simp [q1, hr], by simp [q2, hr], ?_⟩
        show rowBy (_ ++ [sgn k]) (_ ++ [tw 98 (sgn k)]) = _
        rw [rowBy_snoc _ _ _ _ (q1.trans q2.symm), q3]
        congr 2
        unfold sgn
        split <;> rfl
      · rw [part_b]
        obtain ⟨q1, q2, q3⟩ := g1 (k / 2)
        rw [many_snoc] at hk
        by_cases h0 : r.count 98 = 0
        · rw [if_neg (fun h => h.2 h0)] at hk
          have hm : many r = 1 := by unfold many; rw [h0]
          have k0 : k = 0 := by omega
          subst k0
          rw [part_no_b r _ h0]
          exact .inr (app_same r 110 121 (by decide))
        · rw [if_pos ⟨rfl, h0⟩] at hk
          rcases g2 (k / 2) (by omega) with q | q
          · exact absurd q (turned_ne r _ (lesser_len _ _) (List.count_pos_iff.mp (by omega)))
          · exact .inr (app_lt _ _ _ _ (q1.trans q2.symm) q)
      · rw [part_b, part_b]
        rw [many_snoc] at h2
        by_cases h0 : r.count 98 = 0
        · rw [if_neg (fun h => h.2 h0)] at h2
          have hm : many r = 1 := by unfold many; rw [h0]
          omega
        · rw [if_pos ⟨rfl, h0⟩] at h2
          by_cases hkl : k / 2 = l / 2
          · rw [hkl]
            have e1 : sgn k = 110 := by unfold sgn; rw [if_pos (by omega)]
            have e2 : sgn l = 121 := by unfold sgn; rw [if_neg (by omega)]
            rw [e1, e2]
            exact app_same _ _ _ (by decide)
          · exact app_lt _ _ _ _ ((g1 _).1.trans (g1 _).1.symm) (g3 _ _ (by omega) (by omega))
    · have hm : many (r ++ [c]) = many r := by rw [many_snoc, if_neg (fun h => hc h.1)]
      refine ⟨fun k => ?_, fun k hk => ?_, fun k l h1 h2 => ?_⟩
      · obtain ⟨q1, q2, q3⟩ := g1 k
        rw [part_o _ _ _ hc, ← h]
        refine ⟨by simp [q1, hr], by simp [q2, hr], ?_⟩
        show rowBy (_ ++ [c]) (_ ++ [c]) = _
        rw [rowBy_snoc _ _ _ _ (q1.trans q2.symm), q3]
        congr 2
        unfold rb
        rw [if_pos rfl]
      · rw [part_o _ _ _ hc]
        rcases g2 k (by omega) with q | q
        · left
          show _ ++ [c] = _ ++ [c]
          rw [q]
        · exact .inr (app_lt _ _ _ _ ((g1 k).1.trans (g1 k).2.1.symm) q)
      · rw [part_o _ _ _ hc, part_o _ _ _ hc]
        exact app_lt _ _ _ _ ((g1 _).1.trans (g1 _).1.symm) (g3 _ _ h1 (by omega))
end Hid

namespace Hid
open PySem PySem.Spec PyProof.Rows L2 Evl
/-- a def of the text: where it stands -/
def Df (K : PySem.W.Frag) (mg : Str → Option Value) (x : Str) (st : Stmt) (ps : List Str) : Prop := ∃ (f : Addr) (fd : FuncData), Fun K x x st f fd ∧ Binds K fd ps [] ∧ mg x = some (.ref f)
/-- .. and what it promises -/
def At (P : Program) (w : World) (K : PySem.W.Frag) (mg : Str → Option Value) (base : Heap) (x : Str) (st : Stmt) (n : Nat) (ps : List Str) (sp : Sp) : Prop :=
  ∃ (f : Addr) (fd : FuncData), Fun K x x st f fd ∧ Binds K fd ps [] ∧ mg x = some (.ref f) ∧ FnOk P w K mg base CX0 n f fd ps sp
section
variable {K : PySem.W.Frag} {σ : L2.St} {H H' : Hp} {ta tb tc te tl : TE}
theorem walk_zs {x y : Str} {n : Nat} (hn : n = min x.cps.size y.cps.size) : Walk (ZsIt x y) n (fun _ => True) (fun i G v G' => ∃ T c d, v = .ref T ∧ G T = none ∧ G' = upd G T (.tup [.str ⟨#[c]⟩, .str ⟨#[d]⟩]) ∧ x.cps[i]? = some c ∧ y.cps[i]? = some d) := by
  subst hn
  exact ⟨fun _ _ hi _ => hi, fun _ _ => Nat.le_refl _, fun _ _ _ _ _ _ q => q⟩
abbrev vs1 (l : List Nat) : List V := l.map fun c => V.str (sg1 c)
theorem vs1_str (l : List Nat) : vs1 l = (l.map sg1).map V.str := by rw [List.map_map]; rfl
/-- ''.join of a list of signs -/
theorem r_join {l : List Nat} {p : Addr} {Q : VK} (hp : SqL K H p (vs1 l)) (hl : l.length ≤ 1000000) (q : Q (.str (tx l)) H) :
    ∃ a p', ∃ ys : List Str, (V.str (tx []) : V) = .str a ∧ [V.ref p] = [V.ref p'] ∧ (SqL K H p' (ys.map V.str) ∨ SqT K H p' (ys.map V.str)) ∧ (ys.map (·.length)).sum + ys.length * a.length ≤ 16777216 ∧ Q (.str (Txt.join a ys)) H := by
  refine ⟨tx [], p, l.map sg1, rfl, rfl, .inl (by rw [← vs1_str]; exact hp), ?_, ?_⟩
  · rw [sg1_len]
    show l.length + _ * 0 ≤ 16777216
    omega
  · rw [join_one]
    exact q
theorem str1_dec (c d : Nat) : decide ((V.str (sg1 c) : V) = V.str (sg1 d)) = decide (c = d) := by
  by_cases h : c = d
  · rw [decide_eq_true h, decide_eq_true (by rw [h])]
  · rw [decide_eq_false h, decide_eq_false]
    intro z
    have z2 : sg1 c = sg1 d := V.str.inj z
    have := congrArg (fun s : Str => s.cps.toList) z2
    simp [sg1] at this
    exact h this
theorem strtx_dec (a o : List Nat) : decide ((V.str (tx a) : V) = V.str (tx o)) = decide (a = o) := by
  by_cases h : a = o
  · rw [decide_eq_true h, decide_eq_true (by rw [h])]
  · rw [decide_eq_false h, decide_eq_false]
    intro z
    exact h (tx_inj (V.str.inj z))
theorem ev_chain {r r' : R2} {x y z : V} {b b' : Bool} (ha : Ev ta σ H x) (hb : Ev tb σ H y) (hr : RV r x y H (.bl b)) (hc : b = true → Ev tc σ H z) (hr' : b = true → RV r' y z H (.bl b')) : Ev (tChain r r' ta tb tc) σ H (.bl (b && b')) := fun H1 e Q q =>
  ha H1 e _ fun H2 e2 => hb H2 (e.trans e2) _ fun H3 e3 => hr H3 ((e.trans e2).trans e3) _ fun H4 e4 => ⟨b, rfl, by
    cases b with
    | true => exact iteT (hc rfl H4 (((e.trans e2).trans e3).trans e4) _ fun H5 e5 => hr' rfl H5 ((((e.trans e2).trans e3).trans e4).trans e5) _ fun H6 e6 => q H6 ((((e2.trans e3).trans e4).trans e5).trans e6))
    | false => exact iteF (q H4 ((e2.trans e3).trans e4))⟩
theorem ev_isi {x : V} {t n : String} {b : Bool} (ha : Ev ta σ H x) (ht : ∀ H1, Ex H H1 → TyX K H1 x (.type t)) (hk : kitB t n = some b) : Ev (tCB (rIsi K) (tCons ta (tCons (tC (.ty n)) tNil))) σ H (.bl b) := fun H1 e Q q =>
  ha H1 e _ fun H2 e2 => ⟨x, .ty n, _, _, b, rfl, .ty n, ht H2 (e.trans e2), kit_ty hk, q H2 e2⟩
theorem ev_all {bs : List Bool} (h : EvL tl σ H (bs.map V.bl)) : Ev (tCB (rAll K) (tCons tl tNil)) σ H (.bl (bs.all id)) := fun H1 e Q q =>
  h H1 e _ fun p H2 hp e2 h2 => ⟨p, bs, rfl, sq_of h2, q H2 e2⟩
theorem given_true (n : Nat) (v : Nat → V) : given n (fun _ => true) v = (List.range n).map v := by
  unfold given
  rw [List.filter_eq_self.mpr fun _ _ => rfl]
theorem c_call {sp : Sp} {E : XK} {ta : TA} {vs : List V} {Q : VK} (h : EvA ta σ H vs) (k : ∀ H2, Ex H H2 → sp vs H2 Q E) : tCall sp [] E ta σ H Q := h H (Ex.refl _) _ fun H2 e2 => by
  show sp (vs ++ []) H2 Q E
  rw [List.append_nil]
  exact k H2 e2
theorem c_call1 {sp : Sp} {E : XK} {ta : TA} {vs : List V} {Q : List V → Hp → Prop} (h : EvA ta σ H vs) (k : ∀ H2, Ex H H2 → sp vs H2 (fun x H3 => Q [x] H3) E) : tCons (tCall sp [] E ta) tNil σ H Q := c_call h k
theorem tyes {T E : Hp → Prop} (h : T H) : tYes σ H (fun b H3 => if b = true then T H3 else E H3) := by
  show if true = true then T H else E H
  rw [if_pos rfl]
  exact h
theorem et_yes : EvT tYes σ H true := fun H1 _ _ q => q H1 (Ex.refl _)
/-- a comprehension over a list of pairs -/
theorem el_lcP {a : Addr} {xs : List V} {i j : Nat} {vs : List Nat} (v : Nat → V) (h : Ev tl σ H (.ref a)) (hx : SqL K H a xs) (hz : xs.length ≤ 40000)
    (hw : ∀ p q, wipe (((wipe σ vs).set i (some p)).set j (some q)) vs = wipe σ vs)
    (hp : ∀ n x, xs[n]? = some x → ∃ t p q, x = .ref t ∧ SqT K H t [p, q] ∧ Ev te (((wipe σ vs).set i (some p)).set j (some q)) H (v n)) :
    EvL (tLc (iList K tl) (gTup K 2 (gCons (gName i) (gCons (gName j) gNil))) tYes te vs) σ H ((List.range xs.length).map v) := fun H0 e Q q => h H0 e _ fun H1 e1 => ⟨a, rfl, ⟨xs, ex_l (e.trans e1) hx⟩, fun Dl hD =>
  lc_list (xs := xs) (Cw H1 (fun _ => true) v Dl) ⟨hD, Ex.new hD, upd_same⟩ (fun i H' _ p => ex_l ((e.trans e1).trans p.2.1) hx) (fun n x H' hn p => by
      obtain ⟨t, x1, x2, rfl, hT, hE⟩ := hp n x hn
      exact ⟨t, [x1, x2], rfl, ex_t ((e.trans e1).trans p.2.1) hT, rfl, x1, [x2], rfl, x2, [], rfl, rfl, hw x1 x2, cw_turn (f := fun _ => true) p (by have := (List.getElem?_eq_some_iff.mp hn).1; omega) et_yes fun _ => hE.mono (e.trans e1)⟩)
    (fun H' p => q Dl H' (fresh_back e1 p.1) (e1.trans p.2.1) (by rw [p.2.2, given_true]))⟩
/-! pairs of texts -/
def PrT (K : PySem.W.Frag) (H : Hp) (v : V) (p : List Nat × List Nat) : Prop := ∃ t, v = .ref t ∧ H t = some (.tup [.str (tx p.1), .str (tx p.2)])
abbrev Prs (K : PySem.W.Frag) (H : Hp) (vs : List V) (ps : List (List Nat × List Nat)) : Prop := Paired (PrT K H) vs ps
theorem PrT.ex {v : V} {p : List Nat × List Nat} (e : Ex H H') (h : PrT K H v p) : PrT K H' v p := let ⟨t, a, c⟩ := h; ⟨t, a, e _ _ c⟩
theorem paired_mono {α γ : Type} {F G : α → γ → Prop} (h : ∀ a b, F a b → G a b) : ∀ {l : List α} {m : List γ}, Paired F l m → Paired G l m
  | _, _, .nil => .nil
  | _, _, .cons a t => .cons (h _ _ a) (paired_mono h t)
theorem paired_app {α γ : Type} {F : α → γ → Prop} : ∀ {l l' : List α} {m m' : List γ}, Paired F l m → Paired F l' m' → Paired F (l ++ l') (m ++ m')
  | _, _, _, _, .nil, h => h
  | _, _, _, _, .cons a t, h => .cons a (paired_app t h)
theorem paired_get {α γ : Type} {F : α → γ → Prop} : ∀ {l : List α} {m : List γ}, Paired F l m → ∀ (i : Nat) (x : α), l[i]? = some x → ∃ y, m[i]? = some y ∧ F x y
  | _, _, .nil, i, x, h => by simp at h
  | _, _, .cons a t, 0, x, h => by
    cases h
    exact ⟨_, rfl, a⟩
  | _, _, .cons a t, i + 1, x, h => paired_get t i x h
theorem Prs.ex {vs : List V} {ps : List (List Nat × List Nat)} (e : Ex H H') (h : Prs K H vs ps) : Prs K H' vs ps := paired_mono (fun _ _ q => q.ex e) h
/-- a list changed: the pairs stand -/
theorem Prs.upd {vs : List V} {ps : List (List Nat × List Nat)} {D : Addr} {xs : List V} {o : HO} (hD : H D = some (.lst xs)) (h : Prs K H vs ps) : Prs K (upd H D o) vs ps := paired_mono (fun v p ⟨t, a, c⟩ => ⟨t, a, by
  rw [upd_ne]
  · exact c
  · intro z
    rw [z, hD] at c
    cases c⟩) h
def dSS (p : List Nat × List Nat) : PyData := .tuple [.str (tx p.1), .str (tx p.2)]
theorem PrT.dp {v : V} {p : List Nat × List Nat} (h : PrT K H v p) : Dp K H v (dSS p) := by
  obtain ⟨t, rfl, c⟩ := h
  exact .tup (st_of c) (.cons (.str _) (.cons (.str _) .nil))
theorem Prs.dp : ∀ {vs : List V} {ps : List (List Nat × List Nat)}, Prs K H vs ps → DpAll K H vs (ps.map dSS)
  | _, _, .nil => .nil
  | _, _, .cons a t => .cons a.dp (Prs.dp t)
end
end Hid

namespace Hid
open PySem PySem.Spec PyProof.Rows L2
/-! sets of texts: the members as a list without doubles -/
def tKey (e : Int × Value) : Str := match e.2 with | .str k _ => k | _ => Str.empty
def TGood (w : World) (e : Int × Value) : Prop := ∃ k tk, e.2 = Value.str k tk ∧ e.1 = hashStr w k
def SetT (w : World) (h : Heap) (a : Addr) (xs : List Str) : Prop :=
  ∃ o es ep t, h.get? a = some o ∧ o.ExactSet ∧ o.data = .set es ep t ∧ (∀ e ∈ es.toList, TGood w e) ∧ (es.toList.map tKey).Perm xs ∧ xs.Nodup ∧ es.size < scanBound ∧ t.fits es.size = true ∧
    Ris t.place.toList ∧ (w.params.followText "set-order" = true ∨ t.led = true)
/-- one more, where it isn't in -/
def putT (x : Str) (xs : List Str) : List Str := if x ∈ xs then xs else x :: xs
theorem SetT.keep {w : World} {h h' : Heap} {a : Addr} {xs : List Str} (R : SetT w h a xs) (k : ∀ o, h.get? a = some o → h'.get? a = some o) : SetT w h' a xs := by
  obtain ⟨o, es, ep, t, ho, r⟩ := R
  exact ⟨o, es, ep, t, k o ho, r⟩
section
variable {P : Program} {w : World} {A : Around} {E : Value → Shared → Prop} {s : Shared} {a : Addr} {xs : List Str}
theorem tElems {l : List (Int × Value)} (g : ∀ e ∈ l, TGood w e) : ElemsOf (PySem.strKind P w) l := fun e he => by
  obtain ⟨k, tk, h1, h2⟩ := g e he
  refine ⟨⟨k, ?_, h2⟩, ?_⟩ <;> rw [h1]
  · exact strKind_is P w k tk
  · rfl
theorem tIs {e : Int × Value} (g : TGood w e) (k : Str) : (PySem.strKind P w).is k e.2 = true ↔ tKey e = k := by
  obtain ⟨k0, tk, h1, _⟩ := g
  unfold tKey
  rw [h1]
  constructor
  · intro z
    obtain ⟨u, hu⟩ := Value.isStrOf_shape (show Value.isStrOf k (Value.str k0 tk) = true from z)
    injection hu
  · intro z
    subst z
    exact strKind_is P w _ tk
/-- the stores behind a laying: the table is laid anew where it is too full -/
theorem tStore {g : Bool → Sem Unit} (hg : ∀ (b : Bool) (s₁ : Shared) (Q' : Unit → Shared → Prop), Q' () s₁ → wpAny (model P w) A (g b) Q' E s₁)
    {o : Obj} {es es1 : Array (Int × Value)} {ep : Nat} {t t2 : SetTable} {ys : List Str} (ho : s.heap.get? a = some o) (hex : o.ExactSet) (hd : o.data = .set es ep t)
    (g1 : ∀ e ∈ es1.toList, TGood w e) (p1 : (es1.toList.map tKey).Perm ys) (n1 : ys.Nodup) (b1 : es1.size < scanBound) (f2 : t2.fits es1.size = true) (r2 : Ris t2.place.toList) (l2 : w.params.followText "set-order" = true ∨ t2.led = true)
    {was : Bool} {R : Option Bool → Shared → Prop} (hR : ∀ h', Heap.SameBut a s.heap h' → SetT w h' a ys → R (some true) { s with heap := h' }) :
    wpAny (model P w) A (do
        storeSet a es1 t2
        if (!was && t2.tooFull) = true then do
            g (relayAll t2 es1 (SetTable.grown es1.size)).2.2
            storeSet a (relayAll t2 es1 (SetTable.grown es1.size)).1 (relayAll t2 es1 (SetTable.grown es1.size)).2.1
            pure (some true)
          else pure (some true)) R E s := by
  have sb1 := Heap.SameBut.update s.heap a (Obj.putSet es1 t2)
  have ho1 := store_at (es' := es1) (t' := t2) ho hd
  refine wpAny_bind (wpAny_storeSet_of ho hd ?_ (fits_of_scanBound b1))
  by_cases hfull : (!was && t2.tooFull) = true
  · rw [if_pos hfull]
    obtain ⟨pm, f3, r3, l3⟩ := And.intro (relayAll_perm t2 es1 (SetTable.grown es1.size)) (And.intro (relayAll_fits t2 es1 (SetTable.grown es1.size)) (And.intro (relayAll_ris t2 es1 (SetTable.grown es1.size)) (relayAll_led t2 es1 (SetTable.grown es1.size))))
    generalize relayAll t2 es1 (SetTable.grown es1.size) = Z at pm f3 r3 l3 ⊢
    obtain ⟨es2, t3, gave⟩ := Z
    dsimp only at pm f3 r3 l3 ⊢
    have hsz : es2.size < scanBound := by
      rw [← Array.length_toList, pm.length_eq, Array.length_toList]
      exact b1
    refine wpAny_bind (hg _ _ _ (wpAny_bind (wpAny_storeSet_of ho1 rfl ?_ (fits_of_scanBound hsz))))
    exact wpAny_pure (hR _ (sb1.trans (Heap.SameBut.update _ a _)) ⟨_, es2, _, t3, store_at (es' := es2) (t' := t3) ho1 rfl, hex, rfl, fun e he => g1 e (pm.mem_iff.mp he), (pm.map tKey).trans p1, n1, hsz, f3, r3, l2.imp id fun z => l3.trans z⟩)
  · rw [if_neg hfull]
    exact wpAny_pure (hR _ sb1 ⟨_, es1, _, t2, ho1, hex, rfl, g1, p1, n1, b1, f2, r2, l2⟩)
theorem tAdd {k : Str} {tk : Tok} {Q : Bool → Shared → Prop} (R : SetT w s.heap a xs) (room : xs.length + 1 < scanBound)
    (hQ : ∀ b h', Heap.SameBut a s.heap h' → SetT w h' a (putT k xs) → Q b { s with heap := h' }) :
    wpAny (model P w) A (setAddHashed a (.str k tk) ((PySem.strKind P w).hash k)) Q E s := by
  obtain ⟨o, es, ep, t, ho, hex, hd, g, pm, nd, hb, hf, hr, hl⟩ := R
  have hkey : (PySem.strKind P w).is k (.str k tk) = true := strKind_is P w k tk
  have hsc : (Value.str k tk).scannable = true := rfl
  have hel : ElemsOf (PySem.strKind P w) es.toList := tElems g
  unfold setAddHashed setAddHashedIn
  refine wpAny_holding (wpAny_bind (wpAny_setState_of ho hd hf ?_))
  dsimp only
  rw [byScan_of hsc hb hel] <;> simp only [↓reduceIte]
  unfold setAddByScan
  refine wpAny_bind (wpAny_bind (wpAny_rule (wpAny_bind (wpAny_setScan_of hkey ho hd hf hel ?_))))
  have mem_iff : k ∈ xs ↔ ∃ e ∈ es.toList, (PySem.strKind P w).is k e.2 = true := by
    rw [← pm.mem_iff, List.mem_map]
    exact ⟨fun ⟨e, he, q⟩ => ⟨e, he, (tIs (g e he) k).mpr q⟩, fun ⟨e, he, q⟩ => ⟨e, he, (tIs (g e he) k).mp q⟩⟩
  cases hfi : List.findIdx? (fun e => (PySem.strKind P w).is k e.2) es.toList with
  | some j =>
    dsimp only
    obtain ⟨hj, pj, _⟩ := List.findIdx?_eq_some_iff_getElem.mp hfi
    have hin : k ∈ xs := mem_iff.mpr ⟨es.toList[j], List.getElem_mem hj, pj⟩
    refine wpAny_pure (wpAny_pure (hQ _ s.heap (Heap.SameBut.refl a s.heap) ?_))
    unfold putT
    rw [if_pos hin]
    exact ⟨o, es, ep, t, ho, hex, hd, g, pm, nd, hb, hf, hr, hl⟩
  | none =>
    dsimp only
    have hin : k ∉ xs := fun z => by
      obtain ⟨e, he, q⟩ := mem_iff.mp z
      have c := List.findIdx?_eq_none_iff.mp hfi e he
      rw [q] at c
      cases c
    have hput : putT k xs = k :: xs := by unfold putT; rw [if_neg hin]
    have hgw : ∀ (b : Bool) {s₁ : Shared} {Q' : Unit → Shared → Prop}, Q' () s₁ → wpAny (model P w) A (match b with | true => rule "set.scan.the-table-gave-way" | false => pure ()) Q' E s₁ := fun b s₁ Q' q => by
      cases b
      · exact wpAny_pure q
      · exact wpAny_rule q
    obtain ⟨lp, lf, lr, ll⟩ := And.intro (layNew_perm t es ((PySem.strKind P w).hash k) (.str k tk)) (And.intro (layNew_fits t es ((PySem.strKind P w).hash k) (.str k tk)) (And.intro (layNew_ris t es ((PySem.strKind P w).hash k) (.str k tk) hr) (layNew_led t es ((PySem.strKind P w).hash k) (.str k tk))))
    generalize layNew t es ((PySem.strKind P w).hash k) (.str k tk) = Z at lp lf lr ll ⊢
    obtain ⟨es1, t1, was, gave⟩ := Z
    dsimp only at lp lf lr ll ⊢
    rw [Array.toList_push] at lp
    have pc : es1.toList.Perm (((PySem.strKind P w).hash k, Value.str k tk) :: es.toList) := lp.trans (List.perm_append_singleton _ _)
    have p1 : (es1.toList.map tKey).Perm (putT k xs) := by
      rw [hput]
      exact (pc.map tKey).trans (List.Perm.cons k pm)
    have n1 : (putT k xs).Nodup := by
      rw [hput]
      exact List.nodup_cons.mpr ⟨hin, nd⟩
    have g1 : ∀ e ∈ es1.toList, TGood w e := fun e he => by
      rcases List.mem_cons.mp (pc.mem_iff.mp he) with z | z
      · rw [z]
        exact ⟨k, tk, rfl, rfl⟩
      · exact g e z
    have b1 : es1.size < scanBound := by
      rw [← Array.length_toList, pc.length_eq, List.length_cons, ← List.length_map (f := tKey), pm.length_eq]
      exact room
    have l1 : w.params.followText "set-order" = true ∨ t1.led = true := hl.imp id fun z => ll.trans z
    refine wpAny_bind (hgw _ ?_)
    split
    · refine wpAny_bind ?_
      rw [hashByValue_scannable 8 hsc]
      refine wpAny_pure (tStore (fun b s₁ Q' q => hgw b q) ho hex hd g1 p1 n1 b1 ?_ ?_ ?_ ?_)
      · first | (split <;> first | exact lf | exact SetTable.fits_plain_off lf) | exact lf
      · first | (split <;> exact lr) | exact lr
      · first | (split <;> exact l1) | exact l1
      · exact fun h' sb r => wpAny_pure (hQ _ h' sb r)
    · refine wpAny_bind (wpAny_pure ?_)
      simp only [↓reduceIte]
      exact tStore (fun b s₁ Q' q => hgw b q) ho hex hd g1 p1 n1 b1 lf lr l1 fun h' sb r => wpAny_pure (hQ _ h' sb r)
end
/-- all of a list put in, one behind the other -/
def putAll (xs : List Str) : List Str → List Str
  | [] => xs
  | y :: ys => putAll (putT y xs) ys
theorem putAll_snoc (xs : List Str) (y : Str) : ∀ ys, putAll xs (ys ++ [y]) = putT y (putAll xs ys) := by
  intro ys
  induction ys generalizing xs with
  | nil => rfl
  | cons z ys ih => exact ih (putT z xs)
theorem putT_mem {x y : Str} {xs : List Str} : y ∈ putT x xs ↔ y = x ∨ y ∈ xs := by
  unfold putT
  split
  · rename_i h
    exact ⟨.inr, fun z => z.elim (fun e => e ▸ h) id⟩
  · rw [List.mem_cons]
theorem putT_nodup {x : Str} {xs : List Str} (h : xs.Nodup) : (putT x xs).Nodup := by
  unfold putT
  split
  · exact h
  · rename_i n
    exact List.nodup_cons.mpr ⟨n, h⟩
theorem putT_len (x : Str) (xs : List Str) : (putT x xs).length ≤ xs.length + 1 := by
  unfold putT
  split
  · exact Nat.le_succ _
  · exact Nat.le_refl _
theorem putAll_mem {y : Str} : ∀ (ys xs : List Str), y ∈ putAll xs ys ↔ y ∈ xs ∨ y ∈ ys
  | [], xs => by simp [putAll]
  | z :: ys, xs => by
    show y ∈ putAll (putT z xs) ys ↔ _
    rw [putAll_mem ys, putT_mem, List.mem_cons]
    constructor
    · rintro ((h | h) | h)
      · exact .inr (.inl h)
      · exact .inl h
      · exact .inr (.inr h)
    · rintro (h | h | h)
      · exact .inl (.inr h)
      · exact .inl (.inl h)
      · exact .inr h
theorem putAll_nodup : ∀ (ys xs : List Str), xs.Nodup → (putAll xs ys).Nodup
  | [], _, h => h
  | z :: ys, xs, h => putAll_nodup ys _ (putT_nodup h)
theorem putAll_len : ∀ (ys xs : List Str), (putAll xs ys).length ≤ xs.length + ys.length
  | [], _ => Nat.le_refl _
  | z :: ys, xs => by
    have := putAll_len ys (putT z xs)
    have := putT_len z xs
    show (putAll (putT z xs) ys).length ≤ xs.length + (ys.length + 1)
    omega
section
variable {prog : Program} {w : World} {A : Around} {R : Result → Shared → Prop} {I : Addr} {fp wr : List Addr} {G : Array GenState → Array GenState → Prop} {n : Nat} {Pv : Nat → Value → Prop} {St : Nat → Shared → Prop}
theorem tFill (W : WalksS prog w A.in1 I fp wr G n Pv St) (S : Addr) (hSf : S ∉ fp) (xs : List Str) (hlen : xs.length = n) (hsm : n < 4000) (hval : ∀ i v, Pv i v → ∃ t, v = .str (xs.getD i Str.empty) t) :
    ∀ (k i : Nat) (s : Shared), n - i = k → i ≤ n → St i s → SetT w s.heap S (putAll [] (xs.take i)) →
      (∀ s', Moved (S :: wr) G s s' → SetT w s'.heap S (putAll [] xs) → R (.ok (.ret .none)) s') → codeAny (model prog w) A (.builtin "set.update.loop" ⟨[.ref S, .ref I], []⟩) R s := by
  have hSw : S ∉ wr := fun h => hSf (W.sub _ h)
  have up : ∀ b ∈ wr, b ∈ S :: wr := fun b hb => List.mem_cons_of_mem _ hb
  intro k
  induction k with
  | zero =>
    intro i s hk hi hst hS hR
    obtain rfl : i = n := by omega
    refine codeAny_builtin PyProof.Rows.F.entry_set_update_loop ?_
    rw [Around.under_plainId PyProof.Rows.F.plain_set_update_loop _] <;> show wpAny _ A.in1 (pyNext (.ref I) >>= _) _ _ s
    refine wpAny_bind (W.done s _ _ hst fun s' hm => ?_)
    show wpAny _ A.in1 (ret Value.none) _ _ s'
    rw [List.take_of_length_le (Nat.le_of_eq hlen)] at hS
    exact wpAny_pure (hR s' (hm.mono up) (hS.keep fun o e => hm.heap S _ hSw e))
  | succ k ih =>
    intro i s hk hi hst hS hR
    have hlt : i < n := by omega
    refine codeAny_builtin PyProof.Rows.F.entry_set_update_loop ?_
    rw [Around.under_plainId PyProof.Rows.F.plain_set_update_loop _] <;> show wpAny _ A.in1 (pyNext (.ref I) >>= _) _ _ s
    refine wpAny_bind (W.item i s _ _ hlt hst fun v s' hP hst' hm => ?_)
    obtain ⟨t, rfl⟩ := hval i v hP
    show wpAny _ A.in1 (holding [Value.str (xs.getD i Str.empty) t] (setAdd S (.str (xs.getD i Str.empty) t)) >>= _) _ _ s'
    refine wpAny_bind (wpAny_holding ?_) <;> unfold setAdd
    refine wpAny_holding (wpAny_bind ((PySem.strKind prog w).pyHash (k := xs.getD i Str.empty) (strKind_is _ _ _ _) ?_))
    have hroom : (putAll [] (xs.take i)).length + 1 < scanBound := by
      have h1 := putAll_len (xs.take i) []
      have h2 : (xs.take i).length ≤ i := by rw [List.length_take]; omega
      have h3 : scanBound = 4096 := rfl
      rw [List.length_nil] at h1
      omega
    refine tAdd (s := { s' with toks := s'.toks + 1 }) (hS.keep fun o e => hm.heap S _ hSw e) hroom fun b h' sb hS2 => ?_
    have hS3 : SetT w h' S (putAll [] (xs.take (i + 1))) := by
      have e : xs.take (i + 1) = xs.take i ++ [xs.getD i Str.empty] := by
        rw [List.take_add_one, List.getD_eq_getElem?_getD, List.getElem?_eq_getElem (by omega)]
        rfl
      rw [e, putAll_snoc]
      exact hS2
    refine wpAny_pure ⟨plainId_quiet PyProof.Rows.F.plain_set_update_loop _, ih (i + 1) _ (by omega) hlt (W.frame _ s' _ _ hst' (Nat.le_succ _) fun b hb o e => ?_) hS3 fun s'' hm2 hS4 => ?_⟩
    · rw [sb.2 b (fun h : b = S => hSf (by rw [← h]; exact hb))]
      exact e
    · refine hR s'' (Moved.trans W.gtrans ((hm.mono up).then_heap (Nat.le_succ _) fun b o hb e => ?_) hm2) hS4
      rw [sb.2 b (fun h : b = S => hb (by rw [h]; exact List.mem_cons_self))]
      exact e
end
/-! set(t), t a tuple of texts; sorted of a set of texts -/
abbrev newSet (led : Bool) : Obj := { cls := .type "set", dict := none, data := .set #[] 0 (.fresh 0 0 led) }
theorem newSet_ok {w : World} {h : Heap} {a : Addr} {led : Bool} (hl : w.params.followText "set-order" = true ∨ led = true) (e : h.get? a = some (newSet led)) : SetT w h a [] := by
  refine ⟨_, #[], 0, .fresh 0 0 led, e, ⟨rfl, rfl, rfl⟩, rfl, (fun e m => absurd m (by simp)), List.Perm.refl _, List.nodup_nil, (by decide), rfl, List.Pairwise.nil, hl⟩
section
variable {prog : Program} {w : World} {A : Around} {E : Value → Shared → Prop} {s : Shared}
theorem tSetNew (a : Value) {Q₁ : Value → Shared → Prop} (h : Q₁ (.ref s.heap.objs.size) { s with heap := s.heap.push (newSet (!w.params.followText "set-order")) }) :
    codeAny (model prog w) A (.call (.builtin "set.__new__") ⟨[.type "set", a], []⟩) (wants Q₁ E) s := by
  refine codeAny_of_tree ?_
  show wpAny _ A.in1 (do checkBuiltinCall "set.__new__" ⟨[.type "set", a], []⟩; again (.builtin "set.__new__" ⟨[.type "set", a], []⟩)) _ _ s
  refine wpAny_bind (wpAny_of_eq (PySem.F.newCall_set_1 a) (wpAny_pure ⟨plainId_quiet PySem.F.plain_set_new _, codeAny_builtin PySem.F.entry_set_new ?_⟩))
  rw [Around.under_plainId PySem.F.plain_set_new _] <;> unfold Builtin.«set.__new__» Builtin.Frozenset.newClass
  have hsub := sub_set_self; obtain ⟨hp, g, d, tk, os⟩ := s
  dsimp only <;> wp_walk
  refine wpAny_askSetting (wpAny_pure ?_) <;> dsimp only <;> simp only [newObj]
  exact wpAny_bind (wpAny_alloc (wpAny_pure (wpAny_pure h)))
theorem tSetOf {l : Addr} {items : Array Value} {xs : List Str} {Q : Value → Shared → Prop} (hh : A.handled = none) (hl : s.heap.IsTuple l items) (hi : StrsAre items.toList xs) (hsm : xs.length < 4000)
    (h : ∀ (h' : Heap) (tk : Nat), SetT w h' s.heap.objs.size (putAll [] xs) → (∀ b o, b < s.heap.objs.size → s.heap.get? b = some o → h'.get? b = some o) → Q (.ref s.heap.objs.size) { s with heap := h', toks := tk }) :
    wpAny (model prog w) A (call (.type "set") [.ref l]) Q E s := by
  obtain ⟨c, tl, hmro⟩ := PySem.F.called_set.mro
  have hmade := PySem.F.called_set.made; have hsub := PySem.F.called_set.sub
  refine wpAny_call (codeAny_of_tree ?_)
  show wpAny _ _ (callAny (.type "set") _) _ _ _
  refine wpAny_pure ⟨Code.quiet_builtin _ (by decide +kernel), codeAny_builtin PySem.F.entry_type_call ?_⟩
  rw [Around.under_plain (weight_type_call_type "set" [.ref l] []) rfl]
  have h1 := PySem.F.called_set.notType; have h2 := PySem.F.called_set.canCreate; have hct := PySem.F.typeCall_set_1 (.ref l)
  repeat any_goals (first | assumption | wp_step)
  refine codeAny_mono (tSetNew (.ref l) (E := E) (Q₁ := fun obj s₁ => obj = .ref s.heap.objs.size ∧ s₁ = { s with heap := s.heap.push (newSet (!w.params.followText "set-order")) }) ⟨rfl, rfl⟩) fun r s₁ hr => ?_
  cases r with
  | error e => exact hr
  | ok fl =>
    cases fl with
    | next => exact hr.elim
    | brk => exact hr.elim
    | cont => exact hr.elim
    | ret obj =>
      obtain ⟨rfl, rfl⟩ := hr
      generalize hled : (!w.params.followText "set-order") = led
      have hlo : w.params.followText "set-order" = true ∨ led = true := by
        rw [← hled]
        cases w.params.followText "set-order" <;> simp
      have hS : (s.heap.push (newSet led)).get? s.heap.objs.size = some (newSet led) := Heap.get?_push_size _ rfl
      have hT : Shared.TypeIs { s with heap := s.heap.push (newSet led) } (.ref s.heap.objs.size) "set" := ⟨_, hS, rfl⟩
      have hli := PySem.F.called_set.init.lookup; have hbi := PySem.F.called_set.init.bind (.ref s.heap.objs.size)
      repeat any_goals (first | assumption | wp_step)
      refine codeAny_mono (codeAny_call_builtin (R := wants (fun r s₂ => r = .none ∧ ∃ h' tk, s₂ = { s with heap := h', toks := tk } ∧ SetT w h' s.heap.objs.size (putAll [] xs) ∧ (∀ b o, b < s.heap.objs.size → s.heap.get? b = some o → h'.get? b = some o)) E) PySem.F.called_set.init.plain PySem.F.entry_set_init (check_set_init_1 hT ?_)) fun r₂ s₂ hr₂ => ?_
      · obtain ⟨⟨ocls, odict, odata, oslots⟩, hol, hcl, nl, hdl⟩ := hl
        simp only at hcl hdl
        subst hcl; subst hdl
        have hol' : (s.heap.push (newSet led)).get? l = some { cls := .type "tuple", dict := odict, data := .seq items nl, slots := oslots } := Heap.get?_push_of_some _ hol
        have hsls := PySem.F.sub_tuple_set; have hslf := PySem.F.sub_tuple_frozenset
        have hne : (Value.type "tuple" == Value.type "dict") = false := by decide
        have hl1 : (s.heap.push (newSet led)).IsTuple l items := ⟨_, hol', rfl, nl, rfl⟩
        unfold Builtin.«set.__init__» noKeywords Builtin.Frozenset.updateFrom
        generalize hPI : pyIter = PI
        wp_walk
        subst hPI
        refine wpAny_pyIter_tuple hl1 (wpAny_bind (wpAny_runValue ?_))
        have hlS : l < s.heap.objs.size := Heap.lt_size hol
        have hh3 : A.in1.in1.in1.handled = none := by simp [hh]
        have hneI : l ≠ (s.heap.push (newSet led)).objs.size := by
          rw [Heap.size_push]
          exact Nat.ne_of_lt (Nat.lt_succ_of_lt hlS)
        have hSf : s.heap.objs.size ∉ [(s.heap.push (newSet led)).objs.size, l] := by
          rw [Heap.size_push]
          simp only [List.mem_cons, List.not_mem_nil, or_false, not_or]
          exact ⟨Nat.ne_of_lt (Nat.lt_succ_self _), Nat.ne_of_gt hlS⟩
        have hsz : xs.length = items.size := by rw [← StrsAre.len_eq hi, Array.length_toList]
        refine tFill ((Walks.tuple hh3 _ l hneI items).toS) s.heap.objs.size hSf xs hsz (by omega) (fun i v hv => SS.strs_at hi i v (by rw [Array.getElem?_toList]; exact hv)) (items.size - 0) 0 _ (by omega) (Nat.zero_le _)
          ⟨⟨_, Heap.get?_push_size _ rfl, rfl, rfl⟩, (hl1.push _)⟩ (newSet_ok hlo (Heap.get?_push_of_some _ hS)) fun s' hm hS' => ?_
        obtain ⟨h', g', d', tk', os'⟩ := s'
        obtain rfl : g' = s.gens := hm.gens
        obtain rfl : d' = s.drawn := hm.drawn
        obtain rfl : os' = s.os := hm.os
        show wpAny _ _ _ _ _ _
        refine wpAny_pure ?_
        show wpAny _ _ (ret Value.none) _ _ _
        refine wpAny_pure ⟨rfl, h', tk', rfl, hS', fun b o hb e => hm.heap b o ?_ (Heap.get?_push_of_some _ (Heap.get?_push_of_some _ e))⟩
        simp only [List.mem_cons, List.not_mem_nil, or_false, not_or]
        refine ⟨Nat.ne_of_lt hb, ?_⟩
        rw [Heap.size_push]
        exact Nat.ne_of_lt (Nat.lt_succ_of_lt hb)
      · cases r₂ with
        | error e => exact hr₂
        | ok fl₂ =>
          cases fl₂ with
          | next => exact hr₂.elim
          | brk => exact hr₂.elim
          | cont => exact hr₂.elim
          | ret r =>
            obtain ⟨rfl, h', tk, rfl, hS', hk'⟩ := hr₂
            repeat any_goals (first | assumption | wp_step)
            exact h _ _ hS' hk'
end
end Hid

namespace Hid
open PySem PySem.Spec PyProof.Rows L2
def strLe (a b : Str) : Bool := decide (a.cps.toList ≤ b.cps.toList)
theorem str_ext {a b : Str} (h : a.cps.toList = b.cps.toList) : a = b := by
  cases a; cases b
  simp at h
  simpa using h
/-- rising, no two alike -/
abbrev Rise (ys : List Str) : Prop := ys.Pairwise fun a b => a.cps.toList < b.cps.toList
theorem rise_of {ks : List Str} (nd : ks.Nodup) : Rise (ks.mergeSort strLe) ∧ (ks.mergeSort strLe).Perm ks := by
  have pm := List.mergeSort_perm ks strLe
  refine ⟨?_, pm⟩
  have h1 : (ks.mergeSort strLe).Pairwise fun a b => strLe a b = true := List.pairwise_mergeSort (le := strLe) (fun a b c x y => by
      unfold strLe at *
      exact decide_eq_true (List.le_trans (of_decide_eq_true x) (of_decide_eq_true y))) (fun a b => by
      unfold strLe
      rcases List.le_total a.cps.toList b.cps.toList with h | h
      · rw [decide_eq_true h]; rfl
      · rw [decide_eq_true h, Bool.or_true]) ks
  have h2 : (ks.mergeSort strLe).Nodup := pm.nodup_iff.mpr nd
  refine (List.pairwise_and_iff.mpr ⟨h1, h2⟩ : (ks.mergeSort strLe).Pairwise fun a b => strLe a b = true ∧ a ≠ b).imp fun {a b} h => ?_
  have hle : a.cps.toList ≤ b.cps.toList := of_decide_eq_true h.1
  by_cases z : a.cps.toList < b.cps.toList
  · exact z
  · exact absurd (str_ext (List.le_antisymm hle (List.not_lt.mp z))) h.2
theorem each_mono2 {α γ : Type} {R R' : α → γ → Prop} (h : ∀ a b, R a b → R' a b) : ∀ {l : List α} {m : List γ}, PySem.W.EachIs R l m → PySem.W.EachIs R' l m
  | _, _, .nil => .nil
  | _, _, .cons a t => .cons (h _ _ a) (each_mono2 h t)
theorem vals_of_strs : ∀ {us : List Value} {ys : List Str}, StrsAre us ys → Vals (ys.map V.str) us
  | _, _, .nil => .nil
  | _, _, .cons n t h => .cons ⟨t, rfl⟩ (vals_of_strs h)
theorem each_strs {R : Value → Str → Prop} (hR : ∀ v k, R v k → ∃ t, v = .str k t) : ∀ {out : List Value} {ks : List Str}, PySem.W.EachIs R out ks → StrsAre out ks
  | _, _, .nil => .nil
  | _, _, .cons h t => by
    obtain ⟨u, rfl⟩ := hR _ _ h
    exact .cons _ u (each_strs hR t)
theorem strs_each : ∀ {vs : List Value}, (∀ v ∈ vs, ∃ k t, v = Value.str k t) → ∃ ks : List Str, PySem.W.EachIs (fun v k => ∃ t, v = Value.str k t) vs ks ∧ ks = vs.map fun v => tKey (0, v)
  | [], _ => ⟨[], .nil, rfl⟩
  | v :: vs, h => by
    obtain ⟨k, t, rfl⟩ := h v List.mem_cons_self
    obtain ⟨ks, e, q⟩ := strs_each fun u hu => h u (List.mem_cons_of_mem _ hu)
    exact ⟨k :: ks, .cons ⟨t, rfl⟩ e, by rw [q]; rfl⟩
section
variable {P : Program} {w : World} {A : Around} {E : Value → Shared → Prop} {s : Shared} {a : Addr} {xs : List Str}
theorem tSorted {Q : Value → Shared → Prop} (R : SetT w s.heap a xs) (hh : A.handled = none) (hu : A.units + 64 < cLine)
    (hQ : ∀ s' p (out : Array Value) (c : Nat) (ys : List Str), (∀ b o, s.heap.get? b = some o → s'.heap.get? b = some o) → s'.gens = s.gens → s'.os = s.os → s.heap.objs.size ≤ p →
      s'.heap.get? p = some (seqObj "list" out c) → StrsAre out.toList ys → Rise ys → ys.Perm xs → Q (.ref p) s') :
    wpAny (model P w) A (call (.builtin "sorted") [.ref a]) Q E s := by
  obtain ⟨o, es, ep, t, ho, hex, hd, g, pm, nd, hb, hf, hr, hl⟩ := R
  refine Calls.call_function_entry kind_sorted plain_sorted entry_sorted (args_sorted1 _) ?_
  unfold Builtin.«sorted»
  refine wpAny_bind (m := checkCount "sorted" 1 1 _) (wpAny_pure (wpAny_bind (collect_set (A := A.in1) hh ⟨o, ho, hex.1, hd⟩ hf hb hr hl fun s1 vs k1 hz g1 o1 pv => ?_)))
  obtain ⟨ks, ek, hks⟩ := strs_each (vs := vs) fun v hv => by
    obtain ⟨e, he, q⟩ := List.mem_map.mp (pv.mem_iff.mp hv)
    obtain ⟨k, tk, h1, _⟩ := g e he
    exact ⟨k, tk, by rw [← q]; exact h1⟩
  have pk : ks.Perm xs := by
    have q := pv.map fun v => tKey (0, v)
    rw [List.map_map] at q
    rw [hks]
    exact q.trans pm
  have hvl : vs.length < 4096 := by
    rw [pv.length_eq, List.length_map, Array.length_toList]
    exact hb
  have hkl : ks.length = vs.length := ek.length.symm
  refine wpAny_bind (wpAny_newList ?_ (by rw [sizeLine_eq]; omega))
  have hoL : (s1.heap.push (seqObj "list" vs.toArray 0)).get? s1.heap.objs.size = some (seqObj "list" vs.toArray 0) := Heap.get?_push_size _ rfl
  refine wpAny_bind (wpAny_holding ?_)
  refine PySem.W.list_sort_data (s := { s1 with heap := s1.heap.push (seqObj "list" vs.toArray 0) }) (enc := fun k : Str => PyData.str k) hoL ek (each_mono2 (fun v k h => ?_) ek) ?_ ?_ (by rw [sizeLine_eq]; omega) (fun k _ => ?_) fun out hlo eo => ?_
  · obtain ⟨t, rfl⟩ := h
    exact ⟨[], .str k t, fun m => nomatch m⟩
  · exact PySem.W.AllAlike.of fun _ _ => by simp [PySem.W.alike]
  · exact PySem.W.Sortable.others fun _ => ⟨(fun z => nomatch z), (fun _ z => nomatch z)⟩
  · show A.in1.units + 1 + PyData.depth (.str k) < cLine
    have : PyData.depth (.str k) = 0 := by simp [PyData.depth]
    have h2 : A.in1.units = A.units + 1 := rfl
    omega
  · rw [PySem.W.dataLe_str (β := Str) (fun k => k)] at eo
    obtain ⟨c, hc⟩ := sortedHeap_at (vs := vs) (out := out.toArray) hoL
    obtain ⟨rs, rp⟩ := rise_of (pk.nodup_iff.mpr nd)
    refine wpAny_pure ⟨_, rfl, hQ _ s1.heap.objs.size out.toArray c (ks.mergeSort strLe) (fun b u e => ?_) g1 o1 hz hc (by rw [List.toList_toArray]; exact each_strs (fun _ _ h => h) eo) rs (rp.trans pk)⟩
    have q := k1 b u e
    have hlt := Heap.lt_size q
    show (sortedHeap (s1.heap.push (seqObj "list" vs.toArray 0)) s1.heap.objs.size vs out.toArray).get? b = some u
    rw [sortedHeap_old (Nat.ne_of_lt hlt) (by rw [size_push']; exact Nat.lt_succ_of_lt hlt)]
    exact Heap.get?_push_of_some _ q
end
/-- sorted(set(e)), e a tuple of texts -/
def tSortSet (K : PySem.W.Frag) (te : TE) : TE := fun σ H Q => te σ H fun v H1 => ∃ (a : Addr) (xs : List Str), v = .ref a ∧ SqT K H1 a (xs.map V.str) ∧ xs.length < 4000 ∧ ∀ (ys : List Str) (p : Addr), Rise ys → ys.length ≤ xs.length → (∀ x, x ∈ ys ↔ x ∈ xs) → H1 p = none → Q (.ref p) (upd H1 p (.lst (ys.map V.str)))
theorem pe_sortSet {X : Cx} {e : Expr} {te : TE} {p p2 pos pos2 : Pos} (hc : X.calm = true) (hu : X.A.units + 64 < cLine) (hg : Gl X "sorted") (hm : X.mg "sorted" = none) (hg2 : Gl X "set") (hm2 : X.mg "set" = none) (he : PE X e te)
    (hs : starEach [e] X.env = (false, eval e X.env) :: starEach [] X.env := by rfl)
    (hs2 : starEach [.Call (.Name "set" p2) [e] [] pos2] X.env = (false, eval (.Call (.Name "set" p2) [e] [] pos2) X.env) :: starEach [] X.env := by rfl) :
    PE X (.Call (.Name "sorted" p) [.Call (.Name "set" p2) [e] [] pos2] [] pos) (tSortSet X.K te) := by
  refine ⟨fun pins s σ H Q I h => ?_⟩
  refine wpAny_Call_Name_kw (ld_blt I hg hm (by decide +kernel : bootBuiltins "sorted" = some (.builtin "sorted")) ?_)
  refine callWith_builtin1 (args_cons (Call_ (ld_blt I hg2 hm2 (by decide +kernel : bootBuiltins "set" = some (.type "set")) (callWith_type1 (args_cons (thn (he.run pins s σ H _ I h) fun u s1 ⟨v, H1, I1, r1, q1⟩ => args_nil ?_) hs) hs rfl))) hs2) hs2 rfl
  obtain ⟨a, xs, ev, hq, hsm, q⟩ := q1
  subst ev
  obtain rfl : u = Value.ref a := r1
  obtain ⟨its, rv, p', hz⟩ := I1.tuple hq
  have hh := I1.ok.hd hc
  refine tSetOf hh p' (by rw [List.toList_toArray]; exact strs_of_vals rv) hsm fun h' tk hS hk => args_nil ?_
  have I2 : Inv X pins σ H1 { s1 with heap := h', toks := tk } := I1.kept (t' := tk) fun b o e => hk b o (Heap.lt_size e) e
  refine tSorted (s := { s1 with heap := h', toks := tk }) hS hh hu fun s' p3 out c ys k g o hp hget hst hri hpm => ?_
  have hn : H1 p3 = none := I2.hok.fresh hp
  have hys : ys.length ≤ sizeLine := by
    have h1 := putAll_len xs []
    rw [hpm.length_eq, sizeLine_eq]
    rw [List.length_nil] at h1
    omega
  have J : Inv X pins σ (upd H1 p3 (.lst (ys.map V.str))) { ({ s1 with heap := h', toks := tk } : Shared) with heap := s'.heap, gens := s'.gens, drawn := s'.drawn, toks := s'.toks } :=
    I2.call (ch := []) (Un.laid k hp hn) (I2.hok.laid k hp ⟨by rw [List.length_map]; exact hys, out.toList, c, vals_of_strs hst, hget⟩) (by rw [g]; exact I2.bare) (fun _ z => nomatch z)
  have e : s' = { ({ s1 with heap := h', toks := tk } : Shared) with heap := s'.heap, gens := s'.gens, drawn := s'.drawn, toks := s'.toks } := by
    have o2 : s'.os = s1.os := o
    obtain ⟨x1, x2, x3, x4, x5⟩ := s'
    dsimp only at o2 ⊢
    rw [o2]
  rw [e]
  refine ⟨.ref p3, _, J, rfl, q ys p3 hri (by have h1 := putAll_len xs []; rw [List.length_nil] at h1; rw [hpm.length_eq]; omega) (fun x => ?_) hn⟩
  rw [hpm.mem_iff, putAll_mem]
  simp
end Hid

namespace Hid
open PySem PySem.Spec PyProof.Rows L2
/-! t[::-1] -/
theorem back_pick (xs : Array Value) : ((List.range xs.size).filterMap fun (k : Nat) => xs[(((xs.size : Int) - 1) + (k : Int) * (-1)).toNat]?).toArray = xs.toList.reverse.toArray := by
  congr 1
  have h1 : ((List.range xs.size).filterMap fun (k : Nat) => xs[(((xs.size : Int) - 1) + (k : Int) * (-1)).toNat]?) = (List.range xs.size).map fun k => xs.getD (xs.size - 1 - k) .none := by
    have : ∀ l : List Nat, (∀ k ∈ l, k < xs.size) → (l.filterMap fun (k : Nat) => xs[(((xs.size : Int) - 1) + (k : Int) * (-1)).toNat]?) = l.map fun k => xs.getD (xs.size - 1 - k) .none := by
      intro l
      induction l with
      | nil => intro _; rfl
      | cons k l ih =>
        intro h
        have hk := h k List.mem_cons_self
        have e : (((xs.size : Int) - 1) + (k : Int) * (-1)).toNat = xs.size - 1 - k := by omega
        have hlt : xs.size - 1 - k < xs.size := by omega
        rw [List.filterMap_cons, e, Array.getElem?_eq_getElem hlt, List.map_cons, ← ih fun z hz => h z (List.mem_cons_of_mem _ hz)]
        simp [Array.getD, hlt]
    exact this _ fun k hk => List.mem_range.mp hk
  rw [h1]
  apply List.ext_getElem?
  intro i
  by_cases hi : i < xs.size
  · have hlt : xs.size - 1 - i < xs.size := by omega
    rw [List.getElem?_map, List.getElem?_range hi, List.getElem?_reverse (by rw [Array.length_toList]; exact hi)]
    simp [Array.getD, hlt]
  · rw [List.getElem?_eq_none (by rw [List.length_map, List.length_range]; omega), List.getElem?_eq_none (by rw [List.length_reverse, Array.length_toList]; omega)]
section
variable {prog : Program} {w : World} {A : Around} {E : Value → Shared → Prop} {s : Shared}
theorem back_applied {sl : Addr} {vs : Value} {n : Nat} {Q : Int × Int × Nat → Shared → Prop} (hs : s.heap.IsSliceOf sl .none .none vs) (ps : IsPart vs (some (-1))) (h : Q ((n : Int) - 1, -1, n) s) :
    wpAny (model prog w) A (Builtin.Slice.sliceApplied (.ref sl) (pure (n : Int))) Q E s := by
  obtain ⟨os, hos, hcs, hds⟩ := id hs
  unfold Builtin.Slice.sliceApplied Builtin.Slice.sliceFields
  refine wpAny_bind (wpAny_bind (wpAny_field hos hds (x := .none) rfl (wpAny_bind (wpAny_field hos hds (x := .none) rfl (wpAny_bind (wpAny_field hos hds (x := vs) rfl (wpAny_pure ?_)))))))
  refine wpAny_bind (HT.slicePart_ ps ?_)
  show wpAny _ _ (if ((-1 : Int) == 0) = true then _ else _) _ _ s
  rw [if_neg (by decide)]
  refine wpAny_bind (HT.slicePart_ .none (wpAny_bind (HT.slicePart_ .none (wpAny_bind (wpAny_pure ?_)))))
  have e1 : Builtin.Slice.sliceAdjust none none (-1) (n : Int) = ((n : Int) - 1, -1) := by simp [Builtin.Slice.sliceAdjust]
  have e2 : Builtin.Slice.slicePlaces ((n : Int) - 1) (-1) (-1) = n := by
    unfold Builtin.Slice.slicePlaces
    have h1 : ¬ ((-1 : Int) > 0) := by decide
    simp only [h1, if_false]
    split
    · rw [show (-(-1) : Int) = 1 by decide, Int.ediv_one]
      omega
    · omega
  show wpAny _ _ (match Builtin.Slice.sliceAdjust none none (-1) (n : Int) with | (lo, hi) => pure (lo, (-1 : Int), Builtin.Slice.slicePlaces lo hi (-1))) _ _ s
  rw [e1]
  show wpAny _ _ (pure ((n : Int) - 1, (-1 : Int), Builtin.Slice.slicePlaces ((n : Int) - 1) (-1) (-1))) _ _ s
  rw [e2]
  exact wpAny_pure h
theorem back_item {t sl : Addr} {items : Array Value} {vs : Value} {Q : Value → Shared → Prop} (ht : IsTup s.heap t items) (hs : s.heap.IsSliceOf sl .none .none vs) (ps : IsPart vs (some (-1))) (hsz : items.size ≤ sizeLine)
    (h : Q (.ref s.heap.objs.size) { s with heap := s.heap.push { cls := .type "tuple", data := .seq items.toList.reverse.toArray } }) : wpAny (model prog w) A (getItem (.ref t) (.ref sl)) Q E s := by
  have hok : sizeOk (.seq items.toList.reverse.toArray) := by
    show items.toList.reverse.toArray.size ≤ sizeLine
    simpa using hsz
  obtain ⟨os, hos, hcs, hds⟩ := id hs
  have hTs : s.TypeIs (.ref sl) "slice" := ⟨os, hos, hcs⟩
  unfold getItem
  try with_reducible refine wpAny_holding ?_
  first | refine wpAny_bind (wpAny_pure ?_) | skip
  refine wpAny_bind (wpAny_sequenceKey ht.typeIs (by decide) ?_)
  refine wpAny_bind (wpAny_callSpecial?_slot (name := Str.ofString "__getitem__") ht.typeIs PyProof.Rows.slot_tuple_getitem (wpAny_call_entry PyProof.Rows.slot_tuple_getitem ht.typeIs entry_tuple_getitem ?_ (args_tuple_getitem _ _)))
  show wpAny _ _ (Builtin.Tuple.tupleItemsOf (.ref t) >>= _) _ _ s
  refine wpAny_bind (tupleItemsOf_ ht (wpAny_bind (wpAny_typeOf hTs ?_)))
  rw [if_pos (by decide)]
  refine wpAny_bind (back_applied hs ps ?_)
  show wpAny _ _ (if (((items.size : Int) - 1 == 0 && (-1 : Int) == 1) && items.size == items.size) = true then _ else _) _ _ s
  rw [if_neg (by intro z; rw [Bool.and_eq_true, Bool.and_eq_true] at z; exact absurd z.1.2 (by decide)), back_pick]
  first
    | exact wpAny_bind (m := Builtin.Tuple.tupleExact _) (wpAny_newObj_type (wpAny_pure ⟨_, rfl, wpAny_pure h⟩) hok)
    | exact wpAny_bind (m := Builtin.Tuple.tupleExact _) (wpAny_newObj_type (wpAny_bind (wpAny_pure (wpAny_pure ⟨_, rfl, wpAny_pure h⟩))) hok)
    | exact wpAny_bind (wpAny_bind (m := Builtin.Tuple.tupleExact _) (wpAny_newObj_type (wpAny_pure (wpAny_pure ⟨_, rfl, wpAny_pure h⟩)) hok))
    | exact wpAny_bind (wpAny_bind (m := Builtin.Tuple.tupleExact _) (wpAny_newObj_type (wpAny_pure ⟨_, rfl, wpAny_pure h⟩) hok))
/-- sorted(t), t a tuple of texts -/
theorem sorted_tupS {l : Addr} {items : Array Value} {ks : List Str} {Q : Value → Shared → Prop} (ht : IsTup s.heap l items) (hi : StrsAre items.toList ks) (hz : items.size ≤ 100000) (hu : A.units + 64 < cLine)
    (hQ : ∀ (h1 h' : Heap) (out : Array Value) (c : Nat), (∀ b o, s.heap.get? b = some o → h1.get? b = some o) → (∀ b o, h1.get? b = some o → h'.get? b = some o) → h'.get? h1.objs.size = some (seqObj "list" out c) → StrsAre out.toList (ks.mergeSort strLe) → Q (.ref h1.objs.size) { s with heap := h' }) :
    wpAny (model prog w) A (call (.builtin "sorted") [.ref l]) Q E s := by
  obtain ⟨o, ho, hc, n, hd⟩ := id ht
  refine Calls.call_function_entry kind_sorted plain_sorted entry_sorted (args_sorted1 _) ?_
  unfold Builtin.«sorted»
  have hsz : items.size ≤ sizeLine := Nat.le_trans hz (by decide)
  refine wpAny_bind (m := checkCount "sorted" 1 1 _) (wpAny_pure (wpAny_bind (wpAny_collect_seq (A := A.in1) l (.inr rfl) ho hc hd (fun h1 k1 => ?_) hsz)))
  have hlen : items.toList.length ≤ sizeLine := by rw [Array.length_toList]; exact hsz
  have ek : PySem.W.EachIs (fun v k => ∃ t, v = Value.str k t) items.toList ks := by
    clear hQ
    generalize items.toList = vs at hi
    induction hi with
    | nil => exact .nil
    | cons k t _ ih => exact .cons ⟨t, rfl⟩ ih
  have hkl : ks.length = items.toList.length := ek.length.symm
  refine wpAny_bind (wpAny_newList ?_ hlen)
  have hoL : (h1.push (seqObj "list" items.toList.toArray 0)).get? h1.objs.size = some (seqObj "list" items.toList.toArray 0) := Heap.get?_push_size _ rfl
  refine wpAny_bind (wpAny_holding ?_)
  refine PySem.W.list_sort_data (s := { s with heap := h1.push (seqObj "list" items.toList.toArray 0) }) (enc := fun k : Str => PyData.str k) hoL ek (each_mono2 (fun v k h => ?_) ek) ?_ ?_ (by rw [hkl]; exact hlen) (fun k _ => ?_) fun out hlo eo => ?_
  · obtain ⟨t, rfl⟩ := h
    exact ⟨[], .str k t, fun m => nomatch m⟩
  · exact PySem.W.AllAlike.of fun _ _ => by simp [PySem.W.alike]
  · exact PySem.W.Sortable.others fun _ => ⟨(fun z => nomatch z), (fun _ z => nomatch z)⟩
  · show A.in1.units + 1 + PyData.depth (.str k) < cLine
    have : PyData.depth (.str k) = 0 := by simp [PyData.depth]
    have h2 : A.in1.units = A.units + 1 := rfl
    omega
  · rw [PySem.W.dataLe_str (β := Str) (fun k => k)] at eo
    obtain ⟨c, hcc⟩ := sortedHeap_at (vs := items.toList) (out := out.toArray) hoL
    refine wpAny_pure ⟨_, rfl, hQ h1 _ out.toArray c k1 (fun b u q => ?_) hcc (by rw [List.toList_toArray]; exact each_strs (fun _ _ h => h) eo)⟩
    have hlt := Heap.lt_size q
    show (sortedHeap (h1.push (seqObj "list" items.toList.toArray 0)) h1.objs.size items.toList out.toArray).get? b = some u
    rw [sortedHeap_old (Nat.ne_of_lt hlt) (by rw [size_push']; exact Nat.lt_succ_of_lt hlt)]
    exact Heap.get?_push_of_some _ q
end
section
variable {X : Cx}
def tRevT (K : PySem.W.Frag) (te : TE) : TE := fun σ H Q => te σ H fun x H1 => ∃ a xs, x = .ref a ∧ SqT K H1 a xs ∧ ∀ p, H1 p = none → Q (.ref p) (upd H1 p (.tup xs.reverse))
theorem pe_revT {e : Expr} {te : TE} {k : Nat} {p1 p2 p3 pos : Pos} (he : PE X e te) : PE X (.Subscript e (.Slice none none (some (.UnaryOp .USub (.Constant (.int 1) k p1) p2)) p3) pos) (tRevT X.K te) := by
  refine ⟨fun pins s σ H Q I h => ?_⟩
  refine Subscript_ (thn (he.run pins s σ H _ I h) fun v s1 ⟨x, H1, I1, r1, a, xs, ex, hx, q⟩ => ?_)
  subst ex
  cases r1
  have hst : PO X (some (.UnaryOp .USub (.Constant (.int 1) k p1) p2)) (tPart (tUn (rU fun i => .int (-i)) (tC (.int 1)))) := po_some (pe_un un_neg pe_int)
  refine wpAny_Slice (thn (po_none.run pins s1 σ H1 (fun o H2 => o = none ∧ H2 = H1) I1 ⟨rfl, rfl⟩) fun vl s2 ⟨l, H2, I2, pl, el, e2⟩ => ?_)
  subst el e2
  refine thn (po_none.run pins s2 σ H2 (fun o H3 => o = none ∧ H3 = H2) I2 ⟨rfl, rfl⟩) fun vu s3 ⟨u, H3, I3, pu, eu, e3⟩ => ?_
  subst eu e3
  refine thn (hst.run pins s3 σ H3 (fun o H4 => o = some (-1) ∧ H4 = H3) I3 ⟨1, rfl, -1, rfl, rfl, rfl⟩) fun vs s4 ⟨o, H4, I4, ps, eo, e4⟩ => ?_
  subst eo e4
  cases pl
  cases pu
  have I5 : Inv X pins σ H4 { s4 with heap := s4.heap.push { cls := .type "slice", data := .fields #[.none, .none, vs] } } := I4.kept (t' := s4.toks) fun b ob z => Heap.get?_push_of_some _ z
  obtain ⟨its, r, ht, hz⟩ := I5.tuple hx
  show wpAny (model X.prog X.w) X.A (subscriptTail e (.Slice none none (some (.UnaryOp .USub (.Constant (.int 1) k p1) p2)) p3) (.ref a) (.ref s4.heap.objs.size)) (EP X pins σ Q) X.xe { s4 with heap := s4.heap.push { cls := .type "slice", data := .fields #[.none, .none, vs] } }
  refine tail_any (ops := [.ref a, .ref s4.heap.objs.size]) ht.typeIs (PyProof.Rows.slot_tuple_getitem.lookup) ?_ (by with_unfolding_all rfl)
  refine back_item ht (Heap.IsSliceOf.new _ .none .none vs) ps (by rw [List.size_toArray, ← r.length]; exact hz) ?_
  refine ⟨.ref _, _, I5.laid (t' := s4.toks) (o := .tup xs.reverse) (fun b ob z => Heap.get?_push_of_some _ z) (Nat.le_refl _) ?_, rfl, q _ (I5.hok.fresh (Nat.le_refl _))⟩
  refine ⟨by rw [List.length_reverse]; exact hz, its.reverse, r.reverse, ?_⟩
  rw [List.toList_toArray]
  exact IsTup.new _ _
theorem cr_sortedT (hu : X.A.units + 64 < cLine) : CallR X (.builtin "sorted") (fun vs H Q => ∃ (a : Addr) (xs : List Str), vs = [.ref a] ∧ SqT X.K H a (xs.map V.str) ∧ xs.length ≤ 100000 ∧ ∀ p, H p = none → Q (.ref p) (upd H p (.lst ((xs.mergeSort strLe).map V.str)))) := by
  intro pins s σ H vs us Q I r h
  obtain ⟨a, xs, rfl, hs, hl, q⟩ := h
  obtain ⟨its, rv, ht, hz⟩ := I.tuple hs
  rw [Vals.ref1 r]
  refine sorted_tupS (ks := xs) ht (by rw [List.toList_toArray]; exact strs_of_vals rv) (by rw [List.size_toArray, ← rv.length, List.length_map]; exact hl) hu fun h1 h' out c k1 k2 hget hst => ?_
  have I1 := I.kept (t' := s.toks) k1
  refine ⟨.ref h1.objs.size, _, I1.laid (t' := s.toks) (o := .lst ((xs.mergeSort strLe).map V.str)) k2 (Nat.le_refl _) ⟨?_, out.toList, c, vals_of_strs hst, hget⟩, rfl, q _ (I1.hok.fresh (Nat.le_refl _))⟩
  rw [List.length_map, List.length_mergeSort]
  exact Nat.le_trans hl (by decide)
end
end Hid

namespace Hid
open PySem PySem.Spec PyProof.Rows L2
abbrev sgAt (h : Str) (i : Nat) : Nat := h.cps.toList.getD i 0
def prAt (h : Str) (i j : Nat) : Str := ⟨#[sgAt h i, sgAt h j]⟩
def HalfS (m : Nat) (h : Str) : Prop := h.cps.size = m ∧ ∀ c ∈ h.cps.toList, c = 110 ∨ c = 121
def fstAt (rs : List Str) (i j : Nat) (p : Str) : Option Str := rs.find? fun h => decide (prAt h i j = p)
def prs : List Str := ["nn", "ny", "yn", "yy"]
def four (rs : List Str) (i j : Nat) : Option (List Str) := match fstAt rs i j "nn", fstAt rs i j "ny", fstAt rs i j "yn", fstAt rs i j "yy" with
  | some a, some b, some c, some d => some [a, b, c, d]
  | _, _, _, _ => none
abbrev srt (hs : List Str) : List Str := hs.mergeSort strLe
abbrev Sorted (l : List Str) : Prop := l.Pairwise fun a b => a.cps.toList ≤ b.cps.toList
theorem srt_sorted (hs : List Str) : Sorted (srt hs) := by
  have h1 : (hs.mergeSort strLe).Pairwise fun a b => strLe a b = true := List.pairwise_mergeSort (le := strLe) (fun a b c x y => by
      unfold strLe at *
      exact decide_eq_true (List.le_trans (of_decide_eq_true x) (of_decide_eq_true y))) (fun a b => by
      unfold strLe
      rcases List.le_total a.cps.toList b.cps.toList with h | h
      · rw [decide_eq_true h]; rfl
      · rw [decide_eq_true h, Bool.or_true]) hs
  exact h1.imp fun h => of_decide_eq_true h
theorem rise_sorted {l : List Str} (h : Rise l) : Sorted l := h.imp fun h => List.le_of_lt h
theorem mem_srt {hs : List Str} {x : Str} : x ∈ srt hs ↔ x ∈ hs := (List.mergeSort_perm hs strLe).mem_iff
theorem srt_len (hs : List Str) : (srt hs).length = hs.length := List.length_mergeSort _
theorem find_least {p : Str → Bool} {x : Str} : ∀ {l : List Str}, Sorted l → l.find? p = some x → ∀ y ∈ l, p y = true → x.cps.toList ≤ y.cps.toList
  | [], _, h, _, _, _ => by cases h
  | z :: l, hs, h, y, hy, py => by
    rw [List.find?_cons] at h
    cases hz : p z with
    | true =>
      rw [hz] at h
      cases h
      rcases List.mem_cons.mp hy with e | e
      · rw [e]; exact List.le_refl _
      · exact (List.pairwise_cons.mp hs).1 y e
    | false =>
      rw [hz] at h
      rcases List.mem_cons.mp hy with e | e
      · rw [e, hz] at py; cases py
      · exact find_least (List.pairwise_cons.mp hs).2 h y e py
theorem find_same {p : Str → Bool} {l m : List Str} (hl : Sorted l) (hm : Sorted m) (e : ∀ x, x ∈ l ↔ x ∈ m) : l.find? p = m.find? p := by
  cases h1 : l.find? p with
  | none =>
    symm
    rw [List.find?_eq_none] at h1 ⊢
    exact fun x hx => h1 x ((e x).mpr hx)
  | some x =>
    have px := List.find?_some h1
    have mx := List.mem_of_find?_eq_some h1
    cases h2 : m.find? p with
    | none =>
      rw [List.find?_eq_none] at h2
      exact absurd px (h2 x ((e x).mp mx))
    | some y =>
      have py := List.find?_some h2
      have my := List.mem_of_find?_eq_some h2
      rw [str_ext (List.le_antisymm (find_least hl h1 y ((e y).mpr my) py) (find_least hm h2 x ((e x).mp mx) px))]
theorem four_same {l m : List Str} (hl : Sorted l) (hm : Sorted m) (e : ∀ x, x ∈ l ↔ x ∈ m) : four l = four m := by
  funext i j
  have h : ∀ p, fstAt l i j p = fstAt m i j p := fun p => find_same hl hm e
  unfold four
  rw [h, h, h, h]
def IsCross (f : Nat → Nat → Option (List Str)) (m : Nat) : Option (Nat × Nat × List Str) → Prop
  | none => ∀ i j, i < j → j < m → f i j = none
  | some (i, j, F) => i < j ∧ j < m ∧ f i j = some F ∧ ∀ i' j', i' < j' → j' < m → (i' < i ∨ i' = i ∧ j' < j) → f i' j' = none
theorem IsCross.uniq {f : Nat → Nat → Option (List Str)} {m : Nat} : ∀ {r r' : Option (Nat × Nat × List Str)}, IsCross f m r → IsCross f m r' → r = r'
  | none, none, _, _ => rfl
  | none, some (i, j, F), h, h' => by
    have := h i j h'.1 h'.2.1
    rw [h'.2.2.1] at this
    cases this
  | some (i, j, F), none, h', h => by
    have := h i j h'.1 h'.2.1
    rw [h'.2.2.1] at this
    cases this
  | some (i, j, F), some (i', j', F'), h, h' => by
    obtain ⟨a1, a2, a3, a4⟩ := h
    obtain ⟨b1, b2, b3, b4⟩ := h'
    have n1 : ¬ (i' < i ∨ i' = i ∧ j' < j) := fun z => by
      have := a4 i' j' b1 b2 z
      rw [b3] at this
      cases this
    have n2 : ¬ (i < i' ∨ i = i' ∧ j < j') := fun z => by
      have := b4 i j a1 a2 z
      rw [a3] at this
      cases this
    obtain ⟨rfl, rfl⟩ : i = i' ∧ j = j' := by omega
    rw [a3] at b3
    cases b3
    rfl
theorem IsCross.ex (f : Nat → Nat → Option (List Str)) (m : Nat) : ∃ r, IsCross f m r := by
  by_cases h : ∃ i j, i < j ∧ j < m ∧ (f i j).isSome = true
  · have dec : ∀ n, (∃ i j, i < j ∧ j < m ∧ i < n ∧ (f i j).isSome = true) → ∃ r, IsCross f m r := by
      intro n
      induction n with
      | zero => rintro ⟨i, j, _, _, h, _⟩; omega
      | succ n ih =>
        intro hx
        by_cases hn : ∃ i j, i < j ∧ j < m ∧ i < n ∧ (f i j).isSome = true
        · exact ih hn
        · have hrow : ∀ k, (∃ j, n < j ∧ j < m ∧ j < k ∧ (f n j).isSome = true) → ∃ r, IsCross f m r := by
            intro k
            induction k with
            | zero => rintro ⟨j, _, _, h, _⟩; omega
            | succ k ihk =>
              intro hy
              by_cases hk : ∃ j, n < j ∧ j < m ∧ j < k ∧ (f n j).isSome = true
              · exact ihk hk
              · obtain ⟨j, h1, h2, h3, h4⟩ := hy
                have hj : j = k := by
                  by_cases hlt : j < k
                  · exact absurd ⟨j, h1, h2, hlt, h4⟩ hk
                  · omega
                subst hj
                obtain ⟨F, hF⟩ := Option.isSome_iff_exists.mp h4
                refine ⟨some (n, j, F), h1, h2, hF, fun i' j' b1 b2 z => ?_⟩
                cases hq : f i' j' with
                | none => rfl
                | some G =>
                  exfalso
                  rcases z with z | ⟨rfl, z⟩
                  · exact hn ⟨i', j', b1, b2, z, by rw [hq]; rfl⟩
                  · exact hk ⟨j', b1, b2, z, by rw [hq]; rfl⟩
          obtain ⟨i, j, a1, a2, a3, a4⟩ := hx
          have hi : i = n := by
            by_cases hlt : i < n
            · exact absurd ⟨i, j, a1, a2, hlt, a4⟩ hn
            · omega
          subst hi
          exact hrow m ⟨j, a1, a2, a2, a4⟩
    obtain ⟨i, j, a, b, c⟩ := h
    exact dec m ⟨i, j, a, b, by omega, c⟩
  · refine ⟨none, fun i j a b => ?_⟩
    cases hq : f i j with
    | none => rfl
    | some G => exact absurd ⟨i, j, a, b, by rw [hq]; rfl⟩ h
/-- one half-row alone crosses nowhere -/
theorem four_one (h : Str) (i j : Nat) : four [h] i j = none := by
  unfold four fstAt
  have e : ∀ p : Str, [h].find? (fun x => decide (prAt x i j = p)) = if prAt h i j = p then some h else none := fun p => by
    rw [List.find?_cons]
    by_cases q : prAt h i j = p
    · rw [decide_eq_true q, if_pos q]
    · rw [decide_eq_false q, if_neg q]; rfl
  rw [e, e]
  by_cases q : prAt h i j = "nn"
  · rw [if_neg (show ¬ prAt h i j = "ny" by rw [q]; decide)]
    split <;> simp_all
  · rw [if_neg q]
theorem prAt_in {m : Nat} {h : Str} {i j : Nat} (hh : HalfS m h) (hi : i < m) (hj : j < m) : prAt h i j = "nn" ∨ prAt h i j = "ny" ∨ prAt h i j = "yn" ∨ prAt h i j = "yy" := by
  have g : ∀ k, k < m → sgAt h k = 110 ∨ sgAt h k = 121 := fun k hk => by
    have hk' : k < h.cps.toList.length := by rw [Array.length_toList, hh.1]; exact hk
    have e : sgAt h k = h.cps.toList[k] := by unfold sgAt; rw [List.getD_eq_getElem?_getD, List.getElem?_eq_getElem hk']; rfl
    rw [e]
    exact hh.2 _ (List.getElem_mem _)
  unfold prAt
  rcases g i hi with a | a <;> rcases g j hj with b | b <;> rw [a, b]
  · exact .inl rfl
  · exact .inr (.inl rfl)
  · exact .inr (.inr (.inl rfl))
  · exact .inr (.inr (.inr rfl))
theorem at_sg {m : Nat} {h : Str} {i : Nat} (hh : HalfS m h) (hi : i < m) : atI h.cps.toList (i : Int) = some (sgAt h i) := by
  have hk' : i < h.cps.toList.length := by rw [Array.length_toList, hh.1]; exact hi
  refine atI_nat ?_
  rw [List.getElem?_eq_getElem hk']
  unfold sgAt
  rw [List.getD_eq_getElem?_getD, List.getElem?_eq_getElem hk']
  rfl
theorem pr_cat (h : Str) (i j : Nat) : ((⟨#[sgAt h i]⟩ : Str) ++ (⟨#[sgAt h j]⟩ : Str)) = prAt h i j := rfl
/-- turned at a place -/
def flip1 (h : Str) (k : Nat) : Str := ⟨(h.cps.toList.set k (if sgAt h k = 110 then 121 else 110)).toArray⟩
theorem flip_half {m k : Nat} {h : Str} (hh : HalfS m h) : HalfS m (flip1 h k) := by
  refine ⟨by unfold flip1; simp; exact hh.1, fun c hc => ?_⟩
  unfold flip1 at hc
  rw [List.toList_toArray] at hc
  rcases List.mem_or_eq_of_mem_set hc with h1 | h1
  · exact hh.2 c h1
  · rw [h1]; split
    · exact .inr rfl
    · exact .inl rfl
end Hid

namespace Hid
open PySem PySem.Spec PyProof.Rows L2 Evl
section
variable {K : PySem.W.Frag} {σ : L2.St} {H H' : Hp} {ta tb tc te tl : TE} {t : TT}
theorem u1 {k : Nat} {A : Around} (r : Room k A) : A.units + 1 < cLine := by have := r.un; omega
theorem ev_lenT {p : Addr} {xs : List V} (ha : Ev ta σ H (.ref p)) (h : SqT K H p xs) : Ev (tCB (rLenS K) (tCons ta tNil)) σ H (.int (xs.length : Int)) := fun H1 e Q q =>
  ha H1 e _ fun H2 e2 => ⟨p, xs, rfl, .inr (ex_t (e.trans e2) h), q H2 e2⟩
theorem ev_lenS {w : Str} (ha : Ev ta σ H (.str w)) (hw : w.length ≤ 100000) : Ev (tCB (fun xs H Q => ∃ z, xs = [V.str z] ∧ z.length ≤ sizeLine ∧ Q (.int z.length) H) (tCons ta tNil)) σ H (.int (w.length : Int)) := fun H1 e Q q =>
  ha H1 e _ fun H2 e2 => ⟨w, rfl, sz_of hw, q H2 e2⟩
def rTupOf (K : PySem.W.Frag) : List V → Hp → VK → Prop := fun xs H Q => ∃ p ys, xs = [.ref p] ∧ ((SqL K H p ys ∧ ∀ l, H l = none → Q (.ref l) (upd H l (.tup ys))) ∨ (SqT K H p ys ∧ Q (.ref p) H))
theorem eu_tupOf {xs : List V} (h : EvL tl σ H xs) : EvU (tCB (rTupOf K) (tCons tl tNil)) σ H xs := fun H1 e Q q =>
  h H1 e _ fun p H2 hp e2 h2 => ⟨p, xs, rfl, .inl ⟨sq_of h2, fun l hl => q l _ (fresh_back e2 hl) (e2.trans (Ex.new hl)) upd_same⟩⟩
theorem eu_tupOfV {p : Addr} {xs : List V} (h : Ev tl σ H (.ref p)) (hs : SqL K H p xs) : EvU (tCB (rTupOf K) (tCons tl tNil)) σ H xs := fun H1 e Q q =>
  h H1 e _ fun H2 e2 => ⟨p, xs, rfl, .inl ⟨ex_l (e.trans e2) hs, fun l hl => q l _ (fresh_back e2 hl) (e2.trans (Ex.new hl)) upd_same⟩⟩
theorem rv_catS {a b : Str} (ha : a.length ≤ 1000) (hb : b.length ≤ 1000) : RV (fun x y H Q => ∃ i j, x = .str i ∧ y = .str j ∧ i.length + j.length ≤ sizeLine ∧ Q (.str (i ++ j)) H) (.str a) (.str b) H (.str (a ++ b)) := fun H1 e Q q =>
  ⟨a, b, rfl, rfl, sz_of (by omega), q H1 (Ex.refl _)⟩
theorem rv_notN {x : V} : RV (fun x y H Q => y = .non ∧ Q (.bl (!decide (x = .non))) H) x .non H (.bl (!decide (x = .non))) := fun H1 _ _ q => ⟨rfl, q H1 (Ex.refl _)⟩
theorem rv_isN {x : V} : RV (fun x y H Q => y = .non ∧ Q (.bl (decide (x = .non))) H) x .non H (.bl (decide (x = .non))) := fun H1 _ _ q => ⟨rfl, q H1 (Ex.refl _)⟩
theorem el_slN {xs : List V} {tl th : TO} {lo hi : Option Int} (h : EvL te σ H xs) (h1 : EvO tl σ H lo) (h2 : EvO th σ H hi) : EvL (tSl (rSlL K) te tl th) σ H (cutV xs lo hi) := fun H1 e Q q =>
  h H1 e _ fun p H2 hp e2 hx => h1 H2 (e.trans e2) _ fun H3 e3 => h2 H3 ((e.trans e2).trans e3) _ fun H4 e4 => ⟨p, xs, rfl, sq_of (e4 _ _ (e3 _ _ hx)), fun r hr =>
    q r _ (fresh_back (e2.trans (e3.trans e4)) hr) ((e2.trans (e3.trans e4)).trans (Ex.new hr)) upd_same⟩
theorem ev_slS {w : Str} {tl th : TO} {lo hi : Option Int} (h : Ev te σ H (.str w)) (h1 : EvO tl σ H lo) (h2 : EvO th σ H hi) (hw : w.length ≤ 100000) : Ev (tSl rSlS te tl th) σ H (.str (cutS w lo hi)) := fun H1 e Q q =>
  h H1 e _ fun H2 e2 => h1 H2 (e.trans e2) _ fun H3 e3 => h2 H3 ((e.trans e2).trans e3) _ fun H4 e4 => ⟨w, rfl, sz_of hw, q H4 (e2.trans (e3.trans e4))⟩
theorem el_lcT {a : Addr} {xs : List V} {tl : TE} {j : Nat} {vs : List Nat} (f : Nat → Bool) (v : Nat → V) (h : Ev tl σ H (.ref a)) (hx : SqT K H a xs) (hz : xs.length ≤ 40000) (hw : ∀ x, wipe ((wipe σ vs).set j (some x)) vs = wipe σ vs)
    (ht : ∀ (i : Nat) (x : V) H1, Ex H H1 → xs[i]? = some x → EvT t ((wipe σ vs).set j (some x)) H1 (f i)) (he : ∀ (i : Nat) (x : V) H1, Ex H H1 → xs[i]? = some x → f i = true → Ev te ((wipe σ vs).set j (some x)) H1 (v i)) :
    EvL (tLc (iTup K tl) (gName j) t te vs) σ H (given xs.length f v) := fun H0 e Q q => h H0 e _ fun H1 e1 => ⟨a, rfl, ⟨xs, ex_t (e.trans e1) hx⟩, fun Dl hD =>
  lc_tup (xs := xs) (Cw H1 f v Dl) ⟨hD, Ex.new hD, upd_same⟩ (fun i H' _ p => ex_t ((e.trans e1).trans p.2.1) hx) (fun i x H' hi p => ⟨hw x, cw_turn p (by have := (List.getElem?_eq_some_iff.mp hi).1; omega) (ht i x H1 (e.trans e1) hi) (fun hf => he i x H1 (e.trans e1) hi hf)⟩)
    (fun H' p => q Dl H' (fresh_back e1 p.1) (e1.trans p.2.1) p.2.2)⟩
/-! values told by a word that stays -/
def EvP (te : TE) (σ : L2.St) (H : Hp) (P : V → Hp → Prop) : Prop := ∀ H1, Ex H H1 → ∀ Q : VK, (∀ v H2, Ex H1 H2 → P v H2 → Q v H2) → te σ H1 Q
def EvPs (ta : TA) (σ : L2.St) (H : Hp) (P : List V → Hp → Prop) : Prop := ∀ H1, Ex H H1 → ∀ Q : List V → Hp → Prop, (∀ v H2, Ex H1 H2 → P v H2 → Q v H2) → ta σ H1 Q
def TupV (K : PySem.W.Frag) (xs : List V) (v : V) (H : Hp) : Prop := ∃ a, v = .ref a ∧ SqT K H a xs
theorem TupV.ex {xs : List V} {v : V} (e : Ex H H') (h : TupV K xs v H) : TupV K xs v H' := let ⟨a, h1, h2⟩ := h; ⟨a, h1, ex_t e h2⟩
abbrev TupVs (K : PySem.W.Frag) (xss : List (List V)) (vs : List V) (H : Hp) : Prop := Paired (fun v xs => TupV K xs v H) vs xss
theorem eps_nil : EvPs tNil σ H (TupVs K []) := fun H1 _ Q q => q [] H1 (Ex.refl _) .nil
theorem eps_cons {ts : TA} {xs : List V} {xss : List (List V)} (h : EvP ta σ H (TupV K xs)) (hr : EvPs ts σ H (TupVs K xss)) : EvPs (tCons ta ts) σ H (TupVs K (xs :: xss)) := fun H1 e Q q =>
  h H1 e _ fun v H2 e2 hv => hr H2 (e.trans e2) _ fun vs H3 e3 hvs => q _ H3 (e2.trans e3) (.cons (hv.ex e3) hvs)
theorem ep_var {a : Addr} {xs : List V} (h : Ev te σ H (.ref a)) (hs : SqT K H a xs) : EvP te σ H (TupV K xs) := fun H1 e Q q => h H1 e _ fun H2 e2 => q _ H2 e2 ⟨a, rfl, ex_t (e.trans e2) hs⟩
theorem ep_new {xs : List V} (h : EvU te σ H xs) : EvP te σ H (TupV K xs) := fun H1 e Q q => h H1 e _ fun p H2 hp e2 h2 => q _ H2 e2 ⟨p, rfl, st_of h2⟩
theorem ep_rev {a : Addr} {xs : List V} (h : Ev te σ H (.ref a)) (hs : SqT K H a xs) : EvP (tRevT K te) σ H (TupV K xs.reverse) := fun H1 e Q q =>
  h H1 e _ fun H2 e2 => ⟨a, xs, rfl, ex_t (e.trans e2) hs, fun p hp => q _ _ (e2.trans (Ex.new hp)) ⟨p, rfl, st_of upd_same⟩⟩
theorem cut_whole {xs : List V} {lo hi : Option Int} (h : HT.sIx xs.length 0 lo = 0 ∧ HT.sIx xs.length xs.length hi = xs.length) : cutV xs lo hi = xs := by
  unfold cutV
  rw [h.1, h.2, List.drop_zero, Nat.sub_zero, List.take_length]
theorem ep_sl {a : Addr} {xs : List V} {tl th : TO} {lo hi : Option Int} (h : Ev te σ H (.ref a)) (hs : SqT K H a xs) (h1 : EvO tl σ H lo) (h2 : EvO th σ H hi) : EvP (tSl (rSlA K) te tl th) σ H (TupV K (cutV xs lo hi)) := fun H1 e Q q =>
  h H1 e _ fun H2 e2 => h1 H2 (e.trans e2) _ fun H3 e3 => h2 H3 ((e.trans e2).trans e3) _ fun H4 e4 => by
    have e14 : Ex H1 H4 := e2.trans (e3.trans e4)
    refine ⟨a, xs, rfl, ex_t (e.trans e14) hs, fun hw => q _ H4 e14 ⟨a, rfl, ?_⟩, fun _ p hp => q _ _ (e14.trans (Ex.new hp)) ⟨p, rfl, st_of upd_same⟩⟩
    rw [cut_whole hw]
    exact ex_t (e.trans e14) hs
theorem ep_cat {xs ys : List V} (ha : EvP ta σ H (TupV K xs)) (hb : EvP tb σ H (TupV K ys)) (hl : xs.length + ys.length ≤ 100000) : EvP (tOp (rCatA K) ta tb) σ H (TupV K (xs ++ ys)) := fun H1 e Q q =>
  ha H1 e _ fun v H2 e2 ⟨a, ea, sa⟩ => hb H2 (e.trans e2) _ fun w H3 e3 ⟨b, eb, sb⟩ => by
    subst ea eb
    refine ⟨a, b, xs, ys, rfl, rfl, ex_t e3 sa, sb, sz_of hl, fun hx => ?_, fun _ hy => ?_, fun _ _ p hp => q _ _ ((e2.trans e3).trans (Ex.new hp)) ⟨p, rfl, st_of upd_same⟩⟩
    · subst hx
      exact q _ H3 (e2.trans e3) ⟨b, rfl, sb⟩
    · subst hy
      rw [List.append_nil] at q
      exact q _ H3 (e2.trans e3) ⟨a, rfl, ex_t e3 sa⟩
theorem ep_rep {a : Addr} {xs : List V} {k : Int} (ha : Ev ta σ H (.ref a)) (hs : SqT K H a xs) (hb : Ev tb σ H (.int k)) (h0 : xs ≠ []) (hk : 2 ≤ k ∧ k ≤ 1000) (hl : xs.length ≤ 1000) : EvP (tOp (rRepT K) ta tb) σ H (TupV K (List.replicate k.toNat xs).flatten) := fun H1 e Q q =>
  ha H1 e _ fun H2 e2 => hb H2 (e.trans e2) _ fun H3 e3 => ⟨a, k, xs, rfl, rfl, ex_t ((e.trans e2).trans e3) hs, h0, hk.1, hk.2, hl, fun p hp => q _ _ ((e2.trans e3).trans (Ex.new hp)) ⟨p, rfl, st_of upd_same⟩⟩
/-! what is told of a crossing -/
def ResF (H : Hp) (v : V) : Option (List Str) → Prop
  | none => v = .non
  | some F => ∃ q, v = .ref q ∧ H q = some (.tup (F.map V.str))
def ResX (H : Hp) (v : V) : Option (Nat × Nat × List Str) → Prop
  | none => v = .non
  | some (i, j, F) => ∃ p q, v = .ref p ∧ H p = some (.tup [.int i, .int j, .ref q]) ∧ H q = some (.tup (F.map V.str))
theorem ResX.ex {v : V} : ∀ {r : Option (Nat × Nat × List Str)}, Ex H H' → ResX H v r → ResX H' v r
  | none, _, h => h
  | some (i, j, F), e, h => let ⟨p, q, h1, h2, h3⟩ := h; ⟨p, q, h1, e _ _ h2, e _ _ h3⟩
def dX : Option (Nat × Nat × List Str) → PyData
  | none => .none
  | some (i, j, F) => .tuple [.int i, .int j, .tuple (F.map PyData.str)]
theorem strs_dp : ∀ F : List Str, DpAll K H (F.map V.str) (F.map PyData.str)
  | [] => .nil
  | x :: F => .cons (.str x) (strs_dp F)
theorem ResX.dp {v : V} : ∀ {r : Option (Nat × Nat × List Str)}, ResX H v r → Dp K H v (dX r)
  | none, h => by
    cases h
    exact .non
  | some (i, j, F), h => by
    obtain ⟨p, q, rfl, h2, h3⟩ := h
    exact .tup (st_of h2) (.cons (.int _) (.cons (.int _) (.cons (.tup (st_of h3) (strs_dp F)) .nil)))
theorem four_shape {rs : List Str} {i j : Nat} {F : List Str} (h : four rs i j = some F) : ∃ a b c d, F = [a, b, c, d] := by
  unfold four at h
  split at h
  · cases h
    exact ⟨_, _, _, _, rfl⟩
  · cases h
theorem four_mem {rs : List Str} {i j : Nat} {F : List Str} (h : four rs i j = some F) : ∀ x ∈ F, x ∈ rs := by
  unfold four at h
  split at h
  · rename_i a b c d h1 h2 h3 h4
    cases h
    have g : ∀ {p : Str} {y : Str}, fstAt rs i j p = some y → y ∈ rs := fun e => List.mem_of_find?_eq_some e
    intro x hx
    simp only [List.mem_cons, List.not_mem_nil, or_false] at hx
    rcases hx with rfl | rfl | rfl | rfl
    · exact g h1
    · exact g h2
    · exact g h3
    · exact g h4
  · cases h
theorem strOk_sm {l : List Nat} (h : ∀ c ∈ l, c < 200) : PyData.strOk (tx l) = true := by
  unfold PyData.strOk; rw [Array.all_eq_true]; intro i hi
  have hi' : i < l.length := by simpa [tx] using hi
  have := h l[i] (List.getElem_mem hi')
  exact decide_eq_true (by show l[i] < 0x110000; omega)
theorem half_strOk {m : Nat} {h : Str} (hh : HalfS m h) : PyData.canLay0 (.str h) = true := by
  have e : h = tx h.cps.toList := by cases h; simp [tx]
  rw [e]
  simp [PyData.canLay0]
  exact strOk_sm fun c hc => by rcases hh.2 c hc with z | z <;> omega
theorem dX_shaped {rs : List Str} {m m2 : Nat} (hr : ∀ h ∈ rs, HalfS m2 h) : ∀ {r : Option (Nat × Nat × List Str)}, IsCross (four rs) m r → SeqAt.shaped (dX r) = true
  | none, _ => rfl
  | some (i, j, F), h => by
    have hm := four_mem h.2.2.1
    obtain ⟨a, b, c, d, rfl⟩ := four_shape h.2.2.1
    have g : ∀ x ∈ [a, b, c, d], PyData.canLay0 (.str x) = true := fun x hx => half_strOk (hr x (hm x hx))
    have ga := g a (by simp)
    have gb := g b (by simp)
    have gc := g c (by simp)
    have gd := g d (by simp)
    unfold SeqAt.shaped
    simp only [PyData.canLay0] at ga gb gc gd
    simp [dX, PyData.canLay0, PyData.canLayAll0, PyData.depth, PyData.depthAll, ga, gb, gc, gd]
end
end Hid

namespace Hid
open PySem PySem.Spec PyProof.Rows L2 Evl
def topS (i : Nat) : Stmt := PySem.Challenge.pw_hidhalves_k11_crossings_told.main.body.getD i (.Pass ⟨0, 0, 0, 0⟩)
abbrev st_pair_at : Stmt := topS 2
theorem sc_pair_at : FnScope ["half", "first", "second"] ["half", "first", "second"] (defScope st_pair_at) := ⟨rfl, rfl, rfl, by decide +kernel, rfl, by decide +kernel, by decide +kernel⟩
abbrev st_four_at : Stmt := topS 4
theorem sc_four_at : FnScope ["rising", "first", "second", "least", "half", "pair"] ["rising", "first", "second"] (defScope st_four_at) := ⟨rfl, rfl, rfl, by decide +kernel, rfl, by decide +kernel, by decide +kernel⟩
abbrev st_crossing_of : Stmt := topS 5
theorem sc_crossing_of : FnScope ["halves", "rising", "places", "first", "second", "four"] ["halves"] (defScope st_crossing_of) := ⟨rfl, rfl, rfl, by decide +kernel, rfl, by decide +kernel, by decide +kernel⟩
abbrev st__law_cell : Stmt := topS 7
theorem sc__law_cell : FnScope ["_law_script", "_law_k", "_law_state", "_law_cell_here"] ["_law_script", "_law_k"] (defScope st__law_cell) := ⟨rfl, rfl, rfl, by decide +kernel, rfl, by decide +kernel, by decide +kernel⟩
abbrev st__law_numbers : Stmt := topS 8
theorem sc__law_numbers : FnScope ["_law_cell_here", "_law_many", "_law_found", "_law_state", "_law_digits", "_law_k"] ["_law_cell_here", "_law_many"] (defScope st__law_numbers) := ⟨rfl, rfl, rfl, by decide +kernel, rfl, by decide +kernel, by decide +kernel⟩
abbrev st__law_any_half : Stmt := topS 9
theorem sc__law_any_half : FnScope ["_law_x", "_law_places", "_law_place"] ["_law_x", "_law_places"] (defScope st__law_any_half) := ⟨rfl, rfl, rfl, by decide +kernel, rfl, by decide +kernel, by decide +kernel⟩
abbrev st__law_flipped : Stmt := topS 10
theorem sc__law_flipped : FnScope ["_law_half", "_law_place"] ["_law_half", "_law_place"] (defScope st__law_flipped) := ⟨rfl, rfl, rfl, by decide +kernel, rfl, by decide +kernel, by decide +kernel⟩
abbrev st__law_tree_halves : Stmt := topS 11
theorem sc__law_tree_halves : FnScope ["_law_xs", "_law_places", "_law_knots", "_law_place", "_law_x", "_law_half"] ["_law_xs", "_law_places"] (defScope st__law_tree_halves) := ⟨rfl, rfl, rfl, by decide +kernel, rfl, by decide +kernel, by decide +kernel⟩
abbrev st__law_halves : Stmt := topS 12
theorem sc__law_halves : FnScope ["_law_script", "_law_at", "_law_head", "_law_xs", "_law_ys", "_law_places", "_law_many", "_law_knots", "_law_y"] ["_law_script", "_law_at"] (defScope st__law_halves) := ⟨rfl, rfl, rfl, by decide +kernel, rfl, by decide +kernel, by decide +kernel⟩
abbrev st__law_crossing : Stmt := topS 13
theorem sc__law_crossing : FnScope ["_law_halves_here", "_law_rising", "_law_one", "_law_other", "_law_four", "_law_pair", "_law_half"] ["_law_halves_here"] (defScope st__law_crossing) := ⟨rfl, rfl, rfl, by decide +kernel, rfl, by decide +kernel, by decide +kernel⟩
abbrev st__law_right : Stmt := topS 14
theorem sc__law_right : FnScope ["_law_halves_here", "_law_due", "_law_some", "_law_found"] ["_law_halves_here"] (defScope st__law_right) := ⟨rfl, rfl, rfl, by decide +kernel, rfl, by decide +kernel, by decide +kernel⟩
abbrev st_law : Stmt := topS 15
theorem sc_law : FnScope ["_law_script", "_law_at", "_law_halves_here", "_law_x", "_law_place"] ["_law_script"] (defScope st_law) := ⟨rfl, rfl, rfl, by decide +kernel, rfl, by decide +kernel, by decide +kernel⟩

/-! the dictionary of the least half-rows -/
def b2n (b : Bool) : Nat := if b then 1 else 0
def cnt (rs : List Str) (i j : Nat) : Nat := b2n (fstAt rs i j "nn").isSome + b2n (fstAt rs i j "ny").isSome + b2n (fstAt rs i j "yn").isSome + b2n (fstAt rs i j "yy").isSome
structure DOk (rs : List Str) (i j : Nat) (kvs : List (Key × V)) : Prop where
  val : ∀ p : Str, valV kvs (Sum.inr p) = (fstAt rs i j p).map V.str
  len : kvs.length = cnt rs i j
theorem dok_nil (i j : Nat) : DOk [] i j [] := ⟨fun p => rfl, rfl⟩
theorem b2n_le (b : Bool) : b2n b ≤ 1 := by cases b <;> decide
theorem DOk.len_le {rs : List Str} {i j : Nat} {kvs : List (Key × V)} (h : DOk rs i j kvs) : kvs.length ≤ 4 := by
  rw [h.len]
  unfold cnt
  have := b2n_le (fstAt rs i j "nn").isSome
  have := b2n_le (fstAt rs i j "ny").isSome
  have := b2n_le (fstAt rs i j "yn").isSome
  have := b2n_le (fstAt rs i j "yy").isSome
  omega
theorem fst_snoc (rs : List Str) (h : Str) (i j : Nat) (p : Str) : fstAt (rs ++ [h]) i j p = (fstAt rs i j p).or (if prAt h i j = p then some h else none) := by
  unfold fstAt
  rw [List.find?_append]
  congr 1
  rw [List.find?_cons]
  by_cases q : prAt h i j = p
  · rw [decide_eq_true q, if_pos q]
  · rw [decide_eq_false q, if_neg q]; rfl
theorem DOk.old {rs : List Str} {h : Str} {i j : Nat} {kvs : List (Key × V)} {v : V} (o : DOk rs i j kvs) (hv : valV kvs (Sum.inr (prAt h i j)) = some v) : DOk (rs ++ [h]) i j kvs := by
  have hs : (fstAt rs i j (prAt h i j)).isSome = true := by
    rw [o.val] at hv
    cases hf : fstAt rs i j (prAt h i j) with
    | none => rw [hf] at hv; cases hv
    | some x => rfl
  have same : ∀ p, fstAt (rs ++ [h]) i j p = fstAt rs i j p := fun p => by
    rw [fst_snoc]
    by_cases q : prAt h i j = p
    · subst q
      obtain ⟨x, hx⟩ := Option.isSome_iff_exists.mp hs
      rw [hx]; rfl
    · rw [if_neg q, Option.or_none]
  refine ⟨fun p => by rw [o.val, same], ?_⟩
  rw [o.len]
  unfold cnt
  rw [same, same, same, same]
theorem DOk.new {rs : List Str} {h : Str} {i j : Nat} {kvs : List (Key × V)} (o : DOk rs i j kvs) (hk : prAt h i j = "nn" ∨ prAt h i j = "ny" ∨ prAt h i j = "yn" ∨ prAt h i j = "yy") (hv : valV kvs (Sum.inr (prAt h i j)) = none) : DOk (rs ++ [h]) i j (putK kvs (Sum.inr (prAt h i j)) (.str h)) := by
  have hn : fstAt rs i j (prAt h i j) = none := by
    rw [o.val] at hv
    exact Option.map_eq_none_iff.mp hv
  have at1 : fstAt (rs ++ [h]) i j (prAt h i j) = some h := by rw [fst_snoc, hn, if_pos rfl]; rfl
  have at2 : ∀ p, p ≠ prAt h i j → fstAt (rs ++ [h]) i j p = fstAt rs i j p := fun p q => by rw [fst_snoc, if_neg (fun z => q z.symm), Option.or_none]
  refine ⟨fun p => ?_, ?_⟩
  · rw [valV_put]
    by_cases q : p = prAt h i j
    · subst q
      rw [if_pos rfl, at1]; rfl
    · rw [if_neg (fun z => q (Sum.inr.inj z)), at2 p q, o.val]
  · rw [putK_new _ hv, List.length_append, o.len]
    unfold cnt
    have d1 : ("nn" : Str) ≠ "ny" := by decide
    have d2 : ("nn" : Str) ≠ "yn" := by decide
    have d3 : ("nn" : Str) ≠ "yy" := by decide
    have d4 : ("ny" : Str) ≠ "yn" := by decide
    have d5 : ("ny" : Str) ≠ "yy" := by decide
    have d6 : ("yn" : Str) ≠ "yy" := by decide
    rcases hk with e | e | e | e <;> rw [e] at hn at1 at2
    · rw [at1, hn, at2 _ d1.symm, at2 _ d2.symm, at2 _ d3.symm]
      show _ + 1 = 1 + _ + _ + _
      simp only [b2n, Option.isSome_none, Bool.false_eq_true, if_false]
      omega
    · rw [at1, hn, at2 _ d1, at2 _ d4.symm, at2 _ d5.symm]
      simp only [b2n, Option.isSome_none, Option.isSome_some, Bool.false_eq_true, if_false, if_true, List.length_cons, List.length_nil]
      try omega
    · rw [at1, hn, at2 _ d2, at2 _ d4, at2 _ d6.symm]
      simp only [b2n, Option.isSome_none, Option.isSome_some, Bool.false_eq_true, if_false, if_true, List.length_cons, List.length_nil]
      try omega
    · rw [at1, hn, at2 _ d3, at2 _ d5, at2 _ d6]
      simp only [b2n, Option.isSome_none, Option.isSome_some, Bool.false_eq_true, if_false, if_true, List.length_cons, List.length_nil]
      try omega
theorem four_cnt {rs : List Str} {i j : Nat} : (four rs i j = none ∧ cnt rs i j < 4) ∨ ∃ a b c d, four rs i j = some [a, b, c, d] ∧ cnt rs i j = 4 ∧ fstAt rs i j "nn" = some a ∧ fstAt rs i j "ny" = some b ∧ fstAt rs i j "yn" = some c ∧ fstAt rs i j "yy" = some d := by
  unfold four cnt
  cases h1 : fstAt rs i j "nn" <;> cases h2 : fstAt rs i j "ny" <;> cases h3 : fstAt rs i j "yn" <;> cases h4 : fstAt rs i j "yy" <;> first | exact .inr ⟨_, _, _, _, rfl, rfl, rfl, rfl, rfl, rfl⟩ | exact .inl ⟨rfl, by simp [b2n]⟩
theorem DOk.few {rs : List Str} {i j : Nat} {kvs : List (Key × V)} (o : DOk rs i j kvs) (h : kvs.length < 4) : four rs i j = none := by
  rcases four_cnt (rs := rs) (i := i) (j := j) with ⟨a, _⟩ | ⟨_, _, _, _, _, c, _⟩
  · exact a
  · rw [o.len] at h; omega
theorem DOk.all {rs : List Str} {i j : Nat} {kvs : List (Key × V)} (o : DOk rs i j kvs) (h : ¬ kvs.length < 4) : ∃ F, four rs i j = some F ∧ ∀ n p, prs[n]? = some p → valV kvs (Sum.inr p) = some (.str (F.getD n Str.empty)) := by
  rcases four_cnt (rs := rs) (i := i) (j := j) with ⟨_, b⟩ | ⟨a, b, c, d, e, _, h1, h2, h3, h4⟩
  · rw [o.len] at h; omega
  · refine ⟨_, e, fun n p hp => ?_⟩
    match n, hp with
    | 0, hp => cases hp; rw [o.val, h1]; rfl
    | 1, hp => cases hp; rw [o.val, h2]; rfl
    | 2, hp => cases hp; rw [o.val, h3]; rfl
    | 3, hp => cases hp; rw [o.val, h4]; rfl
    | n + 4, hp => exact absurd hp (by unfold prs; simp)
section
variable {P : Program} {w : World} {K : PySem.W.Frag} {mg : Str → Option Value} {base : Heap}
def sp__law_cell (K : PySem.W.Frag) : Sp := fun vs H Q _ => ∃ (a : Addr) (ns : List Int) (k : Int), vs = [.ref a, .int k] ∧ SqL K H a (ns.map V.int) ∧ (0 ≤ k ∧ k ≤ 1000) ∧ ∀ (c : Int) H2, Ex H H2 → Q (.int c) H2
theorem ok__law_cell (D : Df K mg "_law_cell" st__law_cell ["_law_script", "_law_k"]) (m_len : mg "len" = none) : At P w K mg base "_law_cell" st__law_cell 1 ["_law_script", "_law_k"] (sp__law_cell K) := by
  obtain ⟨f, fd, F, b, g⟩ := D
  refine ⟨f, fd, F, b, g, F.ok sc__law_cell (fun vs H Q E h => ?_) (fun cdv A outer s H vs Q E hr h => ?_)⟩
  · obtain ⟨a, ns, k, rfl, _⟩ := h
    rfl
  · obtain ⟨a, ns, k, rfl, hS, hk, q⟩ := h
    refine ⟨_, (pss_cons (ps_if (pt_cmpR op_lt (pv 1) (pe_callB call_len_seq (by rfl) m_len (by decide +kernel) (pa_cons (pv 0) pa_nil)) (nomark _))
      (pss_one (ps_ret (pe_ix ix_list (pv 0) (pv 1) (fun _ _ => rfl))))
      pss_nil)
      (pss_cons (ps_set (i := 2) sc__law_cell.nd rfl (.inl rfl) (pe_op op_mod (pe_op op_mul pe_int (pe_op op_add (pe_op op_add (pe_op op_mul (pv 1) (pv 1)) (pe_op op_mul pe_int (pv 1))) pe_int)) pe_int))
      (pss_cons (ps_for PassesOwn.never rfl (pi_list (pe_slice sl_list (pv 0) po_none (po_some pe_int))) (pg_name (i := 3) sc__law_cell.nd rfl (.inl rfl))
      (pss_one (ps_set (i := 2) sc__law_cell.nd rfl (.inl rfl) (pe_op op_mod (pe_op op_add (pe_op op_mul (pv 2) pe_int) (pv 3)) pe_int))))
      (pss_one (ps_ret (pv 2)))))), ?_⟩
    refine q_when (et_test (ev_op (ev_var rfl) (ev_len (ev_var rfl) hS) rv_I0)) (fun hb H1 e1 => ?_) (fun hb H1 e1 => ?_)
    · have hb' : k < ((ns.map V.int).length : Int) := of_decide_eq_true hb
      have hj : k.toNat < ns.length := by rw [List.length_map] at hb'; omega
      have hat : atI (ns.map V.int) k = some (.int ns[k.toNat]) := by
        have := atI_nat (xs := ns.map V.int) (j := k.toNat) (v := .int ns[k.toNat]) (by rw [List.getElem?_map, List.getElem?_eq_getElem hj]; rfl)
        rwa [Int.toNat_of_nonneg hk.1] at this
      exact s_ret (ev_op (ev_var rfl) (ev_var rfl) (rv_ixL (ex_l e1 hS) hat)) fun H2 e2 => q _ _ (e1.trans e2)
    · refine q_asg (ev_op (ev_op ev_c (ev_op (ev_op (ev_op (ev_var rfl) (ev_var rfl) (rv_I (.inl ⟨by omega, by omega⟩))) (ev_op ev_c (ev_var rfl) (rv_I (.inl ⟨by omega, by omega⟩))) rv_I0) ev_c rv_I0) (rv_I (.inl ⟨by omega, by omega⟩))) ev_c (rv_I (by show (0 : Int) < 2147483647; decide))) fun H2 e2 => ?_
      refine q_forNLn (el_sl (ev_var rfl) eo_none (eo_some ev_c) (ex_l (e1.trans e2) hS)) (fun p i σ' H' => ∃ (c : Int) (y3 : Option V), σ' = [some (.ref a), some (.int k), some (.int c), y3] ∧ (0 ≤ c ∧ c < 2147483647) ∧ Ex H H' ∧ H' p = some (.lst (cutV (ns.map V.int) none (some 3)))) (fun p H3 hp e3 h3 => ⟨_, _, rfl, ⟨by omega, by omega⟩, (e1.trans e2).trans e3, h3⟩) (fun p i σ' H' _ hP => ?_) (fun p i x σ' H' hx hP => ?_) (fun p σ' H' hP => ?_)
      · obtain ⟨c, y3, _, _, _, h3⟩ := hP
        exact sq_of h3
      · obtain ⟨c, y3, rfl, hc, e3, h3⟩ := hP
        have hm : x ∈ ns.map V.int := List.mem_of_mem_drop (List.mem_of_mem_take (List.mem_of_getElem? hx))
        obtain ⟨z, _, rfl⟩ := List.mem_map.mp hm
        refine s_asg (ev_op (ev_op (ev_op (ev_var rfl) ev_c (rv_I (.inl ⟨by omega, by omega⟩))) (ev_var rfl) rv_I0) ev_c (rv_I (by show (0 : Int) < 2147483647; decide))) fun H4 e4 => ?_
        exact ⟨_, _, rfl, ⟨by omega, by omega⟩, e3.trans e4, e4 _ _ h3⟩
      · obtain ⟨c, y3, rfl, hc, e3, h3⟩ := hP
        exact s_ret (ev_var rfl) fun H4 e4 => q _ _ (e3.trans e4)
def sp__law_numbers (K : PySem.W.Frag) : Sp := fun vs H Q _ => ∃ (c n : Int), vs = [.int c, .int n] ∧ (0 ≤ n ∧ n ≤ 1000) ∧ ∀ xs : List Int, (xs.length : Int) = n → (∀ x ∈ xs, 0 ≤ x) → RetL (xs.map V.int) H Q
theorem ok__law_numbers (D : Df K mg "_law_numbers" st__law_numbers ["_law_cell_here", "_law_many"]) (m_abs : mg "abs" = none) (m_range : mg "range" = none) (m_int : mg "int" = none) : At P w K mg base "_law_numbers" st__law_numbers 1 ["_law_cell_here", "_law_many"] (sp__law_numbers K) := by
  obtain ⟨f, fd, F, b, g⟩ := D
  refine ⟨f, fd, F, b, g, F.ok sc__law_numbers (fun vs H Q E h => ?_) (fun cdv A outer s H vs Q E hr h => ?_)⟩
  · obtain ⟨c, n, rfl, _⟩ := h
    rfl
  · obtain ⟨c, n, rfl, hn, q⟩ := h
    refine ⟨_, (pss_cons (ps_set (i := 2) sc__law_numbers.nd rfl (.inl rfl) (pe_lst pa_nil))
      (pss_cons (ps_set (i := 3) sc__law_numbers.nd rfl (.inl rfl) (pe_op op_mod (pe_op op_mul (pe_op op_add (pe_op op_mod (pv 0) pe_int) pe_int) pe_int) pe_int))
      (pss_cons (ps_set (i := 4) sc__law_numbers.nd rfl (.inl rfl) pe_int)
      (pss_cut (ps_if (PW.pt (pw_or (pt_cmpR op_lt (pv 0) pe_int (nomark _)) (pw_or1 (pt_cmpR op_ge (pv 0) (pe_op op_pow pe_int pe_int) (nomark _)))))
      (pss_one (ps_set (i := 4) sc__law_numbers.nd rfl (.inl rfl) (pe_callB call_abs (by rfl) m_abs (by decide +kernel) (pa_cons (pv 0) pa_nil))))
      pss_nil)
      (pss_cons (ps_for PassesOwn.never rfl (pi_range1 (by rfl) m_range (pa_cons (pv 1) pa_nil)) (pg_name (i := 5) sc__law_numbers.nd rfl (.inl rfl))
      (pss_cons (ps_set (i := 3) sc__law_numbers.nd rfl (.inl rfl) (pe_op op_mod (pe_op op_add (pe_op op_add (pe_op op_mul (pv 3) (pe_op op_add (pe_op op_mod (pv 3) pe_int) pe_int)) (pe_op op_mul pe_int (pv 5))) pe_int) pe_int))
      (pss_cons (ps_expr (pe_bm PySem.F.plainAttrs_list PySem.F.slot_list_append PySem.F.type_list_append mt_append (pv 2) (pa_cons (pe_ix ix_list (pe_lst (pa_cons (pv 3) (pa_cons (pe_op op_mod (pv 4) pe_int) pa_nil))) (pe_callTy call_int1 (by rfl) m_int (by decide +kernel) (pa_cons (pe_cmpR op_gt (pv 4) pe_int (nomark _)) pa_nil)) (fun _ _ => rfl)) pa_nil)))
      (pss_one (ps_set (i := 4) sc__law_numbers.nd rfl (.inl rfl) (pe_op op_fdiv (pv 4) pe_int))))))
      (pss_one (ps_ret (pv 2)))))))), ?_⟩
    refine q_asgL (el_lst ea_nil (by decide)) fun l H1 hl e1 h1 => ?_
    refine q_asg (ev_op (ev_op (ev_op (ev_op (ev_var rfl) ev_c (rv_I (by show (0 : Int) < 1999999973; decide))) ev_c rv_I0) ev_c (rv_I (.inl ⟨by omega, by omega⟩))) ev_c (rv_I (by show (0 : Int) < 1999999973; decide))) fun H2 e2 => ?_
    refine q_asg ev_c fun H3 e3 => ?_
    have e13 : Ex H H3 := (e1.trans e2).trans e3
    have h3 : H3 l = some (.lst []) := e3 _ _ (e2 _ _ h1)
    generalize hst : ((c % 1999999973 + 31) * 765432101) % 1999999973 = st
    have hst1 : 0 ≤ st ∧ st < 1999999973 := by omega
    refine q_cut (M := fun σ' H' => ∃ d : Int, σ' = [some (.int c), some (.int n), some (.ref l), some (.int st), some (.int d), none] ∧ 0 ≤ d ∧ Ex H H' ∧ H' l = some (.lst [])) ?_ ?_
    · refine s_when (et_or (et_test (ev_op (ev_var rfl) ev_c rv_I0)) fun _ => et_test (ev_op (ev_var rfl) (ev_op ev_c ev_c (rv_I ⟨by decide, by decide, by decide⟩)) rv_I0)) (fun hb H4 e4 => ?_) (fun hb H4 e4 => ?_)
      · refine s_asg (ev_cb (ea_cons (ev_var rfl) ea_nil) (z := .int (if c < 0 then -c else c)) (fun Hx ex Qx qx => ⟨c, rfl, qx Hx (Ex.refl _)⟩)) fun H5 e5 => ?_
        exact ⟨_, rfl, by split <;> omega, (e13.trans e4).trans e5, e5 _ _ (e4 _ _ h3)⟩
      · exact ⟨0, rfl, Int.le_refl _, e13.trans e4, e4 _ _ h3⟩
    · rintro σ' H' ⟨d, rfl, hd, e4, h4⟩
      refine q_forR1 (ea_cons (ev_var rfl) ea_nil) ⟨hn.1, by omega⟩ (fun i σ' H' => ∃ (xs : List Int) (st d : Int) (y5 : Option V), σ' = [some (.int c), some (.int n), some (.ref l), some (.int st), some (.int d), y5] ∧ (0 ≤ st ∧ st < 1999999973) ∧ 0 ≤ d ∧ xs.length = i ∧ (∀ x ∈ xs, 0 ≤ x) ∧ Ex H H' ∧ H' l = some (.lst (xs.map V.int))) (fun H5 e5 => ⟨[], st, d, _, rfl, hst1, hd, rfl, (fun _ m => nomatch m), e4.trans e5, e5 _ _ h4⟩) (fun i σ' H' hi hP => ?_) (fun σ' H' hP => ?_)
      · obtain ⟨xs, st, d, y5, rfl, hs, hd, hx, hpos, e6, h6⟩ := hP
        refine q_asg (ev_op (ev_op (ev_op (ev_op (ev_var rfl) (ev_op (ev_op (ev_var rfl) ev_c (rv_I (by show (0 : Int) < 65521; decide))) ev_c rv_I0) (rv_I (.inl ⟨by omega, by omega⟩))) (ev_op ev_c (ev_var rfl) (rv_I (.inl ⟨by omega, by omega⟩))) rv_I0) ev_c rv_I0) ev_c (rv_I (by show (0 : Int) < 1999999973; decide))) fun H7 e7 => ?_
        generalize hst2 : (st * (st % 65521 + 40487) + 7 * (i : Int) + 5) % 1999999973 = st2
        have hb2 : 0 ≤ st2 ∧ st2 < 1999999973 := by rw [← hst2]; exact ⟨Int.emod_nonneg _ (by decide), Int.emod_lt_of_pos _ (by decide)⟩
        have h7 : H7 l = some (.lst (xs.map V.int)) := e7 _ _ h6
        refine q_app (v := .int (if d > 0 then d % 1000000 else st2)) h7 (ev_var rfl) ?_ (by rw [List.length_map]; omega) fun H8 e8 => ?_
        · refine ev_opL1 (el_lst (ea_cons (ev_var rfl) (ea_cons (ev_op (ev_var rfl) ev_c (rv_I (by show (0 : Int) < 1000000; decide))) ea_nil)) (by show 2 ≤ 100000; decide)) (y := .int (if decide (d > 0) = true then 1 else 0)) (fun Hx ex => ev_cb (ea_cons (ev_op (ev_var rfl) ev_c rv_I0) ea_nil) fun Hy ey Qy qy => .inr ⟨_, rfl, qy Hy (Ex.refl _)⟩) fun p Hx hp ex => rv_ixL (sq_of hp) ?_
          by_cases hd0 : d > 0
          · rw [decide_eq_true hd0, if_pos hd0] <;> rfl
          · rw [decide_eq_false hd0, if_neg hd0] <;> rfl
        · refine s_asg (ev_op (ev_var rfl) ev_c (rv_I ⟨by decide, by decide⟩)) fun H9 e9 => ?_
          have ne : H l = none := hl
          refine ⟨xs ++ [if d > 0 then d % 1000000 else st2], st2, d / 1000000, _, rfl, hb2, by omega, by rw [List.length_append, hx]; rfl, fun x hx2 => ?_, ?_, ?_⟩
          · rcases List.mem_append.mp hx2 with h | h
            · exact hpos x h
            · rw [List.mem_singleton.mp h]
              split <;> omega
          · exact ((e6.trans e7).trans e8 |>.mut ne).trans e9
          · refine e9 _ _ ?_
            rw [upd_same, List.map_append] <;> rfl
      · obtain ⟨xs, st, d, y5, rfl, hs, hd, hx, hpos, e6, h6⟩ := hP
        exact s_ret (ev_var rfl) fun H7 e7 => q xs (by omega) hpos l H7 hl (e6.trans e7) (e7 _ _ h6)
def sp_pair_at (K : PySem.W.Frag) : Sp := fun vs H Q _ => ∃ (h : Str) (i j m : Nat), vs = [.str h, .int i, .int j] ∧ (HalfS m h ∧ i < m ∧ j < m ∧ m ≤ 1000) ∧ RetV (.str (prAt h i j)) H Q
theorem ok_pair_at (D : Df K mg "pair_at" st_pair_at ["half", "first", "second"]) : At P w K mg base "pair_at" st_pair_at 1 ["half", "first", "second"] (sp_pair_at K) := by
  obtain ⟨f, fd, F, b, g⟩ := D
  refine ⟨f, fd, F, b, g, F.ok sc_pair_at (fun vs H Q E h => ?_) (fun cdv A outer s H vs Q E hr h => ?_)⟩
  · obtain ⟨h, i, j, m, rfl, _⟩ := h
    rfl
  · obtain ⟨h, i, j, m, rfl, ⟨hh, hi, hj, hm⟩, q⟩ := h
    refine ⟨_, (pss_one (ps_ret (pe_op op_add_str (pe_ix ix_str (pv 0) (pv 1) (fun _ _ => rfl)) (pe_ix ix_str (pv 0) (pv 2) (fun _ _ => rfl))))), ?_⟩
    have hl : h.length ≤ 100000 := by show h.cps.size ≤ 100000; rw [hh.1]; omega
    exact s_ret (ev_is (ev_op (ev_op (ev_var rfl) (ev_var rfl) (rv_ixS hl (at_sg hh hi))) (ev_op (ev_var rfl) (ev_var rfl) (rv_ixS hl (at_sg hh hj))) (rv_catS (by show 1 ≤ 1000; decide) (by show 1 ≤ 1000; decide))) rfl) fun H1 e1 => q H1 e1
def sp_four_at (K : PySem.W.Frag) : Sp := fun vs H Q _ => ∃ (a : Addr) (rs : List Str) (i j m : Nat), vs = [.ref a, .int i, .int j] ∧ SqL K H a (rs.map V.str) ∧ ((∀ h ∈ rs, HalfS m h) ∧ rs.length ≤ 1000 ∧ i < m ∧ j < m ∧ m ≤ 1000) ∧ ∀ v H2, Ex H H2 → ResF H2 v (four rs i j) → Q v H2
theorem ok_four_at {a_PAIRS : Addr} {odP : Option Addr} {slP : Array (Option Value)} {nP : Nat} {tP1 tP2 tP3 tP4 : Tok} (D : Df K mg "four_at" st_four_at ["rising", "first", "second"]) (m_len : mg "len" = none) (m_tuple : mg "tuple" = none) (c_PAIRS : mg "PAIRS" = some (.ref a_PAIRS)) (p_PAIRS : K.lookup a_PAIRS = some ⟨.type "tuple", odP, .seq #[.str "nn" tP1, .str "ny" tP2, .str "yn" tP3, .str "yy" tP4] nP, slP⟩) (A_pair_at : At P w K mg base "pair_at" st_pair_at 1 ["half", "first", "second"] (sp_pair_at K)) : At P w K mg base "four_at" st_four_at 2 ["rising", "first", "second"] (sp_four_at K) := by
  obtain ⟨f, fd, F, b, g⟩ := D
  obtain ⟨f_pair_at, fd_pair_at, F_pair_at, b_pair_at, g_pair_at, G_pair_at⟩ := A_pair_at
  refine ⟨f, fd, F, b, g, F.ok sc_four_at (fun vs H Q E h => ?_) (fun cdv A outer s H vs Q E hr h => ?_)⟩
  · obtain ⟨a, rs, i, j, m, rfl, _⟩ := h
    rfl
  · obtain ⟨a, rs, i, j, m, rfl, hS, ⟨hr2, hlen, hi, hj, hm⟩, q⟩ := h
    refine ⟨_, (pss_cons (ps_set (i := 3) sc_four_at.nd rfl (.inr rfl) pe_dnewK)
      (pss_cons (ps_for PassesOwn.never rfl (pi_list (pv 0)) (pg_name (i := 4) sc_four_at.nd rfl (.inl rfl))
      (pss_one (ps_expr (pe_dsetd (pv 3) (pe_call G_pair_at (hr.mono (by decide)) (by rfl) g_pair_at F_pair_at.kp b_pair_at .nil pass0 (pa_cons (pv 4) (pa_cons (pv 1) (pa_cons (pv 2) pa_nil)))) (pv 4) ⟨rfl, rfl, rfl, rfl⟩))))
      (pss_cons (ps_if (pt_cmpR op_lt (pe_callB call_lenD (by rfl) m_len (by decide +kernel) (pa_cons (pv 3) pa_nil)) (pe_callB call_len_seq (by rfl) m_len (by decide +kernel) (pa_cons (pe_glob (v := .ref a_PAIRS) (by rfl) c_PAIRS rfl) pa_nil)) (nomark _))
      (pss_one (ps_ret pe_non))
      pss_nil)
      (pss_one (ps_ret (pe_callTy call_tuple_of (by rfl) m_tuple (by decide +kernel) (pa_cons (pe_lc (own := [("pair", 5)]) (g := gName 5) (by rfl) sc_four_at.nd (pi_tup (pe_glob (v := .ref a_PAIRS) (by rfl) c_PAIRS rfl)) (blkOk_by (N := ["rising", "first", "second", "least", "half", "pair"]) (sc := defScope st_four_at) (by decide +kernel)) (fun _ _ _ _ _ => (pg_name (i := 5) sc_four_at.nd rfl (.inl rfl))) (fun _ _ _ _ _ => pts_nil) (fun _ _ _ _ _ => (pe_dget (Hid.u1 hr) (pv 3) (pv 5) (fun _ _ => rfl)))) pa_nil))))))), ?_⟩
    have hP : ∀ G, SqT K G a_PAIRS (prs.map V.str) := fun G => .inr ⟨_, _, _, p_PAIRS, rfl, rfl, (by show (4 : Nat) ≤ sizeLine; decide), .cons ⟨_, rfl⟩ (.cons ⟨_, rfl⟩ (.cons ⟨_, rfl⟩ (.cons ⟨_, rfl⟩ .nil)))⟩
    refine fun d hd => ?_
    refine q_forLn (ev_var rfl) (ex_l (Ex.new hd) hS) (fun n σ' H' => ∃ (kvs : List (Key × V)) (y4 : Option V), σ' = [some (.ref a), some (.int i), some (.int j), some (.ref d), y4, none] ∧ Ex H H' ∧ H' d = some (.dK kvs) ∧ DOk (rs.take n) i j kvs) (fun H1 e1 => ⟨[], _, rfl, (Ex.new hd).trans e1, e1 _ _ upd_same, dok_nil i j⟩) (fun n σ' H' _ hP => ?_) (fun n x σ' H' hx hP => ?_) (fun σ' H' hP => ?_)
    · obtain ⟨kvs, y4, _, e1, _, _⟩ := hP
      exact ex_l e1 hS
    · obtain ⟨kvs, y4, rfl, e1, h1, ok⟩ := hP
      rw [List.getElem?_map] at hx
      obtain ⟨h, hh, rfl⟩ := Option.map_eq_some_iff.mp hx
      have hlt := (List.getElem?_eq_some_iff.mp hh).1
      have hmem : h ∈ rs := List.mem_of_getElem? hh
      refine ⟨_, rfl, d, rfl, .inl ⟨kvs, .inl h1⟩, c_call (ea_cons (ev_var rfl) (ea_cons (ev_var rfl) (ea_cons (ev_var rfl) ea_nil))) fun H2 e2 => ⟨h, i, j, m, rfl, ⟨hr2 h hmem, hi, hj, hm⟩, fun H3 e3 => ⟨_, rfl, kvs, Sum.inr (prAt h i j), e3 _ _ (e2 _ _ h1), rfl, sz_lt (by have := ok.len_le; omega), fun v hv => ?_, fun hv => ?_⟩⟩⟩
      · refine ⟨kvs, _, rfl, (e1.trans e2).trans e3, e3 _ _ (e2 _ _ h1), ?_⟩
        rw [List.take_add_one, hh]
        exact ok.old hv
      · refine ⟨_, _, rfl, ((e1.trans e2).trans e3).mut hd, upd_same, ?_⟩
        rw [List.take_add_one, hh]
        exact ok.new (prAt_in (hr2 h hmem) hi hj) hv
    · obtain ⟨kvs, y4, rfl, e1, h1, ok⟩ := hP
      rw [List.take_of_length_le (by rw [List.length_map]; exact Nat.le_refl _)] at ok
      refine q_when (et_test (ev_op (ev_cb (ea_cons (ev_var rfl) ea_nil) (z := .int (kvs.length : Int)) fun H2 e2 Q2 q2 => ⟨d, kvs, rfl, e2 _ _ h1, q2 H2 (Ex.refl _)⟩) (ev_lenT ev_c (hP _)) rv_I0)) (fun hb H2 e2 => ?_) (fun hb H2 e2 => ?_)
      · refine s_ret ev_c fun H3 e3 => q _ H3 ((e1.trans e2).trans e3) ?_
        have hlt : kvs.length < 4 := by have := of_decide_eq_true hb; simp [prs] at this; omega
        rw [ok.few hlt]
        rfl
      · have hge : ¬ kvs.length < 4 := by have := of_decide_eq_false hb; simp [prs] at this; omega
        obtain ⟨F, hF, hv⟩ := ok.all hge
        refine s_retU (eu_tupOf (el_lcT (fun _ => true) (fun n => .str (F.getD n Str.empty)) ev_c (hP _) (by decide) (fun x => rfl) (fun n x H3 e3 hx => et_yes) (fun n x H3 e3 hx _ H4 e4 Q4 q4 => ?_))) fun p H3 hp e3 h3 => q _ H3 ((e1.trans e2).trans e3) ?_
        · obtain ⟨p, hp, rfl⟩ := Option.map_eq_some_iff.mp ((List.getElem?_map ..).symm.trans hx)
          refine ⟨_, rfl, _, rfl, d, _, rfl, ?_, q4 H4 (Ex.refl _)⟩
          rw [← hv n p hp]
          exact DGet.k (k := Sum.inr p) (e4 _ _ (e3 _ _ (e2 _ _ h1)))
        · rw [hF]
          refine ⟨p, rfl, ?_⟩
          rw [h3, given_true]
          obtain ⟨x1, x2, x3, x4, rfl⟩ := four_shape hF
          rfl
end
end Hid

namespace Hid
open PySem PySem.Spec PyProof.Rows L2 Evl

def accN (rs : List Str) (i j c : Nat) : List Str := (prs.take c).flatMap fun p => (fstAt rs i j p).toList
theorem accN_step (rs : List Str) (i j c : Nat) {p : Str} (h : prs[c]? = some p) : accN rs i j (c + 1) = accN rs i j c ++ (fstAt rs i j p).toList := by
  unfold accN
  rw [List.take_add_one, h]
  simp
theorem opt_len (o : Option Str) : o.toList.length ≤ 1 := by cases o <;> simp
theorem accN_len (rs : List Str) (i j c : Nat) : (accN rs i j c).length ≤ 4 := by
  unfold accN
  have g : ∀ l : List Str, (l.flatMap fun p => (fstAt rs i j p).toList).length ≤ l.length := by
    intro l
    induction l with
    | nil => exact Nat.le_refl _
    | cons p l ih =>
      rw [List.flatMap_cons, List.length_append, List.length_cons]
      have := opt_len (fstAt rs i j p)
      omega
  have h1 := g (prs.take c)
  rw [List.length_take] at h1
  have : prs.length = 4 := rfl
  omega
theorem accN_four (rs : List Str) (i j : Nat) : (four rs i j = none ∧ (accN rs i j 4).length < 4) ∨ ∃ F, four rs i j = some F ∧ accN rs i j 4 = F := by
  have e : accN rs i j 4 = (fstAt rs i j "nn").toList ++ ((fstAt rs i j "ny").toList ++ ((fstAt rs i j "yn").toList ++ ((fstAt rs i j "yy").toList ++ []))) := rfl
  rw [e]
  unfold four
  cases h1 : fstAt rs i j "nn" <;> cases h2 : fstAt rs i j "ny" <;> cases h3 : fstAt rs i j "yn" <;> cases h4 : fstAt rs i j "yy" <;> first | exact .inr ⟨_, rfl, rfl⟩ | exact .inl ⟨rfl, by simp⟩
theorem map_range_getD {α : Type} (l : List α) (d : α) : (List.range l.length).map (fun n => l.getD n d) = l := by
  apply List.ext_getElem?
  intro n
  by_cases h : n < l.length
  · rw [List.getElem?_map, List.getElem?_range h, List.getElem?_eq_getElem h]
    simp [List.getD_eq_getElem?_getD, h]
  · rw [List.getElem?_eq_none (by rw [List.length_map, List.length_range]; omega), List.getElem?_eq_none (by omega)]
theorem given_filter (rs : List Str) (p : Str → Bool) : given rs.length (fun c => p (rs.getD c Str.empty)) (fun c => V.str (rs.getD c Str.empty)) = (rs.filter p).map V.str := by
  unfold given
  conv => rhs; rw [← map_range_getD rs Str.empty]
  rw [List.filter_map, List.map_map]
  rfl
theorem cut_one (rs : List Str) (p : Str → Bool) : cutV ((rs.filter p).map V.str) none (some 1) = (rs.find? p).toList.map V.str := by
  have e : cutV ((rs.filter p).map V.str) none (some 1) = ((rs.filter p).map V.str).take 1 := by
    unfold cutV
    rw [show HT.sIx ((rs.filter p).map V.str).length ((rs.filter p).map V.str).length (some 1) = min 1 ((rs.filter p).map V.str).length from HT.sIx_nat _ _ 1]
    show List.take (min 1 _ - 0) (List.drop 0 _) = _
    rw [List.drop_zero, Nat.sub_zero]
    generalize (rs.filter p).map V.str = l
    cases l with
    | nil => rfl
    | cons x l => rw [List.length_cons, Nat.min_eq_left (by omega)]
  rw [e, ← List.head?_filter]
  generalize rs.filter p = l
  cases l <;> rfl
section
variable {P : Program} {w : World} {K : PySem.W.Frag} {mg : Str → Option Value} {base : Heap}
def sp_crossing_of (K : PySem.W.Frag) : Sp := fun vs H Q _ => ∃ (a : Addr) (hs : List Str) (m : Nat), vs = [.ref a] ∧ SqT K H a (hs.map V.str) ∧ (hs ≠ [] ∧ hs.length < 1000 ∧ m ≤ 1000 ∧ ∀ h ∈ hs, HalfS m h) ∧ ∀ r v H2, IsCross (four (srt hs)) m r → Ex H H2 → ResX H2 v r → Q v H2
theorem ok_crossing_of (D : Df K mg "crossing_of" st_crossing_of ["halves"]) (m_sorted : mg "sorted" = none) (m_set : mg "set" = none) (m_len : mg "len" = none) (m_range : mg "range" = none) (A_four_at : At P w K mg base "four_at" st_four_at 2 ["rising", "first", "second"] (sp_four_at K)) : At P w K mg base "crossing_of" st_crossing_of 3 ["halves"] (sp_crossing_of K) := by
  obtain ⟨f, fd, F, b, g⟩ := D
  obtain ⟨f_four_at, fd_four_at, F_four_at, b_four_at, g_four_at, G_four_at⟩ := A_four_at
  refine ⟨f, fd, F, b, g, F.ok sc_crossing_of (fun vs H Q E h => ?_) (fun cdv A outer s H vs Q E hr h => ?_)⟩
  · obtain ⟨a, hs, m, rfl, _⟩ := h
    rfl
  · obtain ⟨a, hs, m, rfl, hS, ⟨h0, hl, hm, hh⟩, q⟩ := h
    refine ⟨_, (pss_cons (ps_set (i := 1) sc_crossing_of.nd rfl (.inl rfl) (Hid.pe_sortSet rfl hr.units (by rfl) m_sorted (by rfl) m_set (pv 0)))
      (pss_cons (ps_set (i := 2) sc_crossing_of.nd rfl (.inl rfl) (pe_callB call_len_str (by rfl) m_len (by decide +kernel) (pa_cons (pe_ix ix_list (pv 1) pe_int (fun _ _ => rfl)) pa_nil)))
      (pss_cons (ps_for PassesOwn.never rfl (pi_range1 (by rfl) m_range (pa_cons (pv 2) pa_nil)) (pg_name (i := 3) sc_crossing_of.nd rfl (.inl rfl))
      (pss_one (ps_for PassesOwn.never rfl (pi_range2 (by rfl) m_range (pa_cons (pe_op op_add (pv 3) pe_int) (pa_cons (pv 2) pa_nil))) (pg_name (i := 4) sc_crossing_of.nd rfl (.inl rfl))
      (pss_cons (ps_set (i := 5) sc_crossing_of.nd rfl (.inl rfl) (pe_call G_four_at (hr.mono (by decide)) (by rfl) g_four_at F_four_at.kp b_four_at .nil pass0 (pa_cons (pv 1) (pa_cons (pv 3) (pa_cons (pv 4) pa_nil)))))
      (pss_one (ps_if (pt_cmpR op_notN (pv 5) pe_non (nomark _))
      (pss_one (ps_ret (pe_tup (pa_cons (pv 3) (pa_cons (pv 4) (pa_cons (pv 5) pa_nil))))))
      pss_nil))))))
      (pss_one (ps_ret pe_non))))), ?_⟩
    refine ⟨_, rfl, a, hs, rfl, hS, by omega, fun ys p hri hyl hme hp => ?_⟩
    have hf : four ys = four (srt hs) := four_same (rise_sorted hri) (srt_sorted hs) fun x => (hme x).trans mem_srt.symm
    have hy : ∀ h ∈ ys, HalfS m h := fun h hx => hh h ((hme h).mp hx)
    obtain ⟨y0, yr, rfl⟩ : ∃ y0 yr, ys = y0 :: yr := by
      cases ys with
      | cons y0 yr => exact ⟨y0, yr, rfl⟩
      | nil =>
        cases hs with
        | nil => exact absurd rfl h0
        | cons z zs => exact absurd ((hme z).mpr List.mem_cons_self) (by simp)
    generalize hys : y0 :: yr = ys at *
    have hy0 : HalfS m y0 := hy y0 (by rw [← hys]; exact List.mem_cons_self)
    have hat : atI (ys.map V.str) (0 : Int) = some (.str y0) := atI_nat (j := 0) (by rw [← hys]; rfl)
    have hlen0 : y0.length = m := hy0.1
    rw [← hf] at q
    refine q_asg (v := .int m) (ev_is (ev_lenS (ev_op (ev_var rfl) ev_c (rv_ixL (sq_of upd_same) hat)) (by omega)) (by rw [hlen0])) fun H1 e1 => ?_
    have eb : Ex H (upd H p (.lst (ys.map V.str))) := Ex.new hp
    have h1 : H1 p = some (.lst (ys.map V.str)) := e1 _ _ upd_same
    refine q_forR1 (ea_cons (ev_var rfl) ea_nil) ⟨by omega, by omega⟩ (fun n σ' H' => ∃ y3 y4 y5 : Option V, σ' = [some (.ref a), some (.ref p), some (.int m), y3, y4, y5] ∧ Ex H1 H' ∧ ∀ i' j', i' < j' → j' < m → i' < n → four ys i' j' = none) (fun H2 e2 => ⟨_, _, _, rfl, e2, fun _ _ _ _ z => absurd z (Nat.not_lt_zero _)⟩) (fun n σ' H2 hn hP => ?_) (fun σ' H2 hP => ?_)
    · obtain ⟨y3, y4, y5, rfl, e2, old⟩ := hP
      refine s_forR2 (lo := (n : Int) + 1) (n := (m : Int)) (ea_cons (ev_op (ev_var rfl) ev_c rv_I0) (ea_cons (ev_var rfl) ea_nil)) ⟨by omega, by omega, by omega, by omega⟩ (fun k σ' H' => ∃ y4 y5 : Option V, σ' = [some (.ref a), some (.ref p), some (.int m), some (.int n), y4, y5] ∧ Ex H1 H' ∧ ∀ j', n < j' → j' < n + 1 + k → j' < m → four ys n j' = none) (fun H3 e3 => ⟨_, _, rfl, e2.trans e3, fun _ a b _ => by omega⟩) (fun k σ' H3 hk hP => ?_) (fun σ' H3 hP => ?_)
      · obtain ⟨y4, y5, rfl, e3, new⟩ := hP
        have hj : (n : Int) + 1 + (k : Int) = ((n + 1 + k : Nat) : Int) := by omega
        rw [hj]
        refine c_call (ea_cons (ev_var rfl) (ea_cons (ev_var rfl) (ea_cons (ev_var rfl) ea_nil))) fun H4 e4 => ⟨p, ys, n, n + 1 + k, m, rfl, sq_of (e4 _ _ (e3 _ _ h1)), ⟨hy, by omega, by omega, by omega, hm⟩, fun v H5 e5 hv => ?_⟩
        cases hfo : four ys n (n + 1 + k) with
        | none =>
          rw [hfo] at hv
          obtain rfl : v = .non := hv
          refine s_when (et_test (ev_op (ev_var rfl) ev_c rv_notN)) (fun hb H6 e6 => absurd hb (by decide)) (fun hb H6 e6 => ?_)
          refine ⟨_, _, rfl, ((e3.trans e4).trans e5).trans e6, fun j' a b c => ?_⟩
          by_cases hjj : j' = n + 1 + k
          · rw [hjj]; exact hfo
          · exact new j' a (by omega) c
        | some F =>
          rw [hfo] at hv
          obtain ⟨z, rfl, hz⟩ := hv
          refine s_when (et_test (ev_op (ev_var rfl) ev_c rv_notN)) (fun hb H6 e6 => ?_) (fun hb H6 e6 => ?_)
          · refine s_retU (eu_tup (ea_cons (ev_var rfl) (ea_cons (ev_var rfl) (ea_cons (ev_var rfl) ea_nil))) (by show 3 ≤ 100000; decide)) fun t H7 ht e7 h7 => ?_
            refine q (some (n, n + 1 + k, F)) _ H7 ⟨by omega, by omega, hfo, fun i' j' a b c => ?_⟩ (eb.trans (e1.trans (((e3.trans e4).trans e5).trans (e6.trans e7)))) ⟨t, z, rfl, h7, e7 _ _ (e6 _ _ hz)⟩
            rcases c with c | ⟨rfl, c⟩
            · exact old i' j' a b c
            · exact new j' a c b
          · exact absurd hb (by simp)
      · obtain ⟨y4, y5, rfl, e3, new⟩ := hP
        refine ⟨_, _, _, rfl, e3, fun i' j' a b c => ?_⟩
        by_cases hii : i' = n
        · subst hii
          exact new j' a (by omega) b
        · exact old i' j' a b (by omega)
    · obtain ⟨y3, y4, y5, rfl, e2, old⟩ := hP
      exact s_ret ev_c fun H3 e3 => q none _ H3 (fun i j a b => old i j a b (by omega)) (eb.trans (e1.trans (e2.trans e3))) rfl
def sp__law_crossing (K : PySem.W.Frag) : Sp := fun vs H Q _ => ∃ (a : Addr) (hs : List Str) (m : Nat), vs = [.ref a] ∧ SqT K H a (hs.map V.str) ∧ (hs ≠ [] ∧ hs.length < 1000 ∧ m ≤ 1000 ∧ ∀ h ∈ hs, HalfS m h) ∧ ∀ r v H2, IsCross (four (srt hs)) m r → Ex H H2 → ResX H2 v r → Q v H2
theorem ok__law_crossing (D : Df K mg "_law_crossing" st__law_crossing ["_law_halves_here"]) (m_sorted : mg "sorted" = none) (m_range : mg "range" = none) (m_len : mg "len" = none) (m_tuple : mg "tuple" = none) : At P w K mg base "_law_crossing" st__law_crossing 1 ["_law_halves_here"] (sp__law_crossing K) := by
  obtain ⟨f, fd, F, b, g⟩ := D
  refine ⟨f, fd, F, b, g, F.ok sc__law_crossing (fun vs H Q E h => ?_) (fun cdv A outer s H vs Q E hr h => ?_)⟩
  · obtain ⟨a, hs, m, rfl, _⟩ := h
    rfl
  · obtain ⟨a, hs, m, rfl, hS, ⟨h0, hl, hm, hh⟩, q⟩ := h
    refine ⟨_, (pss_cons (ps_set (i := 1) sc__law_crossing.nd rfl (.inl rfl) (pe_callB (Hid.cr_sortedT hr.units) (by rfl) m_sorted (by decide +kernel) (pa_cons (pv 0) pa_nil)))
      (pss_cons (ps_for PassesOwn.never rfl (pi_range1 (by rfl) m_range (pa_cons (pe_callB call_len_str (by rfl) m_len (by decide +kernel) (pa_cons (pe_ix ix_tup (pv 0) pe_int (fun _ _ => rfl)) pa_nil)) pa_nil)) (pg_name (i := 2) sc__law_crossing.nd rfl (.inr rfl))
      (pss_one (ps_for PassesOwn.never rfl (pi_range2 (by rfl) m_range (pa_cons (pe_op op_add (pv 2) pe_int) (pa_cons (pe_callB call_len_str (by rfl) m_len (by decide +kernel) (pa_cons (pe_ix ix_tup (pv 0) pe_int (fun _ _ => rfl)) pa_nil)) pa_nil))) (pg_name (i := 3) sc__law_crossing.nd rfl (.inr rfl))
      (pss_cons (ps_set (i := 4) sc__law_crossing.nd rfl (.inl rfl) (pe_lst pa_nil))
      (pss_cons (ps_for PassesOwn.never rfl (pi_list (pe_lst (pa_cons pe_str (pa_cons pe_str (pa_cons pe_str (pa_cons pe_str pa_nil)))))) (pg_name (i := 5) sc__law_crossing.nd rfl (.inr rfl))
      (pss_one (ps_expr (pe_bm PySem.F.plainAttrs_list PySem.F.slot_list_extend PySem.F.type_list_extend mt_extend (pv 4) (pa_cons (pe_slice sl_list (pe_lc (own := [("_law_half", 6)]) (g := gName 6) (by rfl) sc__law_crossing.nd (pi_list (pv 1)) (blkOk_by (N := ["_law_halves_here", "_law_rising", "_law_one", "_law_other", "_law_four", "_law_pair", "_law_half"]) (sc := defScope st__law_crossing) (by decide +kernel)) (fun _ _ _ _ _ => (pg_name (i := 6) sc__law_crossing.nd rfl (.inl rfl))) (fun _ _ _ _ _ => (pts_one (pt_cmpR op_eq (pe_op op_add_str (pe_ix ix_str (pv 6) (pv 2) (fun _ _ => rfl)) (pe_ix ix_str (pv 6) (pv 3) (fun _ _ => rfl))) (pv 5) (nomark _)))) (fun _ _ _ _ _ => (pv 6))) po_none (po_some pe_int)) pa_nil)))))
      (pss_one (ps_if (pt_cmpR op_eq (pe_callB call_len_seq (by rfl) m_len (by decide +kernel) (pa_cons (pv 4) pa_nil)) pe_int (nomark _))
      (pss_one (ps_ret (pe_tup (pa_cons (pv 2) (pa_cons (pv 3) (pa_cons (pe_callTy call_tuple_of (by rfl) m_tuple (by decide +kernel) (pa_cons (pv 4) pa_nil)) pa_nil))))))
      pss_nil)))))))
      (pss_one (ps_ret pe_non)))), ?_⟩
    refine ⟨_, rfl, a, hs, rfl, hS, by omega, fun p hp => ?_⟩
    obtain ⟨y0, yr, rfl⟩ : ∃ y0 yr, hs = y0 :: yr := by
      cases hs with
      | cons y0 yr => exact ⟨y0, yr, rfl⟩
      | nil => exact absurd rfl h0
    have hy0 : HalfS m y0 := hh y0 List.mem_cons_self
    have hlen0 : y0.length = m := hy0.1
    have hat : atI ((y0 :: yr).map V.str) (0 : Int) = some (.str y0) := atI_nat (j := 0) rfl
    show tSeq _ _ _ [some (.ref a), some (.ref p), none, none, none, none, none] (upd H p (.lst ((srt (y0 :: yr)).map V.str)))
    generalize hrs : srt (y0 :: yr) = rs at *
    have hy : ∀ h ∈ rs, HalfS m h := fun h hx => hh h (by rw [← hrs] at hx; exact mem_srt.mp hx)
    have hrl : rs.length < 1000 := by rw [← hrs, srt_len]; exact hl
    have eb : Ex H (upd H p (.lst (rs.map V.str))) := Ex.new hp
    generalize hH1 : upd H p (.lst (rs.map V.str)) = H1 at eb ⊢
    have h1 : H1 p = some (.lst (rs.map V.str)) := by rw [← hH1]; exact upd_same
    have hS1 : SqT K H1 a ((y0 :: yr).map V.str) := ex_t eb hS
    have hlen : ∀ {σ : L2.St} {G : Hp}, Ex H1 G → σ[0]? = some (some (.ref a)) → Ev (tCB (fun xs H Q => ∃ z, xs = [V.str z] ∧ z.length ≤ sizeLine ∧ Q (.int z.length) H) (tCons (tOp (rIxT K) (tVar 0) (tC (.int 0))) tNil)) σ G (.int m) := fun {σ G} eg h => ev_is (ev_lenS (ev_op (ev_var h) ev_c (rv_ixT (ex_t eg hS1) hat)) (by omega)) (by rw [hlen0])
    refine q_forR1 (n := (m : Int)) (ea_cons (hlen (Ex.refl _) rfl) ea_nil) ⟨by omega, by omega⟩ (fun n σ' H' => ∃ y2 y3 y4 y5 : Option V, σ' = [some (.ref a), some (.ref p), y2, y3, y4, y5, none] ∧ Ex H1 H' ∧ ∀ i' j', i' < j' → j' < m → i' < n → four rs i' j' = none) (fun H2 e2 => ⟨none, none, none, none, rfl, e2, fun _ _ _ _ z => absurd z (Nat.not_lt_zero _)⟩) (fun n σ' H2 hn hP => ?_) (fun σ' H2 hP => ?_)
    · obtain ⟨y2, y3, y4, y5, rfl, e2, old⟩ := hP
      refine s_forR2 (lo := (n : Int) + 1) (n := (m : Int)) (ea_cons (ev_op (ev_var rfl) ev_c rv_I0) (ea_cons (hlen e2 rfl) ea_nil)) ⟨by omega, by omega, by omega, by omega⟩ (fun k σ' H' => ∃ y3 y4 y5 : Option V, σ' = [some (.ref a), some (.ref p), some (.int n), y3, y4, y5, none] ∧ Ex H1 H' ∧ ∀ j', n < j' → j' < n + 1 + k → j' < m → four rs n j' = none) (fun H3 e3 => ⟨_, _, _, rfl, e2.trans e3, fun _ a b _ => by omega⟩) (fun k σ' H3 hk hP => ?_) (fun σ' H3 hP => ?_)
      · obtain ⟨y3, y4, y5, rfl, e3, new⟩ := hP
        have hj : (n : Int) + 1 + (k : Int) = ((n + 1 + k : Nat) : Int) := by omega
        rw [hj]
        generalize hjj : n + 1 + k = j at *
        have hjm : j < m := by omega
        have hnm : n < m := by omega
        refine q_asgL (el_lst ea_nil (by decide)) fun l H4 hl4 e4 h4 => ?_
        have nl : H1 l = none := fresh_back e3 hl4
        refine q_forNLn (el_lst (ea_cons ev_c (ea_cons ev_c (ea_cons ev_c (ea_cons ev_c ea_nil)))) (by decide)) (fun pl c σ' H' => ∃ y5 : Option V, σ' = [some (.ref a), some (.ref p), some (.int n), some (.int j), some (.ref l), y5, none] ∧ Ex H1 H' ∧ pl ≠ l ∧ H' pl = some (.lst (prs.map V.str)) ∧ H' l = some (.lst ((accN rs n j c).map V.str))) (fun pl H5 hp5 e5 h5 => ⟨_, rfl, (e3.trans e4).trans e5, fun z => ?_, h5, e5 _ _ h4⟩) (fun pl c σ' H5 _ hP => ?_) (fun pl c x σ' H5 hx hP => ?_) (fun pl σ' H5 hP => ?_)
        · rw [z, h4] at hp5
          cases hp5
        · obtain ⟨y5, _, _, _, h5, _⟩ := hP
          exact sq_of h5
        · obtain ⟨y5, rfl, e5, hne, h5, h6⟩ := hP
          have hx2 : (prs.map V.str)[c]? = some x := hx
          rw [List.getElem?_map] at hx2
          obtain ⟨pr, hpr, rfl⟩ := Option.map_eq_some_iff.mp hx2
          refine ⟨_, rfl, .inl ⟨rfl, _, sq_of h6⟩, (el_slN (el_lcL (fun c => decide (prAt (rs.getD c Str.empty) n j = pr)) (fun c => .str (rs.getD c Str.empty)) (ev_var rfl) (sq_of (e5 _ _ h1)) (by rw [List.length_map]; omega) (fun x => rfl) (fun c x H6 e6 hc => ?_) (fun c x H6 e6 hc _ => ?_)) eo_none (eo_some ev_c)) _ (Ex.refl _) _ fun z H6 hz e6 h7 => ⟨l, z, _, _, rfl, rfl, e6 _ _ h6, h7, ?_, ?_⟩⟩
          · obtain ⟨h, hh1, rfl⟩ := Option.map_eq_some_iff.mp ((List.getElem?_map ..).symm.trans hc)
            have hhS := hy h (List.mem_of_getElem? hh1)
            have hl7 : h.length ≤ 100000 := by show h.cps.size ≤ 100000; rw [hhS.1]; omega
            have eg : rs.getD c Str.empty = h := by rw [List.getD_eq_getElem?_getD, hh1]; rfl
            refine et_is (et_test (ev_op (ev_is (ev_op (ev_op (ev_var rfl) (ev_var rfl) (rv_ixS hl7 (at_sg hhS hnm))) (ev_op (ev_var rfl) (ev_var rfl) (rv_ixS hl7 (at_sg hhS hjm))) (rv_catS (by show 1 ≤ 1000; decide) (by show 1 ≤ 1000; decide))) (show _ = V.str (prAt h n j) from rfl)) (ev_var rfl) (rv_eq rfl))) ?_
            rw [eg]
            exact decide_eq_decide.mpr ⟨fun z => V.str.inj z, fun z => by rw [z]⟩
          · obtain ⟨h, hh1, rfl⟩ := Option.map_eq_some_iff.mp ((List.getElem?_map ..).symm.trans hc)
            exact ev_is (ev_var rfl) (by rw [List.getD_eq_getElem?_getD, hh1]; rfl)
          · have h8 := accN_len rs n j c
            rw [List.length_map, List.length_map, given_filter rs fun h => decide (prAt h n j = pr), cut_one, List.length_map]
            have h9 := opt_len (rs.find? fun h => decide (prAt h n j = pr))
            exact sz_of (by omega)
          · refine ⟨_, rfl, (e5.trans e6).mut nl, hne, ?_, ?_⟩
            · rw [upd_ne hne]
              exact e6 _ _ h5
            · rw [upd_same, accN_step rs n j c hpr, List.map_append, List.length_map, given_filter rs fun h => decide (prAt h n j = pr), cut_one]
              rfl
        · obtain ⟨y5, rfl, e5, hne, h5, h6⟩ := hP
          have h6' : H5 l = some (.lst ((accN rs n j 4).map V.str)) := h6
          rcases accN_four rs n j with ⟨hfo, hal⟩ | ⟨F, hfo, hal⟩
          · refine s_when (et_test (ev_op (ev_len (ev_var rfl) (sq_of h6')) ev_c (rv_eq rfl))) (fun hb H6 e6 => ?_) (fun hb H6 e6 => ?_)
            · exfalso
              have := V.int.inj (of_decide_eq_true hb)
              rw [List.length_map] at this
              omega
            · refine ⟨_, _, _, rfl, e5.trans e6, fun j' a b c => ?_⟩
              by_cases hq : j' = j
              · rw [hq]; exact hfo
              · exact new j' a (by omega) c
          · refine s_when (et_test (ev_op (ev_len (ev_var rfl) (sq_of h6')) ev_c (rv_eq rfl))) (fun hb H6 e6 => ?_) (fun hb H6 e6 => ?_)
            · refine ⟨_, rfl, _, rfl, (eu_tupOfV (ev_var rfl) (sq_of (e6 _ _ h6'))) _ (Ex.refl _) _ fun z H7 hz e7 h7 => ⟨sz_of (by show 3 ≤ 100000; decide), fun t ht => ?_⟩⟩
              refine q (some (n, j, F)) _ _ ⟨by omega, hjm, hfo, fun i' j' a b c => ?_⟩ (eb.trans (e5.trans ((e6.trans e7).trans (Ex.new ht)))) ⟨t, z, rfl, upd_same, ?_⟩
              · rcases c with c | ⟨rfl, c⟩
                · exact old i' j' a b c
                · exact new j' a (by omega) b
              · rw [upd_ne (ne_of_none h7 ht), ← hal]
                exact h7
            · exfalso
              obtain ⟨x1, x2, x3, x4, rfl⟩ := four_shape hfo
              have := of_decide_eq_false hb
              rw [hal] at this
              exact this rfl
      · obtain ⟨y3, y4, y5, rfl, e3, new⟩ := hP
        refine ⟨_, _, _, _, rfl, e3, fun i' j' a b c => ?_⟩
        by_cases hii : i' = n
        · subst hii
          exact new j' a (by omega) b
        · exact old i' j' a b (by omega)
    · obtain ⟨y2, y3, y4, y5, rfl, e2, old⟩ := hP
      exact s_ret ev_c fun H3 e3 => q none _ H3 (fun i j a b => old i j a b (by omega)) (eb.trans (e2.trans e3)) rfl
end
end Hid

namespace Hid
open PySem PySem.Spec PyProof.Rows L2 Evl

def bitc (x : Int) (k : Nat) : Nat := if x / 2 ^ k % 2 = 0 then 110 else 121
def anyH (x : Int) (n : Nat) : Str := tx ((List.range n).map (bitc x))
theorem any_half (x : Int) (n : Nat) : HalfS n (anyH x n) := by
  refine ⟨by simp [anyH, tx], fun c hc => ?_⟩
  have h : c ∈ (List.range n).map (bitc x) := by simpa [anyH, tx] using hc
  obtain ⟨k, _, rfl⟩ := List.mem_map.mp h
  unfold bitc
  split
  · exact .inl rfl
  · exact .inr rfl
def turnc (c : Nat) : Nat := if c = 110 then 121 else 110
def flipH (h : Str) (k : Nat) : Str := (cutS h none (some (k : Int)) ++ (⟨#[turnc (sgAt h k)]⟩ : Str)) ++ cutS h (some ((k : Int) + 1)) none
theorem sg_mem {m k : Nat} {h : Str} (hh : HalfS m h) (hk : k < m) : sgAt h k ∈ h.cps.toList := by
  have hk' : k < h.cps.toList.length := by rw [Array.length_toList, hh.1]; exact hk
  unfold sgAt
  rw [List.getD_eq_getElem?_getD, List.getElem?_eq_getElem hk']
  exact List.getElem_mem hk'
theorem cut_front {m k : Nat} {h : Str} (hh : HalfS m h) (hk : k < m) : (cutS h none (some (k : Int))).cps = (h.cps.toList.take k).toArray := by
  unfold cutS
  have e : h.length = m := hh.1
  rw [HT.sIx_nat]
  show (List.take (min k h.length - 0) (List.drop 0 h.cps.toList)).toArray = _
  rw [List.drop_zero, Nat.sub_zero, e, Nat.min_eq_left (by omega)]
theorem cut_back {m k : Nat} {h : Str} (hh : HalfS m h) (hk : k < m) : (cutS h (some ((k : Int) + 1)) none).cps = (h.cps.toList.drop (k + 1)).toArray := by
  unfold cutS
  have e : h.length = m := hh.1
  have e1 : HT.sIx h.length 0 (some ((k : Int) + 1)) = k + 1 := by
    rw [show (k : Int) + 1 = ((k + 1 : Nat) : Int) by omega, HT.sIx_nat, e]
    omega
  rw [e1]
  show (List.take (h.length - (k + 1)) (List.drop (k + 1) h.cps.toList)).toArray = _
  rw [List.take_of_length_le]
  rw [List.length_drop, Array.length_toList]
  exact Nat.le_refl _
theorem flip_ok {m k : Nat} {h : Str} (hh : HalfS m h) (hk : k < m) : HalfS m (flipH h k) := by
  have e : (flipH h k).cps = ((cutS h none (some (k : Int))).cps ++ #[turnc (sgAt h k)]) ++ (cutS h (some ((k : Int) + 1)) none).cps := rfl
  rw [cut_front hh hk, cut_back hh hk] at e
  refine ⟨?_, fun c hc => ?_⟩
  · rw [e]
    have := hh.1
    simp
    omega
  · rw [e] at hc
    simp only [Array.toList_append, List.mem_append, List.toList_toArray] at hc
    rcases hc with (z | z) | z
    · exact hh.2 c (List.mem_of_mem_take z)
    · have : c = turnc (sgAt h k) := by simpa using z
      rw [this]
      unfold turnc
      split
      · exact .inr rfl
      · exact .inl rfl
    · exact hh.2 c (List.mem_of_mem_drop z)
section
variable {P : Program} {w : World} {K : PySem.W.Frag} {mg : Str → Option Value} {base : Heap}
def sp__law_any_half (K : PySem.W.Frag) : Sp := fun vs H Q _ => ∃ (x : Int) (n : Nat), vs = [.int x, .int n] ∧ n ≤ 1000 ∧ RetV (.str (anyH x n)) H Q
theorem ok__law_any_half (D : Df K mg "_law_any_half" st__law_any_half ["_law_x", "_law_places"]) (m_range : mg "range" = none) : At P w K mg base "_law_any_half" st__law_any_half 1 ["_law_x", "_law_places"] (sp__law_any_half K) := by
  obtain ⟨f, fd, F, b, g⟩ := D
  refine ⟨f, fd, F, b, g, F.ok sc__law_any_half (fun vs H Q E h => ?_) (fun cdv A outer s H vs Q E hr h => ?_)⟩
  · obtain ⟨x, n, rfl, _⟩ := h
    rfl
  · obtain ⟨x, n, rfl, hn, q⟩ := h
    refine ⟨_, (pss_one (ps_ret (pe_join pe_str (pe_lc (own := [("_law_place", 2)]) (g := gName 2) (by rfl) sc__law_any_half.nd (pi_range1 (by rfl) m_range (pa_cons (pv 1) pa_nil)) (blkOk_by (N := ["_law_x", "_law_places", "_law_place"]) (sc := defScope st__law_any_half) (by decide +kernel)) (fun _ _ _ _ _ => (pg_name (i := 2) sc__law_any_half.nd rfl (.inl rfl))) (fun _ _ _ _ _ => pts_nil) (fun _ _ _ _ _ => (pe_ix ix_str pe_str (pe_op op_andM (pe_op op_shr (pv 0) (pv 2)) pe_int) (fun _ _ => rfl))))))), ?_⟩
    refine ⟨⟨_, rfl⟩, (el_lcR1 (n := (n : Int)) (fun _ => true) (fun k => .str (sg1 (bitc x k))) (ea_cons (ev_var rfl) ea_nil) ⟨by omega, by omega⟩ (fun y => rfl) (fun i H1 e1 hi => et_yes) (fun i H1 e1 hi _ => ?_)) _ (Ex.refl _) _ fun p H2 hp e2 h2 => ?_⟩
    · refine ev_op ev_c (ev_op (ev_op (ev_var rfl) (ev_var rfl) (rv_I (by omega))) ev_c (rv_val fun Hx ex Qx qx => ⟨_, 1, rfl, rfl, qx⟩)) (rv_ixS (by decide) ?_)
      show atI [110, 121] (x / 2 ^ ((i : Int)).toNat % 2 ^ 1) = some (bitc x i)
      rw [Int.toNat_natCast]
      unfold bitc
      have h0 := Int.emod_two_eq (x / 2 ^ i)
      rw [show (2 : Int) ^ 1 = 2 by decide]
      rcases h0 with h0 | h0 <;> rw [h0] <;> rfl
    · rw [given_true, Int.toNat_natCast] at h2
      refine r_join (l := (List.range n).map (bitc x)) (sq_of ?_) (by rw [List.length_map, List.length_range]; omega) (q H2 e2)
      rw [h2]
      show _ = some (HO.lst (List.map _ _))
      rw [List.map_map]
      rfl
def sp__law_flipped (K : PySem.W.Frag) : Sp := fun vs H Q _ => ∃ (h : Str) (k m : Nat), vs = [.str h, .int k] ∧ (HalfS m h ∧ k < m ∧ m ≤ 1000) ∧ RetV (.str (flipH h k)) H Q
theorem ok__law_flipped (D : Df K mg "_law_flipped" st__law_flipped ["_law_half", "_law_place"]) : At P w K mg base "_law_flipped" st__law_flipped 1 ["_law_half", "_law_place"] (sp__law_flipped K) := by
  obtain ⟨f, fd, F, b, g⟩ := D
  refine ⟨f, fd, F, b, g, F.ok sc__law_flipped (fun vs H Q E h => ?_) (fun cdv A outer s H vs Q E hr h => ?_)⟩
  · obtain ⟨h, k, m, rfl, _⟩ := h
    rfl
  · obtain ⟨h, k, m, rfl, ⟨hh, hk, hm⟩, q⟩ := h
    refine ⟨_, (pss_one (ps_ret (pe_op op_add_str (pe_op op_add_str (pe_slice sl_str (pv 0) po_none (po_some (pv 1))) (pe_dget (Hid.u1 hr) (pe_disp (pps_cons pe_str pe_str (pps_cons pe_str pe_str pps_nil)) (by rfl) (by rfl) (fun z => by cases z) (by decide)) (pe_ix ix_str (pv 0) (pv 1) (fun _ _ => rfl)) (fun _ _ => rfl))) (pe_slice sl_str (pv 0) (po_some (pe_op op_add (pv 1) pe_int)) po_none)))), ?_⟩
    have hlm : h.length = m := hh.1
    have hl : h.length ≤ 100000 := by omega
    have hc : sgAt h k = 110 ∨ sgAt h k = 121 := hh.2 _ (sg_mem hh hk)
    have hv : valV (mergeK [] [((Sum.inr "n" : Key), V.str "y"), (Sum.inr "y", V.str "n")]) (Sum.inr (⟨#[sgAt h k]⟩ : Str)) = some (.str ⟨#[turnc (sgAt h k)]⟩) := by
      rcases hc with z | z <;> rw [z] <;> rfl
    have l1 : (cutS h none (some (k : Int))).length ≤ 1000 := by
      show (cutS h none (some (k : Int))).cps.size ≤ 1000
      rw [cut_front hh hk]
      simp
      omega
    have l2 : (cutS h (some ((k : Int) + 1)) none).length ≤ 1000 := by
      show (cutS h (some ((k : Int) + 1)) none).cps.size ≤ 1000
      rw [cut_back hh hk, List.size_toArray, List.length_drop, Array.length_toList]
      have := hh.1
      omega
    have l3 : (cutS h none (some (k : Int)) ++ (⟨#[turnc (sgAt h k)]⟩ : Str)).length ≤ 1000 := by
      show ((cutS h none (some (k : Int))).cps ++ #[turnc (sgAt h k)]).size ≤ 1000
      rw [cut_front hh hk]
      simp
      omega
    refine s_ret (ev_op (ev_op (ev_slS (ev_var rfl) eo_none (eo_some (ev_var rfl)) hl) (fun H1 e1 Q1 q1 => fun p hp => ⟨upd_same, [(Sum.inr "n", V.str "y"), (Sum.inr "y", V.str "n")], rfl, by decide, ?_⟩) (rv_catS l1 (by show 1 ≤ 1000; decide))) (ev_slS (ev_var rfl) (eo_some (ev_op (ev_var rfl) ev_c rv_I0)) eo_none hl) (rv_catS l3 l2)) fun H1 e1 => q H1 e1
    have eh : Ex H1 (upd (upd H1 p (.dK [])) p (.dK (mergeK [] [((Sum.inr "n" : Key), V.str "y"), (Sum.inr "y", V.str "n")]))) := (Ex.new hp).mut hp
    refine (ev_op (r := rIxS) (z := .str ⟨#[sgAt h k]⟩) (ev_var rfl) (ev_var rfl) (rv_ixS hl (at_sg hh hk))) _ (e1.trans eh) _ fun H2 e2 => ⟨p, _, rfl, ?_, q1 H2 (eh.trans e2)⟩
    rw [← hv]
    exact DGet.k (k := Sum.inr (⟨#[sgAt h k]⟩ : Str)) (e2 _ _ upd_same)
def sp__law_tree_halves (K : PySem.W.Frag) : Sp := fun vs H Q _ => ∃ (a : Addr) (xs : List Int) (n : Nat), vs = [.ref a, .int n] ∧ SqL K H a (xs.map V.int) ∧ (xs.length = 12 ∧ (∀ x ∈ xs, 0 ≤ x) ∧ 1 ≤ n ∧ n ≤ 8) ∧ ∀ ks : List Str, ks ≠ [] → ks.length ≤ 9 → (∀ k ∈ ks, HalfS n k) → RetL (ks.map V.str) H Q
theorem ok__law_tree_halves (D : Df K mg "_law_tree_halves" st__law_tree_halves ["_law_xs", "_law_places"]) (m_range : mg "range" = none) (m_len : mg "len" = none) (A__law_any_half : At P w K mg base "_law_any_half" st__law_any_half 1 ["_law_x", "_law_places"] (sp__law_any_half K)) (A__law_flipped : At P w K mg base "_law_flipped" st__law_flipped 1 ["_law_half", "_law_place"] (sp__law_flipped K)) : At P w K mg base "_law_tree_halves" st__law_tree_halves 2 ["_law_xs", "_law_places"] (sp__law_tree_halves K) := by
  obtain ⟨f, fd, F, b, g⟩ := D
  obtain ⟨f__law_any_half, fd__law_any_half, F__law_any_half, b__law_any_half, g__law_any_half, G__law_any_half⟩ := A__law_any_half
  obtain ⟨f__law_flipped, fd__law_flipped, F__law_flipped, b__law_flipped, g__law_flipped, G__law_flipped⟩ := A__law_flipped
  refine ⟨f, fd, F, b, g, F.ok sc__law_tree_halves (fun vs H Q E h => ?_) (fun cdv A outer s H vs Q E hr h => ?_)⟩
  · obtain ⟨a, xs, n, rfl, _⟩ := h
    rfl
  · obtain ⟨a, xs, n, rfl, hS, ⟨hxl, hxp, hn1, hn8⟩, q⟩ := h
    refine ⟨_, (pss_cons (ps_set (i := 2) sc__law_tree_halves.nd rfl (.inl rfl) (pe_lst (pa_cons (pe_call G__law_any_half (hr.mono (by decide)) (by rfl) g__law_any_half F__law_any_half.kp b__law_any_half .nil pass0 (pa_cons (pe_ix ix_list (pv 0) pe_int (fun _ _ => rfl)) (pa_cons (pv 1) pa_nil))) pa_nil)))
      (pss_cons (ps_for PassesOwn.never rfl (pi_range1 (by rfl) m_range (pa_cons (pv 1) pa_nil)) (pg_name (i := 3) sc__law_tree_halves.nd rfl (.inl rfl))
      (pss_cons (ps_set (i := 4) sc__law_tree_halves.nd rfl (.inl rfl) (pe_ix ix_list (pv 0) (pe_op op_add pe_int (pv 3)) (fun _ _ => rfl)))
      (pss_one (ps_if (pt_cmpR op_gt (pe_op op_mod (pv 4) pe_int) pe_int (nomark _))
      (pss_cons (ps_set (i := 5) sc__law_tree_halves.nd rfl (.inl rfl) (pe_call G__law_flipped (hr.mono (by decide)) (by rfl) g__law_flipped F__law_flipped.kp b__law_flipped .nil pass0 (pa_cons (pe_ix ix_list (pv 2) (pe_op op_mod (pe_op op_fdiv (pv 4) pe_int) (pe_callB call_len_seq (by rfl) m_len (by decide +kernel) (pa_cons (pv 2) pa_nil))) (fun _ _ => rfl)) (pa_cons (pv 3) pa_nil))))
      (pss_one (ps_if (PW.pt (pw_and (pt_cmpR op_eq (pe_op op_mod (pe_op op_fdiv (pv 4) pe_int) pe_int) pe_int (nomark _)) (pw_and (pt_cmpR op_gt (pv 3) pe_int (nomark _)) (pw_and1 (pt_cmpR op_gt (pe_callB call_len_seq (by rfl) m_len (by decide +kernel) (pa_cons (pv 2) pa_nil)) pe_int (nomark _))))))
      (pss_one (ps_asg (pe_call G__law_flipped (hr.mono (by decide)) (by rfl) g__law_flipped F__law_flipped.kp b__law_flipped .nil pass0 (pa_cons (pe_ix ix_list (pv 2) (pe_un un_neg pe_int) (fun _ _ => rfl)) (pa_cons (pv 3) pa_nil))) (pg_sub (pv 2) (pe_un un_neg pe_int) set_list)))
      (pss_one (ps_expr (pe_bm PySem.F.plainAttrs_list PySem.F.slot_list_append PySem.F.type_list_append mt_append (pv 2) (pa_cons (pv 5) pa_nil)))))))
      pss_nil))))
      (pss_one (ps_ret (pv 2))))), ?_⟩
    have hix : ∀ (j : Nat), j < 12 → ∃ v : Int, 0 ≤ v ∧ atI (xs.map V.int) (j : Int) = some (.int v) := fun j hj => ⟨xs[j], hxp _ (List.getElem_mem _), atI_nat (by rw [List.getElem?_map, List.getElem?_eq_getElem (by omega)]; rfl)⟩
    obtain ⟨v0, p0, a0⟩ := hix 0 (by decide)
    refine q_asgL (el_lst (ea_cons (ev_call (z := .str (anyH v0 n)) (ea_cons (ev_op (ev_var rfl) ev_c (rv_ixL hS a0)) (ea_cons (ev_var rfl) ea_nil)) fun H1 e1 Q1 q1 E1 => ⟨v0, n, rfl, by omega, q1⟩) ea_nil) (by show 1 ≤ 100000; decide)) fun l H2 nl eb h2 => ?_
    refine q_forR1 (ea_cons (ev_var rfl) ea_nil) ⟨by omega, by omega⟩ (fun i σ' H' => ∃ (ks : List Str) (y3 y4 y5 : Option V), σ' = [some (.ref a), some (.int n), some (.ref l), y3, y4, y5] ∧ Ex H H' ∧ ks ≠ [] ∧ ks.length ≤ 1 + i ∧ (∀ k ∈ ks, HalfS n k) ∧ H' l = some (.lst (ks.map V.str))) (fun H3 e3 => ⟨[anyH v0 n], _, _, _, rfl, eb.trans e3, by simp, by simp, fun k hk => ?_, e3 _ _ h2⟩) (fun i σ' H3 hi hP => ?_) (fun σ' H3 hP => ?_)
    · rw [List.mem_singleton.mp hk]
      exact any_half v0 n
    · obtain ⟨ks, y3, y4, y5, rfl, e3, k0, kl, kh, h3⟩ := hP
      have hin : i < n := by omega
      obtain ⟨x, px, ax⟩ := hix (1 + i) (by omega)
      refine q_asg (v := .int x) (ev_op (ev_var rfl) (ev_op ev_c (ev_var rfl) rv_I0) (rv_ixL (ex_l e3 hS) (by show atI (xs.map V.int) (1 + (i : Int)) = _; rw [← ax]; congr 1))) fun H4 e4 => ?_
      have h4 : H4 l = some (.lst (ks.map V.str)) := e4 _ _ h3
      have hkl : 0 < ks.length := List.length_pos_iff.mpr k0
      refine s_when (et_test (ev_op (ev_op (ev_var rfl) ev_c (rv_I (by show (0 : Int) < 8; decide))) ev_c rv_I0)) (fun hb H5 e5 => ?_) (fun hb H5 e5 => ⟨ks, _, _, _, rfl, (e3.trans e4).trans e5, k0, by omega, kh, e5 _ _ h4⟩)
      have h5 : H5 l = some (.lst (ks.map V.str)) := e5 _ _ h4
      have hj0 : 0 ≤ x / 8 % (ks.length : Int) := Int.emod_nonneg _ (by omega)
      have hj1 : x / 8 % (ks.length : Int) < ks.length := Int.emod_lt_of_pos _ (by omega)
      have hjl : (x / 8 % (ks.length : Int)).toNat < ks.length := by omega
      have aj : atI (ks.map V.str) (x / 8 % ((ks.map V.str).length : Int)) = some (.str ks[(x / 8 % (ks.length : Int)).toNat]) := by
        rw [List.length_map]
        have := atI_nat (xs := ks.map V.str) (j := (x / 8 % (ks.length : Int)).toNat) (v := .str ks[(x / 8 % (ks.length : Int)).toNat]) (by rw [List.getElem?_map, List.getElem?_eq_getElem hjl]; rfl)
        rwa [Int.toNat_of_nonneg hj0] at this
      obtain ⟨hf, hhf⟩ : ∃ z, z = flipH ks[(x / 8 % (ks.length : Int)).toNat] i := ⟨_, rfl⟩
      refine q_asg (v := .str hf) (ev_call (ea_cons (ev_op (ev_var rfl) (ev_op (ev_op (ev_var rfl) ev_c (rv_I ⟨by decide, by decide⟩)) (ev_len (ev_var rfl) (sq_of h5)) (rv_I (by show (0 : Int) < ((ks.map V.str).length : Int); rw [List.length_map]; omega))) (rv_ixL (sq_of h5) aj)) (ea_cons (ev_var rfl) ea_nil)) fun H6 e6 Q6 q6 E6 => ⟨_, i, n, rfl, ⟨kh _ (List.getElem_mem hjl), hin, by omega⟩, by rw [← hhf]; exact q6⟩) fun H7 e7 => ?_
      have h7 : H7 l = some (.lst (ks.map V.str)) := e7 _ _ h5
      have e37 : Ex H H7 := e3.trans (e4.trans (e5.trans e7))
      have hfl : HalfS n hf := by rw [hhf]; exact flip_ok (kh _ (List.getElem_mem hjl)) hin
      refine s_if (et_and (et_test (ev_op (ev_op (ev_op (ev_var rfl) ev_c (rv_I ⟨by decide, by decide⟩)) ev_c (rv_I (by show (0 : Int) < 4; decide))) ev_c (rv_eq rfl))) fun _ => et_and (et_test (ev_op (ev_var rfl) ev_c rv_I0)) fun _ => et_test (ev_op (ev_len (ev_var rfl) (sq_of h7)) ev_c rv_I0)) (fun hb2 H8 e8 => ?_) (fun hb2 H8 e8 => ?_)
      · have h8 : H8 l = some (.lst (ks.map V.str)) := e8 _ _ h7
        have hlast : ks.length - 1 < ks.length := by omega
        have il : ixN (ks.map V.str).length (-1) = some (ks.length - 1) := by
          unfold ixN
          rw [List.length_map, if_neg (by decide), if_pos (by omega)]
          congr 1
          omega
        have al : atI (ks.map V.str) (-1) = some (.str ks[ks.length - 1]) := by
          unfold atI
          rw [il]
          show (ks.map V.str)[ks.length - 1]? = _
          rw [List.getElem?_map, List.getElem?_eq_getElem hlast]
          rfl
        refine c_call (ea_cons (ev_op (ev_var rfl) (ev_un ev_c ru_neg) (rv_ixL (sq_of h8) al)) (ea_cons (ev_var rfl) ea_nil)) fun H9 e9 => ⟨_, i, n, rfl, ⟨kh _ (List.getElem_mem hlast), hin, by omega⟩, fun H10 e10 => ?_⟩
        have h10 : H10 l = some (.lst (ks.map V.str)) := e10 _ _ (e9 _ _ h8)
        have hf2 : HalfS n (flipH ks[ks.length - 1] i) := flip_ok (kh _ (List.getElem_mem hlast)) hin
        generalize flipH ks[ks.length - 1] i = hg at hf2 ⊢
        refine ⟨_, rfl, 1, rfl, l, _, -1, _, rfl, rfl, h10, il, ?_⟩
        refine ⟨ks.set (ks.length - 1) hg, _, _, _, rfl, (e37.trans (e8.trans (e9.trans e10))).mut nl, fun z => ?_, by rw [List.length_set]; omega, fun k hk => ?_, ?_⟩
        · rw [List.set_eq_nil_iff] at z
          exact k0 z
        · rcases List.mem_or_eq_of_mem_set hk with z | z
          · exact kh k z
          · rw [z]; exact hf2
        · rw [upd_same, List.map_set]
      · have h8 : H8 l = some (.lst (ks.map V.str)) := e8 _ _ h7
        refine s_app h8 (ev_var rfl) (ev_var rfl) (by rw [List.length_map]; omega) fun H9 e9 => ⟨ks ++ [hf], _, _, _, rfl, ((e37.trans e8).trans e9).mut nl, by simp, by simp; omega, fun k hk => ?_, ?_⟩
        · rcases List.mem_append.mp hk with z | z
          · exact kh k z
          · rw [List.mem_singleton.mp z]; exact hfl
        · rw [upd_same, List.map_append]
          rfl
    · obtain ⟨ks, y3, y4, y5, rfl, e3, k0, kl, kh, h3⟩ := hP
      exact s_ret (ev_var rfl) fun H4 e4 => q ks k0 (by omega) kh l H4 nl (e3.trans e4) (e4 _ _ h3)
end
end Hid

namespace Hid
open PySem PySem.Spec PyProof.Rows L2 Evl

def RetU (xs : List V) (H : Hp) (Q : VK) : Prop := ∀ p H2, H p = none → Ex H H2 → H2 p = some (.tup xs) → Q (.ref p) H2
theorem cut_take {xs : List V} (n : Nat) : cutV xs none (some (n : Int)) = xs.take n := by
  unfold cutV
  rw [HT.sIx_nat]
  show List.take (min n xs.length - 0) (List.drop 0 xs) = _
  rw [List.drop_zero, Nat.sub_zero]
  by_cases h : n ≤ xs.length
  · rw [Nat.min_eq_left h]
  · rw [Nat.min_eq_right (by omega), List.take_length, List.take_of_length_le (by omega)]
theorem get_getD {l : List Str} {n : Nat} (h : n < l.length) : l[n]? = some (l.getD n Str.empty) := by
  rw [List.getD_eq_getElem?_getD, List.getElem?_eq_getElem h]
  rfl
theorem paired_len' {α γ : Type} {F : α → γ → Prop} : ∀ {l : List α} {m : List γ}, Paired F l m → l.length = m.length
  | _, _, .nil => rfl
  | _, _, .cons _ t => by rw [List.length_cons, List.length_cons, paired_len' t]
theorem map_rep (n : Nat) (hs : List Str) : ((List.replicate n hs).flatten).map V.str = (List.replicate n (hs.map V.str)).flatten := by
  rw [List.map_flatten, List.map_replicate]
theorem rep_ok {n : Nat} {hs : List Str} (h0 : hs ≠ []) (hl : hs.length ≤ 10) (hn : 4 ≤ n ∧ n ≤ 40) : (List.replicate n hs).flatten ≠ [] ∧ (List.replicate n hs).flatten.length < 1000 ∧ ∀ x, x ∈ (List.replicate n hs).flatten ↔ x ∈ hs := by
  have hm : ∀ x, x ∈ (List.replicate n hs).flatten ↔ x ∈ hs := fun x => by
    rw [List.mem_flatten]
    constructor
    · rintro ⟨l, a, b⟩
      rw [List.eq_of_mem_replicate a] at b
      exact b
    · intro b
      exact ⟨hs, List.mem_replicate.mpr ⟨by omega, rfl⟩, b⟩
  refine ⟨fun z => ?_, ?_, hm⟩
  · cases hs with
    | nil => exact h0 rfl
    | cons y r =>
      have := (hm y).mpr List.mem_cons_self
      rw [z] at this
      cases this
  · rw [List.length_flatten, List.map_replicate, List.sum_replicate_nat]
    have : n * hs.length ≤ 40 * 10 := Nat.mul_le_mul hn.2 hl
    omega
section
variable {K : PySem.W.Frag} {σ : L2.St} {H H' : Hp} {ta tb tc te tl : TE} {D : Ends} {tu tz : TS}
theorem c_callP {sp : Sp} {E : XK} {Q : VK} {W : V → Hp → Prop} (h : EvP ta σ H W) (k : ∀ v H2, Ex H H2 → W v H2 → sp [v] H2 Q E) : tCall sp [] E (tCons ta tNil) σ H Q := h H (Ex.refl _) _ fun v H2 e2 hv => k v H2 e2 hv
theorem r_opC {r : R2} {y : V} (h : ta σ H (fun x H1 => r x y H1 D.rt)) : tRet (tOp r ta (tC y)) D σ H := h
theorem q_forPs {ts : TA} {j : Nat} {R : List V → Hp → Prop} (h : EvPs ts σ H R) (hlen : ∀ vs H2, R vs H2 → vs.length ≤ 100000) (Pv : Addr → List V → Nat → L2.St → Hp → Prop) (h0 : ∀ p vs H2, Ex H H2 → R vs H2 → H2 p = none → Pv p vs 0 σ (upd H2 p (.lst vs)))
    (hl : ∀ p vs i σ' H', i ≤ vs.length → Pv p vs i σ' H' → SqL K H' p vs) (hs : ∀ p vs i x σ' H', vs[i]? = some x → Pv p vs i σ' H' → tu { D with nx := Pv p vs (i + 1), ct := Pv p vs (i + 1), bk := tz D } (σ'.set j (some x)) H')
    (hd : ∀ p vs σ' H', Pv p vs vs.length σ' H' → tz D σ' H') : tSeq (tFor (iList K (tLst ts)) (gName j) tu) tz D σ H :=
  h H (Ex.refl _) _ fun vs H2 e2 hv => ⟨sz_of (hlen vs H2 hv), fun p hp => ⟨p, rfl, ⟨vs, sq_of upd_same⟩, for_list (D := { D with nx := tz D }) (Pv p vs) (h0 p vs H2 e2 hv hp) (hl p vs) (hs p vs) (hd p vs)⟩⟩
end
section
variable {P : Program} {w : World} {K : PySem.W.Frag} {mg : Str → Option Value} {base : Heap}
def sp__law_halves (K : PySem.W.Frag) : Sp := fun vs H Q _ => ∃ (a : Addr) (ns : List Int) (k : Int), vs = [.ref a, .int k] ∧ SqL K H a (ns.map V.int) ∧ (0 ≤ k ∧ k ≤ 900) ∧ ∀ (hs : List Str) (m : Nat), hs ≠ [] → hs.length ≤ 10 → 1 ≤ m → m ≤ 8 → (∀ h ∈ hs, HalfS m h) → RetU (hs.map V.str) H Q
theorem ok__law_halves (D : Df K mg "_law_halves" st__law_halves ["_law_script", "_law_at"]) (m_tuple : mg "tuple" = none) (m_len : mg "len" = none) (A__law_numbers : At P w K mg base "_law_numbers" st__law_numbers 1 ["_law_cell_here", "_law_many"] (sp__law_numbers K)) (A__law_cell : At P w K mg base "_law_cell" st__law_cell 1 ["_law_script", "_law_k"] (sp__law_cell K)) (A__law_any_half : At P w K mg base "_law_any_half" st__law_any_half 1 ["_law_x", "_law_places"] (sp__law_any_half K)) (A__law_tree_halves : At P w K mg base "_law_tree_halves" st__law_tree_halves 2 ["_law_xs", "_law_places"] (sp__law_tree_halves K)) : At P w K mg base "_law_halves" st__law_halves 3 ["_law_script", "_law_at"] (sp__law_halves K) := by
  obtain ⟨f, fd, F, b, g⟩ := D
  obtain ⟨f__law_numbers, fd__law_numbers, F__law_numbers, b__law_numbers, g__law_numbers, G__law_numbers⟩ := A__law_numbers
  obtain ⟨f__law_cell, fd__law_cell, F__law_cell, b__law_cell, g__law_cell, G__law_cell⟩ := A__law_cell
  obtain ⟨f__law_any_half, fd__law_any_half, F__law_any_half, b__law_any_half, g__law_any_half, G__law_any_half⟩ := A__law_any_half
  obtain ⟨f__law_tree_halves, fd__law_tree_halves, F__law_tree_halves, b__law_tree_halves, g__law_tree_halves, G__law_tree_halves⟩ := A__law_tree_halves
  refine ⟨f, fd, F, b, g, F.ok sc__law_halves (fun vs H Q E h => ?_) (fun cdv A outer s H vs Q E hr h => ?_)⟩
  · obtain ⟨a, ns, k, rfl, _⟩ := h
    rfl
  · obtain ⟨a, ns, k, rfl, hS, hk, q⟩ := h
    refine ⟨_, (pss_cons (ps_set (i := 2) sc__law_halves.nd rfl (.inl rfl) (pe_call G__law_numbers (hr.mono (by decide)) (by rfl) g__law_numbers F__law_numbers.kp b__law_numbers .nil pass0 (pa_cons (pe_call G__law_cell (hr.mono (by decide)) (by rfl) g__law_cell F__law_cell.kp b__law_cell .nil pass0 (pa_cons (pv 0) (pa_cons (pv 1) pa_nil))) (pa_cons pe_int pa_nil))))
      (pss_cons (ps_set (i := 3) sc__law_halves.nd rfl (.inl rfl) (pe_call G__law_numbers (hr.mono (by decide)) (by rfl) g__law_numbers F__law_numbers.kp b__law_numbers .nil pass0 (pa_cons (pe_call G__law_cell (hr.mono (by decide)) (by rfl) g__law_cell F__law_cell.kp b__law_cell .nil pass0 (pa_cons (pv 0) (pa_cons (pe_op op_add (pv 1) pe_int) pa_nil))) (pa_cons pe_int pa_nil))))
      (pss_cons (ps_set (i := 4) sc__law_halves.nd rfl (.inl rfl) (pe_call G__law_numbers (hr.mono (by decide)) (by rfl) g__law_numbers F__law_numbers.kp b__law_numbers .nil pass0 (pa_cons (pe_call G__law_cell (hr.mono (by decide)) (by rfl) g__law_cell F__law_cell.kp b__law_cell .nil pass0 (pa_cons (pv 0) (pa_cons (pe_op op_add (pv 1) pe_int) pa_nil))) (pa_cons pe_int pa_nil))))
      (pss_cons (ps_set (i := 5) sc__law_halves.nd rfl (.inr rfl) (pe_op op_add pe_int (pe_op op_mod (pe_ix ix_list (pv 2) pe_int (fun _ _ => rfl)) pe_int)))
      (pss_cons (ps_set (i := 6) sc__law_halves.nd rfl (.inl rfl) (pe_op op_add pe_int (pe_op op_mod (pe_ix ix_list (pv 2) pe_int (fun _ _ => rfl)) pe_int)))
      (pss_cons (ps_if (pt_cmpR op_eq (pe_op op_mod (pe_ix ix_list (pv 2) pe_int (fun _ _ => rfl)) pe_int) pe_int (nomark _))
      (pss_one (ps_ret (pe_callTy call_tuple_of (by rfl) m_tuple (by decide +kernel) (pa_cons (pe_lc (own := [("_law_y", 8)]) (g := gName 8) (by rfl) sc__law_halves.nd (pi_list (pe_slice sl_list (pv 4) po_none (po_some (pv 6)))) (blkOk_by (N := ["_law_script", "_law_at", "_law_head", "_law_xs", "_law_ys", "_law_places", "_law_many", "_law_knots", "_law_y"]) (sc := defScope st__law_halves) (by decide +kernel)) (fun _ _ _ _ _ => (pg_name (i := 8) sc__law_halves.nd rfl (.inl rfl))) (fun _ _ _ _ _ => pts_nil) (fun _ _ _ _ _ => (pe_call G__law_any_half (hr.mono (by decide)) (by rfl) g__law_any_half F__law_any_half.kp b__law_any_half .nil pass0 (pa_cons (pe_op op_fdiv (pv 8) pe_int) (pa_cons (pv 5) pa_nil))))) pa_nil))))
      pss_nil)
      (pss_cons (ps_set (i := 7) sc__law_halves.nd rfl (.inr rfl) (pe_call G__law_tree_halves (hr.mono (by decide)) (by rfl) g__law_tree_halves F__law_tree_halves.kp b__law_tree_halves .nil pass0 (pa_cons (pv 3) (pa_cons (pv 5) pa_nil))))
      (pss_one (ps_ret (pe_callTy call_tuple_of (by rfl) m_tuple (by decide +kernel) (pa_cons (pe_lc (own := [("_law_y", 8)]) (g := gName 8) (by rfl) sc__law_halves.nd (pi_list (pe_slice sl_list (pv 4) po_none (po_some (pv 6)))) (blkOk_by (N := ["_law_script", "_law_at", "_law_head", "_law_xs", "_law_ys", "_law_places", "_law_many", "_law_knots", "_law_y"]) (sc := defScope st__law_halves) (by decide +kernel)) (fun _ _ _ _ _ => (pg_name (i := 8) sc__law_halves.nd rfl (.inl rfl))) (fun _ _ _ _ _ => pts_nil) (fun _ _ _ _ _ => (pe_ix (show IxR _ (rIxL K) from ix_list) (pv 7) (pe_op op_mod (pv 8) (pe_callB (show CallR _ (.builtin "len") (Evl.rLenS K) from call_len_seq) (by rfl) m_len (by decide +kernel) (pa_cons (pv 7) pa_nil))) (fun _ _ => rfl)))) pa_nil))))))))))), ?_⟩
    refine ⟨_, rfl, _, rfl, a, ns, k, rfl, hS, by omega, fun c1 G1 f1 => ⟨c1, 4, rfl, by decide, fun us hul hup p1 H1 hp1 f1' h1 => ?_⟩⟩
    have e1 : Ex H H1 := f1.trans f1'
    refine ⟨_, rfl, _, rfl, _, _, rfl, rfl, a, ns, k + 1, rfl, ex_l e1 hS, by omega, fun c2 G2 f2 => ⟨c2, 12, rfl, by decide, fun xs hxl hxp p2 H2 hp2 f2' h2 => ?_⟩⟩
    have e2 : Ex H1 H2 := f2.trans f2'
    refine ⟨_, rfl, _, rfl, _, _, rfl, rfl, a, ns, k + 2, rfl, ex_l (e1.trans e2) hS, by omega, fun c3 G3 f3 => ⟨c3, 12, rfl, by decide, fun ys hyl hyp p3 H3 hp3 f3' h3 => ?_⟩⟩
    have e3 : Ex H2 H3 := f3.trans f3'
    have e03 : Ex H H3 := (e1.trans e2).trans e3
    have hul' : us.length = 4 := by omega
    have hxl' : xs.length = 12 := by omega
    have hyl' : ys.length = 12 := by omega
    have hix : ∀ (j : Nat), j < 4 → ∃ v : Int, 0 ≤ v ∧ atI (us.map V.int) (j : Int) = some (.int v) := fun j hj => ⟨us[j], hup _ (List.getElem_mem _), atI_nat (by rw [List.getElem?_map, List.getElem?_eq_getElem (by omega)]; rfl)⟩
    obtain ⟨v0, w0, a0⟩ := hix 0 (by decide)
    obtain ⟨v1, w1, a1⟩ := hix 1 (by decide)
    obtain ⟨v2, w2, a2⟩ := hix 2 (by decide)
    replace a0 : atI (us.map V.int) 0 = some (.int v0) := a0
    replace a1 : atI (us.map V.int) 1 = some (.int v1) := a1
    replace a2 : atI (us.map V.int) 2 = some (.int v2) := a2
    have h13 : H3 p1 = some (.lst (us.map V.int)) := e3 _ _ (e2 _ _ h1)
    have h23 : H3 p2 = some (.lst (xs.map V.int)) := e3 _ _ h2
    obtain ⟨m, hm⟩ : ∃ m : Nat, (m : Int) = 1 + v0 % 8 := ⟨(1 + v0 % 8).toNat, by omega⟩
    obtain ⟨mk, hmk⟩ : ∃ mk : Nat, (mk : Int) = 1 + v1 % 10 := ⟨(1 + v1 % 10).toNat, by omega⟩
    refine q_asg (v := .int m) (ev_is (ev_op ev_c (ev_op (ev_op (ev_var rfl) ev_c (rv_ixL (sq_of h13) a0)) ev_c (rv_I (by show (0 : Int) < 8; decide))) rv_I0) (by rw [hm])) fun H4 e4 => ?_
    refine q_asg (v := .int mk) (ev_is (ev_op ev_c (ev_op (ev_op (ev_var rfl) ev_c (rv_ixL (sq_of (e4 _ _ h13)) a1)) ev_c (rv_I (by show (0 : Int) < 10; decide))) rv_I0) (by rw [hmk])) fun H5 e5 => ?_
    have e05 : Ex H H5 := e03.trans (e4.trans e5)
    have h35 : H5 p3 = some (.lst (ys.map V.int)) := e5 _ _ (e4 _ _ h3)
    have h15 : H5 p1 = some (.lst (us.map V.int)) := e5 _ _ (e4 _ _ h13)
    have h25 : H5 p2 = some (.lst (xs.map V.int)) := e5 _ _ (e4 _ _ h23)
    have hcl : (cutV (ys.map V.int) none (some (mk : Int))).length = mk := by rw [cut_take, List.length_take, List.length_map]; omega
    have hcg : ∀ (i : Nat) (x : V), (cutV (ys.map V.int) none (some (mk : Int)))[i]? = some x → x = .int (ys.getD i 0) := fun i x hx => by
      rw [cut_take, List.getElem?_take] at hx
      split at hx
      · rw [List.getElem?_map] at hx
        obtain ⟨y, hy, rfl⟩ := Option.map_eq_some_iff.mp hx
        rw [List.getD_eq_getElem?_getD, hy]
        rfl
      · cases hx
    refine q_when (et_test (ev_op (ev_op (ev_op (ev_var rfl) ev_c (rv_ixL (sq_of h15) a2)) ev_c (rv_I (by show (0 : Int) < 3; decide))) ev_c (rv_eq rfl))) (fun hb H6 e6 => ?_) (fun hb H6 e6 => ?_)
    · refine s_retU (eu_tupOf (el_lcNL (fun _ => true) (fun i => .str (anyH (ys.getD i 0 / 3) m)) (el_sl (ev_var rfl) eo_none (eo_some (ev_var rfl)) (sq_of (e6 _ _ h35))) (by rw [hcl]; omega) (fun x => rfl) (fun i x G1 g1 hx => et_yes) (fun i x G1 g1 hx _ => ?_))) fun p7 H7 hp7 e7 h7 => ?_
      · rw [hcg i x hx]
        exact ev_call (ea_cons (ev_op (ev_var rfl) ev_c (rv_I ⟨by decide, by decide⟩)) (ea_cons (ev_var rfl) ea_nil)) fun G2 g2 Q2 q2 E2 => ⟨_, m, rfl, by omega, q2⟩
      · refine q ((List.range mk).map fun i => anyH (ys.getD i 0 / 3) m) m (fun z => ?_) (by rw [List.length_map, List.length_range]; omega) (by omega) (by omega) (fun h hh => ?_) p7 H7 (fresh_back (e05.trans e6) hp7) ((e05.trans e6).trans e7) (by rw [h7, given_true, hcl, List.map_map]; rfl)
        · have := congrArg List.length z
          rw [List.length_map, List.length_range, List.length_nil] at this
          omega
        · obtain ⟨i, _, rfl⟩ := List.mem_map.mp hh
          exact any_half _ _
    · refine c_call (ea_cons (ev_var rfl) (ea_cons (ev_var rfl) ea_nil)) fun G6 g6 => ⟨p2, xs, m, rfl, sq_of (g6 _ _ (e6 _ _ h25)), ⟨hxl', hxp, by omega, by omega⟩, fun ks k0 kl kh p7 H7 hp7 e7 h7 => ?_⟩
      have e67 : Ex H5 H7 := e6.trans (g6.trans e7)
      have hkl : 0 < ks.length := List.length_pos_iff.mpr k0
      have hjl : ∀ i, (ys.getD i 0 % (ks.length : Int)).toNat < ks.length := fun i => by
        have := Int.emod_nonneg (ys.getD i 0) (show (ks.length : Int) ≠ 0 by omega)
        have := Int.emod_lt_of_pos (ys.getD i 0) (show (0 : Int) < ks.length by omega)
        omega
      refine s_retU (eu_tupOf (el_lcNL (fun _ => true) (fun i => .str (ks.getD (ys.getD i 0 % (ks.length : Int)).toNat Str.empty)) (el_sl (ev_var rfl) eo_none (eo_some (ev_var rfl)) (sq_of (e67 _ _ h35))) (by rw [hcl]; omega) (fun x => rfl) (fun i x G1 g1 hx => et_yes) (fun i x G1 g1 hx _ => ?_))) fun p8 H8 hp8 e8 h8 => ?_
      · rw [hcg i x hx]
        refine ev_op (ev_var rfl) (ev_op (ev_var rfl) (ev_len (ev_var rfl) (sq_of (g1 _ _ h7))) (rv_I (by show (0 : Int) < ((ks.map V.str).length : Int); rw [List.length_map]; omega))) (rv_ixL (sq_of (g1 _ _ h7)) ?_)
        rw [List.length_map]
        have := atI_nat (xs := ks.map V.str) (j := (ys.getD i 0 % (ks.length : Int)).toNat) (v := .str (ks.getD (ys.getD i 0 % (ks.length : Int)).toNat Str.empty)) (by rw [List.getElem?_map, get_getD (hjl i)]; rfl)
        rwa [Int.toNat_of_nonneg (Int.emod_nonneg _ (by omega))] at this
      · refine q ((List.range mk).map fun i => ks.getD (ys.getD i 0 % (ks.length : Int)).toNat Str.empty) m (fun z => ?_) (by rw [List.length_map, List.length_range]; omega) (by omega) (by omega) (fun h hh => ?_) p8 H8 (fresh_back (e05.trans e67) hp8) ((e05.trans e67).trans e8) (by rw [h8, given_true, hcl, List.map_map]; rfl)
        · have := congrArg List.length z
          rw [List.length_map, List.length_range, List.length_nil] at this
          omega
        · obtain ⟨i, _, rfl⟩ := List.mem_map.mp hh
          exact kh _ (List.mem_of_getElem? (get_getD (hjl i)))
def sp__law_right (K : PySem.W.Frag) : Sp := fun vs H Q _ => ∃ (a : Addr) (hs : List Str) (m : Nat), vs = [.ref a] ∧ SqT K H a (hs.map V.str) ∧ (hs ≠ [] ∧ hs.length ≤ 10 ∧ 1 ≤ m ∧ m ≤ 8 ∧ ∀ h ∈ hs, HalfS m h) ∧ RetV (.bl true) H Q
theorem ok__law_right (D : Df K mg "_law_right" st__law_right ["_law_halves_here"]) (m_len : mg "len" = none) (m_isinstance : mg "isinstance" = none) (m_tuple : mg "tuple" = none) (A__law_crossing : At P w K mg base "_law_crossing" st__law_crossing 1 ["_law_halves_here"] (sp__law_crossing K)) (A_crossing_of : At P w K mg base "crossing_of" st_crossing_of 3 ["halves"] (sp_crossing_of K)) : At P w K mg base "_law_right" st__law_right 4 ["_law_halves_here"] (sp__law_right K) := by
  obtain ⟨f, fd, F, b, g⟩ := D
  obtain ⟨f__law_crossing, fd__law_crossing, F__law_crossing, b__law_crossing, g__law_crossing, G__law_crossing⟩ := A__law_crossing
  obtain ⟨f_crossing_of, fd_crossing_of, F_crossing_of, b_crossing_of, g_crossing_of, G_crossing_of⟩ := A_crossing_of
  refine ⟨f, fd, F, b, g, F.ok sc__law_right (fun vs H Q E h => ?_) (fun cdv A outer s H vs Q E hr h => ?_)⟩
  · obtain ⟨a, hs, m, rfl, _⟩ := h
    rfl
  · obtain ⟨a, hs, m, rfl, hS, ⟨h0, hl, hm1, hm8, hh⟩, q⟩ := h
    refine ⟨_, (pss_cons (ps_set (i := 1) sc__law_right.nd rfl (.inl rfl) (pe_call G__law_crossing (hr.mono (by decide)) (by rfl) g__law_crossing F__law_crossing.kp b__law_crossing .nil pass0 (pa_cons (pv 0) pa_nil)))
      (pss_cons (ps_for PassesOwn.never rfl (pi_list (pe_lst (pa_cons (pv 0) (pa_cons (Hid.pe_revT (pv 0)) (pa_cons (pe_op op_catA (pv 0) (pe_slice sl_tupA (pv 0) po_none (po_some pe_int))) (pa_cons (pe_op op_repT (pv 0) (pe_op op_fdiv pe_int (pe_callB call_len_seq (by rfl) m_len (by decide +kernel) (pa_cons (pv 0) pa_nil)))) pa_nil)))))) (pg_name (i := 2) sc__law_right.nd rfl (.inl rfl))
      (pss_cons (ps_set (i := 3) sc__law_right.nd rfl (.inl rfl) (pe_call G_crossing_of (hr.mono (by decide)) (by rfl) g_crossing_of F_crossing_of.kp b_crossing_of .nil pass0 (pa_cons (pv 2) pa_nil)))
      (pss_one (ps_if (PW.pt (pw_or (pt_cmpR (op_neD hr.units) (pv 3) (pv 1) (nomark _)) (pw_or1 (PW.pt (pw_and (pt_cmpR op_notN (pv 1) pe_non (nomark _)) (pw_and1 (PW.pt (pw_or (pt_not (pt_val (pe_callB call_isi (by rfl) m_isinstance (by decide +kernel) (pa_cons (pv 3) (pa_cons (pe_bltn (v := .ty "tuple") (by rfl) m_tuple (by decide +kernel) rfl) pa_nil))))) (pw_or1 (pt_not (pt_val (pe_callB call_isi (by rfl) m_isinstance (by decide +kernel) (pa_cons (pe_ix ix_tup (pv 3) pe_int (fun _ _ => rfl)) (pa_cons (pe_bltn (v := .ty "tuple") (by rfl) m_tuple (by decide +kernel) rfl) pa_nil))))))))))))))
      (pss_one (ps_ret pe_bl))
      pss_nil))))
      (pss_one (ps_ret (pe_cmpR op_isN (pe_call G_crossing_of (hr.mono (by decide)) (by rfl) g_crossing_of F_crossing_of.kp b_crossing_of .nil pass0 (pa_cons (pe_slice sl_tupA (pv 0) po_none (po_some pe_int)) pa_nil)) pe_non (nomark _)))))), ?_⟩
    have hpos : 0 < hs.length := List.length_pos_iff.mpr h0
    refine c_call (ea_cons (ev_var rfl) ea_nil) fun G1 g1 => ⟨a, hs, m, rfl, ex_t g1 hS, ⟨h0, by omega, by omega, hh⟩, fun r v H1 hr e1' hv => ?_⟩
    have e1 : Ex H H1 := g1.trans e1'
    have hS1 := ex_t e1 hS
    have hsh : SeqAt.shaped (dX r) = true := dX_shaped (m2 := m) (fun h hx => hh h (mem_srt.mp hx)) hr
    have hk : 4 ≤ (40 : Int) / ((hs.map V.str).length : Int) ∧ (40 : Int) / ((hs.map V.str).length : Int) ≤ 40 := by
      rw [List.length_map]
      have h1 : (hs.length : Int) ≤ 10 := by omega
      have h2 : (0 : Int) < hs.length := by omega
      constructor
      · exact Int.le_ediv_of_mul_le h2 (by omega)
      · exact Int.ediv_le_self _ (by decide)
    dsimp only [gName]
    refine q_forPs (R := TupVs K ([hs, hs.reverse, hs ++ hs.take 2, (List.replicate ((40 : Int) / ((hs.map V.str).length : Int)).toNat hs).flatten].map (List.map V.str))) ?_ (fun vs G hvs => by rw [paired_len' hvs]; show 4 ≤ 100000; decide) (fun p vs i σ' H' => ∃ (y2 y3 : Option V) (G : Hp), σ' = [some (.ref a), some v, y2, y3] ∧ Ex H1 G ∧ Ex G H' ∧ TupVs K ([hs, hs.reverse, hs ++ hs.take 2, (List.replicate ((40 : Int) / ((hs.map V.str).length : Int)).toNat hs).flatten].map (List.map V.str)) vs G ∧ H' p = some (.lst vs)) (fun p vs H2 e2 hvs hp => ⟨_, _, H2, rfl, e2, Ex.new hp, hvs, upd_same⟩) (fun p vs i σ' H' _ hP => ?_) (fun p vs i x σ' H2 hx hP => ?_) (fun p vs σ' H2 hP => ?_)
    · refine eps_cons (ep_var (ev_var rfl) hS1) (eps_cons ?_ (eps_cons ?_ (eps_cons ?_ eps_nil)))
      · rw [List.map_reverse]
        exact ep_rev (ev_var rfl) hS1
      · rw [List.map_append, List.map_take, ← cut_take (xs := hs.map V.str) 2]
        exact ep_cat (ep_var (ev_var rfl) hS1) (ep_sl (ev_var rfl) hS1 eo_none (eo_some ev_c)) (by rw [cut_take, List.length_take, List.length_map]; omega)
      · rw [map_rep]
        exact ep_rep (ev_var rfl) hS1 (ev_op ev_c (ev_lenT (ev_var rfl) hS1) (rv_I ⟨by rw [List.length_map]; omega, by rw [List.length_map]; omega⟩)) (fun z => h0 (List.map_eq_nil_iff.mp z)) ⟨by omega, by omega⟩ (by rw [List.length_map]; omega)
    · obtain ⟨_, _, _, _, _, _, _, h2⟩ := hP
      exact sq_of h2
    · obtain ⟨y2, y3, G, rfl, eg, e2, hvs, h2⟩ := hP
      obtain ⟨zs, hz, b, rfl, hb⟩ := paired_get hvs i x hx
      obtain ⟨hs', hmem, rfl⟩ := List.mem_map.mp (List.mem_of_getElem? hz)
      have e12 : Ex H1 H2 := eg.trans e2
      obtain ⟨s0, sl, sm⟩ : hs' ≠ [] ∧ hs'.length < 1000 ∧ ∀ x, x ∈ hs' ↔ x ∈ hs := by
        have hn : 4 ≤ ((40 : Int) / ((hs.map V.str).length : Int)).toNat ∧ ((40 : Int) / ((hs.map V.str).length : Int)).toNat ≤ 40 := by omega
        generalize ((40 : Int) / ((hs.map V.str).length : Int)).toNat = n at hn hmem
        simp only [List.mem_cons, List.not_mem_nil, or_false] at hmem
        rcases hmem with rfl | rfl | rfl | rfl
        · exact ⟨h0, by omega, fun _ => Iff.rfl⟩
        · exact ⟨fun z => h0 (List.reverse_eq_nil_iff.mp z), by rw [List.length_reverse]; omega, fun _ => List.mem_reverse⟩
        · refine ⟨fun z => h0 (List.append_eq_nil_iff.mp z).1, by rw [List.length_append, List.length_take]; omega, fun x => ?_⟩
          rw [List.mem_append]
          exact ⟨fun z => z.elim id List.mem_of_mem_take, .inl⟩
        · exact rep_ok h0 hl hn
      refine c_call (ea_cons (ev_var rfl) ea_nil) fun G3 g3 => ⟨b, hs', m, rfl, ex_t (e2.trans g3) hb, ⟨s0, sl, by omega, fun h hx => hh h ((sm h).mp hx)⟩, fun r' v' H3 hr' e3' hv' => ?_⟩
      have e23 : Ex H2 H3 := g3.trans e3'
      rw [four_same (srt_sorted hs') (srt_sorted hs) fun x => mem_srt.trans ((sm x).trans mem_srt.symm)] at hr'
      obtain rfl : r' = r := hr'.uniq hr
      have hne : ∀ {ta tb : TE} {σ : L2.St}, Ev ta σ H3 v' → Ev tb σ H3 v → Ev (tOp (rNeD K) ta tb) σ H3 (.bl false) := fun {ta tb σ} h1 h2 => ev_op h1 h2 (rv_val fun Hx ex Qx qx => ⟨dX r', dX r', (hv'.ex ex).dp, (hv.ex ((e12.trans e23).trans ex)).dp, hsh, hsh, by
        rw [SeqAt.eqv_refl _ (SeqAt.canLay_of_shaped hsh)]
        exact qx⟩)
      have fin : ∀ H4, Ex H3 H4 → ∃ (y2 y3 : Option V) (G : Hp), [some (V.ref a), some v, some (.ref b), some v'] = [some (V.ref a), some v, y2, y3] ∧ Ex H1 G ∧ Ex G H4 ∧ TupVs K ([hs, hs.reverse, hs ++ hs.take 2, (List.replicate ((40 : Int) / ((hs.map V.str).length : Int)).toNat hs).flatten].map (List.map V.str)) vs G ∧ H4 p = some (.lst vs) := fun H4 e4 => ⟨_, _, G, rfl, eg, e2.trans (e23.trans e4), hvs, e4 _ _ (e23 _ _ h2)⟩
      cases r' with
      | none =>
        obtain rfl : v = .non := hv
        refine s_when (et_or (et_test (hne (ev_var rfl) (ev_var rfl))) fun _ => et_and (b := false) (et_test (ev_op (ev_var rfl) ev_c rv_notN)) fun z => absurd z (by decide)) (fun hb H4 e4 => absurd hb (by simp)) (fun hb H4 e4 => fin H4 e4)
      | some w =>
        obtain ⟨i1, j1, F1⟩ := w
        obtain ⟨p1, q1, rfl, hp1, hq1⟩ := hv
        obtain ⟨p2, q2, rfl, hp2, hq2⟩ := hv'
        refine s_when (et_or (et_test (hne (ev_var rfl) (ev_var rfl))) fun _ => et_and (et_test (ev_op (ev_var rfl) ev_c rv_notN)) fun z => et_or (et_not (et_B (ev_isi (ev_var rfl) (fun Hx ex => .base (.tup (ex _ _ hp2))) (b := true) (by decide +kernel)))) fun _ => et_not (et_B (ev_isi (ev_op (ev_var rfl) ev_c (rv_ixT (st_of hp2) (show atI _ (2 : Int) = some (.ref q2) from rfl))) (fun Hx ex => .base (.tup (ex _ _ hq2))) (b := true) (by decide +kernel)))) (fun hb H4 e4 => absurd hb (by simp)) (fun hb H4 e4 => fin H4 e4)
    · obtain ⟨y2, y3, G, rfl, eg, e2, hvs, h2⟩ := hP
      have e02 : Ex H H2 := e1.trans (eg.trans e2)
      refine r_opC (c_callP (ep_sl (ev_var rfl) (ex_t e02 hS) eo_none (eo_some ev_c)) fun x H3 e3 ⟨b, ex, hb⟩ => ?_)
      subst ex
      obtain ⟨y0, yr, rfl⟩ : ∃ y0 yr, hs = y0 :: yr := by
        cases hs with
        | cons y0 yr => exact ⟨y0, yr, rfl⟩
        | nil => exact absurd rfl h0
      have hc : cutV ((y0 :: yr).map V.str) none (some 1) = [y0].map V.str := (cut_take (xs := (y0 :: yr).map V.str) 1).trans rfl
      rw [hc] at hb
      refine ⟨b, [y0], m, rfl, hb, ⟨by simp, by simp, by omega, fun h hx => hh h (by rw [List.mem_singleton.mp hx]; exact List.mem_cons_self)⟩, fun r2 v2 H4 hr2 e4 hv2 => ?_⟩
      rw [four_same (m := [y0]) (srt_sorted _) (List.pairwise_singleton _ _) fun x => mem_srt] at hr2
      obtain rfl : r2 = none := hr2.uniq (show IsCross (four [y0]) m none from fun i j _ _ => four_one y0 i j)
      obtain rfl : v2 = .non := hv2
      exact ⟨rfl, q H4 (e02.trans (e3.trans e4))⟩
def sp_law (K : PySem.W.Frag) : Sp := fun vs H Q _ => ∃ (a : Addr) (ns : List Int), vs = [.ref a] ∧ SqL K H a (ns.map V.int) ∧ ns.length ≤ 63 ∧ RetV (.bl true) H Q
theorem ok_law (D : Df K mg "law" st_law ["_law_script"]) (m_range : mg "range" = none) (m_len : mg "len" = none) (A__law_halves : At P w K mg base "_law_halves" st__law_halves 3 ["_law_script", "_law_at"] (sp__law_halves K)) (A__law_right : At P w K mg base "_law_right" st__law_right 4 ["_law_halves_here"] (sp__law_right K)) (A__law_numbers : At P w K mg base "_law_numbers" st__law_numbers 1 ["_law_cell_here", "_law_many"] (sp__law_numbers K)) (A__law_cell : At P w K mg base "_law_cell" st__law_cell 1 ["_law_script", "_law_k"] (sp__law_cell K)) (A__law_flipped : At P w K mg base "_law_flipped" st__law_flipped 1 ["_law_half", "_law_place"] (sp__law_flipped K)) : At P w K mg base "law" st_law 5 ["_law_script"] (sp_law K) := by
  obtain ⟨f, fd, F, b, g⟩ := D
  obtain ⟨f__law_halves, fd__law_halves, F__law_halves, b__law_halves, g__law_halves, G__law_halves⟩ := A__law_halves
  obtain ⟨f__law_right, fd__law_right, F__law_right, b__law_right, g__law_right, G__law_right⟩ := A__law_right
  obtain ⟨f__law_numbers, fd__law_numbers, F__law_numbers, b__law_numbers, g__law_numbers, G__law_numbers⟩ := A__law_numbers
  obtain ⟨f__law_cell, fd__law_cell, F__law_cell, b__law_cell, g__law_cell, G__law_cell⟩ := A__law_cell
  obtain ⟨f__law_flipped, fd__law_flipped, F__law_flipped, b__law_flipped, g__law_flipped, G__law_flipped⟩ := A__law_flipped
  refine ⟨f, fd, F, b, g, F.ok sc_law (fun vs H Q E h => ?_) (fun cdv A outer s H vs Q E hr h => ?_)⟩
  · obtain ⟨a, ns, rfl, _⟩ := h
    rfl
  · obtain ⟨a, ns, rfl, hS, hl, q⟩ := h
    refine ⟨_, (pss_cons (ps_for PassesOwn.never rfl (pi_range3 (by rfl) m_range (pa_cons pe_int (pa_cons pe_int (pa_cons pe_int pa_nil)))) (pg_name (i := 1) sc_law.nd rfl (.inl rfl))
      (pss_cons (ps_set (i := 2) sc_law.nd rfl (.inl rfl) (pe_call G__law_halves (hr.mono (by decide)) (by rfl) g__law_halves F__law_halves.kp b__law_halves .nil pass0 (pa_cons (pv 0) (pa_cons (pv 1) pa_nil))))
      (pss_cons (ps_if (pt_not (pt_val (pe_call G__law_right (hr.mono (by decide)) (by rfl) g__law_right F__law_right.kp b__law_right .nil pass0 (pa_cons (pv 2) pa_nil))))
      (pss_one (ps_ret pe_bl))
      pss_nil)
      (pss_cons (ps_set (i := 3) sc_law.nd rfl (.inl rfl) (pe_ix ix_list (pe_call G__law_numbers (hr.mono (by decide)) (by rfl) g__law_numbers F__law_numbers.kp b__law_numbers .nil pass0 (pa_cons (pe_call G__law_cell (hr.mono (by decide)) (by rfl) g__law_cell F__law_cell.kp b__law_cell .nil pass0 (pa_cons (pv 0) (pa_cons (pv 1) pa_nil))) (pa_cons pe_int pa_nil))) pe_int (fun _ _ => rfl)))
      (pss_cons (ps_set (i := 4) sc_law.nd rfl (.inl rfl) (pe_op op_mod (pv 3) (pe_callB call_len_str (by rfl) m_len (by decide +kernel) (pa_cons (pe_ix ix_tup (pv 2) pe_int (fun _ _ => rfl)) pa_nil))))
      (pss_one (ps_if (pt_not (pt_val (pe_call G__law_right (hr.mono (by decide)) (by rfl) g__law_right F__law_right.kp b__law_right .nil pass0 (pa_cons (pe_op op_catA (pe_slice sl_tupA (pv 2) (po_some pe_int) po_none) (pe_tup (pa_cons (pe_call G__law_flipped (hr.mono (by decide)) (by rfl) g__law_flipped F__law_flipped.kp b__law_flipped .nil pass0 (pa_cons (pe_ix ix_tup (pv 2) pe_int (fun _ _ => rfl)) (pa_cons (pv 4) pa_nil))) pa_nil))) pa_nil))))
      (pss_one (ps_ret pe_bl))
      pss_nil)))))))
      (pss_one (ps_ret pe_bl))), ?_⟩
    refine ⟨0, 12, 3, 4, rfl, ⟨by decide, by decide, by decide, by decide⟩, for_rangeC (lo := 0) (c := 3) (n := 4) (fun i σ' H' => ∃ y1 y2 y3 y4 : Option V, σ' = [some (.ref a), y1, y2, y3, y4] ∧ Ex H H') ⟨_, _, _, _, rfl, Ex.refl _⟩ (fun i σ' H1 hi hP => ?_) (fun σ' H1 hP => ?_)⟩
    · obtain ⟨y1, y2, y3, y4, rfl, e1⟩ := hP
      show tSeq _ _ _ [some (.ref a), some (.int (0 + (i : Nat) * 3)), y2, y3, y4] H1
      obtain ⟨k, hk, hk2⟩ : ∃ k : Int, (0 : Int) + (i : Nat) * 3 = k ∧ (0 ≤ k ∧ k ≤ 900) := ⟨_, rfl, by omega, by omega⟩
      rw [hk]
      refine c_call (ea_cons (ev_var rfl) (ea_cons (ev_var rfl) ea_nil)) fun G1 g1 => ⟨a, ns, k, rfl, ex_l (e1.trans g1) hS, hk2, fun hs m h0 hlen hm1 hm8 hh p H2 hp e2' h2 => ?_⟩
      have e2 : Ex H1 H2 := g1.trans e2'
      have e02 : Ex H H2 := e1.trans e2
      obtain ⟨y0, yr, rfl⟩ : ∃ y0 yr, hs = y0 :: yr := by
        cases hs with
        | cons y0 yr => exact ⟨y0, yr, rfl⟩
        | nil => exact absurd rfl h0
      have hy0 : HalfS m y0 := hh y0 List.mem_cons_self
      refine q_when (et_not (et_B (ev_call (z := .bl true) (ea_cons (ev_var rfl) ea_nil) fun G3 g3 Q3 q3 E3 => ⟨p, _, m, rfl, st_of (g3 _ _ h2), ⟨h0, hlen, hm1, hm8, hh⟩, q3⟩))) (fun hb H3 e3 => absurd hb (by decide)) (fun hb H3 e3 => ?_)
      refine ⟨_, rfl, _, rfl, a, ns, k, rfl, ex_l (e02.trans e3) hS, by omega, fun c G4 g4 => ⟨c, 5, rfl, by decide, fun xs hxl hxp p4 H4 hp4 g4' h4 => ?_⟩⟩
      have e4 : Ex H3 H4 := g4.trans g4'
      have h24 : H4 p = some (.tup ((y0 :: yr).map V.str)) := e4 _ _ (e3 _ _ h2)
      refine ⟨p4, _, 4, .int xs[4], rfl, rfl, sq_of h4, atI_nat (j := 4) (by rw [List.getElem?_map, List.getElem?_eq_getElem (by omega)]; rfl), ?_⟩
      have hlen0 : y0.length = m := hy0.1
      obtain ⟨pc, hpc, hpc2⟩ : ∃ pc : Nat, (pc : Int) = xs[4] % (m : Int) ∧ pc < m := ⟨(xs[4] % (m : Int)).toNat, by
        have := Int.emod_nonneg xs[4] (show (m : Int) ≠ 0 by omega)
        have := Int.emod_lt_of_pos xs[4] (show (0 : Int) < m by omega)
        omega⟩
      have hat : atI ((y0 :: yr).map V.str) (0 : Int) = some (.str y0) := atI_nat (j := 0) rfl
      refine q_asg (v := .int pc) (ev_is (ev_op (ev_var rfl) (ev_lenS (ev_op (ev_var rfl) ev_c (rv_ixT (st_of h24) hat)) (by omega)) (rv_I (by show (0 : Int) < (y0.length : Int); omega))) (by rw [hlen0, hpc])) fun H5 e5 => ?_
      have h25 : H5 p = some (.tup ((y0 :: yr).map V.str)) := e5 _ _ h24
      have hfl : HalfS m (flipH y0 pc) := flip_ok hy0 hpc2
      have hcut : cutV ((y0 :: yr).map V.str) (some 1) none = yr.map V.str := by
        have e : HT.sIx ((y0 :: yr).map V.str).length 0 (some 1) = 1 := by
          rw [show (some (1 : Int)) = some ((1 : Nat) : Int) from rfl, HT.sIx_nat, List.length_map, List.length_cons]
          omega
        unfold cutV
        rw [e]
        show List.take (((y0 :: yr).map V.str).length - 1) (yr.map V.str) = _
        rw [List.take_of_length_le]
        simp
      refine s_when (b := false) (et_is (et_not (a := true) ?_) rfl) (fun hb H6 e6 => absurd hb (by decide)) (fun hb H6 e6 => ⟨_, _, _, _, rfl, ((e02.trans e3).trans (e4.trans e5)).trans e6⟩)
      intro H6 e6 Q6 q6
      refine c_callP (ep_cat (ep_sl (ev_var rfl) (st_of (e6 _ _ h25)) (eo_some ev_c) eo_none) (ep_new (eu_tup (ea_cons (ev_call (z := .str (flipH y0 pc)) (ea_cons (ev_op (ev_var rfl) ev_c (rv_ixT (st_of (e6 _ _ h25)) hat)) (ea_cons (ev_var rfl) ea_nil)) fun G7 g7 Q7 q7 E7 => ⟨y0, pc, m, rfl, ⟨hy0, hpc2, by omega⟩, q7⟩) ea_nil) (by show 1 ≤ 100000; decide))) ?_) fun x H7 e7 ⟨b, ex, hb⟩ => ?_
      · rw [hcut, List.length_map]
        have : yr.length ≤ 10 := by rw [List.length_cons] at hlen; omega
        show yr.length + 1 ≤ 100000
        omega
      · subst ex
        rw [hcut] at hb
        refine ⟨b, yr ++ [flipH y0 pc], m, rfl, by rw [List.map_append]; exact hb, ⟨by simp, by rw [List.length_append]; exact hlen, hm1, hm8, fun h hx => ?_⟩, fun H8 e8 => ⟨true, rfl, q6 H8 (e7.trans e8)⟩⟩
        rcases List.mem_append.mp hx with z | z
        · exact hh h (List.mem_cons_of_mem _ z)
        · rw [List.mem_singleton.mp z]; exact hfl
    · obtain ⟨y1, y2, y3, y4, rfl, e1⟩ := hP
      dsimp only
      exact s_ret ev_c fun H2 e2 => q H2 (e1.trans e2)
end
end Hid

namespace Hid
open PySem PySem.Spec PyProof.Rows L2 Evl
theorem df_mk {K : PySem.W.Frag} {h : Heap} {mg : Str → Option Value} (X : K.In h) (G : h.Ns mainGlobals mg) {x : Str} {st : Stmt} {ps : List Str} {f : Addr} {od an : Option Addr} {sl : Array (Option Value)} {oc kV dc pm cd ct : Value}
    (a : PySem.W.nsIn K mainGlobals x = some (some (.ref f))) (l : K.lookup f = some ⟨oc, od, .func (PySem.W.fnOf x x (defArgs st) (defBody st) (defScope st) .none kV dc pm an cd ct), sl⟩) (c : PySem.W.codeIn K cd x = true) (k : PySem.W.keepIn K (.ref f) = true)
    (hb : ∀ (kV doc pm : Value) (an : Option Addr) (cdv ct : Value) (us : List Value), us.length = ps.length → bindArgs (PySem.W.fnOf x x (defArgs st) (defBody st) (defScope st) .none kV doc pm an cdv ct) ⟨us, []⟩ = pure (ps.zip us)) : Df K mg x st ps :=
  ⟨f, _, fun_mk (st := st) l c k, (fun_mk (st := st) l c k).binds hb, PySem.W.mg_of X G a⟩
/-- a def's promise at the very data that stands there -/
theorem at_fd {P : Program} {w : World} {K : PySem.W.Frag} {mg : Str → Option Value} {base : Heap} {CX : CXT} {n : Nat} {ps : List Str} {sp : Sp} {x : Str} {st : Stmt} {f : Addr} {fd fd2 : FuncData} (G : FnOk P w K mg base CX n f fd ps sp) (F : Fun K x x st f fd) (F2 : Fun K x x st f fd2) : FnOk P w K mg base CX n f fd2 ps sp := by
  obtain ⟨oc, od, kV, doc, pm, an, cdv, ct, osl, e1, lk, _⟩ := F.ex
  obtain ⟨oc2, od2, kV2, doc2, pm2, an2, cdv2, ct2, osl2, e2, lk2, _⟩ := F2.ex
  have e := lk.symm.trans lk2
  injection e with e
  injection e with _ _ e _
  injection e with e
  rw [← e]
  exact G
theorem all_mk {l : PySem.W.OpenLaw} {w : World} {K : PySem.W.Frag} {h : Heap} {mg : Str → Option Value} {fa : Addr} {f0 : Addr} {od0 an0 : Option Addr} {sl0 : Array (Option Value)} {oc0 kV0 dc0 pm0 cd0 ct0 : Value} {f1 : Addr} {od1 an1 : Option Addr} {sl1 : Array (Option Value)} {oc1 kV1 dc1 pm1 cd1 ct1 : Value} {f2 : Addr} {od2 an2 : Option Addr} {sl2 : Array (Option Value)} {oc2 kV2 dc2 pm2 cd2 ct2 : Value} {f3 : Addr} {od3 an3 : Option Addr} {sl3 : Array (Option Value)} {oc3 kV3 dc3 pm3 cd3 ct3 : Value} {f4 : Addr} {od4 an4 : Option Addr} {sl4 : Array (Option Value)} {oc4 kV4 dc4 pm4 cd4 ct4 : Value} {f5 : Addr} {od5 an5 : Option Addr} {sl5 : Array (Option Value)} {oc5 kV5 dc5 pm5 cd5 ct5 : Value} {f6 : Addr} {od6 an6 : Option Addr} {sl6 : Array (Option Value)} {oc6 kV6 dc6 pm6 cd6 ct6 : Value} {f7 : Addr} {od7 an7 : Option Addr} {sl7 : Array (Option Value)} {oc7 kV7 dc7 pm7 cd7 ct7 : Value} {f8 : Addr} {od8 an8 : Option Addr} {sl8 : Array (Option Value)} {oc8 kV8 dc8 pm8 cd8 ct8 : Value} {f9 : Addr} {od9 an9 : Option Addr} {sl9 : Array (Option Value)} {oc9 kV9 dc9 pm9 cd9 ct9 : Value} {f10 : Addr} {od10 an10 : Option Addr} {sl10 : Array (Option Value)} {oc10 kV10 dc10 pm10 cd10 ct10 : Value} {f11 : Addr} {od11 an11 : Option Addr} {sl11 : Array (Option Value)} {oc11 kV11 dc11 pm11 cd11 ct11 : Value} {a_PAIRS : Addr} {odP : Option Addr} {slP : Array (Option Value)} {nP : Nat} {tP1 tP2 tP3 tP4 : Tok} (X : K.In h) (G : h.Ns mainGlobals mg) (hfa : mg "law" = some (.ref fa))
    (a0 : PySem.W.nsIn K mainGlobals "pair_at" = some (some (.ref f0))) (l0 : K.lookup f0 = some ⟨oc0, od0, .func (PySem.W.fnOf "pair_at" "pair_at" (defArgs st_pair_at) (defBody st_pair_at) (defScope st_pair_at) .none kV0 dc0 pm0 an0 cd0 ct0), sl0⟩) (c0 : PySem.W.codeIn K cd0 "pair_at" = true) (k0 : PySem.W.keepIn K (.ref f0) = true)
    (a1 : PySem.W.nsIn K mainGlobals "four_at" = some (some (.ref f1))) (l1 : K.lookup f1 = some ⟨oc1, od1, .func (PySem.W.fnOf "four_at" "four_at" (defArgs st_four_at) (defBody st_four_at) (defScope st_four_at) .none kV1 dc1 pm1 an1 cd1 ct1), sl1⟩) (c1 : PySem.W.codeIn K cd1 "four_at" = true) (k1 : PySem.W.keepIn K (.ref f1) = true)
    (a2 : PySem.W.nsIn K mainGlobals "crossing_of" = some (some (.ref f2))) (l2 : K.lookup f2 = some ⟨oc2, od2, .func (PySem.W.fnOf "crossing_of" "crossing_of" (defArgs st_crossing_of) (defBody st_crossing_of) (defScope st_crossing_of) .none kV2 dc2 pm2 an2 cd2 ct2), sl2⟩) (c2 : PySem.W.codeIn K cd2 "crossing_of" = true) (k2 : PySem.W.keepIn K (.ref f2) = true)
    (a3 : PySem.W.nsIn K mainGlobals "_law_cell" = some (some (.ref f3))) (l3 : K.lookup f3 = some ⟨oc3, od3, .func (PySem.W.fnOf "_law_cell" "_law_cell" (defArgs st__law_cell) (defBody st__law_cell) (defScope st__law_cell) .none kV3 dc3 pm3 an3 cd3 ct3), sl3⟩) (c3 : PySem.W.codeIn K cd3 "_law_cell" = true) (k3 : PySem.W.keepIn K (.ref f3) = true)
    (a4 : PySem.W.nsIn K mainGlobals "_law_numbers" = some (some (.ref f4))) (l4 : K.lookup f4 = some ⟨oc4, od4, .func (PySem.W.fnOf "_law_numbers" "_law_numbers" (defArgs st__law_numbers) (defBody st__law_numbers) (defScope st__law_numbers) .none kV4 dc4 pm4 an4 cd4 ct4), sl4⟩) (c4 : PySem.W.codeIn K cd4 "_law_numbers" = true) (k4 : PySem.W.keepIn K (.ref f4) = true)
    (a5 : PySem.W.nsIn K mainGlobals "_law_any_half" = some (some (.ref f5))) (l5 : K.lookup f5 = some ⟨oc5, od5, .func (PySem.W.fnOf "_law_any_half" "_law_any_half" (defArgs st__law_any_half) (defBody st__law_any_half) (defScope st__law_any_half) .none kV5 dc5 pm5 an5 cd5 ct5), sl5⟩) (c5 : PySem.W.codeIn K cd5 "_law_any_half" = true) (k5 : PySem.W.keepIn K (.ref f5) = true)
    (a6 : PySem.W.nsIn K mainGlobals "_law_flipped" = some (some (.ref f6))) (l6 : K.lookup f6 = some ⟨oc6, od6, .func (PySem.W.fnOf "_law_flipped" "_law_flipped" (defArgs st__law_flipped) (defBody st__law_flipped) (defScope st__law_flipped) .none kV6 dc6 pm6 an6 cd6 ct6), sl6⟩) (c6 : PySem.W.codeIn K cd6 "_law_flipped" = true) (k6 : PySem.W.keepIn K (.ref f6) = true)
    (a7 : PySem.W.nsIn K mainGlobals "_law_tree_halves" = some (some (.ref f7))) (l7 : K.lookup f7 = some ⟨oc7, od7, .func (PySem.W.fnOf "_law_tree_halves" "_law_tree_halves" (defArgs st__law_tree_halves) (defBody st__law_tree_halves) (defScope st__law_tree_halves) .none kV7 dc7 pm7 an7 cd7 ct7), sl7⟩) (c7 : PySem.W.codeIn K cd7 "_law_tree_halves" = true) (k7 : PySem.W.keepIn K (.ref f7) = true)
    (a8 : PySem.W.nsIn K mainGlobals "_law_halves" = some (some (.ref f8))) (l8 : K.lookup f8 = some ⟨oc8, od8, .func (PySem.W.fnOf "_law_halves" "_law_halves" (defArgs st__law_halves) (defBody st__law_halves) (defScope st__law_halves) .none kV8 dc8 pm8 an8 cd8 ct8), sl8⟩) (c8 : PySem.W.codeIn K cd8 "_law_halves" = true) (k8 : PySem.W.keepIn K (.ref f8) = true)
    (a9 : PySem.W.nsIn K mainGlobals "_law_crossing" = some (some (.ref f9))) (l9 : K.lookup f9 = some ⟨oc9, od9, .func (PySem.W.fnOf "_law_crossing" "_law_crossing" (defArgs st__law_crossing) (defBody st__law_crossing) (defScope st__law_crossing) .none kV9 dc9 pm9 an9 cd9 ct9), sl9⟩) (c9 : PySem.W.codeIn K cd9 "_law_crossing" = true) (k9 : PySem.W.keepIn K (.ref f9) = true)
    (a10 : PySem.W.nsIn K mainGlobals "_law_right" = some (some (.ref f10))) (l10 : K.lookup f10 = some ⟨oc10, od10, .func (PySem.W.fnOf "_law_right" "_law_right" (defArgs st__law_right) (defBody st__law_right) (defScope st__law_right) .none kV10 dc10 pm10 an10 cd10 ct10), sl10⟩) (c10 : PySem.W.codeIn K cd10 "_law_right" = true) (k10 : PySem.W.keepIn K (.ref f10) = true)
    (a11 : PySem.W.nsIn K mainGlobals "law" = some (some (.ref f11))) (l11 : K.lookup f11 = some ⟨oc11, od11, .func (PySem.W.fnOf "law" "law" (defArgs st_law) (defBody st_law) (defScope st_law) .none kV11 dc11 pm11 an11 cd11 ct11), sl11⟩) (c11 : PySem.W.codeIn K cd11 "law" = true) (k11 : PySem.W.keepIn K (.ref f11) = true)
    (z_len : PySem.W.nsIn K mainGlobals "len" = some none)
    (z_tuple : PySem.W.nsIn K mainGlobals "tuple" = some none)
    (z_sorted : PySem.W.nsIn K mainGlobals "sorted" = some none)
    (z_set : PySem.W.nsIn K mainGlobals "set" = some none)
    (z_range : PySem.W.nsIn K mainGlobals "range" = some none)
    (z_abs : PySem.W.nsIn K mainGlobals "abs" = some none)
    (z_int : PySem.W.nsIn K mainGlobals "int" = some none)
    (z_isinstance : PySem.W.nsIn K mainGlobals "isinstance" = some none)
    (y_PAIRS : PySem.W.nsIn K mainGlobals "PAIRS" = some (some (.ref a_PAIRS)))
    (p_PAIRS : K.lookup a_PAIRS = some ⟨.type "tuple", odP, .seq #[.str "nn" tP1, .str "ny" tP2, .str "yn" tP3, .str "yy" tP4] nP, slP⟩) :
    ∃ fd : FuncData, (∀ (s : Shared) (v : Value), BindsTo s fd ⟨[v], []⟩ [("_law_script", v)]) ∧ ∀ base : Heap, K.In base → base.Ns mainGlobals mg → FnOk l.prog w K mg base CX0 5 fa fd ["_law_script"] (sp_law K) := by
  have m_len := PySem.W.mg_none_of X G z_len
  have m_tuple := PySem.W.mg_none_of X G z_tuple
  have m_sorted := PySem.W.mg_none_of X G z_sorted
  have m_set := PySem.W.mg_none_of X G z_set
  have m_range := PySem.W.mg_none_of X G z_range
  have m_abs := PySem.W.mg_none_of X G z_abs
  have m_int := PySem.W.mg_none_of X G z_int
  have m_isinstance := PySem.W.mg_none_of X G z_isinstance
  have c_PAIRS := PySem.W.mg_of X G y_PAIRS
  have D_pair_at : Df K mg "pair_at" st_pair_at ["half", "first", "second"] := df_mk X G a0 l0 c0 k0 (fun _ _ _ _ _ _ us hl => match us, hl with | [_, _, _], _ => rfl)
  have D_four_at : Df K mg "four_at" st_four_at ["rising", "first", "second"] := df_mk X G a1 l1 c1 k1 (fun _ _ _ _ _ _ us hl => match us, hl with | [_, _, _], _ => rfl)
  have D_crossing_of : Df K mg "crossing_of" st_crossing_of ["halves"] := df_mk X G a2 l2 c2 k2 (fun _ _ _ _ _ _ us hl => match us, hl with | [_], _ => rfl)
  have D__law_cell : Df K mg "_law_cell" st__law_cell ["_law_script", "_law_k"] := df_mk X G a3 l3 c3 k3 (fun _ _ _ _ _ _ us hl => match us, hl with | [_, _], _ => rfl)
  have D__law_numbers : Df K mg "_law_numbers" st__law_numbers ["_law_cell_here", "_law_many"] := df_mk X G a4 l4 c4 k4 (fun _ _ _ _ _ _ us hl => match us, hl with | [_, _], _ => rfl)
  have D__law_any_half : Df K mg "_law_any_half" st__law_any_half ["_law_x", "_law_places"] := df_mk X G a5 l5 c5 k5 (fun _ _ _ _ _ _ us hl => match us, hl with | [_, _], _ => rfl)
  have D__law_flipped : Df K mg "_law_flipped" st__law_flipped ["_law_half", "_law_place"] := df_mk X G a6 l6 c6 k6 (fun _ _ _ _ _ _ us hl => match us, hl with | [_, _], _ => rfl)
  have D__law_tree_halves : Df K mg "_law_tree_halves" st__law_tree_halves ["_law_xs", "_law_places"] := df_mk X G a7 l7 c7 k7 (fun _ _ _ _ _ _ us hl => match us, hl with | [_, _], _ => rfl)
  have D__law_halves : Df K mg "_law_halves" st__law_halves ["_law_script", "_law_at"] := df_mk X G a8 l8 c8 k8 (fun _ _ _ _ _ _ us hl => match us, hl with | [_, _], _ => rfl)
  have D__law_crossing : Df K mg "_law_crossing" st__law_crossing ["_law_halves_here"] := df_mk X G a9 l9 c9 k9 (fun _ _ _ _ _ _ us hl => match us, hl with | [_], _ => rfl)
  have D__law_right : Df K mg "_law_right" st__law_right ["_law_halves_here"] := df_mk X G a10 l10 c10 k10 (fun _ _ _ _ _ _ us hl => match us, hl with | [_], _ => rfl)
  have D_law : Df K mg "law" st_law ["_law_script"] := df_mk X G a11 l11 c11 k11 (fun _ _ _ _ _ _ us hl => match us, hl with | [_], _ => rfl)
  have e := hfa.symm.trans (PySem.W.mg_of X G a11)
  cases e
  refine ⟨PySem.W.fnOf "law" "law" (defArgs st_law) (defBody st_law) (defScope st_law) .none kV11 dc11 pm11 an11 cd11 ct11, fun s v => .of_eq rfl, fun base _ _ => ?_⟩
  have A__law_numbers := ok__law_numbers (P := l.prog) (w := w) (base := base) D__law_numbers m_abs m_range m_int
  have A__law_cell := ok__law_cell (P := l.prog) (w := w) (base := base) D__law_cell m_len
  have A__law_any_half := ok__law_any_half (P := l.prog) (w := w) (base := base) D__law_any_half m_range
  have A__law_flipped := ok__law_flipped (P := l.prog) (w := w) (base := base) D__law_flipped
  have A__law_tree_halves := ok__law_tree_halves (P := l.prog) (w := w) (base := base) D__law_tree_halves m_range m_len A__law_any_half A__law_flipped
  have A__law_halves := ok__law_halves (P := l.prog) (w := w) (base := base) D__law_halves m_tuple m_len A__law_numbers A__law_cell A__law_any_half A__law_tree_halves
  have A__law_crossing := ok__law_crossing (P := l.prog) (w := w) (base := base) D__law_crossing m_sorted m_range m_len m_tuple
  have A_pair_at := ok_pair_at (P := l.prog) (w := w) (base := base) D_pair_at
  have A_four_at := ok_four_at (P := l.prog) (w := w) (base := base) D_four_at m_len m_tuple c_PAIRS p_PAIRS A_pair_at
  have A_crossing_of := ok_crossing_of (P := l.prog) (w := w) (base := base) D_crossing_of m_sorted m_set m_len m_range A_four_at
  have A__law_right := ok__law_right (P := l.prog) (w := w) (base := base) D__law_right m_len m_isinstance m_tuple A__law_crossing A_crossing_of
  have A_law := ok_law (P := l.prog) (w := w) (base := base) D_law m_range m_len A__law_halves A__law_right A__law_numbers A__law_cell A__law_flipped
  obtain ⟨f9, fd9, F9, b9, g9, G9⟩ := A_law
  have e9 := g9.symm.trans hfa
  cases e9
  exact at_fd G9 F9 (fun_mk (st := st_law) l11 c11 k11)
end Hid
open PySem PySem.W PyProof.Rows
set_option maxHeartbeats 0 in
theorem PySem.Challenge.cw_hidhalves_k11_crossings_told_holds : PySem.Challenge.rw_hidhalves_k11_crossings_told.Holds := by
  w_on; o_law; k_head; (case hw => w_witness2)
  k_fill
  refine L2.walk_of (l := PySem.Challenge.rw_hidhalves_k11_crossings_told) (n := 63) (k := 5) (x := "_law_script") (CX := fun _ => L2.CX0) (sp := fun w => Hid.sp_law _) rfl (by decide) rfl ⟨rfl, by decide, by decide⟩ (fun w h Y => PySem.W.kIn_of Y) ?F (fun _ _ a ns hl _ hS => ⟨a, ns, rfl, hS, hl, fun _ _ => rfl⟩) (fun _ _ _ _ _ h => h)
  case F =>
    intro w mg fa h KX G hmg
    refine' Hid.all_mk KX G hmg ?a0 ?l0 ?c0 ?k0 ?a1 ?l1 ?c1 ?k1 ?a2 ?l2 ?c2 ?k2 ?a3 ?l3 ?c3 ?k3 ?a4 ?l4 ?c4 ?k4 ?a5 ?l5 ?c5 ?k5 ?a6 ?l6 ?c6 ?k6 ?a7 ?l7 ?c7 ?k7 ?a8 ?l8 ?c8 ?k8 ?a9 ?l9 ?c9 ?k9 ?a10 ?l10 ?c10 ?k10 ?a11 ?l11 ?c11 ?k11 ?z_len ?z_tuple ?z_sorted ?z_set ?z_range ?z_abs ?z_int ?z_isinstance ?y_PAIRS ?p_PAIRS
    (case a0 => k_is)
    (case l0 => k_is)
    (case c0 => k_is)
    (case k0 => k_is)
    (case a1 => k_is)
    (case l1 => k_is)
    (case c1 => k_is)
    (case k1 => k_is)
    (case a2 => k_is)
    (case l2 => k_is)
    (case c2 => k_is)
    (case k2 => k_is)
    (case a3 => k_is)
    (case l3 => k_is)
    (case c3 => k_is)
    (case k3 => k_is)
    (case a4 => k_is)
    (case l4 => k_is)
    (case c4 => k_is)
    (case k4 => k_is)
    (case a5 => k_is)
    (case l5 => k_is)
    (case c5 => k_is)
    (case k5 => k_is)
    (case a6 => k_is)
    (case l6 => k_is)
    (case c6 => k_is)
    (case k6 => k_is)
    (case a7 => k_is)
    (case l7 => k_is)
    (case c7 => k_is)
    (case k7 => k_is)
    (case a8 => k_is)
    (case l8 => k_is)
    (case c8 => k_is)
    (case k8 => k_is)
    (case a9 => k_is)
    (case l9 => k_is)
    (case c9 => k_is)
    (case k9 => k_is)
    (case a10 => k_is)
    (case l10 => k_is)
    (case c10 => k_is)
    (case k10 => k_is)
    (case a11 => k_is)
    (case l11 => k_is)
    (case c11 => k_is)
    (case k11 => k_is)
    (case z_len => k_is)
    (case z_tuple => k_is)
    (case z_sorted => k_is)
    (case z_set => k_is)
    (case z_range => k_is)
    (case z_abs => k_is)
    (case z_int => k_is)
    (case z_isinstance => k_is)
    (case y_PAIRS => k_is)
    (case p_PAIRS => k_is)
