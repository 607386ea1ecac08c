/- keyword, over what reads on from IN and from LIKE. -/
import Derived.Test.YtfkcaldjphakpaaGreatDoorQRd13
namespace Go.Proofs.YtfkcaldjphakpaaGreatDoor
open Go.RowKit

/-- Function number K reads on behind a term, from a token of the kind k on. -/
def Tails (K : Nat) (rb : Nat) (s : ByteArray) (op : Nat) (k : Int) (g : Ast → St → Res) : Prop :=
  ∀ (w : World) (st : St) (l : Ast) (lv : Value), Ready rb s w st → st.op = op → IsNode rb w lv l → st.tk.kind = k → Calls Tryz.prog K #[.pointer (some ⟨rb, 0, none⟩), lv] w (Gives rb s w op st.place (g l st))

def keywordRes (s : ByteArray) (f : St → Res) (gI gL : Ast → St → Res) (bare : Bool) (l : Ast) (st : St) : Res :=
  if st.tk.kind = 11 ∧ bare = true then gI l st else if st.tk.kind = 12 ∧ bare = true then gL l st else betweenRes s f l st

set_option maxHeartbeats 1000000 in
theorem keyword_any (rb : Nat) (s : ByteArray) (op : Nat) (f : St → Res) (gI gL : Ast → St → Res) (hf : Reads 241 rb s op f) (hI : Tails 268 rb s op 11 gI) (hL : Tails 269 rb s op 12 gL)
    (bare : Bool) (w : World) (st : St) (l : Ast) (lv : Value) (h : Ready rb s w st) (ho : st.op = op) (hl : IsNode rb w lv l) :
    Calls Tryz.prog 243 #[.pointer (some ⟨rb, 0, none⟩), lv, .bool bare] w (Gives rb s w op st.place (keywordRes s f gI gL bare l st)) := by
  obtain ⟨c0, c1, c2, c3, c4, c5, c6, fz⟩ := h.at'
  have BET := hide (between_any rb s op f hf l lv w st h ho hl)
  have INN : Hid (st.tk.kind = 11 → Calls Tryz.prog 268 #[.pointer (some ⟨rb, 0, none⟩), lv] w (Gives rb s w op st.place (gI l st))) := hide fun hk => hI w st l lv h ho hl hk
  have LIK : Hid (st.tk.kind = 12 → Calls Tryz.prog 269 #[.pointer (some ⟨rb, 0, none⟩), lv] w (Gives rb s w op st.place (gL l st))) := hide fun hk => hL w st l lv h ho hl hk
  clear h hl hf hI hL
  by_cases h11 : st.tk.kind = 11
  · have e11 : (st.tk.kind == 11) = true := by rw [h11]; rfl
    have e12 : (st.tk.kind == 12) = false := by rw [h11]; rfl
    have HK := hide h11
    cases bare with
    | false =>
      rw [keywordRes, if_neg (by simp), if_neg (by simp)]
      clear h11
      go_enter Tryz.func243, Tryz.ntmps243
      go_wp2_with (go_at_call 270; refine (unhide BET).mono ?_; rintro e w' hg; rcases hg.cases with ⟨v, rfl, hg⟩ | ⟨en, pl, rfl, hg⟩; rotate_left; (exact ⟨rfl, hg⟩); have HG := hide hg; clear hg)
      go_ret
      exact unhide HG
    | true =>
      rw [keywordRes, if_pos ⟨h11, rfl⟩]
      clear h11
      go_enter Tryz.func243, Tryz.ntmps243
      go_wp2_with (go_at_call 268; refine (unhide INN (unhide HK)).mono ?_; rintro e w' hg; rcases hg.cases with ⟨v, rfl, hg⟩ | ⟨en, pl, rfl, hg⟩; rotate_left; (exact ⟨rfl, hg⟩); have HG := hide hg; clear hg)
      go_ret
      exact unhide HG
  · have e11 : (st.tk.kind == 11) = false := beq_eq_false_iff_ne.2 h11
    by_cases h12 : st.tk.kind = 12
    · have e12 : (st.tk.kind == 12) = true := by rw [h12]; rfl
      have HK := hide h12
      cases bare with
      | false =>
        rw [keywordRes, if_neg (by simp), if_neg (by simp)]
        clear h11 h12
        go_enter Tryz.func243, Tryz.ntmps243
        go_wp2_with (go_at_call 270; refine (unhide BET).mono ?_; rintro e w' hg; rcases hg.cases with ⟨v, rfl, hg⟩ | ⟨en, pl, rfl, hg⟩; rotate_left; (exact ⟨rfl, hg⟩); have HG := hide hg; clear hg)
        go_ret
        exact unhide HG
      | true =>
        rw [keywordRes, if_neg (fun h => h11 h.1), if_pos ⟨h12, rfl⟩]
        clear h11 h12
        go_enter Tryz.func243, Tryz.ntmps243
        go_wp2_with (go_at_call 269; refine (unhide LIK (unhide HK)).mono ?_; rintro e w' hg; rcases hg.cases with ⟨v, rfl, hg⟩ | ⟨en, pl, rfl, hg⟩; rotate_left; (exact ⟨rfl, hg⟩); have HG := hide hg; clear hg)
        go_ret
        exact unhide HG
    · have e12 : (st.tk.kind == 12) = false := beq_eq_false_iff_ne.2 h12
      rw [keywordRes, if_neg (fun h => h11 h.1), if_neg (fun h => h12 h.1)]
      clear h11 h12
      cases bare with
      | false =>
        go_enter Tryz.func243, Tryz.ntmps243
        go_wp2_with (go_at_call 270; refine (unhide BET).mono ?_; rintro e w' hg; rcases hg.cases with ⟨v, rfl, hg⟩ | ⟨en, pl, rfl, hg⟩; rotate_left; (exact ⟨rfl, hg⟩); have HG := hide hg; clear hg)
        go_ret
        exact unhide HG
      | true =>
        go_enter Tryz.func243, Tryz.ntmps243
        go_wp2_with (go_at_call 270; refine (unhide BET).mono ?_; rintro e w' hg; rcases hg.cases with ⟨v, rfl, hg⟩ | ⟨en, pl, rfl, hg⟩; rotate_left; (exact ⟨rfl, hg⟩); have HG := hide hg; clear hg)
        go_ret
        exact unhide HG

end Go.Proofs.YtfkcaldjphakpaaGreatDoor
