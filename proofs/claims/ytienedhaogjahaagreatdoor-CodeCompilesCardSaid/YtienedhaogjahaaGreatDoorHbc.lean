/- The document's ops and terms are compared. The document's side: whether a term's fields may be. The document's side: whether a term's fields may be. The document's side: whether an op may be. An op may be by the program where it may be by the document. -/
import Derived.Test.YtienedhaogjahaaGreatDoorHbb
namespace Go.Proofs.YtienedhaogjahaaGreatDoor
open Go.RowKit

theorem od_h1 : Tryz.prog.stoodInHeld 66 = false := by kernel_rfl
theorem od_h2 : Tryz.prog.underlying 66 = some (.struct (Tryz.prog.fieldsOf 66)) := by kernel_rfl
theorem od_hf : (Tryz.prog.fieldsOf 66).toList = [(Tryz.prog.fieldsOf 66)[0]!, (Tryz.prog.fieldsOf 66)[1]!, (Tryz.prog.fieldsOf 66)[2]!, (Tryz.prog.fieldsOf 66)[3]!, (Tryz.prog.fieldsOf 66)[4]!, (Tryz.prog.fieldsOf 66)[5]!, (Tryz.prog.fieldsOf 66)[6]!, (Tryz.prog.fieldsOf 66)[7]!, (Tryz.prog.fieldsOf 66)[8]!] := by kernel_rfl
theorem od_n0 : ((Tryz.prog.fieldsOf 66)[0]!.name != "_") = true := by kernel_rfl
theorem od_t0 : (Tryz.prog.fieldsOf 66)[0]!.type = 3 := by kernel_rfl
theorem od_p0 (p0 : Int) (p1 : Int) (p2 : Int) (p3 : Int) (p4 : Int) (p5 : Int) (p6 : Int) (p7 : Int) (p8 : Int) (w : World) : (part (Tryz.prog.fieldsOf 66)[0]!.type #[.int .i64 p0, .int .u64 p1, .int .u64 p2, .int .i64 p3, .int .i64 p4, .int .i64 p5, .int .i64 p6, .int .i64 p7, .int .i64 p8] (Tryz.prog.fieldsOf 66)[0]!.offset).run Tryz.prog w = .ok (.int .i64 p0) w := by kernel_rfl
theorem od_e0 (a b : Int) (w : World) : (Op.equalIn 9999 (Tryz.prog.fieldsOf 66)[0]!.type (.int .i64 a) (.int .i64 b)).run Tryz.prog w = .ok (a == b) w := by
  rw [show (9999 : Nat) = 9998 + 1 from rfl, od_t0, run_equalIn_int w 9998 3 .i64 .i64 a b (by kernel_rfl)]
theorem od_n1 : ((Tryz.prog.fieldsOf 66)[1]!.name != "_") = true := by kernel_rfl
theorem od_t1 : (Tryz.prog.fieldsOf 66)[1]!.type = 61 := by kernel_rfl
theorem od_p1 (p0 : Int) (p1 : Int) (p2 : Int) (p3 : Int) (p4 : Int) (p5 : Int) (p6 : Int) (p7 : Int) (p8 : Int) (w : World) : (part (Tryz.prog.fieldsOf 66)[1]!.type #[.int .i64 p0, .int .u64 p1, .int .u64 p2, .int .i64 p3, .int .i64 p4, .int .i64 p5, .int .i64 p6, .int .i64 p7, .int .i64 p8] (Tryz.prog.fieldsOf 66)[1]!.offset).run Tryz.prog w = .ok (.int .u64 p1) w := by kernel_rfl
theorem od_e1 (a b : Int) (w : World) : (Op.equalIn 9999 (Tryz.prog.fieldsOf 66)[1]!.type (.int .u64 a) (.int .u64 b)).run Tryz.prog w = .ok (a == b) w := by
  rw [show (9999 : Nat) = 9998 + 1 from rfl, od_t1, run_equalIn_int w 9998 61 .u64 .u64 a b (by kernel_rfl)]
theorem od_n2 : ((Tryz.prog.fieldsOf 66)[2]!.name != "_") = true := by kernel_rfl
theorem od_t2 : (Tryz.prog.fieldsOf 66)[2]!.type = 61 := by kernel_rfl
theorem od_p2 (p0 : Int) (p1 : Int) (p2 : Int) (p3 : Int) (p4 : Int) (p5 : Int) (p6 : Int) (p7 : Int) (p8 : Int) (w : World) : (part (Tryz.prog.fieldsOf 66)[2]!.type #[.int .i64 p0, .int .u64 p1, .int .u64 p2, .int .i64 p3, .int .i64 p4, .int .i64 p5, .int .i64 p6, .int .i64 p7, .int .i64 p8] (Tryz.prog.fieldsOf 66)[2]!.offset).run Tryz.prog w = .ok (.int .u64 p2) w := by kernel_rfl
theorem od_e2 (a b : Int) (w : World) : (Op.equalIn 9999 (Tryz.prog.fieldsOf 66)[2]!.type (.int .u64 a) (.int .u64 b)).run Tryz.prog w = .ok (a == b) w := by
  rw [show (9999 : Nat) = 9998 + 1 from rfl, od_t2, run_equalIn_int w 9998 61 .u64 .u64 a b (by kernel_rfl)]
theorem od_n3 : ((Tryz.prog.fieldsOf 66)[3]!.name != "_") = true := by kernel_rfl
theorem od_t3 : (Tryz.prog.fieldsOf 66)[3]!.type = 3 := by kernel_rfl
theorem od_p3 (p0 : Int) (p1 : Int) (p2 : Int) (p3 : Int) (p4 : Int) (p5 : Int) (p6 : Int) (p7 : Int) (p8 : Int) (w : World) : (part (Tryz.prog.fieldsOf 66)[3]!.type #[.int .i64 p0, .int .u64 p1, .int .u64 p2, .int .i64 p3, .int .i64 p4, .int .i64 p5, .int .i64 p6, .int .i64 p7, .int .i64 p8] (Tryz.prog.fieldsOf 66)[3]!.offset).run Tryz.prog w = .ok (.int .i64 p3) w := by kernel_rfl
theorem od_e3 (a b : Int) (w : World) : (Op.equalIn 9999 (Tryz.prog.fieldsOf 66)[3]!.type (.int .i64 a) (.int .i64 b)).run Tryz.prog w = .ok (a == b) w := by
  rw [show (9999 : Nat) = 9998 + 1 from rfl, od_t3, run_equalIn_int w 9998 3 .i64 .i64 a b (by kernel_rfl)]
theorem od_n4 : ((Tryz.prog.fieldsOf 66)[4]!.name != "_") = true := by kernel_rfl
theorem od_t4 : (Tryz.prog.fieldsOf 66)[4]!.type = 3 := by kernel_rfl
theorem od_p4 (p0 : Int) (p1 : Int) (p2 : Int) (p3 : Int) (p4 : Int) (p5 : Int) (p6 : Int) (p7 : Int) (p8 : Int) (w : World) : (part (Tryz.prog.fieldsOf 66)[4]!.type #[.int .i64 p0, .int .u64 p1, .int .u64 p2, .int .i64 p3, .int .i64 p4, .int .i64 p5, .int .i64 p6, .int .i64 p7, .int .i64 p8] (Tryz.prog.fieldsOf 66)[4]!.offset).run Tryz.prog w = .ok (.int .i64 p4) w := by kernel_rfl
theorem od_e4 (a b : Int) (w : World) : (Op.equalIn 9999 (Tryz.prog.fieldsOf 66)[4]!.type (.int .i64 a) (.int .i64 b)).run Tryz.prog w = .ok (a == b) w := by
  rw [show (9999 : Nat) = 9998 + 1 from rfl, od_t4, run_equalIn_int w 9998 3 .i64 .i64 a b (by kernel_rfl)]
theorem od_n5 : ((Tryz.prog.fieldsOf 66)[5]!.name != "_") = true := by kernel_rfl
theorem od_t5 : (Tryz.prog.fieldsOf 66)[5]!.type = 3 := by kernel_rfl
theorem od_p5 (p0 : Int) (p1 : Int) (p2 : Int) (p3 : Int) (p4 : Int) (p5 : Int) (p6 : Int) (p7 : Int) (p8 : Int) (w : World) : (part (Tryz.prog.fieldsOf 66)[5]!.type #[.int .i64 p0, .int .u64 p1, .int .u64 p2, .int .i64 p3, .int .i64 p4, .int .i64 p5, .int .i64 p6, .int .i64 p7, .int .i64 p8] (Tryz.prog.fieldsOf 66)[5]!.offset).run Tryz.prog w = .ok (.int .i64 p5) w := by kernel_rfl
theorem od_e5 (a b : Int) (w : World) : (Op.equalIn 9999 (Tryz.prog.fieldsOf 66)[5]!.type (.int .i64 a) (.int .i64 b)).run Tryz.prog w = .ok (a == b) w := by
  rw [show (9999 : Nat) = 9998 + 1 from rfl, od_t5, run_equalIn_int w 9998 3 .i64 .i64 a b (by kernel_rfl)]
theorem od_n6 : ((Tryz.prog.fieldsOf 66)[6]!.name != "_") = true := by kernel_rfl
theorem od_t6 : (Tryz.prog.fieldsOf 66)[6]!.type = 3 := by kernel_rfl
theorem od_p6 (p0 : Int) (p1 : Int) (p2 : Int) (p3 : Int) (p4 : Int) (p5 : Int) (p6 : Int) (p7 : Int) (p8 : Int) (w : World) : (part (Tryz.prog.fieldsOf 66)[6]!.type #[.int .i64 p0, .int .u64 p1, .int .u64 p2, .int .i64 p3, .int .i64 p4, .int .i64 p5, .int .i64 p6, .int .i64 p7, .int .i64 p8] (Tryz.prog.fieldsOf 66)[6]!.offset).run Tryz.prog w = .ok (.int .i64 p6) w := by kernel_rfl
theorem od_e6 (a b : Int) (w : World) : (Op.equalIn 9999 (Tryz.prog.fieldsOf 66)[6]!.type (.int .i64 a) (.int .i64 b)).run Tryz.prog w = .ok (a == b) w := by
  rw [show (9999 : Nat) = 9998 + 1 from rfl, od_t6, run_equalIn_int w 9998 3 .i64 .i64 a b (by kernel_rfl)]
theorem od_n7 : ((Tryz.prog.fieldsOf 66)[7]!.name != "_") = true := by kernel_rfl
theorem od_t7 : (Tryz.prog.fieldsOf 66)[7]!.type = 3 := by kernel_rfl
theorem od_p7 (p0 : Int) (p1 : Int) (p2 : Int) (p3 : Int) (p4 : Int) (p5 : Int) (p6 : Int) (p7 : Int) (p8 : Int) (w : World) : (part (Tryz.prog.fieldsOf 66)[7]!.type #[.int .i64 p0, .int .u64 p1, .int .u64 p2, .int .i64 p3, .int .i64 p4, .int .i64 p5, .int .i64 p6, .int .i64 p7, .int .i64 p8] (Tryz.prog.fieldsOf 66)[7]!.offset).run Tryz.prog w = .ok (.int .i64 p7) w := by kernel_rfl
theorem od_e7 (a b : Int) (w : World) : (Op.equalIn 9999 (Tryz.prog.fieldsOf 66)[7]!.type (.int .i64 a) (.int .i64 b)).run Tryz.prog w = .ok (a == b) w := by
  rw [show (9999 : Nat) = 9998 + 1 from rfl, od_t7, run_equalIn_int w 9998 3 .i64 .i64 a b (by kernel_rfl)]
theorem od_n8 : ((Tryz.prog.fieldsOf 66)[8]!.name != "_") = true := by kernel_rfl
theorem od_t8 : (Tryz.prog.fieldsOf 66)[8]!.type = 3 := by kernel_rfl
theorem od_p8 (p0 : Int) (p1 : Int) (p2 : Int) (p3 : Int) (p4 : Int) (p5 : Int) (p6 : Int) (p7 : Int) (p8 : Int) (w : World) : (part (Tryz.prog.fieldsOf 66)[8]!.type #[.int .i64 p0, .int .u64 p1, .int .u64 p2, .int .i64 p3, .int .i64 p4, .int .i64 p5, .int .i64 p6, .int .i64 p7, .int .i64 p8] (Tryz.prog.fieldsOf 66)[8]!.offset).run Tryz.prog w = .ok (.int .i64 p8) w := by kernel_rfl
theorem od_e8 (a b : Int) (w : World) : (Op.equalIn 9999 (Tryz.prog.fieldsOf 66)[8]!.type (.int .i64 a) (.int .i64 b)).run Tryz.prog w = .ok (a == b) w := by
  rw [show (9999 : Nat) = 9998 + 1 from rfl, od_t8, run_equalIn_int w 9998 3 .i64 .i64 a b (by kernel_rfl)]
theorem od_eql (p0 : Int) (p1 : Int) (p2 : Int) (p3 : Int) (p4 : Int) (p5 : Int) (p6 : Int) (p7 : Int) (p8 : Int) (q0 : Int) (q1 : Int) (q2 : Int) (q3 : Int) (q4 : Int) (q5 : Int) (q6 : Int) (q7 : Int) (q8 : Int) (w : World) : (binOp .eql 66 (.agg #[.int .i64 p0, .int .u64 p1, .int .u64 p2, .int .i64 p3, .int .i64 p4, .int .i64 p5, .int .i64 p6, .int .i64 p7, .int .i64 p8]) (.agg #[.int .i64 q0, .int .u64 q1, .int .u64 q2, .int .i64 q3, .int .i64 q4, .int .i64 q5, .int .i64 q6, .int .i64 q7, .int .i64 q8])).run Tryz.prog w = .ok (.bool ((p0 == q0) && ((p1 == q1) && ((p2 == q2) && ((p3 == q3) && ((p4 == q4) && ((p5 == q5) && ((p6 == q6) && ((p7 == q7) && ((p8 == q8) && true)))))))))) w := by
  rw [run_eql_struct, show (10000 : Nat) = 9999 + 1 from rfl, run_equalIn_agg w 9999 66 _ _ od_h2 od_h1, od_hf, (eqf_cons od_n0 (od_p0 p0 p1 p2 p3 p4 p5 p6 p7 p8 w) (od_p0 q0 q1 q2 q3 q4 q5 q6 q7 q8 w) (od_e0 p0 q0 w) (eqf_cons od_n1 (od_p1 p0 p1 p2 p3 p4 p5 p6 p7 p8 w) (od_p1 q0 q1 q2 q3 q4 q5 q6 q7 q8 w) (od_e1 p1 q1 w) (eqf_cons od_n2 (od_p2 p0 p1 p2 p3 p4 p5 p6 p7 p8 w) (od_p2 q0 q1 q2 q3 q4 q5 q6 q7 q8 w) (od_e2 p2 q2 w) (eqf_cons od_n3 (od_p3 p0 p1 p2 p3 p4 p5 p6 p7 p8 w) (od_p3 q0 q1 q2 q3 q4 q5 q6 q7 q8 w) (od_e3 p3 q3 w) (eqf_cons od_n4 (od_p4 p0 p1 p2 p3 p4 p5 p6 p7 p8 w) (od_p4 q0 q1 q2 q3 q4 q5 q6 q7 q8 w) (od_e4 p4 q4 w) (eqf_cons od_n5 (od_p5 p0 p1 p2 p3 p4 p5 p6 p7 p8 w) (od_p5 q0 q1 q2 q3 q4 q5 q6 q7 q8 w) (od_e5 p5 q5 w) (eqf_cons od_n6 (od_p6 p0 p1 p2 p3 p4 p5 p6 p7 p8 w) (od_p6 q0 q1 q2 q3 q4 q5 q6 q7 q8 w) (od_e6 p6 q6 w) (eqf_cons od_n7 (od_p7 p0 p1 p2 p3 p4 p5 p6 p7 p8 w) (od_p7 q0 q1 q2 q3 q4 q5 q6 q7 q8 w) (od_e7 p7 q7 w) (eqf_cons od_n8 (od_p8 p0 p1 p2 p3 p4 p5 p6 p7 p8 w) (od_p8 q0 q1 q2 q3 q4 q5 q6 q7 q8 w) (od_e8 p8 q8 w) eqf_nil)))))))))]
  rfl
theorem td_h1 : Tryz.prog.stoodInHeld 64 = false := by kernel_rfl
theorem td_h2 : Tryz.prog.underlying 64 = some (.struct (Tryz.prog.fieldsOf 64)) := by kernel_rfl
theorem td_hf : (Tryz.prog.fieldsOf 64).toList = [(Tryz.prog.fieldsOf 64)[0]!, (Tryz.prog.fieldsOf 64)[1]!, (Tryz.prog.fieldsOf 64)[2]!, (Tryz.prog.fieldsOf 64)[3]!, (Tryz.prog.fieldsOf 64)[4]!, (Tryz.prog.fieldsOf 64)[5]!, (Tryz.prog.fieldsOf 64)[6]!, (Tryz.prog.fieldsOf 64)[7]!, (Tryz.prog.fieldsOf 64)[8]!, (Tryz.prog.fieldsOf 64)[9]!, (Tryz.prog.fieldsOf 64)[10]!] := by kernel_rfl
theorem td_n0 : ((Tryz.prog.fieldsOf 64)[0]!.name != "_") = true := by kernel_rfl
theorem td_t0 : (Tryz.prog.fieldsOf 64)[0]!.type = 3 := by kernel_rfl
theorem td_p0 (p0 : Int) (p1 : Int) (p2 : Int) (p3 : Int) (p4 : Int) (p5 : Int) (p6 : Int) (p7 : Int) (p8 : Int) (p9 : Int) (p10 : Int) (w : World) : (part (Tryz.prog.fieldsOf 64)[0]!.type #[.int .i64 p0, .int .i64 p1, .int .i64 p2, .int .u64 p3, .int .u64 p4, .int .i64 p5, .int .i64 p6, .int .i64 p7, .int .i64 p8, .int .i64 p9, .int .i64 p10] (Tryz.prog.fieldsOf 64)[0]!.offset).run Tryz.prog w = .ok (.int .i64 p0) w := by kernel_rfl
theorem td_e0 (a b : Int) (w : World) : (Op.equalIn 9999 (Tryz.prog.fieldsOf 64)[0]!.type (.int .i64 a) (.int .i64 b)).run Tryz.prog w = .ok (a == b) w := by
  rw [show (9999 : Nat) = 9998 + 1 from rfl, td_t0, run_equalIn_int w 9998 3 .i64 .i64 a b (by kernel_rfl)]
theorem td_n1 : ((Tryz.prog.fieldsOf 64)[1]!.name != "_") = true := by kernel_rfl
theorem td_t1 : (Tryz.prog.fieldsOf 64)[1]!.type = 3 := by kernel_rfl
theorem td_p1 (p0 : Int) (p1 : Int) (p2 : Int) (p3 : Int) (p4 : Int) (p5 : Int) (p6 : Int) (p7 : Int) (p8 : Int) (p9 : Int) (p10 : Int) (w : World) : (part (Tryz.prog.fieldsOf 64)[1]!.type #[.int .i64 p0, .int .i64 p1, .int .i64 p2, .int .u64 p3, .int .u64 p4, .int .i64 p5, .int .i64 p6, .int .i64 p7, .int .i64 p8, .int .i64 p9, .int .i64 p10] (Tryz.prog.fieldsOf 64)[1]!.offset).run Tryz.prog w = .ok (.int .i64 p1) w := by kernel_rfl
theorem td_e1 (a b : Int) (w : World) : (Op.equalIn 9999 (Tryz.prog.fieldsOf 64)[1]!.type (.int .i64 a) (.int .i64 b)).run Tryz.prog w = .ok (a == b) w := by
  rw [show (9999 : Nat) = 9998 + 1 from rfl, td_t1, run_equalIn_int w 9998 3 .i64 .i64 a b (by kernel_rfl)]
theorem td_n2 : ((Tryz.prog.fieldsOf 64)[2]!.name != "_") = true := by kernel_rfl
theorem td_t2 : (Tryz.prog.fieldsOf 64)[2]!.type = 3 := by kernel_rfl
theorem td_p2 (p0 : Int) (p1 : Int) (p2 : Int) (p3 : Int) (p4 : Int) (p5 : Int) (p6 : Int) (p7 : Int) (p8 : Int) (p9 : Int) (p10 : Int) (w : World) : (part (Tryz.prog.fieldsOf 64)[2]!.type #[.int .i64 p0, .int .i64 p1, .int .i64 p2, .int .u64 p3, .int .u64 p4, .int .i64 p5, .int .i64 p6, .int .i64 p7, .int .i64 p8, .int .i64 p9, .int .i64 p10] (Tryz.prog.fieldsOf 64)[2]!.offset).run Tryz.prog w = .ok (.int .i64 p2) w := by kernel_rfl
theorem td_e2 (a b : Int) (w : World) : (Op.equalIn 9999 (Tryz.prog.fieldsOf 64)[2]!.type (.int .i64 a) (.int .i64 b)).run Tryz.prog w = .ok (a == b) w := by
  rw [show (9999 : Nat) = 9998 + 1 from rfl, td_t2, run_equalIn_int w 9998 3 .i64 .i64 a b (by kernel_rfl)]
theorem td_n3 : ((Tryz.prog.fieldsOf 64)[3]!.name != "_") = true := by kernel_rfl
theorem td_t3 : (Tryz.prog.fieldsOf 64)[3]!.type = 61 := by kernel_rfl
theorem td_p3 (p0 : Int) (p1 : Int) (p2 : Int) (p3 : Int) (p4 : Int) (p5 : Int) (p6 : Int) (p7 : Int) (p8 : Int) (p9 : Int) (p10 : Int) (w : World) : (part (Tryz.prog.fieldsOf 64)[3]!.type #[.int .i64 p0, .int .i64 p1, .int .i64 p2, .int .u64 p3, .int .u64 p4, .int .i64 p5, .int .i64 p6, .int .i64 p7, .int .i64 p8, .int .i64 p9, .int .i64 p10] (Tryz.prog.fieldsOf 64)[3]!.offset).run Tryz.prog w = .ok (.int .u64 p3) w := by kernel_rfl
theorem td_e3 (a b : Int) (w : World) : (Op.equalIn 9999 (Tryz.prog.fieldsOf 64)[3]!.type (.int .u64 a) (.int .u64 b)).run Tryz.prog w = .ok (a == b) w := by
  rw [show (9999 : Nat) = 9998 + 1 from rfl, td_t3, run_equalIn_int w 9998 61 .u64 .u64 a b (by kernel_rfl)]
theorem td_n4 : ((Tryz.prog.fieldsOf 64)[4]!.name != "_") = true := by kernel_rfl
theorem td_t4 : (Tryz.prog.fieldsOf 64)[4]!.type = 61 := by kernel_rfl
theorem td_p4 (p0 : Int) (p1 : Int) (p2 : Int) (p3 : Int) (p4 : Int) (p5 : Int) (p6 : Int) (p7 : Int) (p8 : Int) (p9 : Int) (p10 : Int) (w : World) : (part (Tryz.prog.fieldsOf 64)[4]!.type #[.int .i64 p0, .int .i64 p1, .int .i64 p2, .int .u64 p3, .int .u64 p4, .int .i64 p5, .int .i64 p6, .int .i64 p7, .int .i64 p8, .int .i64 p9, .int .i64 p10] (Tryz.prog.fieldsOf 64)[4]!.offset).run Tryz.prog w = .ok (.int .u64 p4) w := by kernel_rfl
theorem td_e4 (a b : Int) (w : World) : (Op.equalIn 9999 (Tryz.prog.fieldsOf 64)[4]!.type (.int .u64 a) (.int .u64 b)).run Tryz.prog w = .ok (a == b) w := by
  rw [show (9999 : Nat) = 9998 + 1 from rfl, td_t4, run_equalIn_int w 9998 61 .u64 .u64 a b (by kernel_rfl)]
theorem td_n5 : ((Tryz.prog.fieldsOf 64)[5]!.name != "_") = true := by kernel_rfl
theorem td_t5 : (Tryz.prog.fieldsOf 64)[5]!.type = 3 := by kernel_rfl
theorem td_p5 (p0 : Int) (p1 : Int) (p2 : Int) (p3 : Int) (p4 : Int) (p5 : Int) (p6 : Int) (p7 : Int) (p8 : Int) (p9 : Int) (p10 : Int) (w : World) : (part (Tryz.prog.fieldsOf 64)[5]!.type #[.int .i64 p0, .int .i64 p1, .int .i64 p2, .int .u64 p3, .int .u64 p4, .int .i64 p5, .int .i64 p6, .int .i64 p7, .int .i64 p8, .int .i64 p9, .int .i64 p10] (Tryz.prog.fieldsOf 64)[5]!.offset).run Tryz.prog w = .ok (.int .i64 p5) w := by kernel_rfl
theorem td_e5 (a b : Int) (w : World) : (Op.equalIn 9999 (Tryz.prog.fieldsOf 64)[5]!.type (.int .i64 a) (.int .i64 b)).run Tryz.prog w = .ok (a == b) w := by
  rw [show (9999 : Nat) = 9998 + 1 from rfl, td_t5, run_equalIn_int w 9998 3 .i64 .i64 a b (by kernel_rfl)]
theorem td_n6 : ((Tryz.prog.fieldsOf 64)[6]!.name != "_") = true := by kernel_rfl
theorem td_t6 : (Tryz.prog.fieldsOf 64)[6]!.type = 3 := by kernel_rfl
theorem td_p6 (p0 : Int) (p1 : Int) (p2 : Int) (p3 : Int) (p4 : Int) (p5 : Int) (p6 : Int) (p7 : Int) (p8 : Int) (p9 : Int) (p10 : Int) (w : World) : (part (Tryz.prog.fieldsOf 64)[6]!.type #[.int .i64 p0, .int .i64 p1, .int .i64 p2, .int .u64 p3, .int .u64 p4, .int .i64 p5, .int .i64 p6, .int .i64 p7, .int .i64 p8, .int .i64 p9, .int .i64 p10] (Tryz.prog.fieldsOf 64)[6]!.offset).run Tryz.prog w = .ok (.int .i64 p6) w := by kernel_rfl
theorem td_e6 (a b : Int) (w : World) : (Op.equalIn 9999 (Tryz.prog.fieldsOf 64)[6]!.type (.int .i64 a) (.int .i64 b)).run Tryz.prog w = .ok (a == b) w := by
  rw [show (9999 : Nat) = 9998 + 1 from rfl, td_t6, run_equalIn_int w 9998 3 .i64 .i64 a b (by kernel_rfl)]
theorem td_n7 : ((Tryz.prog.fieldsOf 64)[7]!.name != "_") = true := by kernel_rfl
theorem td_t7 : (Tryz.prog.fieldsOf 64)[7]!.type = 3 := by kernel_rfl
theorem td_p7 (p0 : Int) (p1 : Int) (p2 : Int) (p3 : Int) (p4 : Int) (p5 : Int) (p6 : Int) (p7 : Int) (p8 : Int) (p9 : Int) (p10 : Int) (w : World) : (part (Tryz.prog.fieldsOf 64)[7]!.type #[.int .i64 p0, .int .i64 p1, .int .i64 p2, .int .u64 p3, .int .u64 p4, .int .i64 p5, .int .i64 p6, .int .i64 p7, .int .i64 p8, .int .i64 p9, .int .i64 p10] (Tryz.prog.fieldsOf 64)[7]!.offset).run Tryz.prog w = .ok (.int .i64 p7) w := by kernel_rfl
theorem td_e7 (a b : Int) (w : World) : (Op.equalIn 9999 (Tryz.prog.fieldsOf 64)[7]!.type (.int .i64 a) (.int .i64 b)).run Tryz.prog w = .ok (a == b) w := by
  rw [show (9999 : Nat) = 9998 + 1 from rfl, td_t7, run_equalIn_int w 9998 3 .i64 .i64 a b (by kernel_rfl)]
theorem td_n8 : ((Tryz.prog.fieldsOf 64)[8]!.name != "_") = true := by kernel_rfl
theorem td_t8 : (Tryz.prog.fieldsOf 64)[8]!.type = 3 := by kernel_rfl
theorem td_p8 (p0 : Int) (p1 : Int) (p2 : Int) (p3 : Int) (p4 : Int) (p5 : Int) (p6 : Int) (p7 : Int) (p8 : Int) (p9 : Int) (p10 : Int) (w : World) : (part (Tryz.prog.fieldsOf 64)[8]!.type #[.int .i64 p0, .int .i64 p1, .int .i64 p2, .int .u64 p3, .int .u64 p4, .int .i64 p5, .int .i64 p6, .int .i64 p7, .int .i64 p8, .int .i64 p9, .int .i64 p10] (Tryz.prog.fieldsOf 64)[8]!.offset).run Tryz.prog w = .ok (.int .i64 p8) w := by kernel_rfl
theorem td_e8 (a b : Int) (w : World) : (Op.equalIn 9999 (Tryz.prog.fieldsOf 64)[8]!.type (.int .i64 a) (.int .i64 b)).run Tryz.prog w = .ok (a == b) w := by
  rw [show (9999 : Nat) = 9998 + 1 from rfl, td_t8, run_equalIn_int w 9998 3 .i64 .i64 a b (by kernel_rfl)]
theorem td_n9 : ((Tryz.prog.fieldsOf 64)[9]!.name != "_") = true := by kernel_rfl
theorem td_t9 : (Tryz.prog.fieldsOf 64)[9]!.type = 3 := by kernel_rfl
theorem td_p9 (p0 : Int) (p1 : Int) (p2 : Int) (p3 : Int) (p4 : Int) (p5 : Int) (p6 : Int) (p7 : Int) (p8 : Int) (p9 : Int) (p10 : Int) (w : World) : (part (Tryz.prog.fieldsOf 64)[9]!.type #[.int .i64 p0, .int .i64 p1, .int .i64 p2, .int .u64 p3, .int .u64 p4, .int .i64 p5, .int .i64 p6, .int .i64 p7, .int .i64 p8, .int .i64 p9, .int .i64 p10] (Tryz.prog.fieldsOf 64)[9]!.offset).run Tryz.prog w = .ok (.int .i64 p9) w := by kernel_rfl
theorem td_e9 (a b : Int) (w : World) : (Op.equalIn 9999 (Tryz.prog.fieldsOf 64)[9]!.type (.int .i64 a) (.int .i64 b)).run Tryz.prog w = .ok (a == b) w := by
  rw [show (9999 : Nat) = 9998 + 1 from rfl, td_t9, run_equalIn_int w 9998 3 .i64 .i64 a b (by kernel_rfl)]
theorem td_n10 : ((Tryz.prog.fieldsOf 64)[10]!.name != "_") = true := by kernel_rfl
theorem td_t10 : (Tryz.prog.fieldsOf 64)[10]!.type = 3 := by kernel_rfl
theorem td_p10 (p0 : Int) (p1 : Int) (p2 : Int) (p3 : Int) (p4 : Int) (p5 : Int) (p6 : Int) (p7 : Int) (p8 : Int) (p9 : Int) (p10 : Int) (w : World) : (part (Tryz.prog.fieldsOf 64)[10]!.type #[.int .i64 p0, .int .i64 p1, .int .i64 p2, .int .u64 p3, .int .u64 p4, .int .i64 p5, .int .i64 p6, .int .i64 p7, .int .i64 p8, .int .i64 p9, .int .i64 p10] (Tryz.prog.fieldsOf 64)[10]!.offset).run Tryz.prog w = .ok (.int .i64 p10) w := by kernel_rfl
theorem td_e10 (a b : Int) (w : World) : (Op.equalIn 9999 (Tryz.prog.fieldsOf 64)[10]!.type (.int .i64 a) (.int .i64 b)).run Tryz.prog w = .ok (a == b) w := by
  rw [show (9999 : Nat) = 9998 + 1 from rfl, td_t10, run_equalIn_int w 9998 3 .i64 .i64 a b (by kernel_rfl)]
theorem td_eql (p0 : Int) (p1 : Int) (p2 : Int) (p3 : Int) (p4 : Int) (p5 : Int) (p6 : Int) (p7 : Int) (p8 : Int) (p9 : Int) (p10 : Int) (q0 : Int) (q1 : Int) (q2 : Int) (q3 : Int) (q4 : Int) (q5 : Int) (q6 : Int) (q7 : Int) (q8 : Int) (q9 : Int) (q10 : Int) (w : World) : (binOp .eql 64 (.agg #[.int .i64 p0, .int .i64 p1, .int .i64 p2, .int .u64 p3, .int .u64 p4, .int .i64 p5, .int .i64 p6, .int .i64 p7, .int .i64 p8, .int .i64 p9, .int .i64 p10]) (.agg #[.int .i64 q0, .int .i64 q1, .int .i64 q2, .int .u64 q3, .int .u64 q4, .int .i64 q5, .int .i64 q6, .int .i64 q7, .int .i64 q8, .int .i64 q9, .int .i64 q10])).run Tryz.prog w = .ok (.bool ((p0 == q0) && ((p1 == q1) && ((p2 == q2) && ((p3 == q3) && ((p4 == q4) && ((p5 == q5) && ((p6 == q6) && ((p7 == q7) && ((p8 == q8) && ((p9 == q9) && ((p10 == q10) && true)))))))))))) w := by
  rw [run_eql_struct, show (10000 : Nat) = 9999 + 1 from rfl, run_equalIn_agg w 9999 64 _ _ td_h2 td_h1, td_hf, (eqf_cons td_n0 (td_p0 p0 p1 p2 p3 p4 p5 p6 p7 p8 p9 p10 w) (td_p0 q0 q1 q2 q3 q4 q5 q6 q7 q8 q9 q10 w) (td_e0 p0 q0 w) (eqf_cons td_n1 (td_p1 p0 p1 p2 p3 p4 p5 p6 p7 p8 p9 p10 w) (td_p1 q0 q1 q2 q3 q4 q5 q6 q7 q8 q9 q10 w) (td_e1 p1 q1 w) (eqf_cons td_n2 (td_p2 p0 p1 p2 p3 p4 p5 p6 p7 p8 p9 p10 w) (td_p2 q0 q1 q2 q3 q4 q5 q6 q7 q8 q9 q10 w) (td_e2 p2 q2 w) (eqf_cons td_n3 (td_p3 p0 p1 p2 p3 p4 p5 p6 p7 p8 p9 p10 w) (td_p3 q0 q1 q2 q3 q4 q5 q6 q7 q8 q9 q10 w) (td_e3 p3 q3 w) (eqf_cons td_n4 (td_p4 p0 p1 p2 p3 p4 p5 p6 p7 p8 p9 p10 w) (td_p4 q0 q1 q2 q3 q4 q5 q6 q7 q8 q9 q10 w) (td_e4 p4 q4 w) (eqf_cons td_n5 (td_p5 p0 p1 p2 p3 p4 p5 p6 p7 p8 p9 p10 w) (td_p5 q0 q1 q2 q3 q4 q5 q6 q7 q8 q9 q10 w) (td_e5 p5 q5 w) (eqf_cons td_n6 (td_p6 p0 p1 p2 p3 p4 p5 p6 p7 p8 p9 p10 w) (td_p6 q0 q1 q2 q3 q4 q5 q6 q7 q8 q9 q10 w) (td_e6 p6 q6 w) (eqf_cons td_n7 (td_p7 p0 p1 p2 p3 p4 p5 p6 p7 p8 p9 p10 w) (td_p7 q0 q1 q2 q3 q4 q5 q6 q7 q8 q9 q10 w) (td_e7 p7 q7 w) (eqf_cons td_n8 (td_p8 p0 p1 p2 p3 p4 p5 p6 p7 p8 p9 p10 w) (td_p8 q0 q1 q2 q3 q4 q5 q6 q7 q8 q9 q10 w) (td_e8 p8 q8 w) (eqf_cons td_n9 (td_p9 p0 p1 p2 p3 p4 p5 p6 p7 p8 p9 p10 w) (td_p9 q0 q1 q2 q3 q4 q5 q6 q7 q8 q9 q10 w) (td_e9 p9 q9 w) (eqf_cons td_n10 (td_p10 p0 p1 p2 p3 p4 p5 p6 p7 p8 p9 p10 w) (td_p10 q0 q1 q2 q3 q4 q5 q6 q7 q8 q9 q10 w) (td_e10 p10 q10 w) eqf_nil)))))))))))]
  rfl
def eqP (p q : Opr) : Bool := (((p.kind : Int) == (q.kind : Int)) && (((p.x : Int) == (q.x : Int)) && (((p.y : Int) == (q.y : Int)) && (((p.day : Int) == (q.day : Int)) && (((p.to : Int) == (q.to : Int)) && (((p.cur : Int) == (q.cur : Int)) && (((p.count : Int) == (q.count : Int)) && (((p.n : Int) == (q.n : Int)) && (((p.months : Int) == (q.months : Int)) && true)))))))))
def eqT (p q : Trm) : Bool := (((p.kind : Int) == (q.kind : Int)) && (((p.a : Int) == (q.a : Int)) && (((p.b : Int) == (q.b : Int)) && (((p.x : Int) == (q.x : Int)) && (((p.y : Int) == (q.y : Int)) && (((p.day : Int) == (q.day : Int)) && (((p.to : Int) == (q.to : Int)) && (((p.cur : Int) == (q.cur : Int)) && (((p.count : Int) == (q.count : Int)) && (((p.n : Int) == (q.n : Int)) && (((p.months : Int) == (q.months : Int)) && true)))))))))))
theorem eqP_run (p q : Opr) (w : World) : (binOp .eql 66 (.agg (opD p)) (.agg (opD q))).run Tryz.prog w = .ok (.bool (eqP p q)) w := od_eql p.kind p.x p.y p.day p.to p.cur p.count p.n p.months q.kind q.x q.y q.day q.to q.cur q.count q.n q.months w
theorem eqT_run (p q : Trm) (w : World) : (binOp .eql 64 (.agg (trD p)) (.agg (trD q))).run Tryz.prog w = .ok (.bool (eqT p q)) w := td_eql p.kind p.a p.b p.x p.y p.day p.to p.cur p.count p.n p.months q.kind q.a q.b q.x q.y q.day q.to q.cur q.count q.n q.months w
end Go.Proofs.YtienedhaogjahaaGreatDoor
namespace Go.Proofs.YtienedhaogjahaaGreatDoor
open Go.RowKit

theorem r1Num_any (u : Int) (w : World) (h : U64 u) : Calls Tryz.prog 127 #[.int .u64 u] w fun e w' => e = .returned (.bool (finB u)) ∧ w' = w := by
  have hz := andNot_sz h
  unfold finB
  go_enter Tryz.func127, Tryz.ntmps127
  go_wp2
  go_ret
  exact ⟨rfl, rfl⟩
def tn1 (t : Trm) : Trm := ⟨t.kind, t.a, t.b, 0, 0, 0, 0, 0, 0, 0, 0⟩
set_option maxRecDepth 20000 in
set_option maxHeartbeats 12800000 in
theorem flds_1 (t : Trm) (hk : t.kind = 1) (w : World) : Calls Tryz.prog 87 #[.agg (trD t)] w fun e w' => e = .returned (.bool (eqT t (tn1 t))) ∧ Below w.heap.size w w' := by
  have heq0 := eqT_run t (tn1 t)
  obtain ⟨E, hE⟩ : ∃ E, eqT t (tn1 t) = E := ⟨_, rfl⟩
  rw [hE] at heq0 ⊢
  unfold trD tn1 at heq0
  simp only at heq0
  unfold trD
  rw [hk] at heq0 ⊢
  have heq : ∀ w, (binOp .eql 64 (.agg #[.int .i64 1, .int .i64 t.a, .int .i64 t.b, .int .u64 t.x, .int .u64 t.y, .int .i64 t.day, .int .i64 t.to, .int .i64 t.cur, .int .i64 t.count, .int .i64 t.n, .int .i64 t.months]) (.agg #[.int .i64 1, .int .i64 t.a, .int .i64 t.b, .int .u64 0, .int .u64 0, .int .i64 0, .int .i64 0, .int .i64 0, .int .i64 0, .int .i64 0, .int .i64 0])).run Tryz.prog w = .ok (.bool E) w := heq0
  clear heq0
  clear hE
  have HB : Hid (Below w.heap.size w ((w.alloc (.cells #[.int .i64 1, .int .i64 t.a, .int .i64 t.b, .int .u64 t.x, .int .u64 t.y, .int .i64 t.day, .int .i64 t.to, .int .i64 t.cur, .int .i64 t.count, .int .i64 t.n, .int .i64 t.months] 64)).alloc (.cells #[.int .i64 1, .int .i64 t.a, .int .i64 t.b, .int .u64 0, .int .u64 0, .int .i64 0, .int .i64 0, .int .i64 0, .int .i64 0, .int .i64 0, .int .i64 0] 64))) := ((Below.refl _ _).alloc (Nat.le_refl _) _).alloc (by simp) _
  go_enter Tryz.func87, Tryz.ntmps87
  go_wp2_with fail
  go_ret
  exact ⟨rfl, HB.out⟩
def tn4 (t : Trm) : Trm := ⟨t.kind, t.a, t.b, 0, 0, 0, 0, 0, 0, 0, 0⟩
set_option maxRecDepth 20000 in
set_option maxHeartbeats 12800000 in
theorem flds_4 (t : Trm) (hk : t.kind = 4) (w : World) : Calls Tryz.prog 87 #[.agg (trD t)] w fun e w' => e = .returned (.bool (eqT t (tn4 t))) ∧ Below w.heap.size w w' := by
  have heq0 := eqT_run t (tn4 t)
  obtain ⟨E, hE⟩ : ∃ E, eqT t (tn4 t) = E := ⟨_, rfl⟩
  rw [hE] at heq0 ⊢
  unfold trD tn4 at heq0
  simp only at heq0
  unfold trD
  rw [hk] at heq0 ⊢
  have heq : ∀ w, (binOp .eql 64 (.agg #[.int .i64 4, .int .i64 t.a, .int .i64 t.b, .int .u64 t.x, .int .u64 t.y, .int .i64 t.day, .int .i64 t.to, .int .i64 t.cur, .int .i64 t.count, .int .i64 t.n, .int .i64 t.months]) (.agg #[.int .i64 4, .int .i64 t.a, .int .i64 t.b, .int .u64 0, .int .u64 0, .int .i64 0, .int .i64 0, .int .i64 0, .int .i64 0, .int .i64 0, .int .i64 0])).run Tryz.prog w = .ok (.bool E) w := heq0
  clear heq0
  clear hE
  have HB : Hid (Below w.heap.size w ((w.alloc (.cells #[.int .i64 4, .int .i64 t.a, .int .i64 t.b, .int .u64 t.x, .int .u64 t.y, .int .i64 t.day, .int .i64 t.to, .int .i64 t.cur, .int .i64 t.count, .int .i64 t.n, .int .i64 t.months] 64)).alloc (.cells #[.int .i64 4, .int .i64 t.a, .int .i64 t.b, .int .u64 0, .int .u64 0, .int .i64 0, .int .i64 0, .int .i64 0, .int .i64 0, .int .i64 0, .int .i64 0] 64))) := ((Below.refl _ _).alloc (Nat.le_refl _) _).alloc (by simp) _
  go_enter Tryz.func87, Tryz.ntmps87
  go_wp2_with fail
  go_ret
  exact ⟨rfl, HB.out⟩
def tn5 (t : Trm) : Trm := ⟨t.kind, t.a, t.b, 0, 0, 0, 0, 0, 0, 0, 0⟩
set_option maxRecDepth 20000 in
set_option maxHeartbeats 12800000 in
theorem flds_5 (t : Trm) (hk : t.kind = 5) (w : World) : Calls Tryz.prog 87 #[.agg (trD t)] w fun e w' => e = .returned (.bool (eqT t (tn5 t))) ∧ Below w.heap.size w w' := by
  have heq0 := eqT_run t (tn5 t)
  obtain ⟨E, hE⟩ : ∃ E, eqT t (tn5 t) = E := ⟨_, rfl⟩
  rw [hE] at heq0 ⊢
  unfold trD tn5 at heq0
  simp only at heq0
  unfold trD
  rw [hk] at heq0 ⊢
  have heq : ∀ w, (binOp .eql 64 (.agg #[.int .i64 5, .int .i64 t.a, .int .i64 t.b, .int .u64 t.x, .int .u64 t.y, .int .i64 t.day, .int .i64 t.to, .int .i64 t.cur, .int .i64 t.count, .int .i64 t.n, .int .i64 t.months]) (.agg #[.int .i64 5, .int .i64 t.a, .int .i64 t.b, .int .u64 0, .int .u64 0, .int .i64 0, .int .i64 0, .int .i64 0, .int .i64 0, .int .i64 0, .int .i64 0])).run Tryz.prog w = .ok (.bool E) w := heq0
  clear heq0
  clear hE
  have HB : Hid (Below w.heap.size w ((w.alloc (.cells #[.int .i64 5, .int .i64 t.a, .int .i64 t.b, .int .u64 t.x, .int .u64 t.y, .int .i64 t.day, .int .i64 t.to, .int .i64 t.cur, .int .i64 t.count, .int .i64 t.n, .int .i64 t.months] 64)).alloc (.cells #[.int .i64 5, .int .i64 t.a, .int .i64 t.b, .int .u64 0, .int .u64 0, .int .i64 0, .int .i64 0, .int .i64 0, .int .i64 0, .int .i64 0, .int .i64 0] 64))) := ((Below.refl _ _).alloc (Nat.le_refl _) _).alloc (by simp) _
  go_enter Tryz.func87, Tryz.ntmps87
  go_wp2_with fail
  go_ret
  exact ⟨rfl, HB.out⟩
def tn2 (t : Trm) : Trm := ⟨t.kind, t.a, t.b, t.x, 0, t.day, 0, t.cur, 0, 0, 0⟩
set_option maxRecDepth 20000 in
set_option maxHeartbeats 12800000 in
theorem flds_2 (t : Trm) (hk : t.kind = 2) (hux : U64 t.x) (w : World) : Calls Tryz.prog 87 #[.agg (trD t)] w fun e w' => e = .returned (.bool (eqT t (tn2 t) && finB t.x && (decide (1 ≤ t.cur) && decide (t.cur ≤ 8)) && (decide (0 ≤ t.day) && decide (t.day ≤ 109572)))) ∧ Below w.heap.size w w' := by
  have heq0 := eqT_run t (tn2 t)
  have H0 := hidD (fun w => r1Num_any t.x w hux)
  obtain ⟨B0, hB0⟩ : ∃ B, finB t.x = B := ⟨_, rfl⟩
  rw [hB0]
  rw [hB0] at H0
  clear hB0
  have H1 := hidD (r14Cur_any t.cur)
  obtain ⟨B1, hB1⟩ : ∃ B, (decide (1 ≤ t.cur) && decide (t.cur ≤ 8)) = B := ⟨_, rfl⟩
  rw [hB1]
  rw [hB1] at H1
  clear hB1
  have H2 := hidD (r17Day_any t.day)
  obtain ⟨B2, hB2⟩ : ∃ B, (decide (0 ≤ t.day) && decide (t.day ≤ 109572)) = B := ⟨_, rfl⟩
  rw [hB2]
  rw [hB2] at H2
  clear hB2
  obtain ⟨E, hE⟩ : ∃ E, eqT t (tn2 t) = E := ⟨_, rfl⟩
  rw [hE] at heq0 ⊢
  unfold trD tn2 at heq0
  simp only at heq0
  unfold trD
  rw [hk] at heq0 ⊢
  have heq : ∀ w, (binOp .eql 64 (.agg #[.int .i64 2, .int .i64 t.a, .int .i64 t.b, .int .u64 t.x, .int .u64 t.y, .int .i64 t.day, .int .i64 t.to, .int .i64 t.cur, .int .i64 t.count, .int .i64 t.n, .int .i64 t.months]) (.agg #[.int .i64 2, .int .i64 t.a, .int .i64 t.b, .int .u64 t.x, .int .u64 0, .int .i64 t.day, .int .i64 0, .int .i64 t.cur, .int .i64 0, .int .i64 0, .int .i64 0])).run Tryz.prog w = .ok (.bool E) w := heq0
  clear heq0
  clear hE hux
  have HB : Hid (Below w.heap.size w ((w.alloc (.cells #[.int .i64 2, .int .i64 t.a, .int .i64 t.b, .int .u64 t.x, .int .u64 t.y, .int .i64 t.day, .int .i64 t.to, .int .i64 t.cur, .int .i64 t.count, .int .i64 t.n, .int .i64 t.months] 64)).alloc (.cells #[.int .i64 2, .int .i64 t.a, .int .i64 t.b, .int .u64 t.x, .int .u64 0, .int .i64 t.day, .int .i64 0, .int .i64 t.cur, .int .i64 0, .int .i64 0, .int .i64 0] 64))) := ((Below.refl _ _).alloc (Nat.le_refl _) _).alloc (by simp) _
  cases E
  · go_enter Tryz.func87, Tryz.ntmps87
    go_wp2_with fail
    go_ret
    exact ⟨rfl, HB.out⟩
  cases B0
  · go_enter Tryz.func87, Tryz.ntmps87
    go_wp2_with fail
    refine (H0.out _).mono ?_
    rintro e w' ⟨rfl, rfl⟩
    go_wp2_with fail
    go_ret
    exact ⟨rfl, HB.out⟩
  cases B1
  · go_enter Tryz.func87, Tryz.ntmps87
    go_wp2_with fail
    refine (H0.out _).mono ?_
    rintro e w' ⟨rfl, rfl⟩
    go_wp2_with fail
    refine (H1.out _).mono ?_
    rintro e w' ⟨rfl, rfl⟩
    go_wp2_with fail
    go_ret
    exact ⟨rfl, HB.out⟩
  go_enter Tryz.func87, Tryz.ntmps87
  go_wp2_with fail
  refine (H0.out _).mono ?_
  rintro e w' ⟨rfl, rfl⟩
  go_wp2_with fail
  refine (H1.out _).mono ?_
  rintro e w' ⟨rfl, rfl⟩
  go_wp2_with fail
  refine (H2.out _).mono ?_
  rintro e w' ⟨rfl, rfl⟩
  go_wp2_with fail
  go_ret
  exact ⟨rfl, HB.out⟩
def tn6 (t : Trm) : Trm := ⟨t.kind, t.a, t.b, t.x, 0, 0, 0, 0, 0, 0, 0⟩
set_option maxRecDepth 20000 in
set_option maxHeartbeats 12800000 in
theorem flds_6 (t : Trm) (hk : t.kind = 6) (hux : U64 t.x) (w : World) : Calls Tryz.prog 87 #[.agg (trD t)] w fun e w' => e = .returned (.bool (eqT t (tn6 t) && finB t.x)) ∧ Below w.heap.size w w' := by
  have heq0 := eqT_run t (tn6 t)
  have H0 := hidD (fun w => r1Num_any t.x w hux)
  obtain ⟨B0, hB0⟩ : ∃ B, finB t.x = B := ⟨_, rfl⟩
  rw [hB0]
  rw [hB0] at H0
  clear hB0
  obtain ⟨E, hE⟩ : ∃ E, eqT t (tn6 t) = E := ⟨_, rfl⟩
  rw [hE] at heq0 ⊢
  unfold trD tn6 at heq0
  simp only at heq0
  unfold trD
  rw [hk] at heq0 ⊢
  have heq : ∀ w, (binOp .eql 64 (.agg #[.int .i64 6, .int .i64 t.a, .int .i64 t.b, .int .u64 t.x, .int .u64 t.y, .int .i64 t.day, .int .i64 t.to, .int .i64 t.cur, .int .i64 t.count, .int .i64 t.n, .int .i64 t.months]) (.agg #[.int .i64 6, .int .i64 t.a, .int .i64 t.b, .int .u64 t.x, .int .u64 0, .int .i64 0, .int .i64 0, .int .i64 0, .int .i64 0, .int .i64 0, .int .i64 0])).run Tryz.prog w = .ok (.bool E) w := heq0
  clear heq0
  clear hE hux
  have HB : Hid (Below w.heap.size w ((w.alloc (.cells #[.int .i64 6, .int .i64 t.a, .int .i64 t.b, .int .u64 t.x, .int .u64 t.y, .int .i64 t.day, .int .i64 t.to, .int .i64 t.cur, .int .i64 t.count, .int .i64 t.n, .int .i64 t.months] 64)).alloc (.cells #[.int .i64 6, .int .i64 t.a, .int .i64 t.b, .int .u64 t.x, .int .u64 0, .int .i64 0, .int .i64 0, .int .i64 0, .int .i64 0, .int .i64 0, .int .i64 0] 64))) := ((Below.refl _ _).alloc (Nat.le_refl _) _).alloc (by simp) _
  cases E
  · go_enter Tryz.func87, Tryz.ntmps87
    go_wp2_with fail
    go_ret
    exact ⟨rfl, HB.out⟩
  go_enter Tryz.func87, Tryz.ntmps87
  go_wp2_with fail
  refine (H0.out _).mono ?_
  rintro e w' ⟨rfl, rfl⟩
  go_wp2_with fail
  go_ret
  exact ⟨rfl, HB.out⟩
def tn7 (t : Trm) : Trm := ⟨t.kind, t.a, t.b, 0, 0, t.day, t.to, 0, 0, 0, 0⟩
set_option maxRecDepth 20000 in
set_option maxHeartbeats 12800000 in
theorem flds_7 (t : Trm) (hk : t.kind = 7) (w : World) : Calls Tryz.prog 87 #[.agg (trD t)] w fun e w' => e = .returned (.bool (eqT t (tn7 t) && (decide (0 ≤ t.day) && decide (t.day ≤ 109572)) && (decide (0 ≤ t.to) && decide (t.to ≤ 109572)))) ∧ Below w.heap.size w w' := by
  have heq0 := eqT_run t (tn7 t)
  have H0 := hidD (r17Day_any t.day)
  obtain ⟨B0, hB0⟩ : ∃ B, (decide (0 ≤ t.day) && decide (t.day ≤ 109572)) = B := ⟨_, rfl⟩
  rw [hB0]
  rw [hB0] at H0
  clear hB0
  have H1 := hidD (r17Day_any t.to)
  obtain ⟨B1, hB1⟩ : ∃ B, (decide (0 ≤ t.to) && decide (t.to ≤ 109572)) = B := ⟨_, rfl⟩
  rw [hB1]
  rw [hB1] at H1
  clear hB1
  obtain ⟨E, hE⟩ : ∃ E, eqT t (tn7 t) = E := ⟨_, rfl⟩
  rw [hE] at heq0 ⊢
  unfold trD tn7 at heq0
  simp only at heq0
  unfold trD
  rw [hk] at heq0 ⊢
  have heq : ∀ w, (binOp .eql 64 (.agg #[.int .i64 7, .int .i64 t.a, .int .i64 t.b, .int .u64 t.x, .int .u64 t.y, .int .i64 t.day, .int .i64 t.to, .int .i64 t.cur, .int .i64 t.count, .int .i64 t.n, .int .i64 t.months]) (.agg #[.int .i64 7, .int .i64 t.a, .int .i64 t.b, .int .u64 0, .int .u64 0, .int .i64 t.day, .int .i64 t.to, .int .i64 0, .int .i64 0, .int .i64 0, .int .i64 0])).run Tryz.prog w = .ok (.bool E) w := heq0
  clear heq0
  clear hE
  have HB : Hid (Below w.heap.size w ((w.alloc (.cells #[.int .i64 7, .int .i64 t.a, .int .i64 t.b, .int .u64 t.x, .int .u64 t.y, .int .i64 t.day, .int .i64 t.to, .int .i64 t.cur, .int .i64 t.count, .int .i64 t.n, .int .i64 t.months] 64)).alloc (.cells #[.int .i64 7, .int .i64 t.a, .int .i64 t.b, .int .u64 0, .int .u64 0, .int .i64 t.day, .int .i64 t.to, .int .i64 0, .int .i64 0, .int .i64 0, .int .i64 0] 64))) := ((Below.refl _ _).alloc (Nat.le_refl _) _).alloc (by simp) _
  cases E
  · go_enter Tryz.func87, Tryz.ntmps87
    go_wp2_with fail
    go_ret
    exact ⟨rfl, HB.out⟩
  cases B0
  · go_enter Tryz.func87, Tryz.ntmps87
    go_wp2_with fail
    refine (H0.out _).mono ?_
    rintro e w' ⟨rfl, rfl⟩
    go_wp2_with fail
    go_ret
    exact ⟨rfl, HB.out⟩
  go_enter Tryz.func87, Tryz.ntmps87
  go_wp2_with fail
  refine (H0.out _).mono ?_
  rintro e w' ⟨rfl, rfl⟩
  go_wp2_with fail
  refine (H1.out _).mono ?_
  rintro e w' ⟨rfl, rfl⟩
  go_wp2_with fail
  go_ret
  exact ⟨rfl, HB.out⟩
def tn8 (t : Trm) : Trm := ⟨t.kind, t.a, t.b, 0, 0, 0, 0, 0, 0, t.n, t.months⟩
set_option maxRecDepth 20000 in
set_option maxHeartbeats 12800000 in
theorem flds_8 (t : Trm) (hk : t.kind = 8) (w : World) : Calls Tryz.prog 87 #[.agg (trD t)] w fun e w' => e = .returned (.bool (eqT t (tn8 t) && (decide (1 ≤ t.n) && decide (t.n ≤ 4096)) && (decide (1 ≤ t.months) && decide (t.months ≤ 1200)))) ∧ Below w.heap.size w w' := by
  have heq0 := eqT_run t (tn8 t)
  have H0 := hidD (r17In_any t.n 1 4096)
  obtain ⟨B0, hB0⟩ : ∃ B, (decide (1 ≤ t.n) && decide (t.n ≤ 4096)) = B := ⟨_, rfl⟩
  rw [hB0]
  rw [hB0] at H0
  clear hB0
  have H1 := hidD (r17In_any t.months 1 1200)
  obtain ⟨B1, hB1⟩ : ∃ B, (decide (1 ≤ t.months) && decide (t.months ≤ 1200)) = B := ⟨_, rfl⟩
  rw [hB1]
  rw [hB1] at H1
  clear hB1
  obtain ⟨E, hE⟩ : ∃ E, eqT t (tn8 t) = E := ⟨_, rfl⟩
  rw [hE] at heq0 ⊢
  unfold trD tn8 at heq0
  simp only at heq0
  unfold trD
  rw [hk] at heq0 ⊢
  have heq : ∀ w, (binOp .eql 64 (.agg #[.int .i64 8, .int .i64 t.a, .int .i64 t.b, .int .u64 t.x, .int .u64 t.y, .int .i64 t.day, .int .i64 t.to, .int .i64 t.cur, .int .i64 t.count, .int .i64 t.n, .int .i64 t.months]) (.agg #[.int .i64 8, .int .i64 t.a, .int .i64 t.b, .int .u64 0, .int .u64 0, .int .i64 0, .int .i64 0, .int .i64 0, .int .i64 0, .int .i64 t.n, .int .i64 t.months])).run Tryz.prog w = .ok (.bool E) w := heq0
  clear heq0
  clear hE
  have HB : Hid (Below w.heap.size w ((w.alloc (.cells #[.int .i64 8, .int .i64 t.a, .int .i64 t.b, .int .u64 t.x, .int .u64 t.y, .int .i64 t.day, .int .i64 t.to, .int .i64 t.cur, .int .i64 t.count, .int .i64 t.n, .int .i64 t.months] 64)).alloc (.cells #[.int .i64 8, .int .i64 t.a, .int .i64 t.b, .int .u64 0, .int .u64 0, .int .i64 0, .int .i64 0, .int .i64 0, .int .i64 0, .int .i64 t.n, .int .i64 t.months] 64))) := ((Below.refl _ _).alloc (Nat.le_refl _) _).alloc (by simp) _
  cases E
  · go_enter Tryz.func87, Tryz.ntmps87
    go_wp2_with fail
    go_ret
    exact ⟨rfl, HB.out⟩
  cases B0
  · go_enter Tryz.func87, Tryz.ntmps87
    go_wp2_with fail
    refine (H0.out _).mono ?_
    rintro e w' ⟨rfl, rfl⟩
    go_wp2_with fail
    go_ret
    exact ⟨rfl, HB.out⟩
  go_enter Tryz.func87, Tryz.ntmps87
  go_wp2_with fail
  refine (H0.out _).mono ?_
  rintro e w' ⟨rfl, rfl⟩
  go_wp2_with fail
  refine (H1.out _).mono ?_
  rintro e w' ⟨rfl, rfl⟩
  go_wp2_with fail
  go_ret
  exact ⟨rfl, HB.out⟩
set_option maxRecDepth 20000 in
set_option maxHeartbeats 6400000 in
theorem flds_no (t : Trm) (hk : t.kind < 1 ∨ 8 < t.kind) (w : World) : Calls Tryz.prog 87 #[.agg (trD t)] w fun e w' => e = .returned (.bool false) ∧ Below w.heap.size w w' := by
  have n1 : (t.kind == 1) = false := beq_eq_false_iff_ne.2 (by omega)
  have n2 : (t.kind == 2) = false := beq_eq_false_iff_ne.2 (by omega)
  have n3 : (t.kind == 3) = false := beq_eq_false_iff_ne.2 (by omega)
  have n4 : (t.kind == 4) = false := beq_eq_false_iff_ne.2 (by omega)
  have n5 : (t.kind == 5) = false := beq_eq_false_iff_ne.2 (by omega)
  have n6 : (t.kind == 6) = false := beq_eq_false_iff_ne.2 (by omega)
  have n7 : (t.kind == 7) = false := beq_eq_false_iff_ne.2 (by omega)
  have n8 : (t.kind == 8) = false := beq_eq_false_iff_ne.2 (by omega)
  have HB : Hid (Below w.heap.size w ((w.alloc (.cells #[.int .i64 t.kind, .int .i64 t.a, .int .i64 t.b, .int .u64 t.x, .int .u64 t.y, .int .i64 t.day, .int .i64 t.to, .int .i64 t.cur, .int .i64 t.count, .int .i64 t.n, .int .i64 t.months] 64)).alloc (.cells #[.int .i64 t.kind, .int .i64 t.a, .int .i64 t.b, .int .u64 0, .int .u64 0, .int .i64 0, .int .i64 0, .int .i64 0, .int .i64 0, .int .i64 0, .int .i64 0] 64))) := ((Below.refl _ _).alloc (Nat.le_refl _) _).alloc (by simp) _
  clear hk
  unfold trD
  go_enter Tryz.func87, Tryz.ntmps87
  go_wp2_with fail
  go_ret
  exact ⟨rfl, HB.out⟩
end Go.Proofs.YtienedhaogjahaaGreatDoor
namespace Go.Proofs.YtienedhaogjahaaGreatDoor
open Go.RowKit

def tn3 (t : Trm) : Trm := ⟨t.kind, t.a, t.b, t.x, t.y, t.day, t.to, t.cur, t.count, t.n, 0⟩
set_option maxRecDepth 20000 in
set_option maxHeartbeats 12800000 in
theorem flds_3 (t : Trm) (hk : t.kind = 3) (hux : U64 t.x) (huy : U64 t.y) (w : World) : Calls Tryz.prog 87 #[.agg (trD t)] w fun e w' => e = .returned (.bool (eqT t (tn3 t) && finB t.x && finB t.y && (decide (1 ≤ t.count) && decide (t.count ≤ 5)) && (decide (0 ≤ t.day) && decide (t.day ≤ 109572)) && (decide (0 ≤ t.to) && decide (t.to ≤ 109572)) && decide (t.day < t.to) && (decide (1 ≤ t.n) && decide (t.n ≤ 1200)) && (decide (1 ≤ t.cur) && decide (t.cur ≤ 8)))) ∧ Below w.heap.size w w' := by
  have heq0 := eqT_run t (tn3 t)
  have H0 := hidD (fun w => r1Num_any t.x w hux)
  obtain ⟨B0, hB0⟩ : ∃ B, finB t.x = B := ⟨_, rfl⟩
  rw [hB0]
  rw [hB0] at H0
  clear hB0
  have H1 := hidD (fun w => r1Num_any t.y w huy)
  obtain ⟨B1, hB1⟩ : ∃ B, finB t.y = B := ⟨_, rfl⟩
  rw [hB1]
  rw [hB1] at H1
  clear hB1
  have H2 := hidD (r17In_any t.count 1 5)
  obtain ⟨B2, hB2⟩ : ∃ B, (decide (1 ≤ t.count) && decide (t.count ≤ 5)) = B := ⟨_, rfl⟩
  rw [hB2]
  rw [hB2] at H2
  clear hB2
  have H3 := hidD (r17Day_any t.day)
  obtain ⟨B3, hB3⟩ : ∃ B, (decide (0 ≤ t.day) && decide (t.day ≤ 109572)) = B := ⟨_, rfl⟩
  rw [hB3]
  rw [hB3] at H3
  clear hB3
  have H4 := hidD (r17Day_any t.to)
  obtain ⟨B4, hB4⟩ : ∃ B, (decide (0 ≤ t.to) && decide (t.to ≤ 109572)) = B := ⟨_, rfl⟩
  rw [hB4]
  rw [hB4] at H4
  clear hB4
  obtain ⟨B5, hB5⟩ : ∃ B, decide (t.day < t.to) = B := ⟨_, rfl⟩
  rw [hB5]
  have H6 := hidD (r17In_any t.n 1 1200)
  obtain ⟨B6, hB6⟩ : ∃ B, (decide (1 ≤ t.n) && decide (t.n ≤ 1200)) = B := ⟨_, rfl⟩
  rw [hB6]
  rw [hB6] at H6
  clear hB6
  have H7 := hidD (r14Cur_any t.cur)
  obtain ⟨B7, hB7⟩ : ∃ B, (decide (1 ≤ t.cur) && decide (t.cur ≤ 8)) = B := ⟨_, rfl⟩
  rw [hB7]
  rw [hB7] at H7
  clear hB7
  obtain ⟨E, hE⟩ : ∃ E, eqT t (tn3 t) = E := ⟨_, rfl⟩
  rw [hE] at heq0 ⊢
  unfold trD tn3 at heq0
  simp only at heq0
  unfold trD
  rw [hk] at heq0 ⊢
  have heq : ∀ w, (binOp .eql 64 (.agg #[.int .i64 3, .int .i64 t.a, .int .i64 t.b, .int .u64 t.x, .int .u64 t.y, .int .i64 t.day, .int .i64 t.to, .int .i64 t.cur, .int .i64 t.count, .int .i64 t.n, .int .i64 t.months]) (.agg #[.int .i64 3, .int .i64 t.a, .int .i64 t.b, .int .u64 t.x, .int .u64 t.y, .int .i64 t.day, .int .i64 t.to, .int .i64 t.cur, .int .i64 t.count, .int .i64 t.n, .int .i64 0])).run Tryz.prog w = .ok (.bool E) w := heq0
  clear heq0
  clear hE hux huy
  have HB : Hid (Below w.heap.size w ((w.alloc (.cells #[.int .i64 3, .int .i64 t.a, .int .i64 t.b, .int .u64 t.x, .int .u64 t.y, .int .i64 t.day, .int .i64 t.to, .int .i64 t.cur, .int .i64 t.count, .int .i64 t.n, .int .i64 t.months] 64)).alloc (.cells #[.int .i64 3, .int .i64 t.a, .int .i64 t.b, .int .u64 t.x, .int .u64 t.y, .int .i64 t.day, .int .i64 t.to, .int .i64 t.cur, .int .i64 t.count, .int .i64 t.n, .int .i64 0] 64))) := ((Below.refl _ _).alloc (Nat.le_refl _) _).alloc (by simp) _
  cases E
  · go_enter Tryz.func87, Tryz.ntmps87
    go_wp2_with fail
    go_ret
    exact ⟨rfl, HB.out⟩
  cases B0
  · go_enter Tryz.func87, Tryz.ntmps87
    go_wp2_with fail
    refine (H0.out _).mono ?_
    rintro e w' ⟨rfl, rfl⟩
    go_wp2_with fail
    go_ret
    exact ⟨rfl, HB.out⟩
  cases B1
  · go_enter Tryz.func87, Tryz.ntmps87
    go_wp2_with fail
    refine (H0.out _).mono ?_
    rintro e w' ⟨rfl, rfl⟩
    go_wp2_with fail
    refine (H1.out _).mono ?_
    rintro e w' ⟨rfl, rfl⟩
    go_wp2_with fail
    go_ret
    exact ⟨rfl, HB.out⟩
  cases B2
  · go_enter Tryz.func87, Tryz.ntmps87
    go_wp2_with fail
    refine (H0.out _).mono ?_
    rintro e w' ⟨rfl, rfl⟩
    go_wp2_with fail
    refine (H1.out _).mono ?_
    rintro e w' ⟨rfl, rfl⟩
    go_wp2_with fail
    refine (H2.out _).mono ?_
    rintro e w' ⟨rfl, rfl⟩
    go_wp2_with fail
    go_ret
    exact ⟨rfl, HB.out⟩
  cases B3
  · go_enter Tryz.func87, Tryz.ntmps87
    go_wp2_with fail
    refine (H0.out _).mono ?_
    rintro e w' ⟨rfl, rfl⟩
    go_wp2_with fail
    refine (H1.out _).mono ?_
    rintro e w' ⟨rfl, rfl⟩
    go_wp2_with fail
    refine (H2.out _).mono ?_
    rintro e w' ⟨rfl, rfl⟩
    go_wp2_with fail
    refine (H3.out _).mono ?_
    rintro e w' ⟨rfl, rfl⟩
    go_wp2_with fail
    go_ret
    exact ⟨rfl, HB.out⟩
  cases B4
  · go_enter Tryz.func87, Tryz.ntmps87
    go_wp2_with fail
    refine (H0.out _).mono ?_
    rintro e w' ⟨rfl, rfl⟩
    go_wp2_with fail
    refine (H1.out _).mono ?_
    rintro e w' ⟨rfl, rfl⟩
    go_wp2_with fail
    refine (H2.out _).mono ?_
    rintro e w' ⟨rfl, rfl⟩
    go_wp2_with fail
    refine (H3.out _).mono ?_
    rintro e w' ⟨rfl, rfl⟩
    go_wp2_with fail
    refine (H4.out _).mono ?_
    rintro e w' ⟨rfl, rfl⟩
    go_wp2_with fail
    go_ret
    exact ⟨rfl, HB.out⟩
  cases B5
  · go_enter Tryz.func87, Tryz.ntmps87
    go_wp2_with fail
    refine (H0.out _).mono ?_
    rintro e w' ⟨rfl, rfl⟩
    go_wp2_with fail
    refine (H1.out _).mono ?_
    rintro e w' ⟨rfl, rfl⟩
    go_wp2_with fail
    refine (H2.out _).mono ?_
    rintro e w' ⟨rfl, rfl⟩
    go_wp2_with fail
    refine (H3.out _).mono ?_
    rintro e w' ⟨rfl, rfl⟩
    go_wp2_with fail
    refine (H4.out _).mono ?_
    rintro e w' ⟨rfl, rfl⟩
    go_wp2_with fail
    go_ret
    exact ⟨rfl, HB.out⟩
  cases B6
  · go_enter Tryz.func87, Tryz.ntmps87
    go_wp2_with fail
    refine (H0.out _).mono ?_
    rintro e w' ⟨rfl, rfl⟩
    go_wp2_with fail
    refine (H1.out _).mono ?_
    rintro e w' ⟨rfl, rfl⟩
    go_wp2_with fail
    refine (H2.out _).mono ?_
    rintro e w' ⟨rfl, rfl⟩
    go_wp2_with fail
    refine (H3.out _).mono ?_
    rintro e w' ⟨rfl, rfl⟩
    go_wp2_with fail
    refine (H4.out _).mono ?_
    rintro e w' ⟨rfl, rfl⟩
    go_wp2_with fail
    refine (H6.out _).mono ?_
    rintro e w' ⟨rfl, rfl⟩
    go_wp2_with fail
    go_ret
    exact ⟨rfl, HB.out⟩
  go_enter Tryz.func87, Tryz.ntmps87
  go_wp2_with fail
  refine (H0.out _).mono ?_
  rintro e w' ⟨rfl, rfl⟩
  go_wp2_with fail
  refine (H1.out _).mono ?_
  rintro e w' ⟨rfl, rfl⟩
  go_wp2_with fail
  refine (H2.out _).mono ?_
  rintro e w' ⟨rfl, rfl⟩
  go_wp2_with fail
  refine (H3.out _).mono ?_
  rintro e w' ⟨rfl, rfl⟩
  go_wp2_with fail
  refine (H4.out _).mono ?_
  rintro e w' ⟨rfl, rfl⟩
  go_wp2_with fail
  refine (H6.out _).mono ?_
  rintro e w' ⟨rfl, rfl⟩
  go_wp2_with fail
  refine (H7.out _).mono ?_
  rintro e w' ⟨rfl, rfl⟩
  go_wp2_with fail
  go_ret
  exact ⟨rfl, HB.out⟩
end Go.Proofs.YtienedhaogjahaaGreatDoor
namespace Go.Proofs.YtienedhaogjahaaGreatDoor
open Go.RowKit

def fldB (t : Trm) : Bool :=
  if t.kind = 1 then eqT t (tn1 t)
  else if t.kind = 2 then eqT t (tn2 t) && finB t.x && (decide (1 ≤ t.cur) && decide (t.cur ≤ 8)) && (decide (0 ≤ t.day) && decide (t.day ≤ 109572))
  else if t.kind = 3 then eqT t (tn3 t) && finB t.x && finB t.y && (decide (1 ≤ t.count) && decide (t.count ≤ 5)) && (decide (0 ≤ t.day) && decide (t.day ≤ 109572)) && (decide (0 ≤ t.to) && decide (t.to ≤ 109572)) && decide (t.day < t.to) && (decide (1 ≤ t.n) && decide (t.n ≤ 1200)) && (decide (1 ≤ t.cur) && decide (t.cur ≤ 8))
  else if t.kind = 4 then eqT t (tn4 t)
  else if t.kind = 5 then eqT t (tn5 t)
  else if t.kind = 6 then eqT t (tn6 t) && finB t.x
  else if t.kind = 7 then eqT t (tn7 t) && (decide (0 ≤ t.day) && decide (t.day ≤ 109572)) && (decide (0 ≤ t.to) && decide (t.to ≤ 109572))
  else if t.kind = 8 then eqT t (tn8 t) && (decide (1 ≤ t.n) && decide (t.n ≤ 4096)) && (decide (1 ≤ t.months) && decide (t.months ≤ 1200))
  else false
theorem flds_any (t : Trm) (hx : U64 t.x) (hy : U64 t.y) (w : World) : Calls Tryz.prog 87 #[.agg (trD t)] w fun e w' => e = .returned (.bool (fldB t)) ∧ Below w.heap.size w w' := by
  unfold fldB
  split
  · rename_i h; exact flds_1 t h w
  split
  · rename_i h; exact flds_2 t h hx w
  split
  · rename_i h; exact flds_3 t h hx hy w
  split
  · rename_i h; exact flds_4 t h w
  split
  · rename_i h; exact flds_5 t h w
  split
  · rename_i h; exact flds_6 t h hx w
  split
  · rename_i h; exact flds_7 t h w
  split
  · rename_i h; exact flds_8 t h w
  · exact flds_no t (by omega) w
def mkO : Opr := ⟨1, 0, 0, 0, 0, 0, 0, 0, 0⟩
def fitD (o : Opr) : Bool := if o.kind = 1 then eqP o mkO else decide (oTm o.kind ≠ 0) && fldB (tmO o)
end Go.Proofs.YtienedhaogjahaaGreatDoor
namespace Go.Proofs.YtienedhaogjahaaGreatDoor
open Go.RowKit

theorem ord_00 : (FloatKind.f64.format.order 0 0 == some .eq) = true := by decide +kernel
theorem fin_self {x : Nat} (hx : U64 x) (h : finB x = true) : (FloatKind.f64.format.order x x == some .eq) = true := by
  rw [eq_self hx]
  cases hn : nanB (x : Int)
  · rfl
  · rw [fin_nan hn] at h; cases h
theorem zero_and (y : Nat) : ((FloatKind.f64.format.order y 0 == some .eq) && ((y : Int) == 0)) = ((y : Int) == 0) := by
  by_cases h : y = 0
  · subst h; rw [ord_00]; rfl
  · have : ((y : Int) == 0) = false := beq_eq_false_iff_ne.2 (by omega)
    rw [this, Bool.and_false]
theorem fin_and {x : Nat} (hx : U64 x) : ((FloatKind.f64.format.order x x == some .eq) && finB x) = finB x := by
  cases h : finB (x : Int)
  · rw [Bool.and_false]
  · rw [fin_self hx h]; rfl
theorem fit_same (o : Opr) (hu : OpU o) : fitD o = fitO o := by
  have z1 := zero_and o.y
  have z0 := zero_and o.x
  have f0 := fin_and hu.x
  have f1 := fin_and hu.y
  by_cases h1 : o.kind = 1
  · unfold fitD fitO; rw [if_pos h1, if_pos (.inl h1)]
    unfold eqP mkO eqO nmA
    simp only [h1, beq_self_eq_true, Bool.true_and, Bool.and_true]
    generalize (FloatKind.f64.format.order o.x 0 == some .eq) = a at *
    generalize (FloatKind.f64.format.order o.y 0 == some .eq) = b at *
    rw [show (((0 : Nat) : Int)) = 0 from rfl]
    generalize ((o.x : Int) == 0) = c at *
    generalize ((o.y : Int) == 0) = d at *
    generalize (o.day == 0) = e1; generalize (o.to == 0) = e2; generalize (o.cur == 0) = e3; generalize (o.count == 0) = e4; generalize (o.n == 0) = e5; generalize (o.months == 0) = e6
    revert z0 z1
    clear f0 f1
    cases a <;> cases b <;> cases c <;> cases d <;> simp
  by_cases h4 : o.kind = 4
  · have e : oTm o.kind = 4 := by unfold oTm; rw [h4]; rfl
    have ek : (tmO o).kind = 4 := e
    have hD : fitD o = fldB (tmO o) := by unfold fitD; rw [if_neg h1, decide_eq_true (by rw [e]; decide)]; rfl
    rw [hD]; unfold fldB fitO
    rw [if_neg (by rw [ek]; decide), if_neg (by rw [ek]; decide), if_neg (by rw [ek]; decide), if_pos ek]
    rw [if_pos (.inr h4)]
    unfold eqT tn4 tmO eqO nmA
    simp only [beq_self_eq_true, Bool.true_and, Bool.and_true]
    rw [show (((0 : Nat) : Int)) = 0 from rfl]
    generalize (FloatKind.f64.format.order o.x 0 == some .eq) = ax at z0 ⊢
    generalize ((o.x : Int) == 0) = bx at z0 ⊢
    revert z0; clear f0
    generalize (FloatKind.f64.format.order o.y 0 == some .eq) = ay at z1 ⊢
    generalize ((o.y : Int) == 0) = by_ at z1 ⊢
    revert z1; clear f1
    generalize (o.day == 0) = cday
    generalize (o.to == 0) = cto
    generalize (o.cur == 0) = ccur
    generalize (o.count == 0) = ccount
    generalize (o.n == 0) = cn
    generalize (o.months == 0) = cmonths
    clear hD ek e
    cases ax <;> cases bx <;> cases ay <;> cases by_ <;> simp
  by_cases h2 : o.kind = 2
  · have e : oTm o.kind = 2 := by unfold oTm; rw [h2]; rfl
    have ek : (tmO o).kind = 2 := e
    have hD : fitD o = fldB (tmO o) := by unfold fitD; rw [if_neg h1, decide_eq_true (by rw [e]; decide)]; rfl
    rw [hD]; unfold fldB fitO
    rw [if_neg (by rw [ek]; decide), if_pos ek]
    rw [if_neg (by omega), if_pos h2]
    unfold eqT tn2 tmO eqO nm2
    simp only [beq_self_eq_true, Bool.true_and, Bool.and_true]
    rw [show (((0 : Nat) : Int)) = 0 from rfl]
    generalize (FloatKind.f64.format.order o.x o.x == some .eq) = ax at f0 ⊢
    generalize finB (o.x : Int) = bx at f0 ⊢
    revert f0; clear z0
    generalize (FloatKind.f64.format.order o.y 0 == some .eq) = ay at z1 ⊢
    generalize ((o.y : Int) == 0) = by_ at z1 ⊢
    revert z1; clear f1
    generalize (o.to == 0) = cto
    generalize (o.count == 0) = ccount
    generalize (o.n == 0) = cn
    generalize (o.months == 0) = cmonths
    generalize ((decide (1 ≤ o.cur) && decide (o.cur ≤ 8))) = d0
    generalize ((decide (0 ≤ o.day) && decide (o.day ≤ 109572))) = d1
    clear hD ek e
    cases ax <;> cases bx <;> cases ay <;> cases by_ <;> cases d0 <;> cases d1 <;> simp
  by_cases h3 : o.kind = 3
  · have e : oTm o.kind = 3 := by unfold oTm; rw [h3]; rfl
    have ek : (tmO o).kind = 3 := e
    have hD : fitD o = fldB (tmO o) := by unfold fitD; rw [if_neg h1, decide_eq_true (by rw [e]; decide)]; rfl
    rw [hD]; unfold fldB fitO
    rw [if_neg (by rw [ek]; decide), if_neg (by rw [ek]; decide), if_pos ek]
    rw [if_neg (by omega), if_neg h2, if_pos h3]
    unfold eqT tn3 tmO eqO nm3
    simp only [beq_self_eq_true, Bool.true_and, Bool.and_true]
    generalize (FloatKind.f64.format.order o.x o.x == some .eq) = ax at f0 ⊢
    generalize finB (o.x : Int) = bx at f0 ⊢
    revert f0; clear z0
    generalize (FloatKind.f64.format.order o.y o.y == some .eq) = ay at f1 ⊢
    generalize finB (o.y : Int) = by_ at f1 ⊢
    revert f1; clear z1
    generalize (o.months == 0) = cmonths
    generalize ((decide (1 ≤ o.count) && decide (o.count ≤ 5))) = d0
    generalize ((decide (0 ≤ o.day) && decide (o.day ≤ 109572))) = d1
    generalize ((decide (0 ≤ o.to) && decide (o.to ≤ 109572))) = d2
    generalize (decide (o.day < o.to)) = d3
    generalize ((decide (1 ≤ o.n) && decide (o.n ≤ 1200))) = d4
    generalize ((decide (1 ≤ o.cur) && decide (o.cur ≤ 8))) = d5
    clear hD ek e
    cases ax <;> cases bx <;> cases ay <;> cases by_ <;> cases d0 <;> cases d1 <;> cases d2 <;> cases d3 <;> cases d4 <;> cases d5 <;> simp
  by_cases h5 : o.kind = 5
  · have e : oTm o.kind = 6 := by unfold oTm; rw [h5]; rfl
    have ek : (tmO o).kind = 6 := e
    have hD : fitD o = fldB (tmO o) := by unfold fitD; rw [if_neg h1, decide_eq_true (by rw [e]; decide)]; rfl
    rw [hD]; unfold fldB fitO
    rw [if_neg (by rw [ek]; decide), if_neg (by rw [ek]; decide), if_neg (by rw [ek]; decide), if_neg (by rw [ek]; decide), if_neg (by rw [ek]; decide), if_pos ek]
    rw [if_neg (by omega), if_neg h2, if_neg h3, if_pos h5]
    unfold eqT tn6 tmO eqO nm5
    simp only [beq_self_eq_true, Bool.true_and, Bool.and_true]
    rw [show (((0 : Nat) : Int)) = 0 from rfl]
    generalize (FloatKind.f64.format.order o.x o.x == some .eq) = ax at f0 ⊢
    generalize finB (o.x : Int) = bx at f0 ⊢
    revert f0; clear z0
    generalize (FloatKind.f64.format.order o.y 0 == some .eq) = ay at z1 ⊢
    generalize ((o.y : Int) == 0) = by_ at z1 ⊢
    revert z1; clear f1
    generalize (o.day == 0) = cday
    generalize (o.to == 0) = cto
    generalize (o.cur == 0) = ccur
    generalize (o.count == 0) = ccount
    generalize (o.n == 0) = cn
    generalize (o.months == 0) = cmonths
    clear hD ek e
    cases ax <;> cases bx <;> cases ay <;> cases by_ <;> simp
  by_cases h6 : o.kind = 6
  · have e : oTm o.kind = 7 := by unfold oTm; rw [h6]; rfl
    have ek : (tmO o).kind = 7 := e
    have hD : fitD o = fldB (tmO o) := by unfold fitD; rw [if_neg h1, decide_eq_true (by rw [e]; decide)]; rfl
    rw [hD]; unfold fldB fitO
    rw [if_neg (by rw [ek]; decide), if_neg (by rw [ek]; decide), if_neg (by rw [ek]; decide), if_neg (by rw [ek]; decide), if_neg (by rw [ek]; decide), if_neg (by rw [ek]; decide), if_pos ek]
    rw [if_neg (by omega), if_neg h2, if_neg h3, if_neg h5, if_pos h6]
    unfold eqT tn7 tmO eqO nm6
    simp only [beq_self_eq_true, Bool.true_and, Bool.and_true]
    rw [show (((0 : Nat) : Int)) = 0 from rfl]
    generalize (FloatKind.f64.format.order o.x 0 == some .eq) = ax at z0 ⊢
    generalize ((o.x : Int) == 0) = bx at z0 ⊢
    revert z0; clear f0
    generalize (FloatKind.f64.format.order o.y 0 == some .eq) = ay at z1 ⊢
    generalize ((o.y : Int) == 0) = by_ at z1 ⊢
    revert z1; clear f1
    generalize (o.cur == 0) = ccur
    generalize (o.count == 0) = ccount
    generalize (o.n == 0) = cn
    generalize (o.months == 0) = cmonths
    generalize ((decide (0 ≤ o.day) && decide (o.day ≤ 109572))) = d0
    generalize ((decide (0 ≤ o.to) && decide (o.to ≤ 109572))) = d1
    clear hD ek e
    cases ax <;> cases bx <;> cases ay <;> cases by_ <;> cases d0 <;> cases d1 <;> simp
  by_cases h7 : o.kind = 7
  · have e : oTm o.kind = 8 := by unfold oTm; rw [h7]; rfl
    have ek : (tmO o).kind = 8 := e
    have hD : fitD o = fldB (tmO o) := by unfold fitD; rw [if_neg h1, decide_eq_true (by rw [e]; decide)]; rfl
    rw [hD]; unfold fldB fitO
    rw [if_neg (by rw [ek]; decide), if_neg (by rw [ek]; decide), if_neg (by rw [ek]; decide), if_neg (by rw [ek]; decide), if_neg (by rw [ek]; decide), if_neg (by rw [ek]; decide), if_neg (by rw [ek]; decide), if_pos ek]
    rw [if_neg (by omega), if_neg h2, if_neg h3, if_neg h5, if_neg h6, if_pos h7]
    unfold eqT tn8 tmO eqO nm7
    simp only [beq_self_eq_true, Bool.true_and, Bool.and_true]
    rw [show (((0 : Nat) : Int)) = 0 from rfl]
    generalize (FloatKind.f64.format.order o.x 0 == some .eq) = ax at z0 ⊢
    generalize ((o.x : Int) == 0) = bx at z0 ⊢
    revert z0; clear f0
    generalize (FloatKind.f64.format.order o.y 0 == some .eq) = ay at z1 ⊢
    generalize ((o.y : Int) == 0) = by_ at z1 ⊢
    revert z1; clear f1
    generalize (o.day == 0) = cday
    generalize (o.to == 0) = cto
    generalize (o.cur == 0) = ccur
    generalize (o.count == 0) = ccount
    generalize ((decide (1 ≤ o.n) && decide (o.n ≤ 4096))) = d0
    generalize ((decide (1 ≤ o.months) && decide (o.months ≤ 1200))) = d1
    clear hD ek e
    cases ax <;> cases bx <;> cases ay <;> cases by_ <;> cases d0 <;> cases d1 <;> simp
  have e : oTm o.kind = 0 := by unfold oTm; rw [if_neg (by omega), if_neg (by omega)]
  unfold fitD fitO
  rw [if_neg h1, decide_eq_false (fun h => h e), if_neg (by omega), if_neg h2, if_neg h3, if_neg h5, if_neg h6, if_neg h7]
  rfl
end Go.Proofs.YtienedhaogjahaaGreatDoor
